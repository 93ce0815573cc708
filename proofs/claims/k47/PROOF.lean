import PyProof.Rows.All
import KE.KPairComp
import KE.KEqDict
import KE.KFromBytes
import KE.KRevIter
import KE.KDictOf
import KE.KSortTup
import KE.KTryMore
import PySem.Challenge.RW_clockhouse_k47_houses_turned
set_option Elab.async false
set_option linter.all false
set_option maxRecDepth 100000
set_option maxHeartbeats 4000000
set_option genSizeOf false
set_option bootstrap.genMatcherCode false
set_option compiler.extract_closed false
set_option hygiene false
open Lean in
local macro_rules|`(tactic| ext $p:rintroPat*)=>do
 let i:=p.map fun p=>(⟨p.raw[0][0]⟩:Ident)
 let h:=i[0]!
 let s<-`(tactic| (split at $h:ident<;>first|(cases $h:ident;done)|skip))
 if i.size<2 then return s
 let r:=i.extract 1 i.size
 `(tactic| ($s:tactic;rename_i $[$r:ident]*))
local macro_rules(kind:=«term{_}»)|`({$x:term,*})=>`(⟨$x,*⟩)
open Option renaming none->TU,some->TV
open Bool renaming true->T1,false->TZ
local macro_rules|`(nofun)=>`(by ac_nf)
def X02{P Q:Prop}{G:Prop}(h:P/\Q)(k:P->Q->G):G:=by rcases h with⟨p,q⟩;exact k p q
def X03{P Q R:Prop}{G:Prop}(h:P/\Q/\R)(k:P->Q->R->G):G:=by rcases h with⟨p,q,r⟩;exact k p q r
def X04{P Q R S:Prop}{G:Prop}(h:P/\Q/\R/\S)(k:P->Q->R->S->G):G:=by rcases h with⟨p,q,r,s⟩;exact k p q r s
def X05{P Q R S T:Prop}{G:Prop}(h:P/\Q/\R/\S/\T)(k:P->Q->R->S->T->G):G:=by rcases h with⟨p,q,r,s,t⟩;exact k p q r s t
def X06{P Q R S T U:Prop}{G:Prop}(h:P/\Q/\R/\S/\T/\U)(k:P->Q->R->S->T->U->G):G:=by rcases h with⟨p,q,r,s,t,u⟩;exact k p q r s t u
def X11{P:α->Prop}{G:Prop}(h:∃a,P a)(k:∀a,P a->G):G:=by rcases h with⟨a,p⟩;exact k a p
def X12{P Q:α->Prop}{G:Prop}(h:∃a,P a/\Q a)(k:∀a,P a->Q a->G):G:=by rcases h with⟨a,p,q⟩;exact k a p q
def X13{P Q R:α->Prop}{G:Prop}(h:∃a,P a/\Q a/\R a)(k:∀a,P a->Q a->R a->G):G:=by rcases h with⟨a,p,q,r⟩;exact k a p q r
def X14{P Q R S:α->Prop}{G:Prop}(h:∃a,P a/\Q a/\R a/\S a)(k:∀a,P a->Q a->R a->S a->G):G:=by rcases h with⟨a,p,q,r,s⟩;exact k a p q r s
def X15{P Q R S T:α->Prop}{G:Prop}(h:∃a,P a/\Q a/\R a/\S a/\T a)(k:∀a,P a->Q a->R a->S a->T a->G):G:=by rcases h with⟨a,p,q,r,s,t⟩;exact k a p q r s t
def X21{P:α->β->Prop}{G:Prop}(h:∃a b,P a b)(k:∀a b,P a b->G):G:=by rcases h with⟨a,b,p⟩;exact k a b p
def X22{P Q:α->β->Prop}{G:Prop}(h:∃a b,P a b/\Q a b)(k:∀a b,P a b->Q a b->G):G:=by rcases h with⟨a,b,p,q⟩;exact k a b p q
def X23{P Q R:α->β->Prop}{G:Prop}(h:∃a b,P a b/\Q a b/\R a b)(k:∀a b,P a b->Q a b->R a b->G):G:=by rcases h with⟨a,b,p,q,r⟩;exact k a b p q r
def X24{P Q R S:α->β->Prop}{G:Prop}(h:∃a b,P a b/\Q a b/\R a b/\S a b)(k:∀a b,P a b->Q a b->R a b->S a b->G):G:=by rcases h with⟨a,b,p,q,r,s⟩;exact k a b p q r s
def X25{P Q R S T:α->β->Prop}{G:Prop}(h:∃a b,P a b/\Q a b/\R a b/\S a b/\T a b)(k:∀a b,P a b->Q a b->R a b->S a b->T a b->G):G:=by rcases h with⟨a,b,p,q,r,s,t⟩;exact k a b p q r s t
def X26{P Q R S T U:α->β->Prop}{G:Prop}(h:∃a b,P a b/\Q a b/\R a b/\S a b/\T a b/\U a b)(k:∀a b,P a b->Q a b->R a b->S a b->T a b->U a b->G):G:=by rcases h with⟨a,b,p,q,r,s,t,u⟩;exact k a b p q r s t u
def X32{P Q:α->β->γ->Prop}{G:Prop}(h:∃a b c,P a b c/\Q a b c)(k:∀a b c,P a b c->Q a b c->G):G:=by rcases h with⟨a,b,c,p,q⟩;exact k a b c p q
def X33{P Q R:α->β->γ->Prop}{G:Prop}(h:∃a b c,P a b c/\Q a b c/\R a b c)(k:∀a b c,P a b c->Q a b c->R a b c->G):G:=by rcases h with⟨a,b,c,p,q,r⟩;exact k a b c p q r
def X34{P Q R S:α->β->γ->Prop}{G:Prop}(h:∃a b c,P a b c/\Q a b c/\R a b c/\S a b c)(k:∀a b c,P a b c->Q a b c->R a b c->S a b c->G):G:=by rcases h with⟨a,b,c,p,q,r,s⟩;exact k a b c p q r s
def X35{P Q R S T:α->β->γ->Prop}{G:Prop}(h:∃a b c,P a b c/\Q a b c/\R a b c/\S a b c/\T a b c)(k:∀a b c,P a b c->Q a b c->R a b c->S a b c->T a b c->G):G:=by rcases h with⟨a,b,c,p,q,r,s,t⟩;exact k a b c p q r s t
def X43{P Q R:α->β->γ->δ->Prop}{G:Prop}(h:∃a b c d,P a b c d/\Q a b c d/\R a b c d)(k:∀a b c d,P a b c d->Q a b c d->R a b c d->G):G:=by rcases h with⟨a,b,c,d,p,q,r⟩;exact k a b c d p q r
def X44{P Q R S:α->β->γ->δ->Prop}{G:Prop}(h:∃a b c d,P a b c d/\Q a b c d/\R a b c d/\S a b c d)(k:∀a b c d,P a b c d->Q a b c d->R a b c d->S a b c d->G):G:=by rcases h with⟨a,b,c,d,p,q,r,s⟩;exact k a b c d p q r s
def X45{P Q R S T:α->β->γ->δ->Prop}{G:Prop}(h:∃a b c d,P a b c d/\Q a b c d/\R a b c d/\S a b c d/\T a b c d)(k:∀a b c d,P a b c d->Q a b c d->R a b c d->S a b c d->T a b c d->G):G:=by rcases h with⟨a,b,c,d,p,q,r,s,t⟩;exact k a b c d p q r s t
def Xr{c:Sort _}{a:c}:a=a:=rfl
def Xn{a:α}{C:Prop}(h:none=some a):C:=nomatch h
def Xb{C:Prop}(h:false=true):C:=nomatch h
def Xs{a b:α}{C:Prop}(h:some a=some b)(k:b=a->C):C:=k (Option.some.inj h).symm
def Xt{a b:α}{c d:β}{C:Prop}(h:some (a,c)=some (b,d))(k:b=a->d=c->C):C:=by cases h;exact k rfl rfl
local macro_rules|`(tactic| cases $h:ident)=>`(tactic| first|exact Xn $h|exact Xb $h|subst $h:ident|(refine Xt $h fun e_1 e_2=>?_;clear $h;subst e_1;subst e_2)|(refine Xs $h fun e_1=>?_;clear $h;subst e_1)|cases ($h))
open Lean Parser.Tactic in
local macro_rules|`(tactic| have($x,$y,*):=$t)=>do
 let e:=#[x]++y.getElems
 let mut b:=#[]
 let mut u:=#[]
 let mut p:=#[]
 for x in e do
  let i:Ident:=⟨x.raw⟩
  p:=p.push (<-if i.raw.isIdent then `(rcasesPatLo|$i:ident) else `(rcasesPatLo|_))
  if i.getId==`rfl then
   let j:=mkIdent (.mkSimple s!"e_{b.size}")
   b:=b.push j;u:=u.push (<-`(tactic| subst $j:ident))
  else b:=b.push i
 let f<-`(tactic| rcases $t:term with⟨$p,*⟩)
 if t.raw.isIdent&&e.any (·.raw.getId==t.raw.getId) then return f
 if t.raw.isIdent then u:=u.push (<-`(tactic| try clear $(⟨t.raw⟩):ident))
 let n:=e.size
 let mut c<-`(tactic| fail)
 for k in [0:n] do
  let q:=n-1-k
  c<-`(tactic| first|refine $(mkIdent (.mkSimple s!"X{q}{n-q}")) $t fun $b*=>?_|$c:tactic)
 for v in u do c<-`(tactic| ($c:tactic;$v:tactic))
 `(tactic| first|$c:tactic|$f:tactic)
open Lean Parser.Tactic in
local macro_rules|`(tactic| rcases $t:term with $p:rcasesPatLo)=>do
 let s:=p.raw[0][0].getSepArgs
 if s.size != 2 then Macro.throwUnsupported
 let g(a:Syntax):MacroM (Ident×TSyntax `tactic):=do
  if a.getKind==`Lean.Parser.Tactic.rcasesPat.one then
   let i:Ident:=⟨a[0]⟩
   if i.getId==`rfl then return (mkIdent `h_9,<-`(tactic| subst h_9))
   return (i,<-`(tactic| skip))
  if a.getKind != `Lean.Parser.Tactic.rcasesPat.tuple then Macro.throwUnsupported
  let mut r:Array Term:=#[]
  for e in a[1].getSepArgs do
   let x:=e[0][0]
   if e[1].getNumArgs==0&&x.getNumArgs==1&&x[0].getKind==`Lean.Parser.Tactic.rcasesPat.one then r:=r.push ⟨x[0][0]⟩
  if r.size==a[1].getSepArgs.size&&r.size>1 then
   let y:=r.extract 1 r.size
   return (mkIdent `h_9,<-`(tactic| have($(r[0]!),$y,*):=h_9))
  let q:TSyntax ``rcasesPatLo:=⟨mkNode ``rcasesPatLo #[mkNode ``rcasesPatMed #[mkNullNode #[a]],mkNullNode]⟩
  return (mkIdent `h_9,<-`(tactic| rcases h_9 with $q:rcasesPatLo))
 let (i,c)<-g s[0]!
 let (j,d)<-g s[1]!
 `(tactic| (refine Or.elim $t (fun $i=>?_) (fun $j=>?_);$c:tactic;rotate_left;$d:tactic;rotate_right))
local macro_rules|`(~~~$x)=>`(not $x)
local macro_rules|`(!$x)=>`(List $x)
local macro_rules|`(↑$x)=>`(Option $x)
local macro_rules|`($x*>$y)=>`($x=some $y)
local macro_rules|`(abbrev $i:declId $s:optDeclSig $v:declVal)=>`(noncomputable def $i:declId $s:optDeclSig $v:declVal)
local macro_rules|`(private def $i:declId $s:optDeclSig $v:declVal)=>`(@[irreducible] noncomputable def $i:declId $s:optDeclSig $v:declVal)
local macro_rules|`(protected def $i:declId $s:optDeclSig $v:declVal)=>`(@[reducible] def $i:declId $s:optDeclSig $v:declVal)
local macro_rules|`(def $i:declId $b:bracketedBinder* : $t $v:declVal)=>`(theorem $i:declId $b:bracketedBinder* : $t $v:declVal)
local macro_rules|`(↥$x)=>`(some ⟨.ow,.im $x⟩)
local macro_rules|`(⇑$x)=>`(some ⟨.ow,$x⟩)
local macro_rules|`(⋯)=>`(by omega)
local macro_rules|`(∅)=>`(by simp)
local macro_rules|`(tactic| dsimp[$l,*]$[at $h]?)=>`(tactic| simp only[$l,*]$[at $h]?)
local macro_rules|`(tactic| exists $e)=>`(tactic| simpa using $e)
local macro_rules|`(tactic| delta $i*)=>`(tactic| rename_i $[$i:ident]*)
local macro_rules|`(tactic| show $e)=>`(tactic| refine $e)
open PySem renaming Value->Nz,wpAny_bind->NA,Shared->NC,wpAny_pure->ND,sizeLine_eq->NE,wpAny->NF,Builtin->NJ,model->NK,Program->NM,NameKind->NN,mainGlobals->NO,World->NP,wpAny_field->NQ,starEach->NR,wpAny_newObj_type->NT,Around->NU,compareOp->N1,cellsFrom->N7,wpAny_callSpecial?_slot->Oc,wpAny_holding->Oe,wpAny_call_entry->Of,binaryOp->Og,wpAny_mono->Ol,FuncData->Om,wpAny_setField->On,bootBuiltins->Oo,wpAny_seqItems->Op,wpAny_truthy_bool->Ou,holding->Ov,cLine->Ox,assignEach->Oy,call_meets->Oz,attributeBase->OA,wpAny_passesOwn->OG,foldedSetIterable->OH,sliceBounds->OI,wpAny_loadPart_at->OJ,PyData->OL,wpAny_standAt->OO,wpAny_isSubtype_exc->OP,IsPair->OR,wpAny_Call_Name_kw->OS,wpAny_pyIter_tuple->OU,wpAny_loadPart'->OV,behindInMarks->OX,backTo->OY,bindName->OZ,wpAny_bindName->O5,wpAny_call->O6,swapsWith->O9,codeAny->Pa,wpAny_binaryOp_repeat_ref->Pd,rawInt->Pe,swapsWithSole->Pf,swappedStores->Pg,wpAny_attempt->Ph,standAt->Pj,letOwnedTupleGo->Pk,Scope->Pn,codeAny_mono->Po,wpAny_pyIter_list->Ps,assign->Pu,typeIs_int->Px,PlainAttrs->Py,assignInOrder->PD,evalPart_none->PF,wpAny_onRaise->PH,codeAny_call_builtin->PK,wpAny_updateSeq_pair->PL,unbindBehindTheSuite->PM,wpAny_execs_nil->PN,DictEntry->P3,sysModules->P4,wpAny_rule->P6,typeOf->P9,fitsIndex_both->Qb,newFunctionEnv->Qc,wpAny_sequenceKey->Qj,slot_list_getitem->Qk,keywordEach->Ql,IsPart->Qq,wpAny_getItem_list_slice->Qs,wpAny_comprehension_free->Qu,wpAny_execs_cons->Qv,PassesOwn->Qw,noFill_tuple_add->Qx,seqItems?->QB,setItem->QJ,pyNext->QK,BindsTo->QM,wpAny_typeOf->QN,callerA->QV,pushCells_keeps->Q3,wpAny_isTrue_Compare1->Q4,int___rmul___int_list->Q5,wpAny_loadName_local->Q7,wpAny_Expr_any->Q8,bindArgs->Q9,wpAny_Slice->Rb,wpAny_listPart->Rc,wpAny_letGo->Re,wpAny_pyIter_revIter->Rf,Draws->Rh,excClassObj->Ri,getItem->Rj,relabel->Rk,getMethod->Rl,setFlight->Rm,wpAny_loadName_cell->Rn,seq_tuple_add->Rw,evalPart_some->Ry,builtinsNs->RB,isTrue->RC,isInstance->RJ,wpAny_assign_Name->RL,concat_meets->RO,backToKw->RP,slot_list_setitem->RS,wpAny_pyIter_enum->RV,Arguments->RZ,Params->R0,slicePick->R3,wpAny_isInstance->R7,checkBuiltinCall->R8,wpAny_madeBy_exc->R9,callGetattribute->Sa,wpAny_pyIter_zip->Sc,seqIndex_of->Sd,wpAny_of_eq->Se,field->Sf,exec_Assign_arm->Sg,noFill_list_mul->Sk,wpAny_updateSeq->Sn,post_val_or_str->So,getAttrByItsOwn->Sr,Keyword->Sv,GenState->Sx,wpAny_Name->Sy,CmpOp->SA,truthy->SB,Operator->SC,pyIter->SD,recursionLimit->SE,bindL->SF,bindC->SG,typeIs_str->SI,sliceRange_one->SJ,firstArgMember->SN,isSubtype_stop->SO,boundAndCalled->SR,IsZip->SU,storeName->SY,seqIndex?->S0,noteFrame->S8,specialOf->Tc,handedOut->Td,raiseStmt->Te,release->Tf,Result->Th,Model->To,Walks->Tq,Meets->Ts,pick_run->Tt,compEnvC->Tu,callWith->Tw,setField->Tx,IsEnum->TJ
open PySem.Heap renaming get?_push_of_some->NB,lt_size->NG,get?_push_size->NI,SameBut->NZ,get?_update_other->N0,get?_update_self->Oa,size_push->Od,update_setField_same->Qh,ExtBut->Rg,push->TR
open PySem.Value renaming type->NH,ref->NY,none->Oj,int->Os,builtin->OM,bool->ON,ellipsis->O8,notImplemented->Ra,str->SX
open PySem.Str renaming ofString->NL,length->TC
open Ne renaming symm->NS
open PySem.Builtin.SmallTypes renaming nextOf->NV,ownedTupleIsFree->Pi,ownedTupleHandOut->Rs
open PySem.Builtin.Tuple renaming tupleExact->NW,tupleItemsOf->P8,tupleTooMany->Qd,tupleCompareSizes->RY,tupleHashOf->SW
open PySem.NameKind renaming cell->NX,free->OB
open PySem.Obj renaming mapFields->N3,data_mapFields->OT,isFreed_of_fields->Pt,mapSeq->Pw
open PySem.SeqAt renaming EqAt->N4,notIn_tupleAt->Rq,notIn_listAt->RG,RcNeAt->RT,in_tupleAt->R4,in_listAt->Si,RcAt->SK
open False renaming elim->N5
open PySem.Builtin.Slice renaming slicePlaces->N6,sliceAdjust->Oh,sliceApplied->OD,sliceFields->Qf,slicePartIndex->Sh
open PySem.Builtin.List renaming listTooLong->N8,listSubscript?->PZ,listAllItems->Qg,listSameRef->Qt,listItems->Ti
open PySem.Builtin.Str renaming strSliceIndices->N9,occurrences->Ow,tooLong->TB
open PySem.Heap.SameBut renaming update->Oq
open PySem.AutoSeq1 renaming wpAny_loadPart'->Ot,list_extend_list_list_0->Pp,idx_int->Pz,sub_tuple_tuple->Qp
open PyProof.Rows renaming assignInOrder_cons->OC,IntsAre->Pb,envOfC->Pv,boot_isinstance->PU,AllBare->PY,slicePart_none->P7,assignInOrder_nil->Qi,subscriptTail->Qr,subscriptTail_builtinR->QP,entry_tuple_getitem->Ro,tupleItemsOf_->Rx,args_tuple_getitem->RE,Subscript_->RF,IsTup->RK,unpackItems_tuple->RM,tail_any->SH,range_getD->Ta,Call_->TK
open PySem.F renaming slot_tuple_iterator_next->OE,slot_int_rmul->OW,slot_tuple_mul->Pc,args_list_extend_2->PJ,args_tuple_iterator_next_1->PQ,slot_zip_next->PV,entry_list_extend->PX,entry_tuple_iterator_next->P0,slot_list_extend->Qa,args_tuple_mul_2->Qe,args_int_rmul_2->Qm,entry_tuple_mul->Qn,slot_int_index->Qy,entry_int_rmul->Qz,fills_int_mul->Q0,slot_enumerate_next->Q6,args_list_mul_2->RQ,slot_tuple_rmul->RU,args_zip_next_1->RX,entry_list_pop->R5,entry_list_mul->R6,entry_zip_next->Sb,slot_list_pop->Sj,slot_list_mul->Sl,entry_bexc_ga->Ss,args_bexc_ga->SS
open PySem.PyData renaming canLay0->OF,canLayAll0->Qo,keyHash->Sw,eqv->SV
open PySem.W renaming findIn->OQ,specialIn->PB,looks_findIn->QY,handedIn->SQ,OpenLaw->Tj,WShape->Tk,findCls->Tl,keepIn->Tn,subIn->Tv,WData->TL,clsIn->TM
open Or renaming inr->O7,inl->PR
open PySem.Heap.IsSliceOf renaming new->Pl
open PySem.AutoListH renaming list___mul___list_int_3->Pm
open PySem.Txt renaming join->Pq,slice->S9
open ForInStep renaming yield->PP
open PySem.Calls renaming Name_function_global->P5,callWith_builtin->QU
open Sum renaming inl->QD,inr->QH
open PySem.Around renaming under->QL
open True renaming intro->QZ
open PySem.EntryCells renaming newEntry->Rv
open PySem.SeqAt.EqAt renaming int_str->Rz,str_int->RA,int_int->RD
open PySem.Code renaming quiet_builtin->RH,isFrame->RN,isGuard->Tg,frames->Tr
open PySem.callAny renaming viaDunder->RW
open PySem.Flow renaming next->R1
open PySem.PassesOwn renaming never->Su
open PySem.SeqAt.RcNeAt renaming lists_lengths->SL,tuples->Tz,lists->TF
open PySem.Builtin.Range renaming rangeSize->SZ
open PySem.Data renaming fields->Tp
open PySem.W.WShape renaming has->TD
open PySem.Walks renaming list->TH
open PyProof.Rows.IsTup renaming new->TN
open PySem.W.WData renaming int->TQ
open List renaming length_map->Ia,getElem?_eq_some_iff->Ib,size_toArray->Ic,replicate->Ih,map_append->Ii,length_append->Ij,length_cons->Im,getElem?_map->Io,range->Ip,map_cons->Ir,take_of_length_le->Iu,nodup_append->Iv,append_nil->Iw,getElem?_eq_getElem->Ix,append_assoc->Iy,getElem?_set_ne->Iz,mem_map->ID,getD_eq_getElem?_getD->IE,length_set->IF,reverse_cons->IG,mem_cons->IH,not_mem_nil->II,length_take->IJ,take_length->IK,lookup_cons->IL,nodup_cons->IM,getElem?_zip_eq_some->IN,nodup_nil->IP,all_eq_true->IQ,exists_cons_of_length_eq_add_one->IS,filterMap_append->IU,replicate_succ->IV,getElem?_cons_succ->IY,length_drop->I0,take_append_drop->I8,getElem?_set_self->Ja,getElem?_append_left->Jb,take_add_one->Jc,foldlM_append->Jd,mem_of_mem_take->Je,getElem?_append_right->Jg,flatten_cons->Jh,contains_iff_mem->Jm,mem_flatMap->Jo,eq_nil_of_length_eq_zero->Jr,mem_of_mem_drop->Jt,flatMap_cons->Ju,length_eq_zero_iff->Jv,getElem?_cons_zero->Jw,length_reverse->Jz,getElem_cons_drop->JB,contains_cons->JE,length_zip->JF,eraseIdx_eq_take_drop_succ->JK,reverse_append->JL,mem_range->JM,length->JR,map_map->JT,mem_replicate->JU,map_singleton->JV,range_succ->JW,all_cons->JX,mem_iff_getElem?->JY,map_nil->J3,map_reverse->Ka,drop_eq_getElem_cons->Kb,filterMap_cons->Kc,flatMap_append->Ke,map_take->Kf,mem_filter->Kg,length_nil->Kh,nil_append->Ki,forIn_cons->Kj,mem_filterMap->Kk,eraseIdx_cons_succ->Kl,set_eq_take_append_cons_drop->Ko,take_succ->Ks,eraseIdxIfInBounds_toArray->Ku,length_singleton->Kv,map_drop->KB,contains_eq_mem->KC,getElem?_append->KD,getLast?_append->KG,mem_append->KI,of_mem_zip->KJ,cons->KS,mem_singleton->KT,lookup->K5,length_range->K6,set_comm->K7,any_cons->K8,append_cancel_right->Lb,filterMap_cons_none->Lc,getElem?_replicate->Ld,nodup_range->Lg,foldl->Lh,range_succ_eq_map->Li,foldl_cons->Lk,getElem?_reverse->Lm,getElem?_eq_none->Ln,dropLast_eq_take->Lp,reverse_reverse->Ls,length_flatMap->Lw,zip_cons_cons->Ly,filterMap_map->Lz,take_sublist->LC,ext_getElem?->LI,all_nil->LJ,eraseIdx_nil->LK,map_set->LL,mem_flatten->LQ,cons_append->LU,mem_reverse->LV,flatMap_nil->LW,sum_reverse->LX,filter_cons->LY,range'->LZ,forIn_nil->Me,drop_zero->Mf,take_zero->Mg,all_map->Mt,set_set->Mw,zipWith->Mz
open Bool renaming and_eq_true->Ie,false_ne_true->Il,not_eq_true'->Ji,eq_iff_iff->Jl,false_eq_true->JC,and_false->JZ,and_eq_true_iff->J1,or_true->KR,or_eq_true->Ll,and_self->Lx,false_or->Mk,true_or->Mr
open Nat renaming le_refl->Ig,le_trans->Ik,lt_of_lt_of_le->Iq,ne_of_lt->Is,le_add_right->IX,succ->Jn,lt_irrefl->Jq,lt_of_le_of_lt->JD,ne_of_gt->JI,zero_lt_succ->JQ,zero_add->JS,le_succ->Km,zero_le->Kn,le_of_lt->Kq,succ_le_succ->Kz,not_lt_zero->KM,min_eq_left->KO,mod_lt->K0,lt_succ_of_lt->K4,add_assoc->K9,lt_of_succ_lt_succ->Lj,le_of_ble_eq_true->Lq,mul_le_mul->Lr,mul_comm->LF,min_self->LH,sub_self->LM,min_le_right->LN,lt_succ_self->LO,le_max_right->LP,succ_ne_self->LS,le_max_left->L7,le_antisymm->L8,zero_lt_one->Mc,max_lt->Mi,add_comm->Mq
open Int renaming toNat_natCast->IA,emod_lt_of_pos->Jp,emod_nonneg->JH,fdiv_eq_ediv_of_nonneg->KU,eq_ofNat_of_zero_le->Lf,ediv_one->LD,le_refl->L5,le_trans->Ms,zero_add->Mx,mul_comm->My,neg_neg->MJ
open Option renaming map_eq_some_iff->IB,some->IC,map_some->JG,isSome_iff_exists->JJ,bind_eq_some_iff->JO,bind_some->J4,bind_eq_bind->KP,filter_eq_some_iff->K2,getD_none->Le,ext->Mh
open PySem.W renaming fnOf->IR,nsIn->IW,kitOne->IZ,keepIn->Jf,codeIn->JN,cellsFrom_some->Kr,findIn->KW,callWith_K->KY,exmOne->KZ,methodObj->K3,mg_of->La,methodCall_KW->Lo,kitAny->Lu,specialIn->LA,isFn->LB,instObj->L6,kia_one->Ma,OpenLaw->Mb,lookIn->Md,recOk->Mj,WalkO->Ml,Frag->Mn,xlAt->Mo
open PyProof.Rows renaming slot_tuple_getitem->IT,callWith_type1->I9,boot_list->JA,boot_tuple->JP,boot_bool->Kt,boot_str->Kx,callWith_builtin1->Ky,boot_range->Mm,boot_min->MB,boot_max->MC,boot_all->MD,boot_int->MF,boot_sum->MH,lt_int->MK
open Array renaming getElem?_eq_some_iff->Jj,length_toList->Jk,getElem?_toList->Kw,size_append->LG,toList->Mp
open PySem renaming mem_of_lookup->Jy,wpAt_of_wpAny->Lv,seqSlot_of->LR,wpAt_bind->L9
local macro_rules|`(tactic| unhygienic $t)=>`(tactic| with_unfolding_all $t)
local macro_rules|`(tactic| rfl')=>`(tactic| kernel_rfl)
namespace K47
open PySem
abbrev wF(s:Stmt):RZ×!Stmt×Pn:=match s with
 | .FunctionDef _ x b _ _ _ c _ _ _=>(x,b,c)
 | _=>({posonlyargs:=[],args:=[],vararg:=TU,kwonlyargs:=[],kw_defaults:=[],kwarg:=TU,defaults:=[]},[],{kind:=.function,names:=[],isGenerator:=TZ,isCoroutine:=TZ})
abbrev vs(x:String) (t:Tok):Nz:=.str (NL x) t
abbrev vi(n:Int):Nz:=.int n 0
abbrev vr(a:Addr):Nz:=.ref a
abbrev eO(p:R0) (x:String) (t:Tok) (v:Nz):P3:={Sw p (NL x),vs x t,v}
abbrev oC(vs:!Nz):Obj:={cls:=.type "code",data:=.fields vs.toArray}
abbrev oD(a:!P3) (n:Nat):Obj:={cls:=.type "dict",data:=.dict a.toArray n}
abbrev oFq(x q:String) (st:Stmt) (a:Nz) (c:Addr):Obj:={cls:=.type "function",data:=.func (IR (NL x) (NL q) (wF st).1 (wF st).2.1 (wF st).2.2 .none .none .none a TU (.ref c) .none)}
abbrev oF(x:String) (st:Stmt) (a:Nz) (c:Addr):Obj:=oFq x x st a c
abbrev ocq(x q:String) (t l n r:Nat) (v:↑(Nat×Nat)) (d e:Nat):Obj:=oC [vs x t,vs q (t+1),vs "/claim/cut.py" (t+2),vi l,vi n,vi 0,vi 0,vi 3,vr r,.bool T1,vi 181,vr (r+1),.none,(match v with|some p=>vr p.1|none=>.none),(match v with|some p=>vr p.2|none=>.none),vr d,vi e,vi l,vs "/claim/cut.py" (e+1)]
abbrev oc(x:String) (t l n r:Nat) (v:↑(Nat×Nat)) (d e:Nat):Obj:=ocq x x t l n r v d e
abbrev oK(x:String) (C N:Addr) (b:Nz) (m:!Nz) (a:!Nz) (s t u:Nat):Obj:={cls:=.type "type",data:=.cls {name:=NL x,bases:=[b],mro:=vr C::m,ns:=N,qualname:=NL x,subclasses:=a},slots:=#[TV (vr s),TU,TV (vs x t),TV (vs x u),TV (.builtin "ValueError.__new__"),TV (.bool T1)]}
abbrev Bo(s:Stmt):Stmt:=match s with
 | .ClassDef _ _ _ b _ _ _ _ _ _ _=>b.headD s
 | _=>s
abbrev top(i:Nat):Stmt:=PySem.Challenge.pw_clockhouse_k47_houses_turned.main.body.getD i (.Pass {0,0,0,0})
noncomputable abbrev fk:Stmt:=top 15
noncomputable abbrev i3:Stmt:=top 16
noncomputable abbrev nR:Stmt:=top 17
noncomputable abbrev gT:Stmt:=top 18
noncomputable abbrev nQ:Stmt:=top 20
noncomputable abbrev lw:Stmt:=top 22
noncomputable abbrev fq:Stmt:=top 23
noncomputable abbrev fo:Stmt:=top 24
noncomputable abbrev lv:Stmt:=top 25
noncomputable abbrev gl:Stmt:=top 26
noncomputable abbrev fj:Stmt:=top 27
noncomputable abbrev eI:Stmt:=top 28
noncomputable abbrev gR:Stmt:=top 30
noncomputable abbrev gS:Stmt:=top 31
noncomputable abbrev gf:Stmt:=top 32
noncomputable abbrev iY:Stmt:=top 33
noncomputable abbrev dD:Stmt:=top 34
noncomputable abbrev cL:Stmt:=top 35
noncomputable abbrev cM:Stmt:=top 36
noncomputable abbrev cP:Stmt:=top 37
noncomputable abbrev bP:Stmt:=top 38
noncomputable abbrev cO:Stmt:=top 39
noncomputable abbrev gi:Stmt:=top 40
noncomputable abbrev gc:Stmt:=top 41
noncomputable abbrev ge:Stmt:=top 42
noncomputable abbrev cN:Stmt:=top 43
noncomputable abbrev gb:Stmt:=top 44
noncomputable abbrev gh:Stmt:=top 45
noncomputable abbrev iZ:Stmt:=top 46
noncomputable abbrev iX:Stmt:=top 47
noncomputable abbrev eG:Stmt:=top 48
noncomputable abbrev cA:Stmt:=top 49
noncomputable abbrev cB:Stmt:=top 50
noncomputable abbrev gk:Stmt:=top 51
noncomputable abbrev eH:Stmt:=top 52
noncomputable abbrev gj:Stmt:=top 53
noncomputable abbrev s_law:Stmt:=top 54
def HR{d e c : Type}{x:↑c}{f : c->d}{g : c->e}{a : d}{b : e}(h:x.map f*>a)(k:x.map g*>b):x.map (λs=>(f s,g s))*>(a,b):=by
 cases x with
 | none=>cases h
 | some s=>cases h;cases k;rfl
def HS{d e i c : Type}{x:↑c}{f : c->d->e}{a:!d}{bs:!i}{g : i->e}{n:Nat}(h:x.map (λs=>(a.take n).map (f s))*>((bs.take n).map g))(k:x.map (λs=>(a.drop n).map (f s))*>((bs.drop n).map g)):x.map (λs=>a.map (f s))*>(bs.map g):=by
 cases x with
 | none=>cases h
 | some s=>
  have h:(a.take n).map (f s)=(bs.take n).map g:=IC.inj h;have k:(a.drop n).map (f s)=(bs.drop n).map g:=IC.inj k;change TV (a.map (f s))=_;rw[<-I8 n a,Ii,h,k,<-Ii,I8]
noncomputable abbrev ft:Stmt:=Bo (top 2)
noncomputable abbrev jT:Stmt:=Bo (top 10)
noncomputable abbrev pm0:Nz:=(vs "law_clockhouse_k47_houses_turned" 583)
noncomputable abbrev pm1:Nz:=(vs "clockhouse.moved" 534)
noncomputable abbrev pm2:Nz:=(vs "clockhouse.rules" 490)
noncomputable abbrev pm3:Nz:=(vs "clockhouse.houses" 526)
noncomputable abbrev pm4:Nz:=(vs "clockhouse.errors" 187)
abbrev KF(P:R0):Mn:=[(3,oD [(eO P "__name__" 165 (vs "law_clockhouse_k47_houses_turned" 583)),(eO P "__doc__" 166 .none),(eO P "__package__" 167 .none),(eO P "__loader__" 168 (OM "__main__.__loader__#opaque")),(eO P "__spec__" 169 .none),(eO P "__annotations__" 170 (vr 6)),(eO P "__builtins__" 171 (vr 4)),(eO P "__file__" 173 (vs "/claim/cut.py" 172)),(eO P "__cached__" 174 .none),(eO P "kept" 195 (vr 21)),(eO P "HouseError" 220 (vr 38)),(eO P "NoHouse" 247 (vr 58)),(eO P "NoText" 272 (vr 77)),(eO P "Loose" 295 (vr 96)),(eO P "TooLong" 320 (vr 115)),(eO P "Ring" 345 (vr 134)),(eO P "Early" 370 (vr 153)),(eO P "NoWay" 393 (vr 172)),(eO P "NoTurn" 416 (vr 191)),(eO P "NoCell" 441 (vr 210)),(eO P "NoRow" 464 (vr 229)),(eO P "NoName" 489 (vr 248)),(eO P "inner_parts" 498 (vr 257)),(eO P "parts_of" 508 (vr 264)),(eO P "reads" 514 (vr 269)),(eO P "with_rows" 525 (vr 276)),(eO P "along" 533 (vr 281)),(eO P "turned" 541 (vr 286)),(eO P "turned_rule" 547 (vr 291)),(eO P "turned_cell" 557 (vr 298)),(eO P "led_by" 563 (vr 303)),(eO P "look_table" 570 (vr 310)),(eO P "determinant" 576 (vr 315)),(eO P "signed_minor" 582 (vr 320)),(eO P "_law_feed" 594 (vr 327)),(eO P "_law_take" 604 (vr 334)),(eO P "_law_names" 610 (vr 339)),(eO P "_law_row" 616 (vr 344)),(eO P "_law_back_row" 622 (vr 349)),(eO P "_law_free_reads" 628 (vr 354)),(eO P "_law_late_reads" 634 (vr 359)),(eO P "_law_turned_row" 645 (vr 366)),(eO P "_law_opposed_reads" 651 (vr 371)),(eO P "_law_ring_reads" 657 (vr 376)),(eO P "_law_reads" 668 (vr 383)),(eO P "_law_grown" 679 (vr 390)),(eO P "_law_house" 685 (vr 395)),(eO P "_law_many_house" 691 (vr 400)),(eO P "_law_alike" 697 (vr 405)),(eO P "_law_place" 703 (vr 410)),(eO P "_law_sum" 709 (vr 415)),(eO P "_law_led" 715 (vr 420)),(eO P "_law_crossed" 721 (vr 425)),(eO P "_law_determinant" 728 (vr 432)),(eO P "_law_plain_table" 734 (vr 437)),(eO P "_law_table" 740 (vr 442)),(eO P "_law_refused" 751 (vr 449)),(eO P "_law_right" 757 (vr 454)),(eO P "law" 763 (vr 459))] 59),
 (327,oF "_law_feed" gR pm0 326),
 (326,oc "_law_feed" 585 117 2 321 (TV (323,324)) 325 592),
 (334,oF "_law_take" gS pm0 333),
 (333,oc "_law_take" 595 127 2 328 (TV (330,331)) 332 602),
 (437,oF "_law_plain_table" cB pm0 436),
 (436,oc "_law_plain_table" 729 284 2 433 TU 435 732),
 (442,oF "_law_table" gk pm0 441),
 (441,oc "_law_table" 735 291 2 438 TU 440 738),
 (366,oF "_law_turned_row" cP pm0 365),
 (365,oc "_law_turned_row" 635 171 3 360 (TV (362,363)) 364 643),
 (344,oF "_law_row" iY pm0 343),
 (343,oc "_law_row" 611 148 2 340 TU 342 614),
 (371,oF "_law_opposed_reads" bP pm0 370),
 (370,oc "_law_opposed_reads" 646 176 3 367 TU 369 649),
 (354,oF "_law_free_reads" cL pm0 353),
 (353,oc "_law_free_reads" 623 156 3 350 TU 352 626),
 (349,oF "_law_back_row" dD pm0 348),
 (348,oc "_law_back_row" 617 152 2 345 TU 347 620),
 (359,oF "_law_late_reads" cM pm0 358),
 (358,oc "_law_late_reads" 629 162 3 355 TU 357 632),
 (376,oF "_law_ring_reads" cO pm0 375),
 (375,oc "_law_ring_reads" 652 190 3 372 TU 374 655),
 (383,oF "_law_reads" gi pm0 382),
 (382,oc "_law_reads" 658 202 1 377 (TV (379,380)) 381 666),
 (339,oF "_law_names" gf pm0 338),
 (338,oc "_law_names" 605 135 2 335 TU 337 608),
 (390,oF "_law_grown" gc pm0 389),
 (389,oc "_law_grown" 669 214 2 384 (TV (386,387)) 388 677),
 (395,oF "_law_house" ge pm0 394),
 (394,oc "_law_house" 680 225 1 391 TU 393 683),
 (400,oF "_law_many_house" cN pm0 399),
 (399,oc "_law_many_house" 686 237 1 396 TU 398 689),
 (410,oF "_law_place" gh pm0 409),
 (409,oc "_law_place" 698 263 2 406 TU 408 701),
 (315,oF "determinant" fj pm1 314),
 (314,oc "determinant" 571 109 1 311 TU 313 574),
 (320,oF "signed_minor" eI pm1 319),
 (319,oc "signed_minor" 577 113 3 316 TU 318 580),
 (310,oF "look_table" gl pm1 309),
 (309,oc "look_table" 564 106 1 304 (TV (306,307)) 308 568),
 (257,oF "inner_parts" fk pm2 256),
 (256,oc "inner_parts" 492 61 1 251 (TV (253,254)) 255 496),
 (264,oF "parts_of" i3 pm2 263),
 (263,oc "parts_of" 499 67 1 258 (TV (260,261)) 262 506),
 (276,oF "with_rows" gT pm2 275),
 (275,oc "with_rows" 515 77 2 270 (TV (272,273)) 274 523),
 (281,oF "along" nQ pm3 280),
 (280,oc "along" 528 92 2 277 TU 279 531),
 (303,oF "led_by" lv pm1 302),
 (302,oc "led_by" 558 104 2 299 TU 301 561),
 (269,oF "reads" nR pm2 268),
 (268,oc "reads" 509 75 1 265 TU 267 512),
 (291,oF "turned_rule" fq pm1 290),
 (290,oc "turned_rule" 542 99 2 287 TU 289 545),
 (286,oF "turned" lw pm1 285),
 (285,oc "turned" 536 95 2 282 TU 284 539),
 (415,oF "_law_sum" iZ pm0 414),
 (414,oc "_law_sum" 704 266 2 411 TU 413 707),
 (425,oF "_law_crossed" eG pm0 424),
 (424,oc "_law_crossed" 716 275 2 421 TU 423 719),
 (432,oF "_law_determinant" cA pm0 431),
 (431,oc "_law_determinant" 722 278 1 426 (TV (428,429)) 430 726),
 (449,oF "_law_refused" eH pm0 448),
 (448,oc "_law_refused" 741 300 2 443 (TV (445,446)) 447 749),
 (405,oF "_law_alike" gb pm0 404),
 (404,oc "_law_alike" 692 255 2 401 TU 403 695),
 (298,oF "turned_cell" fo pm1 297),
 (297,oc "turned_cell" 548 101 2 292 (TV (294,295)) 296 555),
 (420,oF "_law_led" iX pm0 419),
 (419,oc "_law_led" 710 268 2 416 TU 418 713),
 (454,oF "_law_right" gj pm0 453),
 (453,oc "_law_right" 752 312 3 450 TU 452 755),
 (459,oF "law" s_law pm0 458),
 (458,oc "law" 758 323 1 455 TU 457 761),
 (2,{cls:=.none,data:=.dict #[]}),
 (38,oK "HouseError" 38 37 (NH "ValueError") [NH "ValueError",NH "Exception",NH "BaseException",NH "object"] [(vr 58),(vr 77),(vr 96),(vr 115),(vr 134),(vr 153),(vr 172),(vr 191),(vr 210),(vr 229),(vr 248)] 22 196 204),
 (37,oD [(eO P "__module__" 203 (vs "clockhouse.errors" 187)),(eO P "__firstlineno__" 207 (Os 4 206)),(eO P "__init__" 214 (vr 35)),(eO P "__static_attributes__" 215 (vr 36)),(eO P "__weakref__" 217 (vr 39)),(eO P "__doc__" 218 .none)] 3),
 (35,oFq "__init__" "HouseError.__init__" ft pm4 34),
 (34,ocq "__init__" "HouseError.__init__" 208 6 1 29 (TV (31,32)) 33 212),
 (58,oK "NoHouse" 58 57 (vr 38) [(vr 38),NH "ValueError",NH "Exception",NH "BaseException",NH "object"] [] 42 221 229),
 (57,oD [(eO P "__module__" 228 (vs "clockhouse.errors" 187)),(eO P "__firstlineno__" 232 (Os 8 231)),(eO P "__init__" 241 (vr 55)),(eO P "__static_attributes__" 244 (vr 56)),(eO P "__doc__" 245 .none)] 2),
 (77,oK "NoText" 77 76 (vr 38) [(vr 38),NH "ValueError",NH "Exception",NH "BaseException",NH "object"] [] 61 248 256),
 (76,oD [(eO P "__module__" 255 (vs "clockhouse.errors" 187)),(eO P "__firstlineno__" 259 (Os 14 258)),(eO P "__init__" 267 (vr 74)),(eO P "__static_attributes__" 269 (vr 75)),(eO P "__doc__" 270 .none)] 2),
 (96,oK "Loose" 96 95 (vr 38) [(vr 38),NH "ValueError",NH "Exception",NH "BaseException",NH "object"] [] 80 273 281),
 (95,oD [(eO P "__module__" 280 (vs "clockhouse.errors" 187)),(eO P "__firstlineno__" 284 (Os 19 283)),(eO P "__init__" 291 (vr 93)),(eO P "__static_attributes__" 292 (vr 94)),(eO P "__doc__" 293 .none)] 2),
 (115,oK "TooLong" 115 114 (vr 38) [(vr 38),NH "ValueError",NH "Exception",NH "BaseException",NH "object"] [] 99 296 304),
 (114,oD [(eO P "__module__" 303 (vs "clockhouse.errors" 187)),(eO P "__firstlineno__" 307 (Os 23 306)),(eO P "__init__" 315 (vr 112)),(eO P "__static_attributes__" 317 (vr 113)),(eO P "__doc__" 318 .none)] 2),
 (134,oK "Ring" 134 133 (vr 38) [(vr 38),NH "ValueError",NH "Exception",NH "BaseException",NH "object"] [] 118 321 329),
 (133,oD [(eO P "__module__" 328 (vs "clockhouse.errors" 187)),(eO P "__firstlineno__" 332 (Os 28 331)),(eO P "__init__" 340 (vr 131)),(eO P "__static_attributes__" 342 (vr 132)),(eO P "__doc__" 343 .none)] 2),
 (153,oK "Early" 153 152 (vr 38) [(vr 38),NH "ValueError",NH "Exception",NH "BaseException",NH "object"] [] 137 346 354),
 (152,oD [(eO P "__module__" 353 (vs "clockhouse.errors" 187)),(eO P "__firstlineno__" 357 (Os 33 356)),(eO P "__init__" 365 (vr 150)),(eO P "__static_attributes__" 367 (vr 151)),(eO P "__doc__" 368 .none)] 2),
 (172,oK "NoWay" 172 171 (vr 38) [(vr 38),NH "ValueError",NH "Exception",NH "BaseException",NH "object"] [] 156 371 379),
 (171,oD [(eO P "__module__" 378 (vs "clockhouse.errors" 187)),(eO P "__firstlineno__" 382 (Os 38 381)),(eO P "__init__" 389 (vr 169)),(eO P "__static_attributes__" 390 (vr 170)),(eO P "__doc__" 391 .none)] 2),
 (191,oK "NoTurn" 191 190 (vr 38) [(vr 38),NH "ValueError",NH "Exception",NH "BaseException",NH "object"] [] 175 394 402),
 (190,oD [(eO P "__module__" 401 (vs "clockhouse.errors" 187)),(eO P "__firstlineno__" 405 (Os 42 404)),(eO P "__init__" 412 (vr 188)),(eO P "__static_attributes__" 413 (vr 189)),(eO P "__doc__" 414 .none)] 2),
 (188,oFq "__init__" "NoTurn.__init__" jT pm4 187),
 (187,ocq "__init__" "NoTurn.__init__" 406 44 1 182 (TV (184,185)) 186 410),
 (210,oK "NoCell" 210 209 (vr 38) [(vr 38),NH "ValueError",NH "Exception",NH "BaseException",NH "object"] [] 194 417 425),
 (209,oD [(eO P "__module__" 424 (vs "clockhouse.errors" 187)),(eO P "__firstlineno__" 428 (Os 46 427)),(eO P "__init__" 436 (vr 207)),(eO P "__static_attributes__" 438 (vr 208)),(eO P "__doc__" 439 .none)] 2),
 (229,oK "NoRow" 229 228 (vr 38) [(vr 38),NH "ValueError",NH "Exception",NH "BaseException",NH "object"] [] 213 442 450),
 (228,oD [(eO P "__module__" 449 (vs "clockhouse.errors" 187)),(eO P "__firstlineno__" 453 (Os 51 452)),(eO P "__init__" 460 (vr 226)),(eO P "__static_attributes__" 461 (vr 227)),(eO P "__doc__" 462 .none)] 2),
 (248,oK "NoName" 248 247 (vr 38) [(vr 38),NH "ValueError",NH "Exception",NH "BaseException",NH "object"] [] 232 465 473),
 (247,oD [(eO P "__module__" 472 (vs "clockhouse.errors" 187)),(eO P "__firstlineno__" 476 (Os 55 475)),(eO P "__init__" 484 (vr 245)),(eO P "__static_attributes__" 486 (vr 246)),(eO P "__doc__" 487 .none)] 2)]
abbrev KL:!Str:=["kept","HouseError","NoHouse","NoText","Loose","TooLong","Ring","Early","NoWay","NoTurn","NoCell","NoRow","NoName","inner_parts","parts_of","reads","with_rows","along","turned","turned_rule","turned_cell","led_by","look_table","determinant","signed_minor","_law_feed","_law_take","_law_names","_law_row","_law_back_row","_law_free_reads","_law_late_reads","_law_turned_row","_law_opposed_reads","_law_ring_reads","_law_reads","_law_grown","_law_house","_law_many_house","_law_alike","_law_place","_law_sum","_law_led","_law_crossed","_law_determinant","_law_plain_table","_law_table","_law_refused","_law_right"].map NL
abbrev KA:!Addr:=[3,327,326,334,333,437,436,442,441,366,365,344,343,371,370,354,353,349,348,359,358,376,375,383,382,339,338,390,389,395,394,400,399,410,409,315,314,320,319,310,309,257,256,264,263,276,275,281,280,303,302,269,268,291,290,286,285,415,414,425,424,432,431,449,448,405,404,298,297,420,419,454,453,459,458,2,38,37,35,34,58,57,77,76,96,95,115,114,134,133,153,152,172,171,191,190,188,187,210,209,229,228,248,247]
abbrev KH:PySem.W.Hook:=PySem.W.kHook KF KA (λ_=>rfl)
abbrev KQ:NM:=PySem.W.view PySem.Challenge.pw_clockhouse_k47_houses_turned [54]
abbrev KN(w:NP):↑NC:=PySem.W.openEnds PySem.treeTable PySem.Challenge.pw_clockhouse_k47_houses_turned w 8000
def Fu(w:NP):(KN w).map (λs=>PySem.W.openSeen KQ KL (PySem.importedModules PySem.Challenge.pw_clockhouse_k47_houses_turned.main.body) (λs=>Mo KQ [] s&&Mj [] s) T1 s)*>(PySem.W.openGood KQ KL):=by rfl'
def Fv(w:NP):(KN w).map (λs=>(KA.take 52).map s.heap.get?)*>(((KF w.params).take 52).map λp=>TV p.2):=by rfl'
def Fw(w:NP):(KN w).map (λs=>(KA.drop 52).map s.heap.get?)*>(((KF w.params).drop 52).map λp=>TV p.2):=by rfl'
def left:PySem.W.LeftO PySem.Challenge.pw_clockhouse_k47_houses_turned KQ KL (λs=>Mo KQ [] s&&Mj [] s) KH.obs KH.val 8000:=λw=>HR (Fu w) (HS (Fv w) (Fw w))
end K47
def K47.ws:PySem.Challenge.rw_clockhouse_k47_houses_turned.wellSaid=T1:=by rfl'
def yaR{a:Type}{b : a}(x:!a){y:!a}(h:b∈y):b∈x++y:=List.mem_append_right x h
def yaL{a:Type}{b : a}{x:!a}(y:!a)(h:b∈x):b∈x++y:=List.mem_append_left y h
def ymS{a:Type}{b : a}{x:!a}:b∈b::x:=List.mem_cons_self
def ymC{a:Type}{b : a}(y : a){x:!a}(h:b∈x):b∈y::x:=List.mem_cons_of_mem y h
def yaM{a:Type}{b : a}{x y:!a}(h:b∈x++y):b∈x\/b∈y:=KI.mp h
def ycM{c:Type}{b a : c}{x:!c}(h:b∈a::x):b=a\/b∈x:=IH.mp h
def ysM{c:Type}{b a : c}(h:b∈[a]):b=a:=KT.mp h
def ymG{c:Type}{x:!c}{i:Nat}{a : c}(h:x[i]?*>a):a∈x:=List.mem_of_getElem? h
protected def yF:=Mn
namespace L2
open PySem PySem.Spec PyProof.Rows
protected def Key:=Sum Int Str
abbrev Bp:Key->Nz->Bool
 | .inl k,v=>Nz.isInt k v
 | .inr x,v=>Nz.isStrOf x v
abbrev HH(w:NP):Key->Int
 | .inl k=>hashInt k
 | .inr x=>hashStr w x
def bv:∀{k:Key} {v:Nz},Bp k v=T1->(∃i t,k=QD i/\v=Os i t)\/(∃x t,k=QH x/\v=SX x t)
 | .inl i,v,h=>by
  have(t,e):=Nz.isInt_shape (k:=i) (v:=v) h;show .inl ⟨i,t,Xr,e⟩
 | .inr x,v,h=>by
  have(t,e):=Nz.isStrOf_shape (x:=x) (v:=v) h;show .inr ⟨x,t,Xr,e⟩
def Cz(a b:Int):decide ((QD a:Key)=QD b)=(a==b):=by
 by_cases e:a=b;subst e;simp
 .have h:¬ (QD a:Key)=QD b:=λq=>e (QD.inj q);rw[decide_eq_false h];show(beq_eq_false_iff_ne.mpr e).symm
def CC(a b:Str):decide ((QH a:Key)=QH b)=decide (a=b):=by
 by_cases e:a=b;subst e;simp
 .have h:¬ (QH a:Key)=QH b:=λq=>e (QH.inj q);rw[decide_eq_false h,decide_eq_false e]
def CA(a:Int)(b:Str):decide ((QD a:Key)=QH b)=TZ:=decide_eq_false (λq=>nomatch q)
def CB(a:Str)(b:Int):decide ((QH a:Key)=QD b)=TZ:=decide_eq_false (λq=>nomatch q)
abbrev kB(prog:NM) (w:NP):PySem.KeyKind prog w Key where
 is:=Bp
 hash:=HH w
 inj:=λv a b ha hb=>by
  rcases bv ha with⟨i,t,rfl,rfl⟩|⟨x,t,rfl,rfl⟩
  .rcases bv hb with⟨j,u,rfl,e⟩|⟨y,u,rfl,e⟩;injection e with e1 _;rw[e1];show nomatch e
  .rcases bv hb with⟨j,u,rfl,e⟩|⟨y,u,rfl,e⟩;show nomatch e;injection e with e1 _;rw[e1]
 byValue:=λk v h=>by
  rcases bv h with⟨i,t,rfl,rfl⟩|⟨x,t,rfl,rfl⟩<;>rfl
 pyHash:=λhv h=>by
  rcases bv hv with⟨i,t,rfl,rfl⟩|⟨x,t,rfl,rfl⟩;show wpAny_pyHash_int h;show wpAny_pyHash_str h
 eqBool:=λhu hv h=>by
  rcases bv hu with⟨i,t,rfl,rfl⟩|⟨x,t,rfl,rfl⟩
  .rcases bv hv with⟨j,u,rfl,rfl⟩|⟨y,u,rfl,rfl⟩;rw[Cz]at h;show wpAny_eqBool_int h;rw[CA]at h;show Rz i t y u _ _ _ _ h
  .rcases bv hv with⟨j,u,rfl,rfl⟩|⟨y,u,rfl,rfl⟩;rw[CB]at h;show RA x t j u _ _ _ _ h;rw[CC]at h;show wpAny_eqBool_str h
 «strs»:=λk x t v h=>by
  rcases bv h with⟨i,u,rfl,e⟩|⟨y,u,rfl,e⟩;show nomatch e
  .injection e with e1 _;subst e1;cases v<;>rfl
inductive V where
 | non|bl (b:Bool)|int (i:Int)|str (x:Str)|byt (b:Array UInt8)|flt (b:UInt64)|ref (a:Addr)|ty (n:String)
 deriving DecidableEq
abbrev RelV:V->Nz->Prop
 | .non,u=>u=Oj
 | .bl b,u=>u=ON b
 | .int i,u=>∃t,u=Os i t
 | .str x,u=>∃t,u=SX x t
 | .byt b,u=>∃t,u=Nz.bytes b t
 | .flt b,u=>∃t,u=Nz.float b t
 | .ref a,u=>u=NY a
 | .ty n,u=>u=NH n
protected def Vals:!V->!Nz->Prop:=Paired RelV
def Vals.length{xs:!V}{us:!Nz}(r:Vals xs us):xs.length=us.length:=Paired.length r
def Vals.get:∀{xs:!V} {us:!Nz} {i:Nat} {x:V},Vals xs us->xs[i]?*>x->∃u,us[i]?*>u/\RelV x u
 | _,_,_,_,.nil,e=>by simp at e
 | _,_,0,_,.cons r _,e=>by simp at e;subst e;show{_,Xr,r}
 | _,_,i+1,x,.cons _ t,e=>by
  have(u,c,a):=Vals.get (i:=i) (x:=x) t (by exists e);show{u,by simpa using c,a}
def Vals.set{x:V}{u:Nz}(r:RelV x u):∀{xs:!V} {us:!Nz} (i:Nat),Vals xs us->Vals (xs.set i x) (us.set i u)
 | _,_,_,.nil=>.nil
 | _,_,0,.cons _ t=>.cons r t
 | _,_,i+1,.cons q t=>.cons q (Vals.set r i t)
def Vals.append:∀{xs a:!V} {us ws:!Nz},Vals xs us->Vals a ws->Vals (xs++a) (us++ws):=by
 intro xs a us ws h k
 induction h with
 | nil=>show k
 | cons r t c=>show .cons r c
def Vals.take:∀{xs:!V} {us:!Nz} (n:Nat),Vals xs us->Vals (xs.take n) (us.take n)
 | _,_,0,_=>.nil
 | _,_,_+1,.nil=>.nil
 | _,_,n+1,.cons r t=>.cons r (Vals.take n t)
def Vals.drop:∀{xs:!V} {us:!Nz} (n:Nat),Vals xs us->Vals (xs.drop n) (us.drop n)
 | _,_,0,r=>r
 | _,_,_+1,.nil=>.nil
 | _,_,n+1,.cons _ t=>Vals.drop n t
abbrev RelO:↑V->↑Nz->Prop
 | some v,TV u=>RelV v u
 | none,TU=>True
 | _,_=>False
abbrev KV{a : Type}:!(a×V)->!(a×Nz)->Prop:=Paired λ(p : a×V) (q : a×Nz)=>p.1=q.1/\RelV p.2 q.2
abbrev kV:Key->V
 | .inl i=>.int i
 | .inr x=>.str x
protected def K1:=Sum Key !Key
section
variable (P:NM)(w:NP)
abbrev hk1:K1->Int
 | .inl k=>(kB P w).hash k
 | .inr a=>tupleKeyHash (kB P w) a
abbrev hk2(ks:!K1):Int:=reduceHash (SW (ks.map (hk1 P w)))
abbrev enK(x:!K1×Addr×Nz):P3:={hk2 P w x.1,.ref x.2.1,x.2.2}
end
inductive HO where
 | lst (xs:!V)
 | tup (xs:!V)
 | dK (kvs:!(Key×V))|dT (kvs:!(!K1×Addr×V))
 | set (S:Int->Bool) (n:Nat)
 | ins (C dx:Addr) (fs:!(Str×V))
 | own (x:Addr)
 | xd (fs:!(Str×V))
 | met (f x:Addr)
 | rng (lo hi:Int)
 | frz (o:Obj) (u:HO)
 | tbl (ps:Array Nz)
 | ext (φ : Heap->Prop)
protected def Hp:=Addr->↑HO
abbrev upd(H:Hp) (a:Addr) (o:HO):Hp:=λb=>if b=a then TV o else H b
def aE{H:Hp}{a:Addr}{o:HO}:upd H a o a*>o:=by unfold upd;rw[if_pos rfl]
def upd_ne{H:Hp}{a b:Addr}{o:HO}(h:b≠a):upd H a o b=H b:=by unfold upd;rw[if_neg h]
def bi{H:Hp}{a b:Addr}{o:HO}(h:H a*>o)(h':H b=TU):a≠b:=by
 intro e;subst e;rw[h]at h';cases h'
abbrev M4(h:Heap)(a:Addr)(items:Array Nz):Prop:=∃o,h.get? a*>o/\(o.cls=.type "tuple" /\ o.dict=TU)/\∃n,o.data=.seq items n
def M4.to{h:Heap}{a:Addr}{items:Array Nz}(x:M4 h a items):RK h a items:=let ⟨o,e,c,d⟩:=x;⟨o,e,c.1,d⟩
def M4.new(h:Heap)(items:Array Nz):M4 (h.push {cls:=.type "tuple",data:=.seq items}) h.objs.size items:={_,NI _ rfl,⟨Xr,Xr⟩,_,Xr}
section
variable (P:NM)(w:NP)
abbrev MR(H:Hp)(h:Heap)(a:Addr):HO->Prop
 | .lst e=>e.length<=sizeLine/\∃(d:!Nz) (n:Nat),Vals e d/\h.get? a=TV {cls:=.type "list",data:=.seq d.toArray n}
 | .tup e=>e.length<=sizeLine/\∃d:!Nz,Vals e d/\M4 h a d.toArray
 | .dK c=>c.length<=sizeLine/\(a==P4)=TZ/\∃vs,KV c vs/\h.DictOf (kB P w) a vs
 | .dT c=>c.length<=sizeLine/\(a==P4)=TZ/\∃e:!(!K1×Addr×Nz),
   Paired (λ(p:!K1×Addr×V) (q:!K1×Addr×Nz)=>p.1=q.1/\p.2.1=q.2.1/\RelV p.2.2 q.2.2) c e /\
   ∃o r s,h.get? a*>o/\o.ExactDict/\o.data=.dict r s/\r.toList=e.map (enK P w)/\(e.map (·.1)).Nodup
 | .set S n=>h.SetOf (intKind P w) a S n
 | .ins C j i=>H j*>(.own a)/\i.length<=1000/\j≠a/\h.get? a*>(L6 C j) /\
   ∃g,h.Ns1 j g/\(∀f,RelO (i.lookup f) (g f))/\PySem.Within g (i.map (·.1))
 | .own _=>∃o,h.get? a*>o
 | .xd i=>∃g,h.Ns1 a g/\∀f,RelO (i.lookup f) (g f)
 | .rng lo y=>∃t u v,h.get? a=TV {cls:=.type "range",data:=.fields #[.int lo t,.int y u,.int 1 v]}
 | .frz o u=>h.get? a*>o/\MR H h a u
 | .tbl z=>h.get? a=TV {cls:=.none,data:=.fields z}
 | .met f x=>h.get? a*>(K3 (.ref f) (.ref x))
 | .ext k=>k h/\(∃o,h.get? a*>o)/\∀l m:Heap,k l->(∀o,l.get? a*>o->m.get? a*>o)->k m
abbrev HOk(H:Hp)(h:Heap):Prop:=∀a o,H a*>o->MR P w H h a o
end
section
variable {P:NM}{w:NP}{H H':Hp}{h h':Heap}{a:Addr}{o:HO}
def MR.lt(x:MR P w H h a o):a<h.objs.size:=by
 cases o with
 | lst d=>have(_,_,_,_,e):=x;show NG e
 | tup d=>have(_,_,_,p):=x;show p.to.lt
 | dK c=>have(_,_,_,_,o,_,_,e,_):=x;show NG e
 | dT c=>have(_,_,_,_,o,_,_,e,_):=x;show NG e
 | set S n=>have(o,_,_,_,e,_):=x;show NG e
 | ins C k g=>have(_,_,_,e,_):=x;show NG e
 | own y=>have(_,e):=x;show NG e
 | xd g=>obtain⟨_,⟨_,_,_,e,_⟩,_⟩:=x;show NG e
 | rng lo l=>have(_,_,_,e):=x;show NG e
 | frz j u=>have(e,_):=x;show NG e
 | tbl m=>show NG (show h.get? a*>_ from x)
 | met f y=>show NG (show h.get? a*>_ from x)
 | ext i=>obtain⟨_,⟨_,e⟩,_⟩:=x;show NG e
def Paired.mapP{e g:Type}{F G : e->g->Prop}:∀{d : !e} {c : !g},Paired F d c->(∀a b,F a b->G a b)->Paired G d c:=by
 intro d c h f
 induction h with
 | nil=>show .nil
 | cons r t i=>show .cons (f _ _ r) i
def MR.stay(x:MR P w H h a o)(k:∀b u,(b=a\/H b*>(.own a))->h.get? b*>u->h'.get? b*>u)
  (ho:∀b,H b*>(.own a)->H' b*>(.own a)) (O:∀b xs,H b*>(.tup xs)->H' b*>(.tup xs)):MR P w H' h' a o:=by
 induction o with
 | lst xs=>have(z,l,n,r,e):=x;show{z,l,n,r,k _ _ (.inl rfl) e}
 | tup xs=>have(z,l,r,g,e,c):=x;show{z,l,r,g,k _ _ (.inl rfl) e,c}
 | dK s=>have(z,y,vs,r,g,j,i,e,c):=x;show{z,y,vs,r,g,j,i,k _ _ (.inl rfl) e,c}
 | dT s=>
  have(z,y,xs,r,g,j,i,e,c):=x;show{z,y,xs,r,g,j,i,k _ _ (.inl rfl) e,c}
 | set S n=>have(g,j,i,t,e,c):=x;show{g,j,i,t,k _ _ (.inl rfl) e,c}
 | ins C M J=>
  obtain⟨d,z,K,e,A,⟨m,j,i,G,c⟩,r⟩:=x;show{ho _ d,z,K,k _ _ (.inl rfl) e,A,{m,j,i,k _ _ (.inr d) G,c},r}
 | own y=>have(g,e):=x;show{g,k _ _ (.inl rfl) e}
 | xd J=>obtain⟨A,⟨m,j,i,e,c⟩,r⟩:=x;show{A,{m,j,i,k _ _ (.inl rfl) e,c},r}
 | rng lo N=>have(t,u,v,e):=x;show{t,u,v,k _ _ (.inl rfl) e}
 | frz g u E=>have(e,q):=x;show{k _ _ (.inl rfl) e,E q}
 | tbl B=>
  have e:h.get? a=TV {cls:=.none,data:=.fields B}:=x;change h'.get? a=TV {cls:=.none,data:=.fields B};show k a _ (.inl rfl) e
 | met f y=>
  have e:h.get? a*>(K3 (.ref f) (.ref y)):=x;change h'.get? a*>(K3 (.ref f) (.ref y));show k a _ (.inl rfl) e
 | ext L=>obtain⟨p,⟨o,e⟩,st⟩:=x;show{st _ _ p λo q=>k _ _ (.inl rfl) q,{o,k _ _ (.inl rfl) e},st}
def HOk.lt(x:HOk P w H h)(e:H a*>o):a<h.objs.size:=(x a o e).lt
def HOk.fresh(x:HOk P w H h)(e:h.objs.size<=a):H a=TU:=by
 cases q:H a with
 | none=>rfl
 | some u=>show absurd (Iq (x.lt q) e) (Jq _)
def HOk.kept(x:HOk P w H h)(k:∀b u,h.get? b*>u->h'.get? b*>u):HOk P w H h':=λa o e=>
 (x a o e).stay (λb u _ q=>k b u q) (λ_ q=>q) λ_ _ q=>q
def HOk.laid(x:HOk P w H h)(k:∀b u,h.get? b*>u->h'.get? b*>u)(hp:h.objs.size<=a)(new:MR P w (upd H a o) h' a o):HOk P w (upd H a o) h':=λb u e=>by
 have d:=x.fresh hp;by_cases f:b=a;subst f;rw[aE]at e;cases e;show new
 .rw[upd_ne f]at e;show(x b u e).stay (λc v _ q=>k c v q) (λc q=>by rw[upd_ne (bi q d)];show q) λc g q=>by rw[upd_ne (bi q d)];show q
end
abbrev Rd(H:Hp)(a:Addr)(u:HO):Prop:=H a*>u \/ ∃o,H a*>(.frz o u)
def Rd.of{H:Hp}{a:Addr}{u:HO}(h:H a*>u):Rd H a u:=.inl h
def Rd.ok{P:NM}{w:NP}{H:Hp}{h:Heap}{a:Addr}{u:HO}(r:Rd H a u)(x:HOk P w H h):MR P w H h a u:=by
 rcases r with r|⟨o,r⟩;show x a u r
 .have(_,q):=x a _ r;show q
abbrev Mut:↑HO->Prop
 | some (.lst _)=>True
 | some (.dK _)=>True
 | some (.dT _)=>True
 | some (.set _ _)=>True
 | some (.ins _ _ _)=>True
 | some (.ext _)=>True
 | _=>False
section
variable {P:NM}{w:NP}{H:Hp}{h h':Heap}{x e:Addr}{o':HO}
def HOk.write(s:HOk P w H h)(g:Mut (H x))(p:e=x\/H e*>(.own x))(k:∀b u,b≠e->h.get? b*>u->h'.get? b*>u)(m:∃u,h'.get? e*>u)
  (new:MR P w (upd H x o') h' x o'):HOk P w (upd H x o') h':=λb u q=>by
 have d:∀c y,H c*>(.own y)->c≠x:=λc y r z=>by subst z;rw[r]at g;show g
 have f:∀c l,H c*>(.tup l)->c≠x:=λc l r z=>by subst z;rw[r]at g;show g
 by_cases j:b=x;subst j;rw[aE]at q;cases q;show new
 .rw[upd_ne j]at q;by_cases a:b=e
  .have o:H b*>(.own x):=by
    rcases p with z|z;show absurd (a.trans z) j;rw[a];show z
   rw[q]at o;cases o;have(v,t):=m;show{v,by rw[a];show t}
  .show(s b u q).stay (λc v i r=>k c v ?_ r) (λc r=>by rw[upd_ne (d c b r)];show r) λc l r=>by rw[upd_ne (f c l r)];show r
   rcases i with rfl|i;show a
   .rintro rfl;rcases p with z|z;show d c b i z;rw[i]at z;cases z;show j rfl
end
structure Un(fs ex:!Addr)(H H':Hp)(h h':Heap):Prop where
 keep:∀b o,h.get? b*>o->H b=TU->b∉fs->b∉ex->h'.get? b*>o
 slot:∀b o,h.get? b*>o->H b=TU->b∈fs->b∉ex->∃sl,h'.get? b=TV {o with slots:=sl}
 free:∀b o,h.get? b*>o->H b=TU->b∉ex->H' b=TU
 there:∀b o,h.get? b*>o->b∉ex->∃o',h'.get? b*>o'
 tups:∀b xs,H b*>(.tup xs)->H' b*>(.tup xs)
 frzs:∀b o u,H b*>(.frz o u)->H' b*>(.frz o u)
 tbls:∀b ps,H b*>(.tbl ps)->∃more,H' b*>(.tbl (ps++more))
section
variable {fs fs' ex ex':!Addr}{H H1 H2:Hp}{h h1 h2 h':Heap}{a x e:Addr}{o:HO}
def Un.any(u:Un fs ex H H1 h h1){b:Addr}{c:Obj}(q:h.get? b*>c)(n:H b=TU)(f:b∉ex):∃sl,h1.get? b=TV {c with slots:=sl}:=by
 by_cases g:b∈fs;show u.slot b c q n g f;show{c.slots,u.keep b c q n g f}
def Un.kept(k:∀b u,h.get? b*>u->h'.get? b*>u):Un fs ex H H h h':=
 {λb c q _ _ _=>k b c q,λb c q _ _ _=>{c.slots,k b c q},λ_ _ _ n _=>n,λb c q _=>{c,k b c q},λ_ _ q=>q,λ_ _ _ q=>q,λ_ d q=>{#[],by rw[q];simp}}
def Un.refl:Un fs ex H H h h:=Un.kept λ_ _ q=>q
def Un.laid(k:∀b u,h.get? b*>u->h'.get? b*>u)(hp:h.objs.size<=a)(hn:H a=TU):Un fs ex H (upd H a o) h h' where
 keep:=λb u q _ _ _=>k b u q
 slot:=λb u q _ _ _=>{u.slots,k b u q}
 free:=λb u q n _=>by rw[upd_ne (Is (Iq (NG q) hp))];show n
 there:=λb u q _=>{u,k b u q}
 tups:=λb xs q=>by rw[upd_ne (bi q hn)];show q
 frzs:=λb u xs q=>by rw[upd_ne (bi q hn)];show q
 tbls:=λb ps q=>{#[],by rw[upd_ne (bi q hn),q];simp}
def Un.write(d:Mut (H x))(m:e=x\/H e*>(.own x))(k:∀b u,b≠e->h.get? b*>u->h'.get? b*>u)(g:∃u,h'.get? e*>u):Un fs ex H (upd H x o) h h':=by
 have i:∀b,H b=TU->b≠x:=λb n z=>by subst z;rw[n]at d;show d
 have j:∀b,H b=TU->b≠e:=λb n z=>by
  subst z;rcases m with r|r;show i b n r;rw[n]at r;cases r
 have f:∀b u,H b*>u->¬ Mut (TV u)->b≠x:=λb u q p z=>by subst z;rw[q]at d;show p d
 show{λb u q n _ _=>k b u (j b n) q,λb u q n _ _=>{u.slots,k b u (j b n) q},λb u q n _=>by rw[upd_ne (i b n)];show n,λb u q _=>?_,
  λb l q=>by rw[upd_ne (f b _ q λz=>z)];show q,λb u l q=>by rw[upd_ne (f b _ q λz=>z)];show q,λb s q=>{#[],by rw[upd_ne (f b _ q λz=>z),q];simp}}
 by_cases c:b=e;subst c;show g;show{u,k b u c q}
end
abbrev trk(h:Heap) (H:Hp):!Addr:=(Ip h.objs.size).filter λa=>(H a).isSome
abbrev nh(h:Heap) (H:Hp):Heap:=PySem.W.hideAll h (trk h H)
def tG(h:Heap)(H:Hp):(nh h H).objs.size=h.objs.size:=PySem.W.hideAll_size _ _
def vv{h:Heap}{H:Hp}{b:Addr}{o:Obj}(e:h.get? b*>o)(n:H b=TU):(nh h H).get? b*>o:=
 PySem.W.hideAll_get _ e λa=>by
  have q:(H b).isSome=T1:=(Kg.mp a).2;rw[n]at q;simp at q
def zu{h:Heap}{H:Hp}{b:Addr}{o:Obj}(e:(nh h H).get? b*>o):h.get? b*>o/\H b=TU:=by
 have a:h.get? b*>o:=PySem.W.of_hideAll (trk h H) e;show{a,?_};cases q:H b with
 | none=>rfl
 | some x=>
  have c:b∈trk h H:=Kg.mpr {JM.mpr (NG a),by simp[q]};have z:(nh h H).get? b=TU:=PySem.W.hideAll_none (trk h H) c;rw[z]at e;cases e
abbrev yQ(g h:Heap) (L:Addr):!(Addr×Obj):=(Ip h.objs.size).filterMap λa=>if a=L\/(g.get? a).isSome=T1 then TU else(h.get? a).map λo=>(a,o)
abbrev rest(g h:Heap) (L d:Addr):!(Addr×Obj):=(yQ g h L).filter λp=>decide (p.1≠d)
structure Mod(K:yF)(mg:Str->↑Nz)(base:Heap):Prop where
 kin:K.In base
 glob:base.Ns NO mg
 blt:∃mb,base.Ns RB mb/\∀x:Str,x ≠ "__name__" -> mb x=Oo x
 nolimit:base.NoLimit
structure Cx where
 prog:NM
 w:NP
 K:yF
 mg:Str->↑Nz
 base:Heap
 A:NU
 N:!Str
 s₀ : NC
 H₀ : Hp
 env:Env
 outer:!Env
 stack:!Env
 ex:!Addr
 fn:Str->Bool
 calm:Bool
 pn:!(Addr×Obj)
 xe:Nz->NC->Prop
abbrev frs(l:!Env):!Addr:=l.filterMap (·.frame)
noncomputable abbrev Cx.fs(X:Cx):!Addr:=frs X.outer
abbrev Vis(a:Pn)(x:Str):Prop:=a.names.lookup x*>.local\/a.names.lookup x*>.cell\/a.names.lookup x*>.free
abbrev Loc(a:Pn)(x:Str):Prop:=a.names.lookup x*>.local\/a.names.lookup x*>.cell
abbrev E3(env:Env)(h:Heap)(m:Str->↑Nz)(x:Str)(u:Nz):Prop:=
 (env.kindOf x*>.local/\m x*>u)\/((env.kindOf x*>.cell\/env.kindOf x*>.free)/\∃c,env.cells.lookup x*>c/\h.IsCell c (TV u))
structure Cx.Ok(X:Cx):Prop where
 mod:Mod X.K X.mg X.base
 kind:X.env.scope.kind=.function
 glob:X.env.globals=NO
 blt:X.env.builtins=RB
 above:X.s₀.heap.objs.size<=X.env.locals
 inj:∀x y c,X.env.cells.lookup x*>c->X.env.cells.lookup y*>c->x=y
 has:∀x,(X.env.kindOf x*>.cell\/X.env.kindOf x*>.free)->∃c,X.env.cells.lookup x*>c
 cab:∀x c,X.fn x=T1->X.env.cells.lookup x*>c->X.s₀.heap.objs.size<=c
 hd:X.calm=T1->X.A.handled=TU
 gd:X.calm=T1->X.A.guards=TV []
 frames:X.A.frames*>X.stack
 stk:X.stack=X.outer\/(X.stack=X.env::X.outer/\X.env.frame*>X.env.locals)
 exf:∀b∈X.ex,b≠X.env.locals/\∀x c,X.env.cells.lookup x*>c->c≠b
 bs:∀b o,X.base.get? b*>o->X.s₀.heap.get? b*>o/\X.H₀ b=TU
 bsz:X.base.objs.size<=X.s₀.heap.objs.size
 noex:∀b o,X.base.get? b*>o->b∉X.ex
 exfs:∀b∈X.ex,b∉X.fs
 funs:X.s₀.heap.FunFrames X.base X.outer
 frf:∀b∈X.fs,X.H₀ b=TU
structure Inv(X:Cx)(OK:!(Addr×Obj))(Z:! ↑V)(H:Hp)(s:NC):Prop where
 ok:X.Ok
 os:s.os=X.s₀.os
 bare:PY s.gens
 base:Un X.fs X.ex X.H₀ H X.s₀.heap s.heap
 loc:∃m,s.heap.Ns X.env.locals m/\∀(i:Nat) (x:Str) (v:V),X.N[i]?*>x->Z[i]?*>(TV v)->Vis X.env.scope x->∃u,RelV v u/\E3 X.env s.heap m x u
 cell:∀x c,X.env.cells.lookup x*>c->∃v,s.heap.IsCell c v
 free:H X.env.locals=TU
 freeC:∀x c,X.env.cells.lookup x*>c->H c=TU
 pin:∀p∈X.pn++OK,s.heap.get? p.1*>p.2/\H p.1=TU/\p.1≠X.env.locals/\p.1∉X.fs/\∀v,p.2.data ≠ .cell v
 hok:HOk X.prog X.w H s.heap
 len:Z.length=X.N.length
section
variable {X:Cx}{OK:!(Addr×Obj)}{Z:! ↑V}{H H':Hp}{s:NC}{h':Heap}
def Cx.Ok.nofr(a:X.Ok){b:Addr}{o:Obj}(e:X.base.get? b*>o):b∉X.fs:=λc=>by
 have:=(a.funs.mem c).1;rw[e]at this;cases this
def Inv.bs(I:Inv X OK Z H s):∀b o,X.base.get? b*>o->s.heap.get? b*>o/\H b=TU:=λb o e=>
 {I.base.keep b o (I.ok.bs b o e).1 (I.ok.bs b o e).2 (I.ok.nofr e) (I.ok.noex b o e),I.base.free b o (I.ok.bs b o e).1 (I.ok.bs b o e).2 (I.ok.noex b o e)}
def Inv.bk(I:Inv X OK Z H s):∀b o,X.base.get? b*>o->s.heap.get? b*>o:=λb o e=>(I.bs b o e).1
def Inv.mod(I:Inv X OK Z H s):Mod X.K X.mg X.base:=I.ok.mod
def Inv.kIn(I:Inv X OK Z H s):X.K.In s.heap:=I.ok.mod.kin.keeps I.bk
def Inv.fr(I:Inv X OK Z H s):∃m,Fr X.base X.env.locals s.heap m:=
 let ⟨m,a,_⟩:=I.loc
 {m,a,I.bk,Ik I.ok.bsz I.ok.above}
def Inv.lt(I:Inv X OK Z H s):X.env.locals<s.heap.objs.size:=let ⟨_,a,_⟩:=I.loc;a.lt
def Inv.sz(I:Inv X OK Z H s):X.s₀.heap.objs.size<=s.heap.objs.size:=Ik I.ok.above (Kq I.lt)
def Inv.nofs(I:Inv X OK Z H s){a:Addr}(h:s.heap.objs.size<=a):a∉X.fs:=λd=>by
 have(_,o,c,_):=I.ok.funs.mem d;show absurd (Iq (NG c) (Ik I.sz h)) (Jq _)
def Inv.cne(I:Inv X OK Z H s):∀x c,X.env.cells.lookup x*>c->c≠X.env.locals:=λx c e z=>by
 have(v,o,f,g):=I.cell x c e;obtain⟨m,⟨h,j,i,a,d,_⟩,_⟩:=I.loc;rw[z,a]at f;cases f;rw[d]at g;cases g
def Inv.funs(I:Inv X OK Z H s):s.heap.FunFrames X.base X.outer:=by
 have all:∀(l:!Env),(∀b∈frs l,b∈X.fs)->X.s₀.heap.FunFrames X.base l->s.heap.FunFrames X.base l:=by
  intro l
  induction l with
  | nil=>intro _ _;trivial
  | cons h r g=>
   intro f j;obtain⟨m,⟨L,o,d,q,i,k⟩,p⟩:=j;have a:L∈X.fs:=f L (by unfold frs;rw[Kc,d];show ymS);have(t,e):=I.base.slot L o i (I.ok.frf L a) a λz=>I.ok.exfs L z a;show{m,{L,_,d,q,e,k},g (λb c=>f b (by unfold frs;rw[Kc,d];show ymC _ c)) p}
 show all X.outer (λ_ c=>c) I.ok.funs
def Inv.stack(I:Inv X OK Z H s):s.heap.FunFrames X.base X.stack:=by
 rcases I.ok.stk with e|⟨e,a⟩;rw[e];show I.funs
 .rw[e];have(m,c,_):=I.loc;show .cons (by rw[I.ok.kind];decide) a c ?_ I.funs;show Heap.get?_none_of_le (Ik I.ok.bsz I.ok.above)
def Inv.stkSub(I:Inv X OK Z H s):∀b∈frs X.stack,b∈X.env.locals::X.fs:=λb a=>by
 rcases I.ok.stk with e|⟨e,c⟩;rw[e]at a;show ymC _ a
 .rw[e]at a;unfold frs at a;rw[Kc,c]at a;show a
def Inv.stkFree(I:Inv X OK Z H s):∀b∈frs X.stack,H b=TU:=λb a=>by
 rcases ycM (I.stkSub b a)with e|a;rw[e];show I.free
 .have(_,o,c,_):=I.ok.funs.mem a;show I.base.free b o c (I.ok.frf b a) λz=>I.ok.exfs b z a
def Inv.step{g':Array Sx}{t':Nat}{d':Drawn}{ch:!Addr}(I:Inv X OK Z H s)
  (j:∀b∈ch,(b∈X.ex\/X.s₀.heap.objs.size<=b)/\b≠X.env.locals/\(∀x c,X.env.cells.lookup x*>c->c≠b)/\∀p∈X.pn++OK,p.1≠b)
  (g:∀b o,b≠X.env.locals->b∉X.fs->b∉ch->s.heap.get? b*>o->H b=TU->h'.get? b*>o)
  (A:∀b o,b≠X.env.locals->b∈X.fs->b∉ch->s.heap.get? b*>o->H b=TU->∃sl,h'.get? b=TV {o with slots:=sl}) (free:∀b o,b∉ch->s.heap.get? b*>o->H b=TU->H' b=TU)
  (B:∀b o,b∉ch->s.heap.get? b*>o->∃M,h'.get? b*>M)
  (L:∀b xs,H b*>(.tup xs)->H' b*>(.tup xs)) (N:∀b o u,H b*>(.frz o u)->H' b*>(.frz o u)) (J:∀b ps,H b*>(.tbl ps)->∃O,H' b*>(.tbl (ps++O)))
  (ns:∀m,s.heap.Ns X.env.locals m->h'.Ns X.env.locals m) (P:HOk X.prog X.w H' h') (hg:PY g') :
  Inv X OK Z H' {s with heap:=h',gens:=g',drawn:=d',toks:=t'}:=by
 have K:∀b o,X.s₀.heap.get? b*>o->b≠X.env.locals:=λb o e=>Is (Iq (NG e) I.ok.above);have y:∀b o,X.s₀.heap.get? b*>o->b∉X.ex->b∉ch:=λb o e a C=>by
  rcases(j b C).1 with z|z;show a z;show absurd (Iq (NG e) z) (Jq _)
 have h:∀x c,X.env.cells.lookup x*>c->∀v,s.heap.IsCell c v->h'.IsCell c v:=λx c e v ⟨o,E,S⟩=>by
  have f:c∉ch:=λz=>(j c z).2.2.1 x c e rfl;by_cases hc:c∈X.fs
  .have(sl,q):=A c o (I.cne x c e) hc f E (I.freeC x c e);show{_,q,S}
  .show{o,g c o (I.cne x c e) hc f E (I.freeC x c e),S}
 show{I.ok,I.os,hg,{λb o e n C a=>?_,λb o e n C a=>?_,λb o e n a=>?_,λb o e a=>?_,λb xs e=>L b xs (I.base.tups b xs e),λb o xs e=>N b o xs (I.base.frzs b o xs e),λb ps e=>?_},?_,λx c e=>?_,?_,λx c e=>?_,λp Y=>?_,P,I.len};show g b o (K b o e) C (y b o e a) (I.base.keep b o e n C a) (I.base.free b o e n a)
 .have(sl,t):=I.base.slot b o e n C a;have(U,G):=A b _ (K b o e) C (y b o e a) t (I.base.free b o e n a);show⟨U,G⟩
 .have(M,t):=I.base.there b o e a;show free b M (y b o e a) t (I.base.free b o e n a)
 .have(M,t):=I.base.there b o e a;show B b M (y b o e a) t
 .have(m1,t):=I.base.tbls b ps e;have(m2,G):=J b _ t;show{m1++m2,by rw[G,Array.append_assoc]}
 .have(m,hn,hl):=I.loc;show{m,ns m hn,λi x v t G e3=>?_};have(u,r,l):=hl i x v t G e3;show{u,r,?_};rcases l with l|⟨k,c,e,z⟩;show .inl l;show .inr {k,c,e,h x c e _ z}
 .have(v,z):=I.cell x c e;show{v,h x c e v z}
 .obtain⟨m,⟨o,_,_,E,_⟩,_⟩:=I.loc;show free _ o (λz=>(j _ z).2.1 rfl) E I.free
 .have(v,o,E,S):=I.cell x c e;show free c o (λz=>(j c z).2.2.1 x c e rfl) E (I.freeC x c e)
 .have(e,n,ne,nf,d):=I.pin p Y;have f:p.1∉ch:=λz=>(j p.1 z).2.2.2 p Y rfl;show{g p.1 p.2 ne nf f e n,free p.1 p.2 f e n,ne,nf,d}
def Inv.un{t':Nat}(I:Inv X OK Z H s)(u:Un X.fs [] H H' s.heap h')(c:HOk X.prog X.w H' h'):Inv X OK Z H' {s with heap:=h',toks:=t'}:=by
 obtain⟨m,⟨o,x,p,h,r⟩,_⟩:=id I.loc;have(v,k):=u.any h I.free ∅;show I.step (g':=s.gens) (d':=s.drawn) (ch:=[]) (λ_ z=>nomatch z) (λb o _ f _ e n=>u.keep b o e n f ∅) (λb o _ f _ e n=>u.slot b o e n f ∅) (λb o _ e n=>u.free b o e n ∅) (λb o _ e=>u.there b o e ∅) u.tups u.frzs u.tbls (λq j=>by
  have(t,d,g,a,l):=j;rw[h]at a;cases a;show{_,d,g,k,l}) c I.bare
def Inv.call{g':Array Sx}{t':Nat}{d':Drawn}{ch:!Addr}(I:Inv X OK Z H s)(u:Un (frs X.stack) ch H H' s.heap h')(g:HOk X.prog X.w H' h')(y:PY g')
  (f:∀b∈ch,(b∈X.ex\/X.s₀.heap.objs.size<=b)/\b≠X.env.locals/\(∀x c,X.env.cells.lookup x*>c->c≠b)/\∀p∈X.pn++OK,p.1≠b) :
  Inv X OK Z H' {s with heap:=h',gens:=g',drawn:=d',toks:=t'}:=by
 obtain⟨m,⟨o,G,A,k,r⟩,_⟩:=id I.loc;have(E,i):=u.any k I.free λz=>(f _ z).2.1 rfl;show I.step (ch:=ch) f (λb o i v a e n=>u.keep b o e n (λz=>(ycM (I.stkSub b z)).elim i v) a) (λb o _ _ a e n=>u.any e n a) (λb o a e n=>u.free b o e n a) (λb o a e=>u.there b o e a) u.tups u.frzs u.tbls (λB q=>by
  have(C,h,j,d,t):=q;rw[k]at d;cases d;show{_,h,j,i,t}) g y
def Inv.turned{t':Nat}{it:Addr}(I:Inv X OK Z H s)(k:∀b o,b≠it->s.heap.get? b*>o->h'.get? b*>o)(y:H it=TU)(f:it≠X.env.locals)
  (B:it∈X.ex\/X.s₀.heap.objs.size<=it) (w:∀x c,X.env.cells.lookup x*>c->c≠it) (l:∀p∈X.pn++OK,p.1≠it):Inv X OK Z H {s with heap:=h',toks:=t'}:=by
 have d:∀b u,H b*>u->b≠it:=λb u e z=>by rw[z,y]at e;cases e
 show I.step (g':=s.gens) (d':=s.drawn) (ch:=[it]) (λb j=>?_) (λb o _ _ a e _=>k b o (λz=>a (by simp[z])) e) (λb o _ _ a e _=>{o.slots,k b o (λz=>a (by simp[z])) e}) (λ_ _ _ _ n=>n)
  (λb o a e=>{o,k b o (λz=>a (by simp[z])) e}) (λ_ _ e=>e) (λ_ _ _ e=>e) (λb C e=>{#[],by rw[e];simp}) (λm h=>?_) (λb u e=>?_) I.bare
 .have e:b=it:=by exists j
  subst e;show⟨B,f,w,l⟩
 .have(o,A,i,t,r):=h;show{o,A,i,k _ o (NS f) t,r}
 .show(I.hok b u e).stay (λc v a q=>k c v ?_ q) (λ_ q=>q) λ_ _ q=>q;rcases a with z|z;rw[z];show d b u e;show d c _ z
def Inv.tok(I:Inv X OK Z H s)(t:Nat):Inv X OK Z H {s with toks:=t}:=I.un (h':=s.heap) (t':=t) Un.refl I.hok
def Inv.kept{t':Nat}(I:Inv X OK Z H s)(k:∀b u,s.heap.get? b*>u->h'.get? b*>u):Inv X OK Z H {s with heap:=h',toks:=t'}:=I.un (Un.kept k) (I.hok.kept k)
def Inv.laid{a:Addr}{o:HO}{t':Nat}(I:Inv X OK Z H s)(k:∀b u,s.heap.get? b*>u->h'.get? b*>u)(hp:s.heap.objs.size<=a)(new:MR X.prog X.w (upd H a o) h' a o) :
  Inv X OK Z (upd H a o) {s with heap:=h',toks:=t'}:=I.un (Un.laid k hp (I.hok.fresh hp)) (I.hok.laid k hp new)
def Inv.write{x e:Addr}{o:HO}{t':Nat}(I:Inv X OK Z H s)(c:Mut (H x))(d:e=x\/H e*>(.own x))(k:∀b u,b≠e->s.heap.get? b*>u->h'.get? b*>u)(a:∃u,h'.get? e*>u)
  (new:MR X.prog X.w (upd H x o) h' x o):Inv X OK Z (upd H x o) {s with heap:=h',toks:=t'}:=I.un (Un.write c d k a) (I.hok.write c d k a new)
def Inv.weak{c:! ↑V}(I:Inv X OK Z H s)(e:c.length=Z.length)(w:∀(i:Nat) v,c[i]?*>(TV v)->Z[i]?*>(TV v)):Inv X OK c H s:=
 {I.ok,I.os,I.bare,I.base,let ⟨m,h,a⟩:=I.loc;{m,h,λi x v g f d=>a i x v g (w i v f) d},I.cell,I.free,I.freeC,I.pin,I.hok,e.trans I.len}
def Inv.pins_of{a:!(Addr×Obj)}(I:Inv X OK Z H s)(h:∀p∈a,s.heap.get? p.1*>p.2/\H p.1=TU/\p.1≠X.env.locals/\p.1∉X.fs/\∀v,p.2.data ≠ .cell v):Inv X a Z H s:=
 {I.ok,I.os,I.bare,I.base,I.loc,I.cell,I.free,I.freeC,λp c=>(yaM c).elim (λz=>I.pin p (yaL _ z)) (h p),I.hok,I.len}
def kZ{N:!Str}(d:N.Nodup){i j:Nat}{x:Str}(a:N[i]?*>x)(b:N[j]?*>x):i=j:=by
 have(g,e):=Ib.mp a;have(f,c):=Ib.mp b;show(List.getElem_inj d).mp (e.trans c.symm)
def mO{M:To}{A:NU}{E:Nz->NC->Prop}{i:Nat}{x:Str}{v:V}{u:Nz}{Q:Unit->NC->Prop}(I:Inv X OK Z H s)(hN:X.N.Nodup)(hi:X.N[i]?*>x)(B:Loc X.env.scope x)(r:RelV v u)
  (h:∀s',Inv X OK (Z.set i (TV v)) H s'->(∃a,NZ a s.heap s'.heap/\(a=X.env.locals\/X.env.cells.lookup x*>a))->Q () s') (hf:X.fn x=T1\/X.env.scope.names.lookup x*>.local:=by first|show .inl rfl|show .inr rfl|assumption):NF M A (SY X.env x u) Q E s:=by
 have(m,hn,hl):=id I.loc;have S:(X.env.scope.kind == .class||(X.env.scope.kind == .module&&X.env.locals != X.env.globals))=TZ:=by rw[I.ok.kind];rfl
 have hiZ:i<Z.length:=by rw[I.len];show(Ib.mp hi).1
 have K:=I.cne;have l:∀{a:Addr} {h':Heap},(∃o,s.heap.get? a*>o/\H a=TU)->NZ a s.heap h'->HOk X.prog X.w H h':=λ{a h'} ha f b ob e=>by
  have(_,_,C):=ha;show(I.hok b ob e).stay (λc w' t q=>(f.2 c ?_).trans q) (λ_ q=>q) λ_ _ q=>q;rintro rfl;rcases t with rfl|t;rw[C]at e;cases e;rw[C]at t;cases t
 rcases B with J|J
 .show wpAny_storeName_local J hn (λh' hn' f=>?_) S;have(oL,_,_,hoL,_):=id hn;show h _ {I.ok,I.os,I.bare,{λb o e n L B=>?_,λb o e n L B=>?_,I.base.free,λb o e B=>?_,I.base.tups,I.base.frzs,I.base.tbls},{_,hn',λj y v' g G e3=>?_},λy c e=>?_,I.free,I.freeC,λp hp=>?_,l ⟨oL,hoL,I.free⟩ f,by simpa using I.len} {_,f,.inl rfl};show(f.2 b (Is (Iq (NG e) I.ok.above))).trans (I.base.keep b o e n L B)
  .have(sl,g):=I.base.slot b o e n L B;show{sl,(f.2 b (Is (Iq (NG e) I.ok.above))).trans g}
  .have(o',g):=I.base.there b o e B;show{o',(f.2 b (Is (Iq (NG e) I.ok.above))).trans g}
  .by_cases P:j=i
   .subst P;rw[hi]at g;cases g;rw[Ja hiZ]at G;cases G;show{u,r,.inl {J,by simp}}
   .rw[Iz (NS P)]at G;have(u',r',q):=hl j y v' g G e3;show{u',r',?_};rcases q with⟨k,e⟩|⟨k,c,e,z⟩
    .show .inl {k,?_};have:y≠x:=λe=>P (kZ hN g (e▸hi));simp[this,e]
    .show .inr {k,c,e,z.sameBut f (K y c e)}
  .have(w',z):=I.cell y c e;show{w',z.sameBut f (K y c e)}
  .have(e,n,ne,nf,d):=I.pin p hp;show{(f.2 p.1 ne).trans e,n,ne,nf,d}
 .have O:X.fn x=T1:=by
   rcases hf with z|z;show z;rw[z]at J;cases J
  have(c,t):=I.ok.has x (.inl J);have(w',z):=I.cell x c t;show wpAny_storeName_cell I.ok.kind J t z (λh' Y f=>?_);have(oc,hoc,U):=id z;show h {s with heap:=h'} {I.ok,I.os,I.bare,{λb o e n L B=>?_,λb o e n L B=>?_,I.base.free,λb o e B=>?_,I.base.tups,I.base.frzs,I.base.tbls},{m,hn.sameBut f (NS (K x c t)),λj y v' g G e3=>?_},λy c' e=>?_,I.free,I.freeC,λp hp=>?_,l {oc,hoc,I.freeC x c t} f,by simpa using I.len} {c,f,.inr t};show(f.2 b (Is (Iq (NG e) (I.ok.cab x c O t)))).trans (I.base.keep b o e n L B)
  .have(sl,g):=I.base.slot b o e n L B;show{sl,(f.2 b (Is (Iq (NG e) (I.ok.cab x c O t)))).trans g}
  .have(o',g):=I.base.there b o e B;show{o',(f.2 b (Is (Iq (NG e) (I.ok.cab x c O t)))).trans g}
  .by_cases P:j=i
   .subst P;rw[hi]at g;cases g;rw[Ja hiZ]at G;cases G;show{u,r,.inr {.inl J,c,t,Y}}
   .rw[Iz (NS P)]at G;have(u',r',q):=hl j y v' g G e3;show{u',r',?_};rcases q with q|⟨k,c',e,z'⟩;show .inl q
    .show .inr {k,c',e,z'.sameBut f ?_};rintro rfl;show P (kZ hN g (I.ok.inj _ _ _ e t▸hi))
  .by_cases hcc:c'=c;subst hcc;show{_,Y}
   .have(w2,z2):=I.cell y c' e;show{w2,z2.sameBut f hcc}
  .have(e,n,ne,nf,d):=I.pin p hp;show{(f.2 p.1 ?_).trans e,n,ne,nf,d};intro q;rw[q,hoc]at e;have q':oc=p.2:=IC.inj e;show d w' (by rw[<-q'];show U)
def cf{M:To}{A:NU}{E:Nz->NC->Prop}{i:Nat}{x:Str}{v:V}{u:Nz}{Q:Unit->NC->Prop}(I:Inv X OK Z H s)(d:X.N.Nodup)(hi:X.N[i]?*>x)(c:Loc X.env.scope x)(r:RelV v u)
  (h:∀a,Inv X OK (Z.set i (TV v)) H a->Q () a) (f:X.fn x=T1\/X.env.scope.names.lookup x*>.local:=by first|show .inl rfl|show .inr rfl|assumption):NF M A (SY X.env x u) Q E s:=
 mO I d hi c r (λa e _=>h a e) f
def Inv.call'{a:NC}{ch:!Addr}(I:Inv X OK Z H s)(ho:a.os=s.os)(u:Un (frs X.stack) ch H H' s.heap a.heap)(d:HOk X.prog X.w H' a.heap)(k:PY a.gens)
  (f:∀b∈ch,(b∈X.ex\/X.s₀.heap.objs.size<=b)/\b≠X.env.locals/\(∀x c,X.env.cells.lookup x*>c->c≠b)/\∀p∈X.pn++OK,p.1≠b):Inv X OK Z H' a:=by
 have(h',i,h,g,j):=a;have e:j=s.os:=ho;subst e;show I.call (g':=i) (t':=g) (d':=h) u d k f
end
protected def XK:=Nz->↑Addr->Hp->Prop
protected def St:=! ↑V
protected def VK:=V->Hp->Prop
protected def TE:=St->Hp->VK->Prop
protected def TT:=St->Hp->(Bool->Hp->Prop)->Prop
protected def TA:=St->Hp->(!V->Hp->Prop)->Prop
structure Nh where
 nx:St->Hp->Prop
 rt:VK
 bk:St->Hp->Prop:=λ_ _=>False
 ct:St->Hp->Prop:=λ_ _=>False
protected def TS:=Nh->St->Hp->Prop
abbrev EP(X:Cx)(c:!(Addr×Obj))(Z:St)(Q:VK)(u:Nz)(d:NC):Prop:=∃v a,Inv X c Z a d/\RelV v u/\Q v a
abbrev TP(X:Cx)(c:!(Addr×Obj))(Z:St)(Q:Bool->Hp->Prop)(b:Bool)(d:NC):Prop:=∃a,Inv X c Z a d/\Q b a
abbrev AP(X:Cx)(c:!(Addr×Obj))(Z:St)(Q:!V->Hp->Prop)(us:!Nz)(d:NC):Prop:=∃vs a,Inv X c Z a d/\Vals vs us/\Q vs a
abbrev SP(X:Cx)(d:!(Addr×Obj))(D:Nh)(f:Flow)(e:NC):Prop:=
 match f with
 | .next=>∃c a,Inv X d c a e/\D.nx c a
 | .brk=>∃c a,Inv X d c a e/\D.bk c a
 | .cont=>∃c a,Inv X d c a e/\D.ct c a
 | .ret u=>∃v c a,Inv X d c a e/\RelV v u/\D.rt v a
abbrev PE(X:Cx)(e:Expr)(t:TE):Prop:=
 ∀(a:!(Addr×Obj)) (s:NC) (Z:St) (H:Hp) (Q:VK),Inv X a Z H s->t Z H Q->NF (NK X.prog X.w) X.A (eval e X.env) (EP X a Z Q) X.xe s
abbrev PT(X:Cx)(e:Expr)(t:TT):Prop:=
 ∀(a:!(Addr×Obj)) (s:NC) (Z:St) (H:Hp) (Q:Bool->Hp->Prop),Inv X a Z H s->t Z H Q->NF (NK X.prog X.w) X.A (RC e X.env (eval e X.env)) (TP X a Z Q) X.xe s
abbrev PW(X:Cx)(e:Expr)(t:TT):Prop:=
 ∀(a:Sem Nz) (c:!(Addr×Obj)) (s:NC) (Z:St) (H:Hp) (Q:Bool->Hp->Prop),Inv X c Z H s->t Z H Q->NF (NK X.prog X.w) X.A (RC e X.env a) (TP X c Z Q) X.xe s
def PW.pt{X:Cx}{e:Expr}{t:TT}(h:PW X e t):PT X e t:=h _
abbrev PA(X:Cx)(d:!Expr)(t:TA):Prop:=
 ∀(a:Pos) (c:!(Addr×Obj)) (s:NC) (Z:St) (H:Hp) (Q:!V->Hp->Prop),Inv X c Z H s->t Z H Q->NF (NK X.prog X.w) X.A (spliced (OY a (NR d X.env))) (AP X c Z Q) X.xe s
abbrev PS(X:Cx)(st:Stmt)(t:TS):Prop:=
 ∀(a:!(Addr×Obj)) (s:NC) (Z:St) (H:Hp) (D:Nh),Inv X a Z H s->t D Z H->NF (NK X.prog X.w) X.A (exec st X.env) (SP X a D) X.xe s
abbrev PSs(X:Cx)(st:!Stmt)(t:TS):Prop:=
 ∀(a:!(Addr×Obj)) (s:NC) (Z:St) (H:Hp) (D:Nh),Inv X a Z H s->t D Z H->NF (NK X.prog X.w) X.A (execs st X.env) (SP X a D) X.xe s
def thn{c:Type}{t:Sem c}{Q d : c->NC->Prop}{M:To}{A:NU}{E:Nz->NC->Prop}{s:NC}(h:NF M A t Q E s)(e:∀a s,Q a s->d a s):NF M A t d E s:=Ol h e λ_ _ x=>x
section
variable {X:Cx}
abbrev ym(i:Nat):TE:=λZ H Q=>∃v,Z[i]?*>(TV v)/\Q v H
abbrev tC(v:V):TE:=λ_ H Q=>Q v H
def lc{i:Nat}{x:Str}{pos:Pos}(q:X.N[i]?*>x)(t:Vis X.env.scope x)(j:(x==("__debug__" : Str))=TZ:=by decide)(g:(x==("__classdict__" : Str))=TZ:=by decide):PE X (.Name x pos) (ym i):=by
 intro p s Z H Q I h;obtain⟨v,e,h⟩:=h;obtain⟨m,y,w⟩:=I.loc;obtain⟨u,r,l⟩:=w i x v q e t;have f:EP X p Z Q u s:=⟨v,H,I,r,h⟩;rcases l with⟨d,o⟩|⟨d,c,k,a⟩;show Sy (Q7 I.ok.kind d y o f) j
 .rcases d with d|d;show Sy (Rn I.ok.kind d k a f) j;show Sy (wpAny_loadName_free I.ok.kind d k a f g) j
def qu{i j pos}:PE X (.Constant (.int i) j pos) (tC (.int i)):=λ_ _ _ H _ I h=>wpAny_Constant_int {.int i,H,I.tok _,{_,Xr},h}
def F5{b j pos}:PE X (.Constant (.bool b) j pos) (tC (.bl b)):=λ_ _ _ H _ I h=>Constant_bool {.bl b,H,I,Xr,h}
def Ds{j pos}:PE X (.Constant .none j pos) (tC .non):=λ_ _ _ H _ I h=>Constant_none {.non,H,I,Xr,h}
def Dv{x j pos}:PE X (.Constant (.str x) j pos) (tC (.str x)):=λ_ _ _ H _ I h=>Calls.Constant_str {.str x,H,I.tok _,{_,Xr},h}
abbrev Gl(X:Cx)(x:Str):Prop:=X.env.kindOf x*>.globalImplicit
def ib{E:Nz->NC->Prop}{c:!(Addr×Obj)}{s:NC}{Z:St}{H:Hp}{x:Str}{u:Nz}{pos:Pos}{Q:Nz->NC->Prop}(I:Inv X c Z H s)(e:Gl X x)(a:X.mg x*>u)(h:Q u s)
  (d:(x==("__debug__" : Str))=TZ:=by decide):NF (NK X.prog X.w) X.A (eval (.Name x pos) X.env) Q E s:=
 P5 I.ok.kind e (Calls.loadGlobal_global (by rw[I.ok.glob];show I.mod.glob.keeps I.bk) a h) d
def fQ{E:Nz->NC->Prop}{c:!(Addr×Obj)}{s:NC}{Z:St}{H:Hp}{x:Str}{u:Nz}{pos:Pos}{Q:Nz->NC->Prop}(I:Inv X c Z H s)(g:Gl X x)(a:X.mg x=TU)(d:Oo x*>u)(h:Q u s)
  (i:x ≠ "__name__" :=by decide) (e:(x==("__debug__" : Str))=TZ:=by decide):NF (NK X.prog X.w) X.A (eval (.Name x pos) X.env) Q E s:=by
 have(k,j,f):=I.mod.blt;show P5 I.ok.kind g (Calls.loadGlobal_builtin (by rw[I.ok.glob];show I.mod.glob.keeps I.bk) a (by rw[I.ok.blt];show j.keeps I.bk) ((f x i).trans d) h) e
def zG{x:Str}{v:V}{u:Nz}{pos:Pos}(d:Gl X x)(a:X.mg x*>u)(r:RelV v u)(c:(x==("__debug__" : Str))=TZ:=by decide):PE X (.Name x pos) (tC v):=
 λ_ _ _ H _ I h=>ib I d a ⟨v,H,I,r,h⟩ c
def kC{x:Str}{v:V}{u:Nz}{pos:Pos}(e:Gl X x)(a:X.mg x=TU)(c:Oo x*>u)(r:RelV v u)(f:x ≠ "__name__" :=by decide)(d:(x==("__debug__" : Str))=TZ:=by decide):PE X (.Name x pos) (tC v):=
 λ_ _ _ H _ I h=>fQ I e a c ⟨v,H,I,r,h⟩ f d
variable {a b:Expr}{ta tb:TE}{pos:Pos}
abbrev PC(X:Cx)(op:SA)(a b:Expr)(t:TE):Prop:=
 ∀(e:!(Addr×Obj)) (s:NC) (Z:St) (H:Hp) (Q:VK),Inv X e Z H s->t Z H Q ->
  NF (NK X.prog X.w) X.A (eval a X.env) (λv c=>NF (NK X.prog X.w) X.A (eval b X.env) (λu d=>NF (NK X.prog X.w) X.A (N1 op v u) (EP X e Z Q) X.xe d) X.xe c) X.xe s
abbrev tB(t:TE):TT:=λZ H Q=>t Z H λx d=>∃c,x=.bl c/\Q c d
def pt_cmp{op:SA}{t:TE}(h:PC X op a b t)(e:OX op b=TZ:=by first|show nobehind _ (by decide) (by decide)|rfl):PT X (.Compare a [op] [b] pos) (tB t):=by
 intro f s Z H Q I l;show Q4 (thn (h f s Z H _ I l) λv r e=>thn e λu p k=>thn k λc o ⟨x,i,m,g,j⟩=>?_) e;have(d,rfl,q):=j;cases g;show Ou ⟨i,m,q⟩
def DJ{e:Expr}{t:TE}(h:PE X e t)(j:∀c,RC e X.env c=(do let v <-c;Pj e.pos;Ov [v] (SB v)):=by intro _;rfl):PT X e (tB t):=by
 intro f s Z H Q I l;show isTrue_plain (thn (h f s Z H _ I l) λv o ⟨x,i,m,g,k⟩=>?_) (j _);have(d,rfl,q):=k;cases g;show Ou ⟨i,m,q⟩
variable {tA tB':TT}{rest:!Expr}
abbrev GI(t u:TT):TT:=λZ H Q=>t Z H λc d=>if c=T1 then u Z d Q else Q TZ d
abbrev tOr(t u:TT):TT:=λZ H Q=>t Z H λc d=>if c=T1 then Q T1 d else u Z d Q
abbrev GN(t:TT):TT:=λZ H Q=>t Z H λc d=>Q (~~~c) d
def zX(f:PT X a tA):PW X (.BoolOp .And [a] pos) tA:=by
 intro i d s Z H Q I h;show isTrue_and (thn (f d s Z H Q I h) λc g e=>?_);cases c with
 | true=>show isTrue_and_nil e
 | false=>show e
def DL(f:PT X a tA):PW X (.BoolOp .Or [a] pos) tA:=by
 intro i d s Z H Q I h;show isTrue_or (thn (f d s Z H Q I h) λc g e=>?_);cases c with
 | false=>show isTrue_or_nil e
 | true=>show e
def DK(j:PT X a tA)(l:PW X (.BoolOp .And (b::rest) pos) tB'):PW X (.BoolOp .And (a::b::rest) pos) (GI tA tB'):=by
 intro k d s Z H Q I h;show isTrue_and (thn (j d s Z H _ I h) λc i ⟨f,g,e⟩=>?_);cases c with
 | true=>show l k d i Z f Q g e
 | false=>show⟨f,g,e⟩
def Ga(j:PT X a tA)(l:PW X (.BoolOp .Or (b::rest) pos) tB'):PW X (.BoolOp .Or (a::b::rest) pos) (tOr tA tB'):=by
 intro k d s Z H Q I h;show isTrue_or (thn (j d s Z H _ I h) λc i ⟨f,g,e⟩=>?_);cases c with
 | true=>show⟨f,g,e⟩
 | false=>show l k d i Z f Q g e
def DH(e:PT X a tA):PT X (.UnaryOp .Not a pos) (GN tA):=by
 intro d s Z H Q I h;show isTrue_not (e d s Z H (λc f=>Q (~~~c) f) I h)
abbrev BQ(ta tb:TE):TE:=λZ H Q=>ta Z H λx d=>∃c,x=.bl c/\if c=T1 then tb Z d Q else Q (.bl TZ) d
abbrev BS(ta:TE):TE:=λZ H Q=>ta Z H λx d=>∃c,x=.bl c/\Q (.bl (~~~c)) d
def Du{op}{t:TE}(h:PE X a t):PE X (.BoolOp op [a] pos) t:=λc s Z H Q I d=>BoolOp_one (h c s Z H Q I d)
def Dp(i:PE X a ta)(j:PE X (.BoolOp .And (b::rest) pos) tb):PE X (.BoolOp .And (a::b::rest) pos) (BQ ta tb):=by
 intro e s Z H Q I h;show BoolOp_and (thn (i e s Z H _ I h) λv k l=>?_);have(x,f,g,m,d):=l;have(c,rfl,d):=d;cases m;show Ou ?_;cases c with
 | true=>show j e k Z f Q g d
 | false=>show{.bl TZ,f,g,Xr,d}
def Dt(f:PE X a ta):PE X (.UnaryOp .Not a pos) (BS ta):=by
 intro e s Z H Q I h;show UnaryOp_ (thn (f e s Z H _ I h) λv l i=>?_);have(x,g,k,j,d):=i;have(c,rfl,d):=d;cases j;show not_of (Ou {.bl (~~~c),g,k,Xr,d})
abbrev tIf(t:TT)(ta tb:TE):TE:=λZ H Q=>t Z H λc d=>if c=T1 then ta Z d Q else tb Z d Q
def wp{c:Expr}(l:PT X c tA)(k:PE X a ta)(m:PE X b tb):PE X (.IfExp c a b pos) (tIf tA ta tb):=by
 intro e s Z H Q I h;show wpAny_IfExp (thn (l e s Z H _ I h) λd f ⟨i,j,g⟩=>?_);cases d with
 | true=>show k e f Z i Q j g
 | false=>show m e f Z i Q j g
end
abbrev SqL(K:yF)(H:Hp)(a:Addr)(xs:!V):Prop:=
 Rd H a (.lst xs) \/
  ∃(o:Obj) (c:Array Nz) (n:Nat),K.lookup a*>o/\o.cls=.type "list" /\ o.dict=TU/\o.data=.seq c n/\c.size<=sizeLine/\Vals xs c.toList
abbrev SqT(K:yF)(H:Hp)(a:Addr)(xs:!V):Prop:=
 Rd H a (.tup xs) \/
  ∃(o:Obj) (c:Array Nz) (n:Nat),K.lookup a*>o/\(o.cls=.type "tuple" /\ o.dict=TU)/\o.data=.seq c n/\c.size<=sizeLine/\Vals xs c.toList
abbrev Hn:Nz->↑V
 | .none=>TV .non
 | .bool b=>TV (.bl b)
 | .int i _=>TV (.int i)
 | .str x _=>TV (.str x)
 | .bytes b _=>TV (.byt b)
 | .float b _=>TV (.flt b)
 | .ref a=>TV (.ref a)
 | .type n=>TV (.ty n)
 | _=>TU
def RelV.abs{x:V}{u:Nz}(r:RelV x u):Hn u*>x:=by
 cases x with
 | non=>cases r;rfl
 | bl _=>cases r;rfl
 | int _=>have(t,rfl):=r;rfl
 | str _=>have(t,rfl):=r;rfl
 | byt _=>have(t,rfl):=r;rfl
 | flt _=>have(t,rfl):=r;rfl
 | ref _=>cases r;rfl
 | ty _=>cases r;rfl
def RelV.inj{x y:V}{u:Nz}(r:RelV x u)(q:RelV y u):x=y:=IC.inj (r.abs.symm.trans q.abs)
def Vals.inj:∀{xs a:!V} {us:!Nz},Vals xs us->Vals a us->xs=a:=by
 intro xs a us h k
 induction h generalizing a with
 | nil=>cases k;rfl
 | cons r t c=>
  cases k with
  | cons e d=>rw[r.inj e,c d]
section
variable {X:Cx}{OK:!(Addr×Obj)}{Z:St}{H:Hp}{s:NC}{a:Addr}{xs ys:!V}
def SqL.of{K:yF}(h:H a*>(.lst xs)):SqL K H a xs:=.inl (.inl h)
def SqT.of{K:yF}(h:H a*>(.tup xs)):SqT K H a xs:=.inl (.inl h)
def Inv.list(I:Inv X OK Z H s)(h:SqL X.K H a xs):∃c:!Nz,Vals xs c/\PlainL s.heap a c.toArray/\xs.length<=sizeLine:=by
 rcases h with h|⟨o,c,n,g,i,f,d,j,r⟩
 .have(z,c,n,r,e):=h.ok I.hok;show{c,r,{_,n,e,Xr,Xr,Xr},z}
 .show{c.toList,r,{o,n,I.kIn a o g,i,f,by simpa using d},?_};have e:=r.length;dsimp[Jk]at e
  lia
def Inv.tuple(I:Inv X OK Z H s)(h:SqT X.K H a xs):∃c:!Nz,Vals xs c/\RK s.heap a c.toArray/\xs.length<=sizeLine:=by
 rcases h with h|⟨o,c,n,f,g,d,i,r⟩
 .have(z,c,r,p):=h.ok I.hok;show⟨c,r,p.to,z⟩
 .show{c.toList,r,{o,I.kIn a o f,g.1,n,by simpa using d},?_};have e:=r.length;dsimp[Jk]at e
  lia
def Inv.list_inj(I:Inv X OK Z H s)(h:SqL X.K H a xs)(h':SqL X.K H a ys):xs=ys:=by
 obtain⟨f,r,⟨o,n,e,_,_,d⟩,_⟩:=I.list h;obtain⟨c,k,⟨m,l,g,_,_,i⟩,_⟩:=I.list h';rw[e]at g;cases g;rw[d]at i;injection i with j _;have:f=c:=by simpa using congrArg Mp j
 subst this;show r.inj k
def Inv.tuple_inj(I:Inv X OK Z H s)(h:SqT X.K H a xs)(h':SqT X.K H a ys):xs=ys:=by
 obtain⟨f,r,⟨o,e,_,n,d⟩,_⟩:=I.tuple h;obtain⟨c,k,⟨m,g,_,l,i⟩,_⟩:=I.tuple h';rw[e]at g;cases g;rw[d]at i;injection i with j _;have:f=c:=by simpa using congrArg Mp j
 subst this;show r.inj k
end
noncomputable abbrev Cx.wish(X:Cx) (E:Nz->NC->Prop):Cx:={X with xe:=E}
noncomputable abbrev Cx.nox(X:Cx):Cx:=X.wish λ_ _=>False
def Cx.Ok.wish{X:Cx}(a:X.Ok)(E:Nz->NC->Prop):(X.wish E).Ok:=
 ⟨a.mod,a.kind,a.glob,a.blt,a.above,a.inj,a.has,a.cab,a.hd,a.gd,a.frames,a.stk,a.exf,a.bs,a.bsz,a.noex,a.exfs,a.funs,a.frf⟩
def Cx.Ok.unwish{X:Cx}{E:Nz->NC->Prop}(a:(X.wish E).Ok):X.Ok:=
 ⟨a.mod,a.kind,a.glob,a.blt,a.above,a.inj,a.has,a.cab,a.hd,a.gd,a.frames,a.stk,a.exf,a.bs,a.bsz,a.noex,a.exfs,a.funs,a.frf⟩
section
variable {X:Cx}{OK:!(Addr×Obj)}{Z:St}{H:Hp}{s:NC}{E:Nz->NC->Prop}
def Inv.wish(I:Inv X OK Z H s)(E:Nz->NC->Prop):Inv (X.wish E) OK Z H s:={I.ok.wish E,I.os,I.bare,I.base,I.loc,I.cell,I.free,I.freeC,I.pin,I.hok,I.len}
def Inv.unwish(I:Inv (X.wish E) OK Z H s):Inv X OK Z H s:=⟨I.ok.unwish,I.os,I.bare,I.base,I.loc,I.cell,I.free,I.freeC,I.pin,I.hok,I.len⟩
def SP.unwish{D:Nh}{f:Flow}{d:NC}(h:SP (X.wish E) OK D f d):SP X OK D f d:=by
 cases f with
 | next=>have(c,a,I,q):=h;show⟨c,a,I.unwish,q⟩
 | brk=>have(c,a,I,q):=h;show⟨c,a,I.unwish,q⟩
 | cont=>have(c,a,I,q):=h;show⟨c,a,I.unwish,q⟩
 | ret u=>have(v,c,a,I,r,q):=h;show⟨v,c,a,I.unwish,r,q⟩
def PE.nox{e:Expr}{t:TE}(h:PE X.nox e t):PE X e t:=λOK s Z H Q I d=>
 Ol (h OK s Z H Q (I.wish _) d) (λ_ _ ⟨v,c,a,r,q⟩=>⟨v,c,a.unwish,r,q⟩) λ_ _ z=>N5 z
def PT.nox{e:Expr}{t:TT}(h:PT X.nox e t):PT X e t:=λOK s Z H Q I d=>
 Ol (h OK s Z H Q (I.wish _) d) (λ_ _ ⟨c,a,q⟩=>⟨c,a.unwish,q⟩) λ_ _ z=>N5 z
def PSs.nox{st:!Stmt}{t:TS}(h:PSs X.nox st t):PSs X st t:=λOK s Z H D I a=>
 Ol (h OK s Z H D (I.wish _) a) (λ_ _ q=>q.unwish) λ_ _ z=>N5 z
end
section
variable {X:Cx}{st:Stmt}{rest:!Stmt}{t u:TS}{e:Expr}{te:TE}{pos:Pos}
abbrev BR:TS:=λD Z H=>D.nx Z H
abbrev Ex(t u:TS):TS:=λD Z H=>t {D with nx:=u D} Z H
def rQ:PSs X [] BR:=λ_ _ Z H _ I h=>PN ⟨Z,H,I,h⟩
def oY(k:PS X st t)(j:PSs X rest u):PSs X (st::rest) (Ex t u):=by
 intro a s Z H D I h;show Qv (thn (k a s Z H {D with nx:=u D} I h) λf g q=>?_);cases f with
 | next=>
  obtain⟨c,i,d,q⟩:=q;show j a g c i D d q
 | ret v=>show q
 | brk=>show q
 | cont=>show q
def kD(c:PS X st t):PSs X [st] t:=by
 intro a s Z H D I h;show Qv (thn (c a s Z H D I h) λf d q=>?_);cases f with
 | next=>show PN q
 | ret v=>show q
 | brk=>show q
 | cont=>show q
def Inv.quiet{a:!(Addr×Obj)}{Z:St}{H:Hp}{s:NC}(I:Inv X a Z H s):interactive X.env=TZ:=by simp[interactive,I.ok.kind]
abbrev yf(te:TE):TS:=λD Z H=>te Z H λ_ a=>D.nx Z a
def nD(c:PE X e te)(hs:O9 e TU pos.line X.env=pure TZ:=by rfl):PS X (.Expr e pos) (yf te):=by
 intro a s Z H D I h;show Q8 (thn (c a s Z H _ I h) λv i ⟨x,f,g,j,d⟩=>⟨Z,f,g,d⟩) I.quiet hs
abbrev GP(te:TE):TS:=λD Z H=>te Z H D.rt
def DF(c:PE X e te):PS X (.Return (TV e) pos) (GP te):=by
 intro a s Z H D I h;show wpAny_Return_some (thn (c a s Z H _ I h) λv j ⟨x,g,i,f,d⟩=>⟨x,Z,g,i,f,d⟩)
abbrev GL(c:TT)(t u:TS):TS:=λD Z H=>c Z H λb a=>if b=T1 then t D Z a else u D Z a
def Bw{c:Expr}{a b:!Stmt}{j:TT}(o:PT X c j)(m:PSs X a t)(p:PSs X b u):PS X (.If c a b pos) (GL j t u):=by
 intro f s Z H D I h;show wpAny_If (thn (o f s Z H _ I h) λd i ⟨g,l,k⟩=>?_);cases d with
 | true=>show m f i Z g D l k
 | false=>show p f i Z g D l k
abbrev Ew:TS:=λ_ _ _=>False
def wX:PS X st Ew:=λ_ _ _ _ _ _ h=>h.elim
end
protected def TG:=V->St->Hp->(St->Hp->Prop)->Prop
protected def TGs:=!V->St->Hp->(St->Hp->Prop)->Prop
abbrev PG(X:Cx)(a:Expr)(t:TG):Prop:=
 ∀(c:!(Addr×Obj)) (s:NC) (Z:St) (H:Hp) (v:V) (u:Nz) (Q:St->Hp->Prop),Inv X c Z H s->RelV v u->t v Z H Q ->
  NF (NK X.prog X.w) X.A (Pu a X.env u) (λ_ f=>∃e d,Inv X c e d f/\Q e d) X.xe s
abbrev PGs(X:Cx)(ts:!Expr)(t:TGs):Prop:=
 ∀(a:!(Addr×Obj)) (s:NC) (Z:St) (H:Hp) (vs:!V) (c:!Nz) (Q:St->Hp->Prop),Inv X a Z H s->Vals vs c->t vs Z H Q ->
  NF (NK X.prog X.w) X.A (PD ((Oy ts X.env).map (·.2)) c) (λ_ f=>∃e d,Inv X a e d f/\Q e d) X.xe s
protected def B2:=V->V->V->Hp->(Hp->Prop)->Prop
abbrev E6(X:Cx)(t:B2):Prop:=
 ∀(a:!(Addr×Obj)) (s:NC) (Z:St) (H:Hp) (o i v:V) (e c u:Nz) (Q:Hp->Prop),Inv X a Z H s->RelV o e->RelV i c->RelV v u->t o i v H Q ->
  NF (NK X.prog X.w) X.A (QJ e c u) (λ_ f=>∃d,Inv X a Z d f/\Q d) X.xe s
protected def TIp:=V->V->Hp->VK->Prop
abbrev PIp(X:Cx)(op:SC)(t:TIp):Prop:=
 ∀(a:!(Addr×Obj)) (s:NC) (Z:St) (H:Hp) (x y:V) (v u:Nz) (Q:VK),Inv X a Z H s->RelV x v->RelV y u->t x y H Q ->
  NF (NK X.prog X.w) X.A (inplaceOp op v u) (EP X a Z Q) X.xe s
section
variable {X:Cx}{pos:Pos}
abbrev l6(i:Nat):TG:=λv Z H Q=>Q (Z.set i (TV v)) H
def zJ{i:Nat}{x:Str}(e:X.N.Nodup)(hi:X.N[i]?*>x)(c:Loc X.env.scope x)(d:X.fn x=T1\/X.env.scope.names.lookup x*>.local:=by first|show .inl rfl|show .inr rfl|assumption):PG X (.Name x pos) (l6 i):=by
 intro f s Z H v u Q I r h;show RL (cf I e hi c r (λg a=>{_,H,a,h}) d)
abbrev Cn:TGs:=λvs Z H Q=>vs=[]/\Q Z H
abbrev vq(t:TG)(u:TGs):TGs:=λvs Z H Q=>∃v r,vs=v::r/\t v Z H λc a=>u r c a Q
def zK:PGs X [] Cn:=by
 intro a s Z H vs c Q I r h;obtain⟨e,h⟩:=h;subst e;cases r;show Qi ⟨Z,H,I,h⟩
def wx{e:Expr}{a:!Expr}{t:TG}{u:TGs}(m:PG X e t)(k:PGs X a u)
  (hs:(Oy (e::a) X.env).map (·.2)=Pu e X.env::(Oy a X.env).map (·.2):=by rfl):PGs X (e::a) (vq t u):=by
 intro c s Z H vs p Q I r h;obtain⟨v,vr,l,h⟩:=h;subst l;cases r with
 | cons r d=>
  rw[hs];show OC (thn (m c s Z H _ _ _ I r h) λ_ g ⟨i,f,o,j⟩=>?_);show k c g i f _ _ Q o d j
abbrev y8(K:yF)(n:Nat)(t:TGs):TG:=λv Z H Q=>∃a c,v=.ref a/\SqT K H a c/\c.length=n/\t c Z H Q
def Dx{c:!Expr}{k:Nat}{t:TGs}{n:Nat}(m:X.calm=T1)(h:PGs X c t)
  (q:(Oy c X.env).length=n:=by rfl) (d:(Oy c X.env).findIdx? (·.1)=TU:=by rfl):PG X (.Tuple c k pos) (y8 X.K n t):=by
 intro g s Z H v u Q I r f;obtain⟨a,p,z,A,y,f⟩:=f;subst z;cases r;obtain⟨x,i,w,E⟩:=I.tuple A;show assign_Tuple_tuple (I.ok.hd m) w (by simp[q,<-y,i.length]) d λC l=>?_;have B:Inv X g Z H {s with heap:=C}:=I.kept (t':=s.toks) λb o e=>l b o (Is (NG e)) e;show h g _ Z H p _ Q B (by exists i) f
abbrev Co(e d:TE)(t:B2):TG:=λv Z H Q=>e Z H λo f=>d Z f λi a=>t o i v a λc=>Q Z c
def Dw{o i:Expr}{g f:TE}{t:B2}(ho:PE X o g)(hi:PE X i f)(hs:E6 X t)
  (k:∀v,Pu (.Subscript o i pos) X.env v=(do
   let a <-Ov [v] (eval o X.env)
   let c <-Ov [v,a] (eval i X.env)
   Pj pos
   Ov [v,a,c] (QJ a c v)
   Tf [v,a,c] []):=by intro _;rfl):PG X (.Subscript o i pos) (Co g f t):=by
 intro d s Z H v u Q I r h;rw[k];show NA (Oe (thn (ho d s Z H _ I h) λa l e=>?_));have(x,E,A,J,q):=e;show NA (Oe (thn (hi d l Z E _ A q) λc B e=>?_));have(y,m,j,w,G):=e;show NA (OO (NA (Oe (thn (hs d B Z m x y v a c u _ j J w r G) λ_ K ⟨p,z,C⟩=>?_))));show wpAny_release ⟨Z,p,z,C⟩
abbrev AL(a:TE)(g:TG):TS:=λD Z H=>a Z H λx c=>g x Z c D.nx
def DB{a e:Expr}{d:TE}{g:TG}(k:PE X e d)(m:PG X a g)(hs:Pf [a] e pos.line X.env=pure TZ:=by rfl)(f:Pg [a] e X.env=pure TU:=by rfl)
  (o:(Oy [a] X.env).map (·.2)=[Pu a X.env]:=by rfl):PS X (.Assign [a] e pos) (AL d g):=by
 intro c s Z H D I h;show wpAny_Assign_stores (thn (k c s Z H _ I h) λv j ⟨x,i,r,p,l⟩=>?_) hs f;rw[o];show thn (m c j Z i x v _ r p l) λ_ t q=>q
def DG{i:Nat}{x:Str}{e:Expr}{c:TE}{a:Pos}(j:X.N.Nodup)(hi:X.N[i]?*>x)(g:Loc X.env.scope x)(l:PE X e c)(hs:O9 e (TV (.Name x a)) pos.line X.env=pure TZ:=by rfl)(m:X.fn x=T1\/X.env.scope.names.lookup x*>.local:=by first|show .inl rfl|show .inr rfl|assumption) :
  PS X (.Assign [.Name x a] e pos) (AL c (l6 i)):=by
 intro d s Z H D I h;show wpAny_Assign_Name (thn (l d s Z H _ I h) λv t ⟨y,k,q,p,o⟩=>?_) hs;show cf q j hi g p (λr f=>{_,k,f,o}) m
abbrev GO(i j:Nat)(a:TA):TS:=λD Z H=>a Z H λvs c=>∃v w,vs=[v,w]/\D.nx ((Z.set i (TV v)).set j (TV w)) c
def DE{i j:Nat}{x y:Str}{a b:Expr}{z:TA}{m py pt:Pos}{kt k2 pt2}(hc:X.calm=T1)(B:X.N.Nodup)(hi:X.N[i]?*>x)(hj:X.N[j]?*>y)(r:i≠j)
  (G:X.env.scope.names.lookup x*>.local) (K:X.env.scope.names.lookup y*>.local) (O:PA X [a,b] z)
  (U:Pg [.Tuple [.Name x m,.Name y py] kt pt] (.Tuple [a,b] k2 pt2) X.env=pure (TV [x,y]))
  (hs:Pf [.Tuple [.Name x m,.Name y py] kt pt] (.Tuple [a,b] k2 pt2) pos.line X.env=pure TZ:=by rfl) :
  PS X (.Assign [.Tuple [.Name x m,.Name y py] kt pt] (.Tuple [a,b] k2 pt2) pos) (GO i j z):=by
 intro u s Z H D I h;rw[Sg];show NA (OO ?_);rw[hs];show NA (ND ?_);rw[if_neg (by decide)];show NA (Tuple_ (thn (O _ u s Z H _ I h) λus f Q=>?_));have(vs,J,Y,r1,l):=Q;obtain⟨v,w,S,l⟩:=l;subst S;obtain⟨g,d,rfl,rv,t⟩:∃g d,us=[g,d]/\RelV v g/\RelV w d:=by
  cases r1 with
  | cons p q=>
   cases q with
   | cons P q'=>
    cases q';show{_,_,Xr,p,P}
 show NT ?_ (by change 2<=sizeLine;decide);have M:Inv X u Z J {f with heap:=f.heap.push {cls:=.type "tuple",data:=.seq [g,d].toArray}}:=Y.kept (t':=f.toks) λb o e=>NB _ e;rw[U];show NA (ND ?_);change NF (NK X.prog X.w) X.A (do rule "assign.swapped-stores";let c <-unpackItems (.ref f.heap.objs.size) 2 TU;PD [λv=>OZ X.env y v,λv=>OZ X.env x v] c.reverse;pure R1) _ _ _;show NA (P6 (NA (RM (items:=#[g,d]) (I.ok.hd hc) (TN f.heap _) λC k=>?_)));have I3:=M.kept (h':=C) (t':=f.toks) λb o e=>k b o (Is (NG e)) e;change NF _ _ (PD [λv=>OZ X.env y v,λv=>OZ X.env x v] [d,g] >>= λ_=>pure R1) _ _ _;show NA (OC (O5 (cf I3 B hj (.inl K) t (λs2 I4=>?_) (.inr K))));show OC (O5 (cf I4 B hi (.inl G) rv (λs3 E=>Qi (ND ?_)) (.inr G)));rw[K7 _ _ (NS r)]at E;show{_,J,E,l}
abbrev GJ(i:Nat)(a:TE)(d:TIp):TS:=λD Z H=>∃x,Z[i]?*>(TV x)/\a Z H λy e=>d x y e λz c=>D.nx (Z.set i (TV z)) c
def DC{i:Nat}{x:Str}{e:Expr}{B:TE}{op:SC}{C:TIp}{f:Pos}(K:X.N.Nodup)(hi:X.N[i]?*>x)(q:Loc X.env.scope x)(he:PE X e B)(ho:PIp X op C)(hf:X.fn x=T1\/X.env.scope.names.lookup x*>.local:=by first|show .inl rfl|show .inr rfl|assumption) :
  PS X (.AugAssign (.Name x f) op e pos) (GJ i B C):=by
 intro o s Z H D I h;obtain⟨v,P,h⟩:=h;obtain⟨m,hn,hl⟩:=I.loc;have t:Vis X.env.scope x:=by rcases q with k|k;show .inl k;show .inr (.inl k)
 obtain⟨u,r,l⟩:=hl i x v hi P t;show wpAny_AugAssign_Name ?_;have E:NF (NK X.prog X.w) X.A (eval e X.env) (λw j=>NF (NK X.prog X.w) X.A (inplaceOp op u w) (λr g=>NF (NK X.prog X.w) X.A (SY X.env x r) (λ_=>SP X o D .next) X.xe g) X.xe j) X.xe s:=by
  show thn (he o s Z H _ I h) λw L p=>?_;have(y,H1,Q,r1,O):=p;show thn (ho o L Z H1 v y u w _ Q r r1 O) λz s2 p=>?_;have(zv,M,J,S,Y):=p;show cf J K hi q S (λs3 U=>{_,M,U,Y}) hf
 rcases l with⟨a,G⟩|⟨a,c,hc,d⟩;show Q7 I.ok.kind a hn G E
 .rcases a with a|a;show Rn I.ok.kind a hc d E
  .rcases q with k|k
   .have:X.env.scope.names.lookup x*>.free:=a;rw[k]at this;cases this
   .have:X.env.scope.names.lookup x*>.free:=a;rw[k]at this;cases this
abbrev ipI(f:Int->Int->Int):TIp:=λx y H Q=>∃i j,x=.int i/\y=.int j/\Q (.int (f i j)) H
def Ct:PIp X .Sub (ipI λi j=>i-j):=by
 intro f s Z H x y v u Q I d e h;have(i,j,c,a,q):=h;subst c;subst a;have(t,rfl):=d;have(g,rfl):=e;show isub_int {.int _,H,I.tok _,{_,Xr},q}
end
section
variable {X:Cx}{pos:Pos}
abbrev yo(c:TT)(g:TS):TS:=λD Z H=>∃W:Nat->St->Hp->Prop,(∃m,W m Z H)/\∀m Z H,W m Z H ->
 c Z H λb f=>if b=T1 then∃N:St->Hp->Prop,(∀e d,N e d->∃a,a<m/\W a e d)/\g {D with nx:=N,ct:=N,bk:=D.nx} Z f else D.nx Z f
def wZ{c:Expr}{a:!Stmt}{C:TT}{u:TS}(hp:Qw (NK X.prog X.w) X.A X.env X.xe)(O:PT X c C)(G:PSs X a u):PS X (.While c a [] pos) (yo C u):=by
 intro m s Z H D I h;obtain⟨W,⟨Q,L⟩,g⟩:=h;show wpAny_While (codeAny_whileLoop (λn P=>∃x E,Inv X m x E P/\W n x E) ?_ Q ⟨Z,H,I,L⟩);rintro n J ⟨k,B,K,w1⟩;show OG hp (thn (O m J k B _ K (g n k B w1)) λb M ⟨z,t,i⟩=>?_);cases b with
 | true=>
  obtain⟨N,y,i⟩:=i;rw[if_pos rfl];show OG hp (thn (G m M k z _ t i) λf S j=>?_);cases f with
  | next=>
   have(d,e,p,r):=j;have(o,l,q):=y d e r;show⟨o,l,d,e,p,q⟩
  | cont=>
   have(d,e,p,r):=j;have(o,l,q):=y d e r;show⟨o,l,d,e,p,q⟩
  | brk=>show j
  | ret v=>show j
 | false=>
  rw[if_neg Il];show PN ⟨k,z,t,i⟩
end
structure It where
 go:Nat->Hp->Prop
 yld:Nat->Hp->V->Hp->Prop
 stop:Nat->Hp->Prop
abbrev eK(X:Cx)(a:!(Addr×Obj))(H:Hp)(b:Addr):Prop:=
 H b=TU/\b≠X.env.locals/\b∉X.fs/\(b∈X.ex\/X.s₀.heap.objs.size<=b)/\(∀x c,X.env.cells.lookup x*>c->c≠b)/\∀p∈X.pn++a,p.1≠b
def Inv.fpOk{X:Cx}{d:!(Addr×Obj)}{Z:St}{H H':Hp}{s:NC}{b:Addr}(I:Inv X d Z H s)(a:s.heap.objs.size<=b)(g:H' b=TU):eK X d H' b:=by
 show{g,JI (Iq I.lt a),I.nofs a,.inr (Ik I.sz a),λx c e z=>?_,λp f z=>?_}
 .have(v,q):=I.cell x c e;show absurd (Iq q.lt (by rw[z];show a)) (Jq _)
 .show absurd (Iq (NG (I.pin p f).1) (by rw[z];show a)) (Jq _)
structure Np(P:NM)(w:NP)(K:yF)(tg:Expr)(J:It)(fp:!Addr)(it:Addr)(tn:Nat->Heap->Prop):Prop where
 mem:it∈fp
 obj:∀i h,tn i h->∀b∈fp,∃o,h.get? b*>o/\∀v,o.data ≠ .cell v
 keep:∀i h h',tn i h->(∀b∈fp,∀o,h.get? b*>o->h'.get? b*>o)->tn i h'
 item:∀(X:Cx),X.prog=P->X.w=w->X.K=K->X.calm=T1->∀(i:Nat) (OK:!(Addr×Obj)) (s:NC) (Z:St) (H:Hp) (E:Nz->NC->Prop),Inv X OK Z H s->(∀b∈fp,eK X OK H b)->tn i s.heap->J.go i H ->
  NF (NK P w) X.A (QK (.ref it)) (λr s1=>∃u,r*>u /\
   NF (NK P w) X.A (Pk tg (.ref it) u) (λ_ s2=>∃x H',Inv X OK Z H' s2/\RelV x u/\J.yld i H x H'/\tn (i+1) s2.heap/\∀b∈fp,H' b=TU) E s1) E s
 done:∀(X:Cx),X.prog=P->X.w=w->X.K=K->X.calm=T1->∀(i:Nat) (OK:!(Addr×Obj)) (s:NC) (Z:St) (H:Hp) (E:Nz->NC->Prop),Inv X OK Z H s->(∀b∈fp,eK X OK H b)->tn i s.heap->J.stop i H ->
  NF (NK P w) X.A (QK (.ref it)) (λr s1=>r=TU/\Inv X OK Z H s1) E s
 self:∀(A:NU) (i:Nat) (s:NC) (Q:Nz->NC->Prop) (E:Nz->NC->Prop),tn i s.heap->Q (.ref it) s->NF (NK P w) A (SD (.ref it)) Q E s
protected def TI:=St->Hp->(It->Hp->Prop)->Prop
abbrev PIE(X:Cx)(d:!(Addr×Obj))(Z:St)(h:Expr)(R:It->Hp->Prop)(a:Nz)(f:NC):Prop:=
 ∃(it:Addr) (e:!Addr) (g:Nat->Heap->Prop) (J:It) (c:Hp),a=.ref it/\Inv X d Z c f/\Np X.prog X.w X.K h J e it g/\g 0 f.heap/\(∀b∈e,eK X d c b)/\R J c
abbrev PI(X:Cx)(e iter:Expr)(c:TI):Prop:=
 ∀(a:!(Addr×Obj)) (s:NC) (Z:St) (H:Hp) (R:It->Hp->Prop),Inv X a Z H s->c Z H R ->
  NF (NK X.prog X.w) X.A (eval iter X.env) (λv d=>NF (NK X.prog X.w) X.A (SD v) (PIE X a Z e R) X.xe d) X.xe s
def ol{M:To}{A:NU}{E:Nz->NC->Prop}{s:NC}{c:Expr}{it:Addr}{u:Nz}{o:Obj}{n:String}{vs:Array Nz}{Q:Unit->NC->Prop}(ho:s.heap.get? it*>o)(d:o.cls=.type n)(e:o.data=.fields vs)
  (f:["enumerate","zip","dict_itemiterator","dict_reverseitemiterator","odict_iterator","itertools.zip_longest","itertools.pairwise"].contains n=TZ) (a:Q () s):NF M A (Pk c (.ref it) u) Q E s:=by
 unfold Pk;cases c<;>first
  | show ND a
  | (cases u<;>first
    | show ND a
    | (refine NA (wpAny_load ho ?_)
       rw[d,e];change NF M A (if(["enumerate","zip","dict_itemiterator","dict_reverseitemiterator","odict_iterator","itertools.zip_longest","itertools.pairwise"].contains n&&vs[0]? == TV (Pe _))=T1 then _ else _) Q E s;rw[if_neg (by intro h;rw[f,Bool.false_and]at h;cases h)];show ND a))
abbrev Itl(K:yF) (a:Addr):It:=
 {λi H=>∃c x,SqL K H a c/\c[i]?*>x,λi H x d=>d=H/\∀c,SqL K H a c->c[i]?*>x,λi H=>∃c,SqL K H a c/\c.length<=i}
abbrev Itt(K:yF) (a:Addr):It:=
 {λi H=>∃c x,SqT K H a c/\c[i]?*>x,λi H x d=>d=H/\∀c,SqT K H a c->c[i]?*>x,λi H=>∃c,SqT K H a c/\c.length<=i}
abbrev Itr(lo:Int) (n:Nat):It:={λi _=>i<n,λi H x a=>a=H/\x=.int (lo+i),λi _=>n<=i}
def uD{P:NM}{w:NP}{K:yF}{tg:Expr}(a it:Addr):Np P w K tg (Itl K a) [it] it (λi h=>h.IsListIter it a i) where
 mem:=by simp
 obj:=λi h st b hb=>by
  have e:b=it:=by exists hb
  subst e;have(o,e,c,d):=st;show{o,e,λv z=>by rw[d]at z;cases z}
 keep:=λi h h' st k=>st.at λo e=>k it ∅ o e
 item:=by
  intro X hP hw hK hc i OK s Z H E I hf st hg;subst hP hw hK;have(xs,x,hq,hx):=hg;have(its,rv,p,hz):=I.list hq;have(u,hu,ru):=rv.get hx;have(f0,f1,f2,f3,f4,f5):=hf it ∅;show wpAny_pyNext_list_item st p.isList (x:=u) (by exists hu) λh' st' sb=>?_;have I1:Inv X OK Z H {s with heap:=h'}:=I.turned (t':=s.toks) (λb o hb e=>(sb.2 b hb).trans e) f0 f1 f3 f4 f5;have(o,e,c,d):=id st';show{u,Xr,ol (s:={s with heap:=h'}) e c d (by decide) {x,H,I1,ru,{Xr,λys hy=>by rw[I.list_inj hy hq];show hx},st',λb hb=>(hf b hb).1}}
 done:=by
  intro X hP hw hK hc i OK s Z H E I hf st hg;subst hP hw hK;have(xs,hq,hx):=hg;have(its,rv,p,hz):=I.list hq;have(f0,f1,f2,f3,f4,f5):=hf it ∅;have hl:=rv.length;show wpAny_pyNext_list_end (I.ok.hd hc) st p.isList (by simp;lia) λh' eb=>{Xr,I.turned (t':=s.toks) (λb o hb e=>eb b o hb e) f0 f1 f3 f4 f5}
 self:=λ_ _ _ _ _ st h=>wpAny_pyIter_listiter st h
def qP{P:NM}{w:NP}{K:yF}{tg:Expr}(a it:Addr):Np P w K tg (Itt K a) [it] it (λi h=>h.IsTupleIter it a i) where
 mem:=by simp
 obj:=λi h st b hb=>by
  have e:b=it:=by exists hb
  subst e;have(o,e,c,d):=st;show{o,e,λv z=>by rw[d]at z;cases z}
 keep:=λi h h' st k=>st.at λo e=>k it ∅ o e
 item:=by
  intro X hP hw hK hc i OK s Z H E I hf st hg;subst hP hw hK;have(xs,x,hq,hx):=hg;have(its,rv,p,hz):=I.tuple hq;have(u,hu,ru):=rv.get hx;have(f0,f1,f2,f3,f4,f5):=hf it ∅;show wpAny_pyNext_tuple_item st (show s.heap.IsTuple a its.toArray from p) (x:=u) (by exists hu) λh' st' sb=>?_;have I1:Inv X OK Z H {s with heap:=h'}:=I.turned (t':=s.toks) (λb o hb e=>(sb.2 b hb).trans e) f0 f1 f3 f4 f5;have(o,e,c,d):=id st';show{u,Xr,ol (s:={s with heap:=h'}) e c d (by decide) {x,H,I1,ru,{Xr,λys hy=>by rw[I.tuple_inj hy hq];show hx},st',λb hb=>(hf b hb).1}}
 done:=by
  intro X hP hw hK hc i OK s Z H E I hf st hg;subst hP hw hK;have(xs,hq,hx):=hg;have(its,rv,p,hz):=I.tuple hq;have(f0,f1,f2,f3,f4,f5):=hf it ∅;have hl:=rv.length;show wpAny_pyNext_tuple_end (I.ok.hd hc) st (show s.heap.IsTuple a its.toArray from p) (by simp;lia) λh' eb=>{Xr,I.turned (t':=s.toks) (λb o hb e=>eb b o hb e) f0 f1 f3 f4 f5}
 self:=λ_ _ _ _ _ st h=>wpAny_pyIter_tupleiter st h
def qO{P:NM}{w:NP}{K:yF}{tg:Expr}(it:Addr)(lo:Int)(n:Nat):Np P w K tg (Itr lo n) [it] it (λi h=>IsRangeIter h it (lo+(i:Nat)*1) ((n:Int)-(i:Nat)) 1) where
 mem:=by simp
 obj:=λi h st b hb=>by
  have e:b=it:=by exists hb
  subst e;show⟨_,st,λv z=>by
   have z':Tp _=Data.cell v:=z;cases z'⟩
 keep:=λi h h' st k=>k it ∅ _ st
 item:=by
  intro X hP hw hK hc i OK s Z H E I hf st hg;subst hP hw hK;have(f0,f1,f2,f3,f4,f5):=hf it ∅;have W:=Tq.range (prog:=X.prog) (w:=X.w) (I.ok.hd hc) it lo 1 n;show W.item i s _ _ hg st λv h' tk hv st' kk=>?_;have(t,rfl):=hv;have I1:Inv X OK Z H {s with heap:=h',toks:=tk}:=I.turned (λb o hb e=>kk b o (by exists hb) e) f0 f1 f3 f4 f5;show{_,Xr,ol (s:={s with heap:=h',toks:=tk}) (n:="range_iterator") st' rfl rfl (by decide) {.int (lo+i),H,I1,{t,?_},⟨Xr,Xr⟩,st',λb hb=>(hf b hb).1}};rw[Int.mul_one]
 done:=by
  intro X hP hw hK hc i OK s Z H E I hf st hg;subst hP hw hK;have(f0,f1,f2,f3,f4,f5):=hf it ∅;show wpAny_pyNext_range_end (I.ok.hd hc) st (by have:n<=i:=hg;lia) λh' eb=>{Xr,I.turned (t':=s.toks) (λb o hb e=>eb b o hb e) f0 f1 f3 f4 f5}
 self:=λ_ _ _ _ _ st h=>wpAny_pyIter_rangeiter st h
section
variable {X:Cx}{tg:Expr}
def o5{c:!(Addr×Obj)}{Z:St}{H:Hp}{s:NC}{R:It->Hp->Prop}{E:Nz->NC->Prop}{lo hi:Int}{t u v:Tok}{d:Nat}(I:Inv X c Z H s)(k : -(2^62)<=lo)(l:lo<2^62)(j : -(2^62)<=hi)(i:hi<2^62)
  (q:R (Itr lo (hi-lo).toNat) H):NF (NK X.prog X.w) X.A (SD (.ref s.heap.objs.size)) (PIE X c Z tg R) E {s with heap:=s.heap.push {cls:=.type "range",data:=.fields #[.int lo t,.int hi u,.int 1 v]},toks:=d}:=by
 show wpAny_pyIter_range (IsRange.new ..) (small_one k l j i) ?_;have f:Inv X c Z H {s with heap:=s.heap.push {cls:=.type "range",data:=.fields #[.int lo t,.int hi u,.int 1 v]},toks:=d}:=I.kept λb o e=>NB _ e;show{(s.heap.push {cls:=.type "range",data:=.fields #[.int lo t,.int hi u,.int 1 v]}).objs.size,[(s.heap.push {cls:=.type "range",data:=.fields #[.int lo t,.int hi u,.int 1 v]}).objs.size],_,_,H,Xr,
  f.kept (t':=d) λb o e=>NB _ e,qO _ lo (hi-lo).toNat,?_,λb h=>?_,q}
 .have m:lo+((0:Nat):Int)*1=lo:=by simp
  have g:(((hi-lo).toNat:Nat):Int)-((0:Nat):Int)=SZ lo hi 1:=by rw[rangeSize_one];split<;>lia
  change IsRangeIter _ _ (lo+((0:Nat):Int)*1) ((((hi-lo).toNat:Nat):Int)-((0:Nat):Int)) 1;rw[m,g];show NI _ rfl
 .have e:b=(s.heap.push {cls:=.type "range",data:=.fields #[.int lo t,.int hi u,.int 1 v]}).objs.size:=by exists h
  subst e;show f.fpOk (Ig _) (f.hok.fresh (Ig _))
abbrev Bl(a:TA):TI:=λZ H R=>a Z H λvs c=>∃j:Int,vs=[.int j]/\-(2^62)<=j/\j<2^62/\R (Itr 0 j.toNat) c
abbrev Bm(a:TA):TI:=λZ H R=>a Z H λvs c=>∃i j:Int,vs=[.int i,.int j]/\(-(2^62)<=i/\i<2^62/\-(2^62)<=j/\j<2^62)/\R (Itr i (j-i).toNat) c
def tZ{a:Expr}{d:TA}{p pos:Pos}(l:Gl X "range")(f:X.mg "range" = TU)(i:PA X [a] d)(hs:NR [a] X.env=[(TZ,eval a X.env)]:=by rfl):PI X tg (.Call (.Name "range" p) [a] [] pos) (Bl d):=by
 intro g s Z H R I h;show TK (fQ I l f boot_range (I9 (thn (i pos g s Z H _ I h) λx w ⟨vs,v,u,o,c⟩=>?_) hs rfl));obtain⟨j,e,c,m,q⟩:=c;subst e;cases o with
 | cons r k=>
  cases k;obtain⟨t,rfl⟩:=r;show call_range_1 (o5 u (by lia) (by lia) c m (by exists q))
def t5{a b:Expr}{g:TA}{p pos:Pos}(x:Gl X "range")(k:X.mg "range" = TU)(m:PA X [a,b] g)(hs:NR [a,b] X.env=[(TZ,eval a X.env),(TZ,eval b X.env)]:=by rfl)(c:NR [b] X.env=[(TZ,eval b X.env)]:=by rfl) :
  PI X tg (.Call (.Name "range" p) [a,b] [] pos) (Bm g):=by
 intro l s Z H R I h;show TK (fQ I x k boot_range (I9 (thn (m pos l s Z H _ I h) λE A ⟨vs,C,u,z,f⟩=>?_) (by rw[hs,c]) (by rw[c];rfl)));obtain⟨i,j,e,⟨f,y,w,v⟩,q⟩:=f;subst e;cases z with
 | cons r d=>
  cases d with
  | cons o d=>
   cases d;have(t,rfl):=r;have(B,rfl):=o;show call_range_2 (o5 u f y w v q)
abbrev GK(e:TI)(g:TG)(f:TS):TS:=λD Z H=>e Z H λJ h=>∃W:Nat->Nat->St->Hp->Prop,(∃m,W 0 m Z h)/\∀i m Z H,W i m Z H ->
 (J.stop i H/\D.nx Z H)\/(J.go i H/\∃N:St->Hp->Prop,(∀c a,N c a->∃d,d<m/\W (i+1) d c a)/\∀x a,J.yld i H x a->g x Z a λk j=>f {D with nx:=N,ct:=N,bk:=D.nx} k j)
abbrev eg(a:!Addr) (h:Heap):!(Addr×Obj):=a.filterMap λb=>(h.get? b).map λo=>(b,o)
def iT{a:!Addr}{h:Heap}{b:Addr}{o:Obj}(c:b∈a)(e:h.get? b*>o):(b,o)∈eg a h:=Kk.mpr {b,c,by rw[e];rfl}
def tT{a:!Addr}{h:Heap}{p:Addr×Obj}(hp:p∈eg a h):p.1∈a/\h.get? p.1*>p.2:=by
 have(b,d,e):=Kk.mp hp;cases q:h.get? b with
 | none=>rw[q]at e;cases e
 | some o=>
  rw[q]at e;have c:(b,o)=p:=IC.inj e;subst c;show⟨d,q⟩
def Inv.pinned{a:!(Addr×Obj)}{Z:St}{H:Hp}{s:NC}{c:!Addr}(I:Inv X a Z H s)(j:∀b∈c,eK X a H b)(ho:∀b∈c,∃o,s.heap.get? b*>o/\∀v,o.data ≠ .cell v):Inv X (a++eg c s.heap) Z H s:=
 I.pins_of λp i=>(yaM i).elim (λz=>I.pin p (yaR _ z)) λz=>by
  have(g,e):=tT z;have(h,k,l,_):=j p.1 g;have(o,f,d):=ho p.1 g;rw[e]at f;cases f;show⟨e,h,k,l,d⟩
def Inv.unpinned{a pl:!(Addr×Obj)}{Z:St}{H:Hp}{s:NC}(I:Inv X (a++pl) Z H s):Inv X a Z H s:=I.pins_of λp c=>I.pin p (yaR _ (yaL _ c))
def DD{iter:Expr}{t:!Stmt}{wi:TI}{g:TG}{tb:TS}{pos:Pos}(hp:Qw (NK X.prog X.w) X.A X.env X.xe)(hc:X.calm=T1)(hi:PI X tg iter wi)(hg:PG X tg g)(a:PSs X t tb)
  (hs:∀x,OH iter X.env x=pure x:=by intro _;rfl):PS X (.For tg iter t [] pos) (GK wi g tb):=by
 intro y s Z H D I h;show wpAny_For (thn (hi y s Z H _ I h) λv s1 h1=>thn h1 λitv s2 h2=>?_) hs;obtain⟨it,G,tn,J,H2,e,I2,T,st2,f2,W,⟨m0,w0⟩,K⟩:=h2;subst e;have j:∀{p:Hp},(∀b∈G,p b=TU)->∀b∈G,eK X y p b:=λhn b a=>{hn b a,(f2 b a).2};show codeAny_forLoop_any (λn s'=>∃i B p,Inv X y B p s'/\tn i s'.heap/\(∀b∈G,p b=TU)/\W i n B p) ?_ m0 {0,Z,H2,I2,st2,λb a=>(f2 b a).1,w0};rintro n s3 ⟨i,E,P,I3,C,O,w3⟩;rcases K i n E P w3 with⟨L,qn⟩|⟨go,N,hN,step⟩
 .show OG hp (thn (T.done X rfl rfl rfl hc i y s3 E P X.xe I3 (j O) C L) λr s4 ⟨S,I4⟩=>?_);subst S;show PN ⟨E,P,I4,qn⟩
 .show OG hp (thn (T.item X rfl rfl rfl hc i y s3 E P X.xe I3 (j O) C go) λr s4 ⟨u,S,h4⟩=>?_);subst S;show OG hp (thn h4 λ_ s5 z9=>?_);have(x,H5,I5,r5,y5,z,Q):=z9;have Y:=I5.pinned (j Q) (T.obj _ _ z);show OG hp (thn (hg _ s5 E H5 x u _ Y r5 (step x H5 y5)) λ_ s6 ⟨Z6,H6,I6,q6⟩=>?_);show OG hp (thn (a _ s6 Z6 H6 _ I6 q6) λf U q=>?_);have again:∀{l:St} {k:Hp},Inv X (y++eg G s5.heap) l k U->N l k->∃m,m<n/\∃i B p,Inv X y B p U/\tn i U.heap/\(∀b∈G,p b=TU)/\W i m B p:=λ{l k} c M=>by
   have(m',hm,w7):=hN l k M;show{m',hm,i+1,l,k,c.unpinned,T.keep _ _ _ z λb a o e=>(c.pin (b,o) (yaR _ (yaR _ (iT a e)))).1,λb a=>?_,w7};have(o,e,d):=T.obj _ _ z b a;show(c.pin (b,o) (yaR _ (yaR _ (iT a e)))).2.1
  cases f with
  | next=>have(l,k,c,M):=q;show again c M
  | cont=>have(l,k,c,M):=q;show again c M
  | brk=>obtain⟨l,k,c,q⟩:=q;show⟨l,k,c.unpinned,q⟩
  | ret v=>obtain⟨x7,l,k,c,r7,q⟩:=q;show⟨x7,l,k,c.unpinned,r7,q⟩
end
protected def R2:=V->V->Hp->VK->Prop
abbrev OpR(X:Cx)(f:Nz->Nz->Sem Nz)(r:R2):Prop:=
 ∀(a:!(Addr×Obj)) (s:NC) (Z:St) (H:Hp) (x y:V) (v u:Nz) (Q:VK),Inv X a Z H s->RelV x v->RelV y u->r x y H Q ->
  NF (NK X.prog X.w) X.A (f v u) (EP X a Z Q) X.xe s
abbrev UnR(X:Cx)(f:Nz->Sem Nz)(r:V->Hp->VK->Prop):Prop:=
 ∀(a:!(Addr×Obj)) (s:NC) (Z:St) (H:Hp) (x:V) (v:Nz) (Q:VK),Inv X a Z H s->RelV x v->r x H Q ->
  NF (NK X.prog X.w) X.A (f v) (EP X a Z Q) X.xe s
abbrev MU(X:Cx)(f:Nz)(r:!V->Hp->VK->Prop):Prop:=
 ∀(c:!(Addr×Obj)) (s:NC) (Z:St) (H:Hp) (a:!V) (d:!Nz) (Q:VK),Inv X c Z H s->Vals a d->r a H Q ->
  NF (NK X.prog X.w) X.A (call f d) (EP X c Z Q) X.xe s
abbrev Hm(X:Cx)(r:V->Hp->(Bool->Hp->Prop)->Prop):Prop:=
 ∀(a:!(Addr×Obj)) (s:NC) (Z:St) (H:Hp) (x:V) (v:Nz) (Q:Bool->Hp->Prop),Inv X a Z H s->RelV x v->r x H Q ->
  NF (NK X.prog X.w) X.A (SB v) (TP X a Z Q) X.xe s
abbrev tOp(r:R2)(d c:TE):TE:=λZ H Q=>d Z H λx e=>c Z e λy a=>r x y a Q
abbrev tUn(r:V->Hp->VK->Prop)(a:TE):TE:=λZ H Q=>a Z H λx c=>r x c Q
abbrev rI(C:Int->Int->Prop)(g:Int->Int->V):R2:=λx y H Q=>∃i j,x=.int i/\y=.int j/\C i j/\Q (g i j) H
abbrev rI0(g:Int->Int->V):R2:=λx y H Q=>∃i j,x=.int i/\y=.int j/\Q (g i j) H
abbrev rU(g:Int->V):V->Hp->VK->Prop:=λx H Q=>∃i,x=.int i/\Q (g i) H
section
variable {X:Cx}{a b c:Expr}{ta tb tc:TE}{pos:Pos}
def B6(o:PE X a ta)(p:PE X b tb){i:!(Addr×Obj)}{s:NC}{Z:St}{H:Hp}{R:V->V->Hp->Prop}(I:Inv X i Z H s)
  (h:ta Z H λx k=>tb Z k λy d=>R x y d) {Q:Nz->NC->Prop} {f:Nz->Nz->Sem Nz}
  (z:∀v u j x y d,Inv X i Z d j->RelV x v->RelV y u->R x y d->NF (NK X.prog X.w) X.A (f v u) Q X.xe j) :
  NF (NK X.prog X.w) X.A (eval a X.env) (λv e=>NF (NK X.prog X.w) X.A (eval b X.env) (λu g=>NF (NK X.prog X.w) X.A (f v u) Q X.xe g) X.xe e) X.xe s:=by
 show thn (o i s Z H _ I h) λv q l=>?_;have(x,k,r,C,t):=l;show thn (p i q Z k _ r t) λu j l=>?_;have(y,d,m,E,B):=l;show z v u j x y d m C E B
def F9{op:SC}{r:R2}(ho:OpR X (Og op) r)(f:PE X a ta)(j:PE X b tb):PE X (.BinOp a op b pos) (tOp r ta tb):=by
 intro d s Z H Q I h;show wpAny_BinOp (B6 f j I h λv u g x y l e i k q=>ho d g Z l x y v u Q e i k q)
def wt{op:UnaryOp}{r:V->Hp->VK->Prop}(ho:UnR X (unaryOp op) r)(f:PE X a ta):PE X (.UnaryOp op a pos) (tUn r ta):=by
 intro d s Z H Q I h;show UnaryOp_ (thn (f d s Z H _ I h) λv e ⟨x,j,k,i,g⟩=>ho d e Z j x v Q k i g)
def opI{f:Nz->Nz->Sem Nz}{C:Int->Int->Prop}{g:Int->Int->Int}
  (rule:∀(i j:Int) (t u:Tok) (s:NC) (Q:Nz->NC->Prop) (E:Nz->NC->Prop),C i j->Q (.int (g i j) s.toks) {s with toks:=s.toks+1}->NF (NK X.prog X.w) X.A (f (.int i t) (.int j u)) Q E s) :
  OpR X f (rI C λi j=>.int (g i j)):=by
 intro o s Z H x y v u Q I k m h;have(i,j,rfl,rfl,l,q):=h;have(t,rfl):=k;have(e,rfl):=m;show rule i j t e s _ _ l {.int (g i j),H,I.tok _,{_,Xr},q}
def FE{f:Nz->Nz->Sem Nz}{g:Int->Int->Int}
  (rule:∀(i j:Int) (t u:Tok) (s:NC) (Q:Nz->NC->Prop) (E:Nz->NC->Prop),Q (.int (g i j) s.toks) {s with toks:=s.toks+1}->NF (NK X.prog X.w) X.A (f (.int i t) (.int j u)) Q E s) :
  OpR X f (rI0 λi j=>.int (g i j)):=by
 intro m s Z H x y v u Q I k l h;have(i,j,rfl,rfl,q):=h;have(t,rfl):=k;have(e,rfl):=l;show rule i j t e s _ _ {.int (g i j),H,I.tok _,{_,Xr},q}
def CO{f:Nz->Nz->Sem Nz}{g:Int->Int->Bool}
  (rule:∀(i j:Int) (t u:Tok) (s:NC) (Q:Nz->NC->Prop) (E:Nz->NC->Prop),Q (.bool (g i j)) s->NF (NK X.prog X.w) X.A (f (.int i t) (.int j u)) Q E s) :
  OpR X f (rI0 λi j=>.bl (g i j)):=by
 intro l s Z H x y v u Q I e k h;have(i,j,rfl,rfl,q):=h;have(t,rfl):=e;have(d,rfl):=k;show rule i j t d s _ _ {.bl (g i j),H,I,Xr,q}
abbrev Hk(i j:Int):Prop:=0<j/\j<1073741824
abbrev BZ(i j:Int):Prop:=0<=j/\j<=1000000/\i.natAbs<2^64
abbrev Nt(i j:Int):Prop:=(-(2^64)<i/\i<2^64)\/(-(2^64)<j/\j<2^64)
def Nt.ok{i j:Int}(h:Nt i j):IntMulOk i j:=by
 rcases h with⟨d,e⟩|⟨d,e⟩;show .of_left (intBits_le_64 d e);show .of_right (intBits_le_64 d e)
def op_add:OpR X (Og .Add) (rI0 λi j=>.int (i+j)):=FE λ_ _ _ _ _ _ _ q=>add_int q
def C5:OpR X (Og .Sub) (rI0 λi j=>.int (i-j)):=FE λ_ _ _ _ _ _ _ q=>sub_int q
def op_mul:OpR X (Og .Mult) (rI Nt λi j=>.int (i*j)):=opI λ_ _ _ _ _ _ _ d q=>mul_int q d.ok
def op_fdiv:OpR X (Og .FloorDiv) (rI Hk λi j=>.int (i / j)):=opI λi j _ _ _ _ _ d q=>by
 have e:(0:Int)<j:=d.1;have f:j<1073741824:=d.2;show floordiv_int (by lia) (by rw[KU i (by lia)];show q) (.inl (PyProof.noPylong_small (by lia)))
def CY:OpR X (Og .Mod) (rI (λ_ j=>0<j) λi j=>.int (i % j)):=opI λi j _ _ _ _ _ d q=>by
 have e:(0:Int)<j:=d;show mod_int' (by lia) (by rw[Int.fmod_eq_emod_of_nonneg i (by lia)];show q)
def C4:OpR X (Og .Pow) (rI BZ λi j=>.int (i^j.toNat)):=opI λ_ _ _ _ _ _ _ d q=>pow_int_small d.1 d.2.1 d.2.2 q
def unI{f:Nz->Sem Nz}{g:Int->Int}
  (rule:∀(i:Int) (t:Tok) (s:NC) (Q:Nz->NC->Prop) (E:Nz->NC->Prop),Q (.int (g i) s.toks) {s with toks:=s.toks+1}->NF (NK X.prog X.w) X.A (f (.int i t)) Q E s) :
  UnR X f (rU λi=>.int (g i)):=by
 intro j s Z H x v Q I e h;have(i,rfl,q):=h;have(t,rfl):=e;show rule i t s _ _ {.int (g i),H,I.tok _,{_,Xr},q}
def qR:UnR X (unaryOp .USub) (rU λi=>.int (-i)):=unI λ_ _ _ _ _ q=>neg_int q
end
abbrev xZ:V->V->Bool
 | .non,.non=>T1|.non,.int _=>T1|.int _,.non=>T1|.non,.bl _=>T1|.bl _,.non=>T1|.non,.str _=>T1|.str _,.non=>T1
 | .int _,.int _=>T1|.bl _,.bl _=>T1|.str _,.str _=>T1|.byt _,.byt _=>T1
 | .int _,.str _=>T1|.str _,.int _=>T1|.bl _,.str _=>T1|.str _,.bl _=>T1
 | _,_=>TZ
abbrev rEq:R2:=λx y H Q=>xZ x y=T1/\Q (.bl (decide (x=y))) H
abbrev rNe:R2:=λx y H Q=>xZ x y=T1/\Q (.bl (~~~decide (x=y))) H
def rj{i j:Int}:decide (V.int i=V.int j)=(i==j):=by
 rw[Jl];simp
def u4{i j:Bool}:decide (V.bl i=V.bl j)=(i==j):=by
 rw[Jl];simp
def rk{i j:Str}:decide (V.str i=V.str j)=(i==j):=by
 rw[Jl];simp
def rh{i j:Array UInt8}:decide (V.byt i=V.byt j)=(i.toList==j.toList):=by
 rw[Jl];cases i;cases j;simp
section
variable {X:Cx}{a b c:Expr}{ta tb tc:TE}{pos:Pos}
def aO{d:!(Addr×Obj)}{Z:St}{H:Hp}{s:NC}{Q:VK}{k f:Bool}(I:Inv X d Z H s)(q:Q (.bl k) H)(e:k=f):EP X d Z Q (.bool f) s:=by
 subst e;show{.bl k,H,I,Xr,q}
def op_eq:OpR X (N1 .Eq) rEq:=by
 intro k s Z H x y v u Q I g d h;have(f,q):=h;cases x with
 | non=>
  cases g;cases y with
  | non=>cases d;show PySem.EqNone.eq_none_none (aO I q ∅)
  | bl j=>cases d;show PySem.EqNone.eq_none_bool (aO I q ∅)
  | int j=>have(e,rfl):=d;show PySem.EqNone.eq_none_int (aO I q ∅)
  | str j=>have(e,rfl):=d;show PySem.EqNone.eq_none_str (aO I q ∅)
  | _=>show absurd (show TZ=T1 from f) Il
 | bl i=>
  cases g;cases y with
  | non=>cases d;show PySem.EqNone.eq_bool_none (aO I q ∅)
  | bl j=>cases d;show eq_bool (aO I q u4)
  | str j=>have(e,rfl):=d;show PySem.EqMixed.eq_bool_str (aO I q ∅)
  | _=>show absurd (show TZ=T1 from f) Il
 | int i=>
  have(t,rfl):=g;cases y with
  | non=>cases d;show PySem.EqNone.eq_int_none (aO I q ∅)
  | int j=>have(e,rfl):=d;show eq_int (aO I q rj)
  | str j=>have(e,rfl):=d;show PySem.EqMixed.eq_int_str (aO I q ∅)
  | _=>show absurd (show TZ=T1 from f) Il
 | str i=>
  have(t,rfl):=g;cases y with
  | non=>cases d;show PySem.EqNone.eq_str_none (aO I q ∅)
  | bl j=>cases d;show PySem.EqMixed.eq_str_bool (aO I q ∅)
  | int j=>have(e,rfl):=d;show PySem.EqMixed.eq_str_int (aO I q ∅)
  | str j=>have(e,rfl):=d;show eq_str (aO I q rk)
  | _=>show absurd (show TZ=T1 from f) Il
 | byt i=>
  have(t,rfl):=g;cases y with
  | byt j=>have(e,rfl):=d;show PySem.W.eq_bytes (aO I q rh)
  | _=>show absurd (show TZ=T1 from f) Il
 | _=>cases y<;>show absurd (show TZ=T1 from f) Il
def op_ne:OpR X (N1 .NotEq) rNe:=by
 intro k s Z H x y v u Q I g d h;have(f,q):=h;cases x with
 | non=>
  cases g;cases y with
  | non=>cases d;show PySem.EqNone.ne_none_none (aO I q ∅)
  | bl j=>cases d;show PySem.EqNone.ne_none_bool (aO I q ∅)
  | int j=>have(e,rfl):=d;show PySem.EqNone.ne_none_int (aO I q ∅)
  | str j=>have(e,rfl):=d;show PySem.EqNone.ne_none_str (aO I q ∅)
  | _=>show absurd (show TZ=T1 from f) Il
 | bl i=>
  cases g;cases y with
  | non=>cases d;show PySem.EqNone.ne_bool_none (aO I q ∅)
  | bl j=>cases d;show ne_bool (aO I q (congrArg not u4))
  | str j=>have(e,rfl):=d;show PySem.EqMixed.ne_bool_str (aO I q ∅)
  | _=>show absurd (show TZ=T1 from f) Il
 | int i=>
  have(t,rfl):=g;cases y with
  | non=>cases d;show PySem.EqNone.ne_int_none (aO I q ∅)
  | int j=>have(e,rfl):=d;show ne_int (aO I q (congrArg not rj))
  | str j=>have(e,rfl):=d;show PySem.EqMixed.ne_int_str (aO I q ∅)
  | _=>show absurd (show TZ=T1 from f) Il
 | str i=>
  have(t,rfl):=g;cases y with
  | non=>cases d;show PySem.EqNone.ne_str_none (aO I q ∅)
  | bl j=>cases d;show PySem.EqMixed.ne_str_bool (aO I q ∅)
  | int j=>have(e,rfl):=d;show PySem.EqMixed.ne_str_int (aO I q ∅)
  | str j=>have(e,rfl):=d;show ne_str (aO I q (congrArg not rk))
  | _=>show absurd (show TZ=T1 from f) Il
 | byt i=>
  have(t,rfl):=g;cases y with
  | byt j=>have(e,rfl):=d;show PySem.W.ne_bytes (aO I q (congrArg not rh))
  | _=>show absurd (show TZ=T1 from f) Il
 | _=>cases y<;>show absurd (show TZ=T1 from f) Il
def FI:OpR X (N1 .Lt) (rI0 λi j=>.bl (decide (i<j))):=CO λ_ _ _ _ _ _ _ q=>lt_int q
def FG:OpR X (N1 .Gt) (rI0 λi j=>.bl (decide (j<i))):=CO λ_ _ _ _ _ _ _ q=>gt_int q
def FF:OpR X (N1 .GtE) (rI0 λi j=>.bl (decide (j<=i))):=CO λ_ _ _ _ _ _ _ q=>ge_int q
def op_in_str:OpR X (N1 .In) (λx y H Q=>∃i j,x=.str i/\y=.str j/\Q (.bl (~~~(Ow j i 0 j.length 1).isEmpty)) H):=by
 intro f s Z H x y v u Q I d e h;have(i,j,rfl,rfl,q):=h;have(t,rfl):=d;have(g,rfl):=e;show in_str (aO I q rfl)
def OpR.or{f:Nz->Nz->Sem Nz}{r i:R2}(h:OpR X f r)(h':OpR X f i):OpR X f (λx y H Q=>r x y H Q\/i x y H Q):=by
 intro d s Z H x y v u Q I g e q;rcases q with q|q;show h d s Z H x y v u Q I g e q;show h' d s Z H x y v u Q I g e q
def CL(b:Expr){op:SA}(h:op ≠ .In:=by decide)(f:op ≠ .NotIn:=by decide):OX op b=TZ:=by
 have d:(op==SA.In)=TZ:=by cases op<;>first|rfl|show absurd rfl h
 have e:(op==SA.NotIn)=TZ:=by cases op<;>first|rfl|show absurd rfl f
 cases b<;>simp[OX,d,e]
def zE{op:SA}{r:R2}(ho:OpR X (N1 op) r)(g:PE X a ta)(k:PE X b tb)(d:OX op b=TZ):PE X (.Compare a [op] [b] pos) (tOp r ta tb):=by
 intro e s Z H Q I h;show wpAny_Compare1 (B6 g k I h λv u i x y m f j l q=>ho e i Z m x y v u Q f j l q) d
abbrev BV(t:TE):TT:=λZ H Q=>t Z H λx d=>∃k,x=.bl k/\Q k d
def zU{op:SA}{r:R2}(ho:OpR X (N1 op) r)(l:PE X a ta)(w:PE X b tb)(g:OX op b=TZ):PT X (.Compare a [op] [b] pos) (BV (tOp r ta tb)):=by
 intro d s Z H Q I h;show Q4 (thn (l d s Z H _ I h) λv A ⟨x,t,J,G,E⟩=>thn (w d A Z t _ J E) λu m ⟨y,B,j,i,f⟩=>
  thn (ho d m Z B x y v u _ j G i f) λc K ⟨z,C,q,o,k,e,p⟩=>?_) g
 subst e;cases o;show Ou ⟨C,q,p⟩
abbrev yO(K:yF)(x:V)(H:Hp)(k:Bool):Prop:=
 match x with
 | .non=>k=TZ
 | .bl b=>k=b
 | .int i=>k=(i != 0)
 | .str y=>y.length<=sizeLine/\k=((y.length:Int) != 0)
 | .byt y=>y.size<=sizeLine/\k=((y.size:Int) != 0)
 | .ref p=>(∃d,SqL K H p d/\k =  ~~~d.isEmpty)\/(∃d,SqT K H p d/\k =  ~~~d.isEmpty) \/ ∃e,H p*>(.dK e)/\k =  ~~~e.isEmpty
 | _=>False
def pT{e : Type}{d:!(e×V)}{vs:!(e×Nz)}(r:KV d vs):(~~~vs.isEmpty) =  ~~~d.isEmpty:=by
 cases r<;>rfl
def kU{xs:!V}{d:!Nz}(r:Vals xs d):(~~~d.toArray.isEmpty) =  ~~~xs.isEmpty:=by
 cases r<;>simp
def iS:(sizeLine:Nat)<2^63:=by rw[NE];decide
def Ez:Hm X (λx H Q=>∃k,yO X.K x H k/\Q k H):=by
 intro E s Z H x v Q I l h;have(k,e,q):=h;have J:=iS;have G:sizeLine=16777216:=NE;cases x with
 | non=>
  cases l;have d:k=TZ:=e;subst d;show truthy_none ⟨H,I,q⟩
 | bl b=>
  cases l;have d:k=b:=e;subst d;show Ou ⟨H,I,q⟩
 | int i=>
  have(t,rfl):=l;have d:k=(i != 0):=e;subst d;show PySem.P.truthy_int ⟨H,I,q⟩
 | str y=>
  have(t,rfl):=l;obtain⟨C,d⟩:y.length<=sizeLine/\k=((y.length:Int) != 0):=e;subst d;show PySem.P.truthy_str (by lia) {H,I.tok _,q}
 | byt y=>
  have(t,rfl):=l;obtain⟨C,d⟩:y.size<=sizeLine/\k=((y.size:Int) != 0):=e;subst d;show PySem.W.truthy_bytes (by lia) {H,I.tok _,q}
 | ref p=>
  cases l;have d:(∃j,SqL X.K H p j/\k =  ~~~j.isEmpty)\/(∃j,SqT X.K H p j/\k =  ~~~j.isEmpty) \/ ∃f,H p*>(.dK f)/\k =  ~~~f.isEmpty:=e;rcases d with⟨j,o,d⟩|⟨j,o,d⟩|⟨f,o,d⟩
  .subst d;have(z,r,u,A):=I.list o;have g:=r.length;show wpAny_truthy_list u.isList (by dsimp[Ic];lia) {H,I.tok _,by rw[kU r];show q}
  .subst d;have(z,r,u,A):=I.tuple o;have g:=r.length;show truthy_tuple u (by dsimp[Ic];lia) {H,I.tok _,by rw[kU r];show q}
  .subst d;obtain⟨A,B,vs,r,m⟩:f.length<=sizeLine/\(p==P4)=TZ/\∃vs,KV f vs/\s.heap.DictOf (kB X.prog X.w) p vs:=I.hok p _ o;have g:f.length=vs.length:=Paired.length r;show wpAny_truthy_dict B m (by lia) {H,I.tok _,by rw[pT r];show q}
 | _=>show(show False from e).elim
def w6(f:PE X a ta)(j:∀d,RC a X.env d=(do let v <-d;Pj a.pos;Ov [v] (SB v))) :
  PT X a (λZ H Q=>ta Z H λx H'=>∃k,yO X.K x H' k/\Q k H'):=by
 intro e s Z H Q I h;show isTrue_plain (thn (f e s Z H _ I h) λv i ⟨x,g,o,m,l⟩=>Ez e i Z g x v Q o m l) (j _)
def op_add_str:OpR X (Og .Add) (λx y H Q=>∃i j,x=.str i/\y=.str j/\i.length+j.length<=sizeLine/\Q (.str (i++j)) H):=by
 intro k s Z H x y v u Q I f g h;have(i,j,rfl,rfl,e,q):=h;have(t,rfl):=f;have(d,rfl):=g;show add_str (λd l=>{.str (i++j),H,I.tok _,{_,Xr},q}) e
def eU{x:V}{us:!Nz}(r:Vals [x] us):∃u,us=[u]/\RelV x u:=by
 cases r with
 | cons d e=>cases e;show{_,Xr,d}
def lD{x y:V}{us:!Nz}(r:Vals [x,y] us):∃u d,us=[u,d]/\RelV x u/\RelV y d:=by
 cases r with
 | cons g h=>
  cases h with
  | cons f e=>cases e;show{_,_,Xr,g,f}
def sU(e:X.calm=T1):MU X (.builtin "max") (λxs H Q=>∃i j,xs=[.int i,.int j]/\Q (.int (if j>i then j else i)) H):=by
 intro f s Z H xs m Q I r h;have(i,j,rfl,q):=h;obtain⟨u,l,rfl,⟨t,rfl⟩,⟨g,rfl⟩⟩:=lD r;show max_two_ints (I.ok.hd e) λp o k=>{_,H,I.kept k,?_,q};by_cases d:j>i;rw[if_pos d,if_pos d];show{_,Xr};rw[if_neg d,if_neg d];show{_,Xr}
def sV(e:X.calm=T1):MU X (.builtin "min") (λxs H Q=>∃i j,xs=[.int i,.int j]/\Q (.int (if j<i then j else i)) H):=by
 intro f s Z H xs m Q I r h;have(i,j,rfl,q):=h;obtain⟨u,l,rfl,⟨t,rfl⟩,⟨g,rfl⟩⟩:=lD r;show min_two_ints (I.ok.hd e) λp o k=>{_,H,I.kept k,?_,q};by_cases d:j<i;rw[if_pos d,if_pos d];show{_,Xr};rw[if_neg d,if_neg d];show{_,Xr}
def sR:MU X (.type "int") (λxs H Q=>(∃i,xs=[.int i]/\Q (.int i) H) \/ ∃k,xs=[.bl k]/\Q (.int (if k then 1 else 0)) H):=by
 intro e s Z H xs f Q I r h;rcases h with⟨i,rfl,q⟩|⟨k,rfl,q⟩
 .have(u,rfl,t,rfl):=eU r;show call_int_int {.int i,H,I,{_,Xr},q}
 .have(u,rfl,d):=eU r;cases d;show call_int_bool {.int (if k then 1 else 0),H,I.tok _,{_,Xr},q}
end
structure ObjM(h:Heap)(x dx C:Addr)(mA:Str->↑Nz):Prop where
 obj:h.get? x*>(L6 C dx)
 ns:h.Ns1 dx mA
 ne:dx≠x
def tM{h:Heap}{f:Addr}{d:Str->↑Nz}(n:h.Ns1 f d):∃od,h.get? f*>od/\∀name,Md name od*>(d name):=by
 have(o,g,r,l,m,p,_,i):=n;show{o,l,λname=>?_};have e:=i name;unfold nsFind findBy at e;rw[<-Array.find?_toList]at e;unfold Md;rw[m];dsimp only;split
 .delta y q;rw[q]at e;show congrArg TV e
 .delta q;rw[q]at e;have a:g.toList.any (·.refKey)=TZ:=by
   rw[List.any_eq_false];intro y j;have(z,t,c):=p y (Array.mem_toList_iff.mp j);simp[P3.refKey,c]
  have k:¬ g.toList.any (·.refKey)=T1:=by rw[a];show Il
  rw[if_neg k];show congrArg TV e
structure Cls(K:yF)(C:Addr):Prop where
 pg:PySem.W.plainGet K C Str.empty=T1
 hd:PySem.W.hasDictIn K C=T1
 po:PySem.W.plainOver K C=T1
 sa:KW K (.ref C) "__setattr__" = TV (TV (.builtin "object.__setattr__"))
structure Con(K:yF)(C:Addr)(f:Str)(v:V)(u:Nz):Prop where
 at_:KW K (.ref C) f*>(TV u)
 rel:RelV v u
 get:LA K u "__get__" = TV TU
 cp:PySem.W.copiedNames.contains f=TZ
structure Meth(K:yF)(C:Addr)(m:Str)(f:Addr):Prop where
 at_:KW K (.ref C) m*>(TV (.ref f))
 fn:LB K (.ref f)=T1
 kp:Jf K (.ref f)=T1
section
variable {X:Cx}{OK:!(Addr×Obj)}{Z:St}{H:Hp}{s:NC}{A:NU}{E:Nz->NC->Prop}{Q:Nz->NC->Prop}{c:Nz}{b:Bool}
inductive Nj(K:yF) (H:Hp):V->Nz->Prop where
 | non:Nj K H .non (.type "NoneType")
 | bl (x:Bool):Nj K H (.bl x) (.type "bool")
 | int (i:Int):Nj K H (.int i) (.type "int")
 | str (x:Str):Nj K H (.str x) (.type "str")
 | flt (x:UInt64):Nj K H (.flt x) (.type "float")
 | lst {a:Addr} {xs:!V} (e:H a*>(.lst xs)):Nj K H (.ref a) (.type "list")
 | frz {a:Addr} {o:Obj} {xs:!V} (e:H a*>(.frz o (.lst xs))):Nj K H (.ref a) (.type "list")
 | tup {a:Addr} {xs:!V} (e:H a*>(.tup xs)):Nj K H (.ref a) (.type "tuple")
 | dK {a:Addr} {kvs:!(Key×V)} (e:H a*>(.dK kvs)):Nj K H (.ref a) (.type "dict")
 | dT {a:Addr} {kvs:!(!K1×Addr×V)} (e:H a*>(.dT kvs)):Nj K H (.ref a) (.type "dict")
 | ins {a C dx:Addr} {fs:!(Str×V)} (e:H a*>(.ins C dx fs)) (cl:Cls K C) (ha:KW K (.ref C) "__class__" = TV (TV (.builtin "object.__class__")))
   (hn:LA K (.builtin "object.__class__") "__get__" = TV (TV (.builtin "getset_descriptor.__get__"))) (htk:PySem.W.takesIn K (.builtin "object.__class__")*>T1)
   (hm:PySem.W.mroIn K C (.type "object")*>T1):Nj K H (.ref a) (.ref C)
end
structure MW(k:Nat)(A:NU):Prop where
 hd:A.handled=TU
 gd:A.guards=TV []
 dp:A.depth+3*k+5<SE
 un:A.units+16*k+200<Ox
def MW.mono{j k:Nat}{A:NU}(r:MW k A)(h:j<=k):MW j A:={r.hd,r.gd,by have:=r.dp;lia,by have:=r.un;lia}
def MW.deeper{k:Nat}{A:NU}(r:MW (k+1) A)(env:Env):MW k (A.deeper env):=
 {r.hd,r.gd,by have:=r.dp;change A.depth+1+3*k+5<_;lia,by have:=r.un;change A.units+3+16*k+200<_;lia}
def pZ{A:NU}{C:Addr}{us:!Nz}{a:!(Str×Nz)}:(A.under (.builtin "type.__call__" {.ref C::us,a})).depth=A.depth+1:=by
 first|rfl|simp[QL,Code.weight,Code.isCreation,Tg,Code.isCaller,Tr,RN,guardIds]
def qa{A:NU}{C:Addr}{us:!Nz}{a:!(Str×Nz)}:(A.under (.builtin "type.__call__" {.ref C::us,a})).units=A.units+1:=by
 first|rfl|simp[QL,Code.cUnits,Tr,RN]
def oI{A:NU}{C:Addr}{us:!Nz}{f:!(Str×Nz)}:(A.under (.builtin "type.__call__" {.ref C::us,f})).guards=A.guards:=by
 cases A with|mk a b c d e=>cases d<;>simp[QL,pushGuards,Code.guards,Tg,guardIds]
def MW.make{k:Nat}{A:NU}(r:MW (k+1) A)(C:Addr)(us:!Nz)(a:!(Str×Nz)):MW k (A.under (.builtin "type.__call__" {.ref C::us,a})):=
 {r.hd,by rw[oI];show r.gd,by have:=r.dp;rw[pZ];lia,by have:=r.un;rw[qa];lia}
def MW.depth{k:Nat}{A:NU}(r:MW k A):A.depth<SE:=by have:=r.dp;lia
def MW.units{k:Nat}{A:NU}(r:MW k A):A.units+64<Ox:=by have:=r.un;lia
abbrev yj:TA:=λ_ H Q=>Q [] H
abbrev pi(e:TE)(c:TA):TA:=λZ H Q=>e Z H λx f=>c Z f λa d=>Q (x::a) d
section
variable {X:Cx}{e:Expr}{es:!Expr}{te:TE}{t:TA}{pos:Pos}
def fY:PA X [] yj:=λ_ _ _ _ H Q I h=>Calls.spliced_nil {[],H,I,.nil,h}
def ny(f:PE X e te)(o:PA X es t)(hs:NR (e::es) X.env=(TZ,eval e X.env)::NR es X.env:=by rfl):PA X (e::es) (pi te t):=by
 intro pos a s Z H Q I h;rw[hs];change NF _ _ (spliced ((TZ,eval e X.env)::OY pos (NR es X.env))) _ _ s;show Calls.spliced_cons (thn (f a s Z H _ I h) λu j k=>?_);have(x,g,r,q,m):=k;show thn (o pos a j Z g _ r m) λw v ⟨i,l,d,c,p⟩=>⟨x::i,l,d,.cons q c,p⟩
abbrev GR(t:TA):TE:=λZ H Q=>t Z H λa c=>a.length<=sizeLine/\∀p,c p=TU->Q (.ref p) (upd c p (.tup a))
abbrev GM(t:TA):TE:=λZ H Q=>t Z H λa c=>a.length<=sizeLine/\∀p,c p=TU->Q (.ref p) (upd c p (.lst a))
def wr{x1}(h:PA X es t):PE X (.Tuple es x1 pos) (GR t):=by
 intro f s Z H Q I k;show wpAny_Tuple_spliced (thn (h pos f s Z H _ I k) λi a ⟨g,c,d,r,z,q⟩=>{by rw[<-r.length];show z,?_});have j:c a.heap.objs.size=TU:=d.hok.fresh (Ig _);show{.ref a.heap.objs.size,upd c a.heap.objs.size (.tup g),d.laid (t':=a.toks) (λb u e=>NB _ e) (Ig _) ?_,Xr,q _ j};show{z,i,r,{_,NI _ rfl,⟨Xr,Xr⟩,_,Xr}}
def Dr(h:PA X es t):PE X (.List es pos) (GM t):=by
 intro f s Z H Q I k;show wpAny_List_spliced (thn (h pos f s Z H _ I k) λi a ⟨g,c,d,r,z,q⟩=>{by rw[<-r.length];show z,?_});have j:c a.heap.objs.size=TU:=d.hok.fresh (Ig _);show{.ref a.heap.objs.size,upd c a.heap.objs.size (.lst g),d.laid (t':=a.toks) (λb u e=>NB _ e) (Ig _) ?_,Xr,q _ j};show{z,i,0,r,NI _ rfl}
end
protected def Sp:=!V->Hp->VK->XK->Prop
protected def CXT:=!Env->Hp->NC->XK->Nz->NC->Prop
structure Nq(P:NM)(w:NP)(K:yF)(mg:Str->↑Nz)(base:Heap)(A:NU)(outer:!Env)(s:NC)(H:Hp):Prop where
 frames:A.frames*>outer
 mod:Mod K mg base
 bs:∀b o,base.get? b*>o->s.heap.get? b*>o/\H b=TU
 bsz:base.objs.size<=s.heap.objs.size
 funs:s.heap.FunFrames base outer
 frf:∀b∈frs outer,H b=TU
 hok:HOk P w H s.heap
 bare:PY s.gens
abbrev CE(outer:!Env)(P:NM)(w:NP)(H:Hp)(s:NC)(Q:VK)(u:Nz)(a:NC):Prop:=
 ∃v c,a.os=s.os/\PY a.gens/\Un (frs outer) [] H c s.heap a.heap/\HOk P w c a.heap/\RelV v u/\Q v c
abbrev CR(CX:CXT)(outer:!Env)(P:NM)(w:NP)(H:Hp)(s:NC)(Q:VK)(E:XK)(r:Th)(a:NC):Prop:=
 match r with
 | .ok (.ret u)=>CE outer P w H s Q u a
 | .ok _=>False
 | .error e=>CX outer H s E e a
structure M6(P:NM)(w:NP)(K:yF)(mg:Str->↑Nz)(base:Heap)(CX:CXT)(k:Nat)(f:Addr)(fd:Om)(ps:!Str)(sp:Sp):Prop where
 len:∀vs H Q E,sp vs H Q E->vs.length=ps.length
 run:∀(A:NU) (outer:!Env) (s:NC) (H:Hp) (args:Args) (us:!Nz) (vs:!V) (Q:VK) (E:XK),MW k A->Nq P w K mg base A outer s H->QM s fd args (ps.zip us)->Vals vs us->sp vs H Q E ->
  Pa (NK P w) A (.call (.ref f) args) (CR CX outer P w H s Q E) s
def Nq.make{P:NM}{w:NP}{K:yF}{a:Str->↑Nz}{base:Heap}{A:NU}{outer:!Env}{s:NC}{H:Hp}(e:Nq P w K a base A outer s H)(C:Addr)(us:!Nz)(c:!(Str×Nz)) :
  Nq P w K a base (A.under (.builtin "type.__call__" {.ref C::us,c})) outer s H:={by first|show e.frames|(simpa[QL,Code.envs,RN,pushEnvs]using e.frames),e.mod,e.bs,e.bsz,e.funs,e.frf,e.hok,e.bare}
section
variable {X:Cx}{OK:!(Addr×Obj)}{Z:St}{H:Hp}{s s':NC}
def Inv.env0(I:Inv X OK Z H s):Nq X.prog X.w X.K X.mg X.base X.A X.stack s H:=
 {I.ok.frames,I.ok.mod,I.bs,Ik I.ok.bsz I.sz,I.stack,I.stkFree,I.hok,I.bare}
def Inv.after{Q:VK}{u:Nz}(I:Inv X OK Z H s)(h:CE X.stack X.prog X.w H s Q u s'):EP X OK Z Q u s':=by
 have(v,j,os,a,i,c,r,q):=h;have(f,g,d,t,e):=s';obtain rfl:e=s.os:=os;show{v,j,I.call (h':=f) (g':=g) (d':=d) (t':=t) (ch:=[]) i c a (λb z=>absurd z ∅),r,q}
end
abbrev lx(sp:Sp)(a:!V)(E:XK)(t:TA):TE:=λZ H Q=>t Z H λvs c=>sp (vs++a) c Q E
abbrev M1(K:yF)(fd:Om)(ps:!Str)(c:!Nz):Prop:=
 ∀(s:NC) (a:!Nz),K.In s.heap->(a++c).length=ps.length->QM s fd {a,[]} (ps.zip (a++c))
def M1.all{K:yF}{fd:Om}{ps:!Str}(h:∀us:!Nz,us.length=ps.length->Q9 fd {us,[]}=pure (ps.zip us)):M1 K fd ps []:=λs us _ a=>by
 rw[Iw]at a|-;show .of_eq (h us a)
abbrev jw(CX:CXT)(X:Cx)(E:XK):Prop:=∀(c:!(Addr×Obj)) (Z:St) (H:Hp) (s:NC) (e:Nz) (a:NC),Inv X c Z H s->CX X.stack H s E e a->X.xe e a
section
variable {X:Cx}{CX:CXT}{k:Nat}{f C:Addr}{fd:Om}{ps:!Str}{sp:Sp}{dvs:!V}{ds:!Nz}{E:XK}{x m:Str}{p pos apos:Pos}{e o:Expr}{es:!Expr}{ta:TE}{t:TA}
def xY{c:!(Addr×Obj)}{Z:St}{H:Hp}{s:NC}{Q:VK}{us:!Nz}{vs:!V}(F:M6 X.prog X.w X.K X.mg X.base CX k f fd ps sp)(y:MW k X.A)(i:M1 X.K fd ps ds)(v:Vals dvs ds)(g:jw CX X E)
  (I:Inv X c Z H s) (r:Vals vs us) (h:sp (vs++dvs) H Q E):NF (NK X.prog X.w) X.A (call (.ref f) us) (EP X c Z Q) X.xe s:=by
 have d:Vals (vs++dvs) (us++ds):=r.append v;have q:(us++ds).length=ps.length:=by rw[<-d.length];show F.len _ _ _ _ h
 show O6 (Po (F.run X.A X.stack s H {us,[]} (us++ds) (vs++dvs) Q E y I.env0 (i s us I.kIn q) d h) λr l a=>?_);cases r with
 | error e=>show g c Z H s e l I a
 | ok j=>
  cases j with
  | ret u=>show I.after a
  | next=>show N5 a
  | brk=>show N5 a
  | cont=>show N5 a
def zD(F:M6 X.prog X.w X.K X.mg X.base CX k f fd ps sp)(B:MW k X.A)(G:Gl X x)(g:X.mg x*>(.ref f))(z:Jf X.K (.ref f)=T1)(u:M1 X.K fd ps ds)(y:Vals dvs ds)(l:jw CX X E)
  (j:PA X (e::es) t) (c:(x==("__debug__" : Str))=TZ:=by decide) (v:NR (e::es) X.env=(TZ,eval e X.env)::NR es X.env:=by rfl) (a:(OY pos (NR es X.env)).any (·.1)=TZ:=by rfl) :
  PE X (.Call (.Name x p) (e::es) [] pos) (lx sp dvs E t):=by
 intro i s Z H Q I h;show OS (ib I G g ?_ c);show KY (h₀:=X.base) I.ok.mod.kin z (thn (j pos i s Z H _ I h) λM L ⟨vs,J,d,r,q⟩=>{d.kIn,?_}) v a;show xY F B u y l d r q
end
section
variable {X:Cx}{CX:CXT}{k:Nat}{f C:Addr}{fd:Om}{ps ks:!Str}{sp:Sp}{E:XK}{x m:Str}{p pos apos kpos:Pos}{e o:Expr}{es:!Expr}{kws:!Sv}{te ta:TE}{t tk:TA}{nm:↑Str}
structure KBinds(K:yF)(fd:Om)(ps ks:!Str)(g:!Nz->!Nz->!Nz)(gV:!V->!V->!V):Prop where
 to:∀(s:NC) (us ws:!Nz),K.In s.heap->(g us ws).length=ps.length->QM s fd {us,ks.zip ws} (ps.zip (g us ws))
 rel:∀{vs:!V} {us:!Nz} {zs:!V} {ws:!Nz},Vals vs us->Vals zs ws->Vals (gV vs zs) (g us ws)
variable {g:!Nz->!Nz->!Nz}{gV:!V->!V->!V}
end
structure td(N P:!Str)(sc:Pn):Prop where
 kind:sc.kind=.function
 co:sc.isCoroutine=TZ
 gen:sc.isGenerator=TZ
 nd:N.Nodup
 pre:N.take P.length=P
 par:∀x∈P,sc.names.lookup x*>.local\/sc.names.lookup x*>.cell
 nofree:∀y∈sc.names,y.2 ≠ .free
def l0{kindOf:Str->↑NN}{x:Str}:∀{a:!(Str×Nz)} {m:Str->↑Nz},(∀v,(x,v)∉a)->SF kindOf a m x=m x
 | [],_,_=>rfl
 | (n,v)::r,m,h=>by
  unfold SF;rw[l0 λw c=>h w (ymC _ c)];split
  .have:x≠n:=by rintro rfl;show h v ymS
   simp[this]
  .rfl
def lY{kindOf:Str->↑NN}{x:Str}:∀{a:!(Str×Nz)} {m:Str->↑Nz},(∀v,(x,v)∉a)->SG kindOf a m x=m x
 | [],_,_=>rfl
 | (n,v)::r,m,h=>by
  unfold SG;rw[lY λw c=>h w (ymC _ c)];split;rfl
  .have:x≠n:=by rintro rfl;show h v ymS
   simp[this]
def lZ{kindOf:Str->↑NN}{x:Str}{v:Nz}:∀{P:!Str} {vs:!Nz} {i:Nat} {m:Str->↑Nz},P.Nodup->P[i]?*>x->vs[i]?*>v->kindOf x*>.local ->
  SF kindOf (P.zip vs) m x*>v
 | [],_,_,_,_,h,_,_=>by simp at h
 | _::_,[],_,_,_,_,h,_=>by simp at h
 | p::P,w::vs,0,m,e,c,a,d=>by
  simp at c a;subst c;subst a;change SF kindOf ((p,w)::P.zip vs) m p=_;unfold SF;rw[l0 λv f=>(IM.mp e).1 (KJ f).1,if_pos d];simp
 | p::P,w::vs,i+1,m,e,c,a,d=>by
  change SF kindOf ((p,w)::P.zip vs) m x=_;unfold SF;show lZ (i:=i) (IM.mp e).2 (by exists c) (by exists a) d
def lX{kindOf:Str->↑NN}{x:Str}{v:Nz}:∀{P:!Str} {vs:!Nz} {i:Nat} {m:Str->↑Nz},P.Nodup->P[i]?*>x->vs[i]?*>v->kindOf x≠TV .local ->
  SG kindOf (P.zip vs) m x*>v
 | [],_,_,_,_,h,_,_=>by simp at h
 | _::_,[],_,_,_,_,h,_=>by simp at h
 | p::P,w::vs,0,m,e,c,a,d=>by
  simp at c a;subst c;subst a;change SG kindOf ((p,w)::P.zip vs) m p=_;unfold SG;rw[lY λv f=>(IM.mp e).1 (KJ f).1,if_neg d];simp
 | p::P,w::vs,i+1,m,e,c,a,d=>by
  change SG kindOf ((p,w)::P.zip vs) m x=_;unfold SG;show lX (i:=i) (IM.mp e).2 (by exists c) (by exists a) d
abbrev bL(N:!Str) (vs:!V):St:=vs.map TV++Ih (N.length-vs.length) TU
abbrev iJ(CX:CXT) (P:NM) (w:NP) (K:yF) (mg:Str->↑Nz) (base:Heap) (N:!Str) (qual:Str) (scope:Pn) (f:Addr) (cd:Nz) (A:NU) (outer:!Env) (s:NC) (H:Hp) (E:XK):Cx where
 prog:=P
 w:=w
 K:=K
 mg:=mg
 base:=base
 A:=A.deeper (Pv qual scope s.heap.objs.size f cd)
 N:=N
 s₀:=s
 H₀:=H
 env:=Pv qual scope s.heap.objs.size f cd
 outer:=outer
 stack:=Pv qual scope s.heap.objs.size f cd::outer
 ex:=[]
 calm:=T1
 fn:=λ_=>T1
 pn:=[]
 xe:=λe s'=>NF (NK P w) (A.deeper (Pv qual scope s.heap.objs.size f cd)) (leaving (Pv qual scope s.heap.objs.size f cd) e) (λ_ s''=>CX outer H s E e s'') (λe' s''=>CX outer H s E e' s'') s'
def og{a:Pn}{n:Nat}{x:Str}(h:a.names.lookup x*>.cell):∃c,(N7 n a.names []).lookup x*>c:=by
 have q:=Kr a.names n [] (.inl h);show JJ.mp q
def tI{CX:CXT}{P:NM}{w:NP}{K:yF}{J:Str->↑Nz}{base:Heap}{N ps:!Str}{qual:Str}{d:Pn}{f:Addr}{B:Nz}{A:NU}{outer:!Env}{s L:NC}{H:Hp}{E:XK}{us:!Nz}{vs:!V}
  (S:td N ps d) (Y:A.handled=TU) (Z:A.guards=TV []) (j:Nq P w K J base A outer s H) (hl:vs.length=ps.length) (r:Vals vs us)
  (x:InCallC s s.heap.objs.size (SF (Pv qual d s.heap.objs.size f B).kindOf (ps.zip us) λ_=>TU) (N7 (s.heap.objs.size+1) d.names []) (SG (Pv qual d s.heap.objs.size f B).kindOf (ps.zip us) λ_=>TU) L) :
  Inv (iJ CX P w K J base N qual d f B A outer s H E) [] (bL N vs) H L:=by
 have U:ps.length<=N.length:=by have:=congrArg JR S.pre;rw[IJ]at this;lia
 have(C,tk,rfl,M):=x.done;have m:∀b:Addr,b∉(iJ CX P w K J base N qual d f B A outer s H E).ex:=λb z=>absurd (show b∈([]:!Addr)from z) ∅;show{{j.mod,S.kind,Xr,Xr,Ig _,λy z c C g=>?_,λy l=>?_,λy c _ h=>?_,λ_=>Y,λ_=>Z,NU.frames_deeper j.frames,.inr ⟨Xr,Xr⟩,λb z=>absurd z (m b),j.bs,j.bsz,λb _ _=>m b,λb z=>absurd z (m b),j.funs,j.frf},
  rfl,j.bare,Un.kept M,{_,x.toInCall.ns,λi y v C g h3=>?_},λy c h=>{_,x.cell y c h},j.hok.fresh (Ig _),λy c h=>?_,λp o=>absurd (show p∈([]:!(Addr×Obj))from o) ∅,j.hok.kept M,?_}
 .show name_of_addr x.apart (Jy C) (Jy g)
 .have l:d.names.lookup y*>.cell\/d.names.lookup y*>.free:=l;rcases l with l|l;show og l;show absurd rfl (S.nofree _ (Jy l))
 .show Kq (x.above y c (Jy h))
 .have G:i<vs.length:=by
   unfold bL at g;by_cases G:i<vs.length;show G
   .rw[Jg (by exists G)]at g;rw[Ld]at g;split at g<;>cases g
  have Q:vs[i]?*>v:=by
   unfold bL at g;rw[Jb (by exists G),Io]at g;cases e:vs[i]? with
   | none=>rw[e]at g;cases g
   | some a=>rw[e]at g;cases g;rfl
  have(u,O,X):=r.get Q;have o:ps[i]?*>y:=by
   rw[<-S.pre,List.getElem?_take_of_lt (by lia)];show C
  have t:ps.Nodup:=by rw[<-S.pre];show S.nd.sublist (LC _ _)
  show{u,X,?_};rcases S.par y (ymG o)with k|k;show .inl {k,lZ t o O k}
  .have(c,e):=og (n:=s.heap.objs.size+1) k;show .inr {.inl k,c,e,?_};have q:=x.cell y c e;rw[lX t o O (by change d.names.lookup y≠_;rw[k];decide)]at q;show q
 .show j.hok.fresh (Kq (x.above y c (Jy h)))
 .unfold bL;change _=N.length;rw[Ij,Ia,List.length_replicate]
  lia
def Bj{CX:CXT}{P:NM}{w:NP}{K:yF}{L:Str->↑Nz}{base:Heap}{k:Nat}{f:Addr}{name qual:Str}{d:RZ}{g:!Stmt}{a:Pn}{dV kV l pm c Z oc:Nz}{an od:↑Addr}
  {X:Array ↑Nz} {N ps:!Str} {sp:Sp} (lk:K.lookup f*>{oc,od,.func (IR name qual d g a dV kV l pm an c Z),X}) (U:JN K c qual=T1) (S:td N ps a)
  (m:∀vs H Q E,sp vs H Q E->vs.length=ps.length)
  (i:∀(A:NU) (outer:!Env) (s:NC) (H:Hp) (vs:!V) (Q:VK) (E:XK),MW k (A.deeper (Pv qual a s.heap.objs.size f c))->sp vs H Q E ->
   ∃t,PSs (iJ CX P w K L base N qual a f c A outer s H E) g t/\t {nx:=λ_ H'=>Q .non H',rt:=Q} (bL N vs) H) :
  M6 P w K L base CX (k+1) f (IR name qual d g a dV kV l pm an c Z) ps sp:=by
 show{m,λA outer s H args us vs Q E G z hb r p=>?_};have hl:=m _ _ _ _ p;have KX:K.In s.heap:=z.mod.kin.keeps λb o e=>(z.bs b o e).1;have M:s.heap.NoLimit:=z.mod.nolimit.keeps λb o e=>(z.bs b o e).1;have h:∀y∈ps.zip us,a.names.lookup y.1*>.local\/(a.names.lookup y.1*>.cell/\((N7 (s.heap.objs.size+1) a.names []).lookup y.1).isSome=T1):=fun⟨n,v⟩ hy=>by
  rcases S.par n (KJ hy).1 with q|q;show .inl q;show .inr {q,Kr _ _ _ (.inl q)}
 show codeAny_call_function G.depth (KX _ _ lk) rfl S.co S.gen rfl (PySem.W.codeRec_of KX U) (hb _ _ _ _ ?_);show wpAny_newFunctionEnv_cells S.kind h λenv he s1 x=>?_;subst he;show{M.keeps x.toInCall.keep,codeAny_func ?_};have(t,ht,hq):=i A outer s H vs Q E (G.deeper _) p;have I:Inv (iJ CX P w K L base N qual a f c A outer s H E) [] (bL N vs) H s1:=tI S G.hd G.gd z hl r x;show Ol (ht [] s1 (bL N vs) H _ I hq) (λfl O j=>?_) λe O j=>j;have B:∀{C:St} {H':Hp} {v:V} {u:Nz},Inv (iJ CX P w K L base N qual a f c A outer s H E) [] C H' O->RelV v u->Q v H'->CE outer P w H s Q u O:=
  λ{C H' v u} J Y q=>⟨v,H',J.os,J.bare,J.base,J.hok,Y,q⟩
 cases fl with
 | ret u=>
  have(v,C,H',J,Y,q):=j;show B J Y q
 | next=>
  have(C,H',J,q):=j;show B (v:=V.non) (u:=Oj) J rfl q
 | brk=>
  have(_,_,_,q):=j;show N5 q
 | cont=>
  have(_,_,_,q):=j;show N5 q
section
variable {X:Cx}{x:Str}{p pos:Pos}{e:Expr}{es:!Expr}{t:TA}{id T:String}{r:!V->Hp->VK->Prop}
abbrev tCB(r:!V->Hp->VK->Prop)(t:TA):TE:=λZ H Q=>t Z H λvs a=>r vs a Q
def wm(i:MU X (.builtin id) r)(u:Gl X x)(f:X.mg x=TU)(k:Oo x*>(.builtin id))(g:PA X (e::es) t)(v:x ≠ "__name__" :=by decide)(c:(x==("__debug__" : Str))=TZ:=by decide)
  (m:NR (e::es) X.env=(TZ,eval e X.env)::NR es X.env:=by rfl) (a:(OY pos (NR es X.env)).any (·.1)=TZ:=by rfl):PE X (.Call (.Name x p) (e::es) [] pos) (tCB r t):=by
 intro d s Z H Q I h;show OS (fQ I u f k ?_ v c);show Ky (thn (g pos d s Z H _ I h) λo l ⟨vs,j,y,w,q⟩=>i d l Z j vs o Q y w q) m a
def tX(i:MU X (.type T) r)(u:Gl X x)(f:X.mg x=TU)(k:Oo x*>(.type T))(g:PA X (e::es) t)(v:x ≠ "__name__" :=by decide)(c:(x==("__debug__" : Str))=TZ:=by decide)
  (m:NR (e::es) X.env=(TZ,eval e X.env)::NR es X.env:=by rfl) (a:(OY pos (NR es X.env)).any (·.1)=TZ:=by rfl):PE X (.Call (.Name x p) (e::es) [] pos) (tCB r t):=by
 intro d s Z H Q I h;show OS (fQ I u f k ?_ v c);show I9 (thn (g pos d s Z H _ I h) λo l ⟨vs,j,y,w,q⟩=>i d l Z j vs o Q y w q) m a
end
end L2
namespace HT
open PySem PyProof.Rows
abbrev lexLt:!Int->!Int->Bool
 | [],[]=>TZ
 | [],_::_=>T1
 | _::_,[]=>TZ
 | x::a,y::c=>if x=y then lexLt a c else decide (x<y)
def lexLt_cons(x y:Int)(xs a:!Int):lexLt (x::xs) (y::a)=if x=y then lexLt xs a else decide (x<y):=rfl
def lexLt_nil_nil:lexLt [] []=TZ:=rfl
def lexLt_nil_cons(y:Int)(a:!Int):lexLt [] (y::a)=T1:=rfl
def lexLt_cons_nil(x:Int)(xs:!Int):lexLt (x::xs) []=TZ:=rfl
def eqAt_int(A:NU)(s:NC)(a:Int)(t:Tok)(c:Int)(u:Tok):∃e,N4 A s (.int a t) (.int c u) e/\(e=T1↔a=c):=
 {(a==c),RD a t c u,by simp}
def rcLt_int(A:NU)(s:NC)(a:Int)(t:Tok)(c:Int)(u:Tok)(prog:NM)(w:NP)(E:Nz->NC->Prop)(Q:Nz->NC->Prop)(h:Q (.bool (decide (a<c))) s) :
  NF (NK prog w) A (richCompare .Lt (.int a t) (.int c u)) Q E s:=
 (MK h:NF (NK prog w) A (N1 .Lt (.int a t) (.int c u)) Q E s)
section
open PySem.SeqAt
open PySem.AutoSeq1 (wpAny_loadPart')
open PySem.MeetsSeq PySem.MeetsSeq2 PySem.MeetsSeq3
def tuple_lt_ints(l b:Addr)(items items2:Array Nz)(n X:Nat)(Z K:↑Addr)(sl N:Array ↑Nz)(ns H:!Int)(hi:Pb items.toList ns)(Q:Pb items2.toList H) :
  Ts (NJ.«tuple.__lt__» {[.ref l,.ref b],[]})
   (λ_ R s=>s.heap.get? l=TV {cls:=.type "tuple",dict:=Z,data:=.seq items n,slots:=sl}/\s.heap.get? b=TV {cls:=.type "tuple",dict:=K,data:=.seq items2 X,slots:=N} /\
    R (.ok (.ret (.bool (lexLt ns H)))) s):=
 .of_wp λr w A R s h=>by
  obtain⟨G,g,d,J,os⟩:=s;obtain⟨hl,S,h⟩:=h;have f2:=Qp;have z1:items.size=ns.length:=by rw[<-hi.length];simp
  have z2:items2.size=H.length:=by rw[<-Q.length];simp
  wp_walk using OV hl,OV S,wpAny_forIn_list _ (λrest b O=>b.1=TU/\O=⟨G,g,d,J,os⟩/\∃(vs ws:!Nz) (j i:!Int),rest=vs.zip ws /\
   Pb vs j/\Pb ws i/\j.length+items2.size=i.length+items.size/\R (.ok (.ret (.bool (lexLt j i)))) ⟨G,g,d,J,os⟩) _
  case turn=>
   rintro⟨y,x⟩ rest b O ⟨B,rfl,vs,ws,j,i,m,z,k,f,p⟩;cases z with
   | nil=>rw[List.zip_nil_left]at m;cases m
   | cons a t E=>
    cases k with
    | nil=>rw[List.zip_nil_right]at m;cases m
    | cons c u C=>
     rw[Ly]at m;injection m with M v;injection M with hy Y;subst hy Y;rw[lexLt_cons]at p;dsimp[Im]at f;obtain⟨e,he,o⟩:=eqAt_int A.in1 ⟨G,g,d,J,os⟩ a t c u;show NA (he r w _ _ ?_);cases e with
     | true=>
      rw[if_pos (o.mp rfl)]at p;wp_walk
      show{Xr,Xr,_,_,_,_,v,E,C,by lia,p}
     | false=>
      rw[if_neg (λq=>absurd (o.mpr q) Il)]at p;have L:=rcLt_int A.in1 ⟨G,g,d,J,os⟩ a t c u r w;wp_walk using L
      show{_,Xr,by simpa using p}
  case fin=>
   rintro⟨b1,b2⟩ O ⟨B,rfl,vs,ws,j,i,m,z,k,f,p⟩;simp only at B;subst B;have P:lexLt j i=decide (items.size<items2.size):=by
    cases z with
    | nil=>
     cases k with
     | nil=>
      dsimp[Kh]at f;rw[lexLt_nil_nil];show(decide_eq_false (by lia)).symm
     | cons c u U=>
      dsimp[Kh,Im]at f;rw[lexLt_nil_cons];show(decide_eq_true (by lia)).symm
    | cons a t P=>
     cases k with
     | nil=>
      dsimp[Kh,Im]at f;rw[lexLt_cons_nil];show(decide_eq_false (by lia)).symm
     | cons c u U=>
      rw[Ly]at m;cases m
   rw[P]at p;wp_walk
   show{_,Xr,by simpa[RY]using p}
  case h=>
   show{Xr,Xr,items.toList,items2.toList,ns,H,Xr,hi,Q,by lia,h}
end
section
variable {prog:NM}{w:NP}{A:NU}{E:Nz->NC->Prop}{s:NC}
def lt_tupInts{l b:Addr}{items items2:Array Nz}{ns d:!Int}{Q:Nz->NC->Prop}(u:RK s.heap l items)(t:RK s.heap b items2)(hi:Pb items.toList ns)(v:Pb items2.toList d)
  (y:A.units<Ox) (h:Q (.bool (lexLt ns d)) s):NF (NK prog w) A (N1 .Lt (.ref l) (.ref b)) Q E s:=by
 obtain⟨⟨q,r,j,z⟩,m,i,n,o⟩:=id u;obtain⟨⟨k,f,data2,g⟩,a,c,p,e⟩:=id t;simp only at i o c e;subst i o c e;show richCompare_meets_room (op:=.Lt) {_,m,Xr} {_,a,Xr} PySem.F.slot_tuple_lt PySem.F.entry_tuple_lt (PySem.F.args_tuple_lt_2 _ _) (tuple_lt_ints l b items items2 n p r f z g ns d hi v)
  {m,a,show ON (lexLt ns d)≠Ra/\Q (.bool (lexLt ns d)) s from{(λx=>nomatch x),h}} y
def cat_tup{t b:Addr}{vs ws:!Nz}{Q:Nz->NC->Prop}(y:RK s.heap t vs.toArray)(x:RK s.heap b ws.toArray)(p:vs≠[])
  (B:ws=[]->Q (.ref t) s) (z:ws≠[]->Q (.ref s.heap.objs.size) {s with heap:=s.heap.push {cls:=.type "tuple",data:=.seq (vs++ws).toArray}})
  (hsz:vs.length+ws.length<=sizeLine):NF (NK prog w) A (Og .Add (.ref t) (.ref b)) Q E s:=by
 obtain⟨⟨k,m,d,u⟩,i,o,n,r⟩:=id y;obtain⟨⟨q,c,data2,h⟩,a,f,l,g⟩:=id x;simp only at o r f g;subst o r f g;have e:vs.toArray++ws.toArray=(vs++ws).toArray:=by simp
 by_cases j:ws=[]
 .show RO {_,i,Xr} {_,a,Xr} Qx Rw PySem.F.slot_tuple_add PySem.F.entry_tuple_add (PySem.F.args_tuple_add_2 _ _)
   (tuple_addW1 t b vs.toArray ws.toArray n l m c u h (by exists p) (by simp[j])) {i,a,B j}
 .show RO {_,i,Xr} {_,a,Xr} Qx Rw PySem.F.slot_tuple_add PySem.F.entry_tuple_add (PySem.F.args_tuple_add_2 _ _)
   (tuple_addW2 t b vs.toArray ws.toArray n l m c u h (by exists p) (by exists j) (by rw[Ic,Ic];show hsz)) {i,a,?_}
  rw[e];show z j
abbrev sIx(n d:Nat):↑Int->Nat
 | none=>d
 | some v=>if v<0 then(v+(n:Int)).toNat else min v.toNat n
def sIx_none(n d:Nat):sIx n d TU=d:=rfl
def sIx_nat(n d k:Nat):sIx n d (TV (k:Int))=min k n:=by
 change(if(k:Int)<0 then((k:Int)+(n:Int)).toNat else min (k:Int).toNat n)=min k n;rw[if_neg (by lia),IA]
def sIx_le(n d:Nat)(c:d<=n)(o:↑Int):sIx n d o<=n:=by
 cases o with
 | none=>show c
 | some v=>
  change(if v<0 then(v+(n:Int)).toNat else min v.toNat n)<=n;by_cases a:v<0;rw[if_pos a];lia;rw[if_neg a];show LN _ _
def clip_eq(v:Int)(n d:Nat):(if v<0 then max (v+(n:Int)) 0 else min v (n:Int))=((sIx n d (TV v):Nat):Int):=by
 change(if v<0 then max (v+(n:Int)) 0 else min v (n:Int))=(((if v<0 then(v+(n:Int)).toNat else min v.toNat n):Nat):Int);by_cases a:v<0;dsimp[if_pos a];lia;dsimp[if_neg a];lia
def adjust_gen(lo hi:↑Int)(n:Nat):Oh lo hi 1 (n:Int)=(((sIx n 0 lo:Nat):Int),((sIx n n hi:Nat):Int)):=by
 have a:¬ ((1:Int)<0):=by lia
 unfold Oh;dsimp[a,if_false];show Prod.ext ?_ ?_
 .cases lo with
  | none=>rfl
  | some v=>show clip_eq v n 0
 .cases hi with
  | none=>rfl
  | some v=>show clip_eq v n n
def places_gen(i j:Nat):N6 (i:Int) (j:Int) 1=j-i:=by
 unfold N6;have a:(1:Int)>0:=by lia
 dsimp[a,if_true,LD];split<;>lia
def slicePart_{v:Nz}{o:↑Int}{Q:↑Int->NC->Prop}(p:Qq v o)(h:Q o s):NF (NK prog w) A (Sh v) Q E s:=by
 cases p with
 | none=>show P7 h
 | int i t=>show slicePart_int h
def sliceApplied_gen{sl:Addr}{e d:Nz}{lo hi:↑Int}{n:Nat}{Q:Int×Int×Nat->NC->Prop}(hs:s.heap.IsSliceOf sl e d .none)(pl:Qq e lo)(f:Qq d hi)
  (h:Q (((sIx n 0 lo:Nat):Int),1,sIx n n hi-sIx n 0 lo) s):NF (NK prog w) A (OD (.ref sl) (pure (n:Int))) Q E s:=by
 have(os,a,g,c):=id hs;unfold OD Qf;show NA (NA (NQ a c (x:=e) rfl (NA (NQ a c (x:=d) rfl (NA (NQ a c (x:=.none) rfl (ND ?_)))))));show NA (P7 ?_);change NF _ _ (if((1:Int)==0)=T1 then _ else _) _ _ s;rw[if_neg (by decide)];show NA (slicePart_ pl (NA (slicePart_ f (NA (ND ?_)))));change NF _ _ (match Oh lo hi 1 (n:Int)with|(lo,hi)=>pure (lo,(1:Int),N6 lo hi 1)) _ _ s;rw[adjust_gen lo hi n];change NF _ _ (pure (((sIx n 0 lo:Nat):Int),(1:Int),N6 ((sIx n 0 lo:Nat):Int) ((sIx n n hi:Nat):Int) 1)) _ _ s;rw[places_gen];show ND h
def pick_gen(xs:Array Nz)(i k:Nat):((Ip k).filterMap λ(m:Nat)=>xs[((i:Int)+(m:Int)*1).toNat]?).toArray=((xs.toList.drop i).take k).toArray:=by
 have e:(λ(m:Nat)=>xs[((i:Int)+(m:Int)*1).toNat]?)=λm=>xs[i+m]?:=by
  funext m;have:((i:Int)+(m:Int)*1).toNat=i+m:=by lia
  rw[this]
 rw[e];have:=Tt xs i k;rw[Lz]at this;have a:((λx=>xs[x]?)∘λx=>i+x)=λm=>xs[i+m]?:=rfl;rw[a]at this;rw[this]
def getItem_tuple_cut{t sl:Addr}{items:Array Nz}{k i:Nz}{lo hi:↑Int}{Q:Nz->NC->Prop}(c:RK s.heap t items)(hs:s.heap.IsSliceOf sl k i .none)(pl:Qq k lo)(l:Qq i hi)
  (o:¬ (sIx items.size 0 lo=0/\sIx items.size items.size hi=items.size))
  (h:Q (.ref s.heap.objs.size) {s with heap:=s.heap.push {cls:=.type "tuple",data:=.seq ((items.toList.drop (sIx items.size 0 lo)).take (sIx items.size items.size hi-sIx items.size 0 lo)).toArray}})
  (hsz:items.size<=sizeLine):NF (NK prog w) A (Rj (.ref t) (.ref sl)) Q E s:=by
 have a:sizeOk (.seq ((items.toList.drop (sIx items.size 0 lo)).take (sIx items.size items.size hi-sIx items.size 0 lo)).toArray):=by
  change((items.toList.drop (sIx items.size 0 lo)).take (sIx items.size items.size hi-sIx items.size 0 lo)).toArray.size<=sizeLine;rw[Ic,IJ,I0,Jk]
  lia
 have r:sIx items.size items.size hi<=items.size:=sIx_le _ _ (Ig _) hi;have(os,f,e,p):=id hs;have g:s.TypeIs (.ref sl) "slice" :=⟨os,f,e⟩;unfold Rj;try with_reducible refine Oe ?_
 first|refine NA (ND ?_)|skip
 show NA (Qj c.typeIs (by decide) ?_);show NA (Oc (name:=NL "__getitem__") c.typeIs IT
  (Of IT c.typeIs Ro ?_ (RE _ _)))
 change NF _ _ (P8 (.ref t) >>= _) _ _ s;show NA (Rx c ?_);show NA (QN g ?_);rw[if_pos (by decide)];show NA (sliceApplied_gen hs pl l ?_);have d:¬ ((((sIx items.size 0 lo:Nat):Int)==0&&(1:Int)==1&&(sIx items.size items.size hi-sIx items.size 0 lo)==items.size)=T1):=by
  intro q;rw[Ie,Ie]at q;have u:((sIx items.size 0 lo:Nat):Int)=0:=eq_of_beq q.1.1;have v:sIx items.size items.size hi-sIx items.size 0 lo=items.size:=eq_of_beq q.2;show o {by lia,by lia}
 change NF _ _ (if(((sIx items.size 0 lo:Nat):Int)==0&&(1:Int)==1&&(sIx items.size items.size hi-sIx items.size 0 lo)==items.size)=T1 then _ else _) _ _ s;rw[if_neg d,pick_gen];first
  | show NA (m:=NW _) (NT (ND ⟨_,rfl,ND h⟩) a)
  | show NA (m:=NW _) (NT (NA (ND (ND ⟨_,rfl,ND h⟩))) a)
  | show NA (NA (m:=NW _) (NT (ND (ND ⟨_,rfl,ND h⟩)) a))
  | show NA (NA (m:=NW _) (NT (ND ⟨_,rfl,ND h⟩) a))
end
end HT
namespace L2
open PySem PySem.Spec PyProof.Rows
protected def TO:=St->Hp->(↑Int->Hp->Prop)->Prop
abbrev PO(X:Cx)(e:↑Expr)(t:TO):Prop:=
 ∀(a:!(Addr×Obj)) (s:NC) (Z:St) (H:Hp) (Q:↑Int->Hp->Prop),Inv X a Z H s->t Z H Q ->
  NF (NK X.prog X.w) X.A (evalPart e X.env) (λu d=>∃o c,Inv X a Z c d/\Qq u o/\Q o c) X.xe s
abbrev sA:TO:=λ_ H Q=>Q TU H
abbrev sB(t:TE):TO:=λZ H Q=>t Z H λx a=>∃i,x=.int i/\Q (TV i) a
def kT{ns:!Int}:∀{us:!Nz},Vals (ns.map V.int) us->Pb us ns:=by
 induction ns with
 | nil=>intro us r;rw[J3]at r;cases r;show .nil
 | cons n ns a=>
  intro us r;rw[Ir]at r;cases r with
  | cons c d=>
   have(t,e):=c;subst e;show .cons n t (a d)
section
variable {X:Cx}{e:Expr}{te:TE}{lo hi:↑Expr}{tl th:TO}{pos p2:Pos}
def zN:PO X TU sA:=by
 intro a s Z H Q I h;rw[PF];show ND {TU,H,I,.none,h}
def nC(h:PE X e te):PO X (TV e) (sB te):=by
 intro a s Z H Q I g;rw[Ry];show thn (h a s Z H _ I g) λu l d=>?_;have(x,c,k,j,f):=d;have(i,rfl,q):=f;have(t,rfl):=j;show{TV i,c,k,.int i t,q}
abbrev SlR(X:Cx)(r:V->↑Int->↑Int->Hp->VK->Prop):Prop:=
 ∀(a:!(Addr×Obj)) (s:NC) (Z:St) (H:Hp) (x:V) (v d c:Nz) (lo hi:↑Int) (f:Addr) (Q:VK),Inv X a Z H s->RelV x v->s.heap.IsSliceOf f d c .none->Qq d lo->Qq c hi->r x lo hi H Q ->
  ∃T id,typeLookup (.type T) "__getitem__" = pure (TV (.builtin id))/\s.TypeIs v T/\NF (NK X.prog X.w) X.A (Rj v (.ref f)) (EP X a Z Q) X.xe s
def SlR.or{r f:V->↑Int->↑Int->Hp->VK->Prop}(h:SlR X r)(h':SlR X f):SlR X (λx lo hi H Q=>r x lo hi H Q\/f x lo hi H Q):=by
 intro a s Z H x v k j lo hi l Q I g i d c q;rcases q with q|q;show h a s Z H x v k j lo hi l Q I g i d c q;show h' a s Z H x v k j lo hi l Q I g i d c q
abbrev tSl(r:V->↑Int->↑Int->Hp->VK->Prop)(te:TE)(tl th:TO):TE:=λZ H Q=>te Z H λx d=>tl Z d λl a=>th Z a λu c=>r x l u c Q
def wq{r:V->↑Int->↑Int->Hp->VK->Prop}(B:SlR X r)(O:PE X e te)(P:PO X lo tl)(z:PO X hi th):PE X (.Subscript e (.Slice lo hi TU p2) pos) (tSl r te tl th):=by
 intro d s Z H Q I h;show RF (thn (O d s Z H _ I h) λv o i=>?_);have(x,M,C,Y,t):=i;show Rb (thn (P d o Z M _ C t) λg J ⟨l,p,k,m,U⟩=>thn (z d J Z p _ k U) λf a i=>?_);have(u,j,E,G,L):=i;rw[PF];show ND ?_;have K:Inv X d Z j {a with heap:=a.heap.push {cls:=.type "slice",data:=.fields #[g,f,.none]}}:=E.kept (t':=a.toks) λb ob q=>NB _ q;have(T,id,y,N,S):=B d {a with heap:=a.heap.push {cls:=.type "slice",data:=.fields #[g,f,.none]}} Z j x v g f l u a.heap.objs.size Q K Y (Pl ..) m G L;change NF (NK X.prog X.w) X.A (Qr e (.Slice lo hi TU p2) v (.ref a.heap.objs.size)) (EP X d Z Q) X.xe {a with heap:=a.heap.push {cls:=.type "slice",data:=.fields #[g,f,.none]}};show SH (ops:=[.ref a.heap.objs.size,v]) N y S (by unhygienic rfl)
abbrev lP(xs:!V) (lo hi:↑Int):!V:=(xs.drop (HT.sIx xs.length 0 lo)).take (HT.sIx xs.length xs.length hi-HT.sIx xs.length 0 lo)
def jY(xs:!V)(lo hi:↑Int):(lP xs lo hi).length<=xs.length:=by
 unfold lP;rw[IJ,I0]
 lia
abbrev GE(K:yF):V->↑Int->↑Int->Hp->VK->Prop:=λx lo hi H Q=>∃a c,x=.ref a/\SqT K H a c /\
 ¬ (HT.sIx c.length 0 lo=0/\HT.sIx c.length c.length hi=c.length)/\∀p,H p=TU->Q (.ref p) (upd H p (.tup (lP c lo hi)))
def sl_tup:SlR X (GE X.K):=by
 intro u s Z H x v A w lo hi z Q I m p l j h;have(a,d,rfl,k,t,q):=h;cases m;have(f,r,i,g):=I.tuple k;have c:f.toArray.size=d.length:=by rw[Ic];show r.length.symm
 show{"tuple",_,IT.lookup,i.typeIs,?_};show HT.getItem_tuple_cut i p l j (by rw[c];show t) ?_ (by rw[c];show g);rw[c];show{.ref s.heap.objs.size,_,I.laid (t':=s.toks) (o:=.tup (lP d lo hi)) (λb y q=>NB _ q) (Ig _) ?_,Xr,q _ (I.hok.fresh (Ig _))};show{Ik (jY d lo hi) g,_,(r.drop (HT.sIx d.length 0 lo)).take (HT.sIx d.length d.length hi-HT.sIx d.length 0 lo),M4.new _ _}
abbrev D8(K:yF):R2:=λx y H Q=>∃a b d c,x=.ref a/\y=.ref b/\SqT K H a (d.map V.int)/\SqT K H b (c.map V.int)/\Q (.bl (HT.lexLt d c)) H
def CW(p:X.A.units<Ox):OpR X (N1 .Lt) (D8 X.K):=by
 intro w s Z H x y v u Q I k m h;have(a,b,g,f,rfl,rfl,j,l,q):=h;cases k;cases m;have(d,r,t,_):=I.tuple j;have(c,i,p2,_):=I.tuple l;have o:Pb d.toArray.toList g:=kT r;have i2:Pb c.toArray.toList f:=kT i;show HT.lt_tupInts t p2 o i2 p {.bl (HT.lexLt g f),H,I,Xr,q}
abbrev BH(K:yF):R2:=λx y H Q=>∃a b d c,x=.ref a/\y=.ref b/\SqT K H a d/\SqT K H b c/\d≠[]/\d.length+c.length<=sizeLine /\
 (c=[]->Q (.ref a) H)/\(c≠[]->∀p,H p=TU->Q (.ref p) (upd H p (.tup (d++c))))
def Vals.nil_iff{xs:!V}{us:!Nz}(r:Vals xs us):us=[]↔xs=[]:=by
 cases r with
 | nil=>simp
 | cons _ _=>simp
def zx:OpR X (Og .Add) (BH X.K):=by
 intro E s Z H x y v u Q I j A h;obtain⟨a,b,m,l,rfl,rfl,i,k,t,f,p,C⟩:=h;cases j;cases A;have(B,d,r,_):=I.tuple i;have(g,c,p2,_):=I.tuple k;show HT.cat_tup r p2 (λz=>t (d.nil_iff.mp z)) (λz=>{.ref a,H,I,Xr,p (c.nil_iff.mp z)}) (λz=>?_) (by rw[<-d.length,<-c.length];show f);show{.ref s.heap.objs.size,_,I.laid (t':=s.toks) (o:=.tup (m++l)) (λb G q=>NB _ q) (Ig _) ?_,Xr,C (λw=>z (c.nil_iff.mpr w)) _ (I.hok.fresh (Ig _))};show{by rw[Ij];show f,_,d.append c,M4.new _ _}
end
abbrev ixN(n:Nat) (i:Int):↑Nat:=if 0<=i then(if i<n then TV i.toNat else TU)else if -(n:Int)<=i then TV (i+n).toNat else TU
abbrev atI{a:Type} (xs:!a) (i:Int):↑a:=(ixN xs.length i).bind λj=>xs[j]?
def nq{n:Nat}{i:Int}{j:Nat}(h:ixN n i*>j):S0 i n*>j/\j<n/\-(n:Int)<=i/\i<n:=by
 unfold ixN at h;by_cases c:0<=i
 .rw[if_pos c]at h;by_cases a:i<n
  .rw[if_pos a]at h;have e:i.toNat=j:=IC.inj h;show{by rw[Sd c a,e],by lia,by lia,a}
  .rw[if_neg a]at h;cases h
 .rw[if_neg c]at h;by_cases a : -(n:Int)<=i
  .rw[if_pos a]at h;have e:(i+n).toNat=j:=IC.inj h;show{by rw[seqIndex_neg (by lia) a,e],by lia,a,by lia}
  .rw[if_neg a]at h;cases h
def mT{a:Type}{xs:!a}{i:Int}{v : a}(h:atI xs i*>v):∃j,S0 i xs.length*>j/\xs[j]?*>v/\j<xs.length/\-(xs.length:Int)<=i/\i<xs.length:=by
 unfold atI at h;cases e:ixN xs.length i with
 | none=>rw[e]at h;cases h
 | some j=>
  rw[e]at h;have(g,f,d,c):=nq e;show⟨j,g,h,f,d,c⟩
abbrev qX(b:Expr):Prop:=∀o i,subscripted b TZ o i=operate [o,i] (Rj o i)
abbrev IxR(X:Cx)(r:R2):Prop:=
 ∀(a slice:Expr) (c:!(Addr×Obj)) (s:NC) (Z:St) (H:Hp) (x y:V) (v u:Nz) (Q:VK),Inv X c Z H s->RelV x v->RelV y u->r x y H Q ->
  subscripted slice TZ v u=operate [v,u] (Rj v u)->NF (NK X.prog X.w) X.A (Qr a slice v u) (EP X c Z Q) X.xe s
abbrev MtR(X:Cx)(id:String)(r:V->!V->Hp->VK->Prop):Prop:=
 ∀(c:!(Addr×Obj)) (s:NC) (Z:St) (H:Hp) (x:V) (a:!V) (v:Nz) (d:!Nz) (Q:VK),Inv X c Z H s->RelV x v->Vals a d->r x a H Q ->
  NF (NK X.prog X.w) X.A (call (.builtin id) (v::d)) (EP X c Z Q) X.xe s
section
variable {X:Cx}{a b:Expr}{ta tb:TE}{pos:Pos}
def IxR.or{r e:R2}(h:IxR X r)(h':IxR X e):IxR X (λx y H Q=>r x y H Q\/e x y H Q):=by
 intro c slice d s Z H x y v u Q I f i q g;rcases q with q|q;show h c slice d s Z H x y v u Q I f i q g;show h' c slice d s Z H x y v u Q I f i q g
def MtR.or{id:String}{r g:V->!V->Hp->VK->Prop}(h:MtR X id r)(h':MtR X id g):MtR X id (λx xs H Q=>r x xs H Q\/g x xs H Q):=by
 intro c s Z H x xs v e Q I f d q;rcases q with q|q;show h c s Z H x xs v e Q I f d q;show h' c s Z H x xs v e Q I f d q
def F8{r:R2}(l:IxR X r)(e:PE X a ta)(i:PE X b tb)(hs:qX b):PE X (.Subscript a b pos) (tOp r ta tb):=by
 intro c s Z H Q I h;show RF (B6 e i I h λv u f x y k d g j q=>l a b c f Z k x y v u Q d g j q (hs _ _))
abbrev Gx(K:yF):R2:=λx y H Q=>∃p c i v,x=.ref p/\y=.int i/\SqL K H p c/\atI c i*>v/\Q v H
abbrev Gz(K:yF):R2:=λx y H Q=>∃p c i v,x=.ref p/\y=.int i/\SqT K H p c/\atI c i*>v/\Q v H
abbrev Gy:R2:=λx y H Q=>∃z i c,x=.str z/\y=.int i/\z.length<=sizeLine/\atI z.cps.toList i*>c/\Q (.str {#[c]}) H
def ix_list:IxR X (Gx X.K):=by
 intro l slice m s Z H x y v u Q I C L h A;have(p,U,i,z,rfl,rfl,G,M,q):=h;cases C;have(t,rfl):=L;have(f,r,e,S):=I.list G;have(j,d,P,Y,E,J):=mT M;have(w,B,g):=r.get P;have N:=r.length;have hn:=iS;have c:EP X m Z Q w s:=⟨z,H,I,g,q⟩;by_cases o:0<=i
 .have k:i.toNat=j:=by
   rw[Sd o J]at d;show IC.inj d
  show item_listR e.isList o (by lia) (by rw[k];exists B) c A
 .have k:(i+(f.toArray.size:Int)).toNat=j:=by
   rw[seqIndex_neg (by lia) E]at d;rw[Ic,<-N];show IC.inj d
  show QP (x:=w) e.isList.typeIs Qk.lookup
   (wpAny_getItem_list_neg (Q:=λr O=>r=w/\EP X m Z Q r O) e.isList (by lia) (by rw[Ic]<;>lia) (by lia) (by rw[k];exists B) ⟨Xr,c⟩) A
def ix_tup:IxR X (Gz X.K):=by
 intro d slice f s Z H x y v u Q I k B h o;have(p,N,i,z,rfl,rfl,l,E,q):=h;cases k;have(t,rfl):=B;have(C,r,g,M):=I.tuple l;have(j,m,L,P,O,S):=mT E;have(w,A,c):=r.get L;have G:=r.length;have U:=iS;have e:EP X f Z Q w s:=⟨z,H,I,c,q⟩;show QP (x:=w) g.typeIs slot_tuple_getitem.lookup
  (getItem_tuple (j:=j) (Q:=λr J=>r=w/\EP X f Z Q r J) g (by lia) (by lia) (by rw[Ic,<-G];show m) (by exists A) ⟨Xr,e⟩) o
def Cv:IxR X Gy:=by
 intro d slice B s Z H x y v u Q I g p h o;have(z,i,c,rfl,rfl,C,r,q):=h;have(t,rfl):=g;have(G,rfl):=p;have(j,e,A,E,k,m):=mT r;have w:z.cps.toList.length=z.length:=by simp[TC]
 rw[w]at e k m;have J:=iS;show SH (SI s z t) slot_str_getitem.lookup (getItem_str (c:=c) (by
  have l:decide (i < -(2^63:Int))=TZ:=decide_eq_false (by lia);have f:decide (i≥2^63)=TZ:=decide_eq_false (by lia);rw[l,f,Bool.or_false]) (by rw[e];exists A) {.str {#[c]},H,I.tok _,{_,Xr},q}) o
abbrev rIx(K:yF):R2:=λx y H Q=>Gx K x y H Q\/Gz K x y H Q\/Gy x y H Q
def Cu:IxR X (rIx X.K):=ix_list.or (ix_tup.or Cv)
def qb(c:!Nz)(n j:Nat)(u:Nz):Pw (·.setIfInBounds j u) {cls:=.type "list",data:=.seq c.toArray n}={cls:=.type "list",data:=.seq (c.set j u).toArray n}:=by
 simp[Pw]
def Inv.lst{d:!(Addr×Obj)}{Z:St}{H:Hp}{s:NC}{p:Addr}{xs:!V}(I:Inv X d Z H s)(h:H p*>(.lst xs)) :
  ∃(c:!Nz) (n:Nat),Vals xs c/\s.heap.get? p=TV {cls:=.type "list",data:=.seq c.toArray n}/\xs.length<=sizeLine:=by
 have(z,c,n,r,e):=I.hok p _ h;show⟨c,n,r,e,z⟩
def Inv.lstUpd{i:!(Addr×Obj)}{Z:St}{H:Hp}{s:NC}{p:Addr}{xs g:!V}{c its':!Nz}{n d:Nat}{f:Obj->Obj}(I:Inv X i Z H s)(h:H p*>(.lst xs))
  (ho:s.heap.get? p=TV {cls:=.type "list",data:=.seq c.toArray n}) (j:f {cls:=.type "list",data:=.seq c.toArray n}={cls:=.type "list",data:=.seq its'.toArray d}) (r:Vals g its') (hz:g.length<=sizeLine) (t:Nat) :
  Inv X i Z (upd H p (.lst g)) {s with heap:=s.heap.update p f,toks:=t}:=by
 have e:(s.heap.update p f).get? p=TV {cls:=.type "list",data:=.seq its'.toArray d}:=by
  rw[Oa f ho (by rw[j]<;>rfl),j]
 show I.write (x:=p) (e:=p) (by rw[h];trivial) (.inl rfl) (λb u l q=>(N0 _ _ (NS l)).trans q) {_,e} ?_;show⟨hz,its',d,r,e⟩
abbrev BM:V->V->V->Hp->(Hp->Prop)->Prop:=λo i v H Q=>∃p c k j,o=.ref p/\i=.int k/\H p*>(.lst c)/\ixN c.length k*>j/\Q (upd H p (.lst (c.set j v)))
def x8:E6 X BM:=by
 intro A s Z H o i v O L u Q I B G J h;have(p,E,k,j,rfl,rfl,l,K,q):=h;cases B;have(t,rfl):=G;have(c,n,r,e,C):=I.lst l;have(d,M,w,m):=nq K;have g:=r.length;have N:=iS;have y:Inv X A Z (upd H p (.lst (E.set j v))) {s with heap:=s.heap.update p (Pw (·.setIfInBounds j u))}:=
  I.lstUpd l e (qb c n j u) (r.set J j) (by rw[IF];show C) s.toks
 by_cases x:0<=k
 .have f:k.toNat=j:=by
   rw[Sd x m]at d;show IC.inj d
  show PySem.W.ki_setAt e x (by lia) (by rw[Ic,<-g];show m) (by rw[f];show{_,y,q})
 .have f:(k+(c.toArray.size:Int)).toNat=j:=by
   rw[seqIndex_neg (by lia) w]at d;rw[Ic,<-g];show IC.inj d
  show PySem.W.ki_setBack e (by lia) (by rw[Ic,<-g];show w) (by lia) (by rw[f];show{_,y,q})
def nU(lo hi:↑Int)(n:Nat):(OI lo hi TU n).1=((HT.sIx n 0 lo:Nat):Int)/\(OI lo hi TU n).2.1=((HT.sIx n n hi:Nat):Int)/\(OI lo hi TU n).2.2=1:=by
 show{?_,?_,Xr}
 .cases lo with
  | none=>simp[OI,HT.sIx]
  | some i=>
   dsimp[OI,HT.sIx,Le,show(1:Int)>0 by decide,if_true];by_cases h:i<0;dsimp[h,if_true]<;>lia;dsimp[h,if_false]<;>lia
 .cases hi with
  | none=>simp[OI,HT.sIx]
  | some i=>
   dsimp[OI,HT.sIx,Le,show(1:Int)>0 by decide,if_true];by_cases h:i<0;dsimp[h,if_true]<;>lia;dsimp[h,if_false]<;>lia
def lU(c:!Nz)(lo hi:↑Int):R3 c.toArray lo hi TU=((c.drop (HT.sIx c.length 0 lo)).take (HT.sIx c.length c.length hi-HT.sIx c.length 0 lo)).toArray:=by
 have(e,f,d):=nU lo hi c.toArray.size;unfold R3;rw[e,f,d];dsimp[SJ,Tt,Ic]<;>rfl
abbrev GD(K:yF):V->↑Int->↑Int->Hp->VK->Prop:=λx lo d H Q=>∃a c,x=.ref a/\SqL K H a c/\∀p,H p=TU->Q (.ref p) (upd H p (.lst (lP c lo d)))
def sl_list:SlR X (GD X.K):=by
 intro t s Z H x v z u lo e y Q I l m k g h;have(a,c,rfl,i,q):=h;cases l;have(p,r,f,j):=I.list i;have d:=r.length;show{"list",_,Qk.lookup,f.isList.typeIs,?_};show Qs f.isList m k g .none ∅ ?_ (by rw[Ic]<;>lia);rw[lU,<-d];show{.ref s.heap.objs.size,_,I.laid (t':=s.toks) (o:=.lst (lP c lo e)) (λb w q=>NB _ q) (Ig _) ?_,Xr,q _ (I.hok.fresh (Ig _))};show{Ik (jY c lo e) j,_,0,(r.drop (HT.sIx c.length 0 lo)).take (HT.sIx c.length c.length e-HT.sIx c.length 0 lo),NI _ rfl}
abbrev j2:V->Bool
 | .non=>T1
 | .bl _=>T1
 | .int _=>T1
 | .str _=>T1
 | _=>TZ
abbrev eqV:V->V->Bool
 | .non,.non=>T1
 | .bl a,.bl b=>a==b
 | .bl a,.int b=>(if a then 1 else 0)==b
 | .int a,.bl b=>a==(if b then 1 else 0)
 | .int a,.int b=>a==b
 | .str a,.str b=>a==b
 | _,_=>TZ
def Cd{A:NU}{s:NC}{y x:V}{u v:Nz}(e:RelV y u)(c:RelV x v)(g:j2 y=T1)(f:j2 x=T1):N4 A s u v (eqV y x):=by
 cases y with
 | non=>
  cases e;cases x with
  | non=>cases c;show N4.same _
  | bl b=>cases c;show N4.none_bool b
  | int b=>have(t,rfl):=c;show N4.none_int b t
  | str b=>have(t,rfl):=c;show N4.none_str b t
  | _=>show absurd (show TZ=T1 from f) Il
 | bl a=>
  cases e;cases x with
  | non=>cases c;show N4.bool_none a
  | bl b=>cases c;show N4.bool_bool a b
  | int b=>have(t,rfl):=c;show N4.bool_int a b t
  | str b=>have(t,rfl):=c;show N4.bool_str a b t
  | _=>show absurd (show TZ=T1 from f) Il
 | int a=>
  have(d,rfl):=e;cases x with
  | non=>cases c;show N4.int_none a d
  | bl b=>cases c;show N4.int_bool a d b
  | int b=>have(t,rfl):=c;show RD a d b t
  | str b=>have(t,rfl):=c;show Rz a d b t
  | _=>show absurd (show TZ=T1 from f) Il
 | str a=>
  have(d,rfl):=e;cases x with
  | non=>cases c;show N4.str_none a d
  | bl b=>cases c;show N4.str_bool a d b
  | int b=>have(t,rfl):=c;show RA a d b t
  | str b=>have(t,rfl):=c;show N4.str_str a d b t
  | _=>show absurd (show TZ=T1 from f) Il
 | _=>show absurd (show TZ=T1 from g) Il
abbrev eqU(x:V) (u:Nz):Bool:=match u with
 | .none=>eqV .non x
 | .bool b=>eqV (.bl b) x
 | .int i _=>eqV (.int i) x
 | .str z _=>eqV (.str z) x
 | _=>TZ
def vd{x y:V}{u:Nz}(r:RelV y u)(f:j2 y=T1):eqU x u=eqV y x:=by
 cases y with
 | non=>cases r;rfl
 | bl b=>cases r;rfl
 | int i=>have(t,rfl):=r;rfl
 | str z=>have(t,rfl):=r;rfl
 | _=>show absurd (show TZ=T1 from f) Il
def i4{x:V}:∀{xs:!V} {us:!Nz},Vals xs us->xs.all j2=T1->us.any (eqU x)=xs.any λy=>eqV y x
 | _,_,.nil,_=>rfl
 | y::xs,u::us,.cons r t,f=>by
  rw[JX,Ie]at f;rw[K8,K8,vd r f.1,i4 t f.2]
def gI{A:NU}{s:NC}{x:V}{v:Nz}(d:RelV x v)(e:j2 x=T1):∀{xs:!V} {us:!Nz},Vals xs us->xs.all j2=T1->∀u∈us,N4 A s u v (eqU x u)
 | _,_,.nil,_=>λu c=>by cases c
 | y::xs,u::us,.cons r t,f=>λg c=>by
  rw[JX,Ie]at f;rcases ycM c with rfl|c;rw[vd r f.1];show Cd r d f.1 e;show gI d e t f.2 g c
abbrev inV(x:V) (xs:!V):Bool:=xs.any λy=>eqV y x
abbrev rIn(K:yF)(d:Bool):R2:=λx y H Q=>∃p c,y=.ref p/\(SqL K H p c\/SqT K H p c)/\j2 x=T1/\c.all j2=T1/\Q (.bl (if d then ~~~inV x c else inV x c)) H
def op_in_seq:OpR X (N1 .In) (rIn X.K TZ):=by
 intro m s Z H x y v u Q I i l h;have(p,o,rfl,d,j,e,q):=h;cases l;rcases d with d|d
 .have(c,r,f,k):=I.list d;show Si (eqU x) f.isList (λw g=>gI i j r e w (by exists g)) {.bl _,H,I,Xr,?_};rw[show c.toArray.any (eqU x)=c.any (eqU x) by simp,i4 r e];show q
 .have(c,r,f,k):=I.tuple d;show R4 (eqU x) f (λw g=>gI i j r e w (by exists g)) {.bl _,H,I,Xr,?_};rw[show c.toArray.any (eqU x)=c.any (eqU x) by simp,i4 r e];show q
def op_notIn_seq:OpR X (N1 .NotIn) (rIn X.K T1):=by
 intro m s Z H x y v u Q I i l h;have(p,o,rfl,d,j,e,q):=h;cases l;rcases d with d|d
 .have(c,r,f,k):=I.list d;show RG (eqU x) f.isList (λw g=>gI i j r e w (by exists g)) {.bl _,H,I,Xr,?_};rw[show c.toArray.any (eqU x)=c.any (eqU x) by simp,i4 r e];show q
 .have(c,r,f,k):=I.tuple d;show Rq (eqU x) f (λw g=>gI i j r e w (by exists g)) {.bl _,H,I,Xr,?_};rw[show c.toArray.any (eqU x)=c.any (eqU x) by simp,i4 r e];show q
def op_notIn_str:OpR X (N1 .NotIn) (λx y H Q=>∃i j,x=.str i/\y=.str j/\Q (.bl (~~~(~~~(Ow j i 0 j.length 1).isEmpty))) H):=by
 intro e s Z H x y v u Q I c d h;have(i,j,rfl,rfl,q):=h;have(t,rfl):=c;have(f,rfl):=d;show notIn_str {.bl _,H,I,Xr,q}
def mV:MU X (.builtin "len") (λxs H Q=>∃p d,xs=[.ref p]/\(SqL X.K H p d\/SqT X.K H p d)/\Q (.int d.length) H):=by
 intro l s Z H xs m Q I r h;have(p,d,rfl,e,q):=h;have(u,rfl,k):=eU r;cases k;have o:=iS;rcases e with e|e
 .have(i,g,f,j):=I.list e;have c:=g.length;show Calls.call_len_list f.isList (by dsimp[Ic]<;>lia) {.int d.length,H,I.tok _,{s.toks+1,by rw[Ic,c]},q}
 .have(i,g,f,j):=I.tuple e;have c:=g.length;show len_tuple f (by dsimp[Ic]<;>lia) {.int d.length,H,I.tok _,{s.toks+1,by rw[Ic,c]},q}
def mW:MU X (.builtin "len") (λxs H Q=>∃z,xs=[.str z]/\z.length<=sizeLine/\Q (.int z.length) H):=by
 intro c s Z H xs e Q I r h;have(z,rfl,d,q):=h;have(u,rfl,t,rfl):=eU r;have f:=iS;show len_str (by lia) {.int z.length,H,I.tok _,{_,Xr},q}
def MU.or{f:Nz}{r g:!V->Hp->VK->Prop}(h:MU X f r)(h':MU X f g):MU X f (λxs H Q=>r xs H Q\/g xs H Q):=by
 intro c s Z H xs e Q I d q;rcases q with q|q;show h c s Z H xs e Q I d q;show h' c s Z H xs e Q I d q
def mX:MU X (.type "list") (λxs H Q=>∃p g,xs=[.ref p]/\(SqL X.K H p g\/SqT X.K H p g)/\∀l,H l=TU->Q (.ref l) (upd H l (.lst g))):=by
 intro E s Z H xs J Q I r h;have(p,g,rfl,k,q):=h;have(u,rfl,G):=eU r;cases G;have v:∀(c:!Nz),Vals g c->g.length<=sizeLine->∀(d:Heap) (i:Nat),(∀b B,s.heap.get? b*>B->d.get? b*>B) ->
   d.get? s.heap.objs.size=TV {cls:=.type "list",dict:=TU,data:=.seq c.toArray i,slots:=#[]}->EP X E Z Q (.ref s.heap.objs.size) {s with heap:=d}:=λc f j d i m e=>
  {.ref s.heap.objs.size,_,I.laid (t':=s.toks) m (Ig _) (show MR X.prog X.w _ d _ (.lst g)from⟨j,c,i,f,e⟩),Xr,q _ (I.hok.fresh (Ig _))}
 rcases k with k|k
 .have(c,f,x,j):=I.list k;have t:=f.length;have(o,y,z,n,A):=x.isList;show call_list_seq p (.inl rfl) y z A (λd i m e=>v c f j d i m e) (by dsimp[Ic]<;>lia)
 .have(c,f,x,j):=I.tuple k;have t:=f.length;have(o,y,z,n,A):=x;show call_list_seq p (.inr rfl) y z A (λd i m e=>v c f j d i m e) (by dsimp[Ic]<;>lia)
def lM:MU X (.type "tuple") (λxs H Q=>∃p d,xs=[.ref p]/\((SqL X.K H p d/\∀l,H l=TU->Q (.ref l) (upd H l (.tup d)))\/(SqT X.K H p d/\Q (.ref p) H))):=by
 intro m s Z H xs B Q I r h;have(p,d,rfl,h):=h;have(u,rfl,z):=eU r;cases z;rcases h with⟨k,q⟩|⟨k,q⟩
 .have(c,j,i,t):=I.list k;have v:=j.length;show call_tuple_list i.isList (λg A=>?_) (by dsimp[Ic]<;>lia);have x:Inv X m Z H {s with heap:=g}:=I.kept (t':=s.toks) A;have y:Inv X m Z (upd H g.objs.size (.tup d)) {s with heap:=g.push {cls:=.type "tuple",data:=.seq c.toArray}}:=
   x.laid (t':=s.toks) (λb o e=>NB _ e) (Ig _) (show MR X.prog X.w _ _ _ (.tup d)from{t,c,j,M4.new _ _})
  show{.ref g.objs.size,_,y,Xr,q _ (x.hok.fresh (Ig _))}
 .have(c,j,i,t):=I.tuple k;show call_tuple_same i {.ref p,H,I,Xr,q}
abbrev tyV(K:yF)(T:String)(x:V)(H:Hp):Prop:=match x with
 | .str _=>T = "str"
 | .int _=>T = "int"
 | .ref p=>(T = "list" /\ ∃d,SqL K H p d)\/(T = "tuple" /\ ∃o,K.lookup p*>o/\o.cls=.type "tuple" /\ o.dict=TU) \/
   (T = "dict" /\ ((∃c,H p*>(.dK c)) \/ ∃c,H p*>(.dT c)))\/(T = "set" /\ ∃S n,H p*>(.set S n))
 | _=>False
def yw{q:!(Addr×Obj)}{Z:St}{H:Hp}{s:NC}{T:String}{x:V}{v:Nz}(I:Inv X q Z H s)(r:RelV x v)(g:tyV X.K T x H) :
  s.TypeIs v T/\∀a,v=.ref a->∃m,s.heap.get? a*>m/\m.dict=TU:=by
 cases x with
 | str z=>
  have(t,rfl):=r;cases (show T = "str" from g);show{SI s z t,λ_ e=>nomatch e}
 | int i=>
  have(t,rfl):=r;cases (show T = "int" from g);show{Px s i t,λ_ e=>nomatch e}
 | ref p=>
  cases r;rcases g with⟨rfl,A,y⟩|⟨rfl,o,d,u,j⟩|⟨rfl,d⟩|⟨rfl,S,n,d⟩
  .have(w,_,l,_):=I.list y;show{l.isList.typeIs,λa e=>?_};cases e;have(o,n,e,c,j,_):=l;show⟨o,e,j⟩
  .show{{o,I.kIn p o d,u},λa e=>?_};cases e;show{o,I.kIn _ o d,j}
  .have z:∃o,s.heap.get? p*>o/\o.ExactDict:=by
    rcases d with⟨k,d⟩|⟨k,d⟩
    .obtain⟨_,_,_,_,o,_,_,e,f,_⟩:=I.hok p _ d;show⟨o,e,f⟩
    .obtain⟨_,_,_,_,o,_,_,e,f,_⟩:=I.hok p _ d;show⟨o,e,f⟩
   have(o,e,f):=z;show{⟨o,e,f.1⟩,λa h=>?_};cases h;show⟨o,e,f.2.1⟩
  .have(o,_,_,_,e,f,_):=I.hok p _ d;show{⟨o,e,f.1⟩,λa h=>?_};cases h;show⟨o,e,f.2.1⟩
 | _=>show N5 g
abbrev Ev(K:yF)(T:String)(r:V->!V->Hp->VK->Prop)(d:TE):TE:=λZ H Q=>d Z H λx c=>tyV K T x c/\r x [] c Q
abbrev tBM(K:yF)(T:String)(r:V->!V->Hp->VK->Prop)(f:TE)(t:TA):TE:=λZ H Q=>f Z H λx c=>tyV K T x c/\t Z c λd e=>r x d e Q
variable {o e:Expr}{es:!Expr}{to:TE}{t:TA}{name:Str}{apos cpos:Pos}{T id:String}{r:V->!V->Hp->VK->Prop}
def Dq(m:Py T)(f:Slot T name id)(g:P9 (.builtin id)=pure (.type "method_descriptor"))(l:MtR X id r)(ho:PE X o to)
  (d:OA o name X.env (eval o X.env)=eval o X.env:=by rfl) (c:(apos.endLine==cpos.line)=T1:=by rfl):PE X (.Call (.Attribute o name apos) [] [] cpos) (Ev X.K T r to):=by
 intro i s Z H Q I h;show wpAny_Call_method0_late d c (thn (ho i s Z H _ I h) λv q u=>?_);have(x,p,j,k,z,w):=u;have(A,y):=yw j k z;show{T,id,m,f,g,A,y,QU rfl (PySem.evalArgs_none (l i q Z p x [] v [] Q j k .nil w))}
def F6(A:Py T)(g:Slot T name id)(k:P9 (.builtin id)=pure (.type "method_descriptor"))(q:MtR X id r)(ho:PE X o to)(y:PA X (e::es) t)
  (f:OA o name X.env (eval o X.env)=eval o X.env:=by rfl)
  (i:((OY cpos (NR (e::es) X.env)).all (λx=> ~~~x.1)&&(RP cpos (Ql [] X.env)).all (λx=>x.1.isSome)
   && decide ((e::es).length+([]:!Sv).length+(if([]:!Sv).isEmpty then 0 else 1)<30))=T1:=by rfl)
  (d:(apos.endLine==cpos.line)=T1:=by rfl) (hs:NR (e::es) X.env=(TZ,eval e X.env)::NR es X.env:=by rfl) (c:(OY cpos (NR es X.env)).any (·.1)=TZ:=by rfl) :
  PE X (.Call (.Attribute o name apos) (e::es) [] cpos) (tBM X.K T r to t):=by
 intro j s Z H Q I h;show wpAny_Call_method_late f i d rfl (thn (ho j s Z H _ I h) λv C E=>?_);have(x,B,m,l,O,L):=E;have(P,M):=yw m l O;show{T,id,A,g,k,P,M,?_};have p:=y cpos j C Z B _ m L;rw[hs]at p|-;show QU (by change(TZ||(OY cpos (NR es X.env)).any (·.1))=TZ;rw[c]<;>rfl) (Calls.evalArgs_plain ?_);show thn p λJ z ⟨vs,G,w,u,N⟩=>q j z Z G x vs v J Q w l u N
end
abbrev MtM(X:Cx)(id:String)(r:V->!V->Hp->VK->Prop):Prop:=
 ∀(c:!(Addr×Obj)) (s:NC) (Z:St) (H:Hp) (x:V) (a:!V) (v:Nz) (d:!Nz) (Q:VK),Inv X c Z H s->RelV x v->Vals a d->r x a H Q ->
  NF (NK X.prog X.w) X.A (call (.builtin id) (v::d)) (EP X c Z Q) X.xe s
def Vals.one:∀{x:V} {us:!Nz},Vals [x] us->∃u,us=[u]/\RelV x u:=by
 intro x us h;cases h with
 | cons r t=>cases t;show{_,Xr,r}
def Vals.zero:∀{us:!Nz},Vals [] us->us=[]
 | _,.nil=>rfl
def Vals.dropLast{xs:!V}{us:!Nz}(h:Vals xs us):Vals xs.dropLast us.dropLast:=by
 induction h with
 | nil=>show .nil
 | cons r t a=>
  cases t with
  | nil=>show .nil
  | cons q c=>show .cons r a
def Vals.eraseIdx:∀{xs:!V} {us:!Nz} (i:Nat),Vals xs us->Vals (xs.eraseIdx i) (us.eraseIdx i)
 | _,_,_,.nil=>.nil
 | _,_,0,.cons _ t=>t
 | _,_,i+1,.cons r t=>.cons r (Vals.eraseIdx i t)
def Vals.reverse{xs:!V}{us:!Nz}(h:Vals xs us):Vals xs.reverse us.reverse:=by
 induction h with
 | nil=>show .nil
 | cons r t a=>rw[IG,IG];show Vals.append a (.cons r .nil)
def Vals.rep{xs:!V}{us:!Nz}(h:Vals xs us):∀k:Nat,Vals (Ih k xs).flatten (Ih k us).flatten
 | 0=>.nil
 | k+1=>by
  rw[IV,IV,Jh,Jh];show Vals.append h (Vals.rep h k)
def pM{d:Type}(l:!d):l.eraseIdx (l.length-1)=l.dropLast:=by
 induction l with
 | nil=>rfl
 | cons a r c=>
  cases r with
  | nil=>rfl
  | cons b r=>
   have e:(a::b::r).length-1=((b::r).length-1)+1:=by
    have g:(a::b::r).length=r.length+2:=rfl;have f:(b::r).length=r.length+1:=rfl
    lia
   rw[e,Kl,c];all_goals rfl
def mw{a:Type}:∀(l:!a) (i:Nat),(l.eraseIdx i).length<=l.length
 | [],_=>Ig _
 | _::_,0=>Km _
 | _::r,i+1=>Kz (mw r i)
def fw(a:!Nz):∀(k:Nat) (c:!Nz),
  Lh (λd f=>d++f) c.toArray (Ih k a.toArray)=(c++(Ih k a).flatten).toArray
 | 0,c=>by simp
 | k+1,c=>by
  have e:c.toArray++a.toArray=(c++a).toArray:=by simp
  have g:(c++a)++(Ih k a).flatten=c++(Ih (k+1) a).flatten:=by
   rw[IV,Jh,Iy]
  rw[<-g,<-fw a k (c++a),<-e,IV,Lk]
section
variable {X:Cx}{OK:!(Addr×Obj)}{Z:St}{H:Hp}{s:NC}{l b:Addr}{xs ys zs:!V}
def Inv.lset{a its':!Nz}{n:Nat}{f:Array Nz->Array Nz}{t':Nat}(I:Inv X OK Z H s)(d:H l*>(.lst xs))
  (e:s.heap.get? l=TV {cls:=.type "list",data:=.seq a.toArray n}) (i:f a.toArray=its'.toArray) (h:Vals ys its') (hz:ys.length<=sizeLine) :
  Inv X OK Z (upd H l (.lst ys)) {s with heap:=s.heap.update l (Pw f),toks:=t'}:=by
 have q:=PySem.IsL.update e f;rw[i]at q;show I.write (x:=l) (e:=l) (by rw[d];show trivial) (.inl rfl) (λk u g j=>(N0 s.heap (Pw f) (NS g)).trans j) {_,q} ?_;show{hz,its',_,h,q}
def Inv.lnew{a:!Nz}{t':Nat}(I:Inv X OK Z H s)(d:Vals ys a)(hz:ys.length<=sizeLine) :
  Inv X OK Z (upd H s.heap.objs.size (.lst ys)) {s with heap:=s.heap.push {cls:=.type "list",data:=.seq a.toArray},toks:=t'}:=
 I.laid (λ_ _ q=>NB _ q) (Ig _) {hz,a,0,d,NI _ rfl}
def Inv.fresh(I:Inv X OK Z H s):H s.heap.objs.size=TU:=I.hok.fresh (Ig _)
def Inv.lstM(I:Inv X OK Z H s)(c:H l*>(.lst xs)):xs.length<=sizeLine/\∃(a:!Nz) (n:Nat),Vals xs a/\xs.length=a.length/\s.heap.get? l=TV {cls:=.type "list",data:=.seq a.toArray n}:=by
 have(z,a,n,r,e):=I.hok l _ c;show⟨z,a,n,r,r.length,e⟩
def dZ{n:Nat}(h:n<=sizeLine):N8 n=TZ:=by
 unfold N8;show decide_eq_false (by lia)
end
section
variable {X:Cx}
abbrev nI:V->!V->Hp->VK->Prop:=λx vs H Q=>∃l a y,x=.ref l/\vs=[y]/\H l*>(.lst a)/\a.length<sizeLine/\Q .non (upd H l (.lst (a++[y])))
def tP:MtM X "list.append" nI:=by
 intro i s Z H x vs v o Q I f d h;have(l,k,y,rfl,rfl,c,j,q):=h;cases f;have(u,rfl,g):=d.one;have(z,a,n,r,m,e):=I.lstM c;show Oz F.slot_list_append {_,e,Xr} F.entry_list_append (F.args_list_append_2 _ _) (PySem.list_append l a.toArray n u (by rw[Ic];lia)) {e,?_};show{.non,_,I.lset (its':=a++[u]) c e ∅ (r.append (.cons g .nil)) ?_,Xr,q};rw[Ij,Kv]
 lia
abbrev Ad:V->!V->Hp->VK->Prop:=λx vs H Q=>∃l b a c,x=.ref l/\vs=[.ref b]/\H l*>(.lst a)/\H b*>(.lst c)/\a.length+c.length<=sizeLine/\Q .non (upd H l (.lst (a++c)))
def mt_extend:MtM X "list.extend" Ad:=by
 intro y s Z H x vs v G Q I j p h;obtain⟨l,b,C,J,rfl,rfl,g,k,B,q⟩:=h;cases j;have(u,rfl,w):=p.one;cases w;have(z,c,n,r,E,e):=I.lstM g;have(A,a,o,m,t,i):=I.lstM k;have f:c.toArray.size+a.toArray.size<=sizeLine:=by rw[Ic,Ic];lia
 have d:¬ (~~~c.toArray.isEmpty&&N8 (c.toArray.size+a.toArray.size))=T1:=by
  rw[dZ f,JZ];show Il
 show Oz Qa {_,e,Xr} PX (PJ _ _)
  (Pp l c.toArray n b a.toArray o d (by rw[Ic];lia) (by lia)) {e,i,?_}
 show{.non,_,I.lset (its':=c++a) g e ∅ (r.append m) ?_,Xr,q};rw[Ij]
 lia
abbrev Ea:V->!V->Hp->VK->Prop:=λx vs H Q=>∃l a y,x=.ref l/\vs=[]/\H l*>(.lst a)/\a[a.length-1]?*>y/\Q y (upd H l (.lst a.dropLast))
def CG:MtM X "list.pop" Ea:=by
 intro p s Z H x vs v w Q I i g h;have(l,t,y,rfl,rfl,f,j,q):=h;cases i;have d:=g.zero;subst d;have(z,a,n,r,k,e):=I.lstM f;have(u,o,m):=r.get j;have c:a.toArray[a.toArray.size-1]?*>u:=by
  change a.toArray[a.length-1]?*>u;rw[<-Kw,<-k];show o
 show Oz Sj {_,e,Xr} R5 (F.args_list_pop_1 _) (MeetsSeq.list_pop_last l a.toArray n u c (by rw[Ic];lia)) {e,?_};show{y,_,I.lset (its':=a.dropLast) f e ?_ r.dropLast ?_,m,q}
 .change a.toArray.eraseIdxIfInBounds (a.toArray.size-1)=a.dropLast.toArray;rw[Ic,Ku,pM]
 .rw[List.length_dropLast]
  lia
abbrev qC:V->!V->Hp->VK->Prop:=λx vs H Q=>∃l a i k y,x=.ref l/\vs=[.int i]/\H l*>(.lst a)/\-(2^63)<=i/\i<2^63/\S0 i a.length*>k/\a[k]?*>y/\Q y (upd H l (.lst (a.eraseIdx k)))
def vT:MtM X "list.pop" qC:=by
 intro G s Z H x vs v J Q I f p h;obtain⟨l,g,i,k,y,rfl,rfl,d,o,E,j,A,q⟩:=h;cases f;have(u,rfl,C):=p.one;have(t,rfl):=C;have(z,a,n,r,B,e):=I.lstM d;have(w,m,c):=r.get A;show Oz Sj {_,e,Xr} R5 (F.args_list_pop_2 _ _)
  (MeetsSeq.list_pop_at l a.toArray n i t k w (Qb o E) (by rw[Ic,<-B];show j) (by rw[<-Kw];show m) (by rw[Ic];lia)) {e,?_}
 show{y,_,I.lset (its':=a.eraseIdx k) d e ?_ (r.eraseIdx k) ?_,c,q}
 .change a.toArray.eraseIdxIfInBounds k=(a.eraseIdx k).toArray;rw[Ku]
 .have:=mw g k
  lia
abbrev Gr:R2:=λx y H Q=>∃l b a c,x=.ref l/\y=.ref b/\H l*>(.lst a)/\H b*>(.lst c)/\a.length+c.length<=sizeLine/\∀p,H p=TU->Q (.ref p) (upd H p (.lst (a++c)))
def op_cat:OpR X (Og .Add) Gr:=by
 intro p s Z H x y v u Q I f m h;obtain⟨l,b,A,E,rfl,rfl,k,g,w,q⟩:=h;cases f;cases m;have(z,c,n,r,C,e):=I.lstM k;have(t,a,B,i,j,d):=I.lstM g;show PySem.P.add_list e d ?_ (by rw[Ic,Ic];lia);have o:c.toArray++a.toArray=(c++a).toArray:=by simp
 rw[o];show{.ref _,_,I.lnew (t':=s.toks) (r.append i) (by rw[Ij];lia),Xr,q _ I.fresh}
abbrev GC:R2:=λx y H Q=>∃l k a,x=.ref l/\y=.int k/\H l*>(.lst a)/\-(2^63)<=k/\k<2^63/\a.length*k.toNat<=sizeLine /\
 ∀p,H p=TU->Q (.ref p) (upd H p (.lst (Ih k.toNat a).flatten))
def je{c:Type}(xs:!c)(k:Nat):(Ih k xs).flatten.length=k*xs.length:=by
 induction k with
 | zero=>simp
 | succ k a=>rw[IV,Jh,Ij,a,Nat.succ_mul,Mq]
def op_rep:OpR X (Og .Mult) GC:=by
 intro M s Z H x y v u Q I B G h;obtain⟨l,k,O,rfl,rfl,E,C,L,w,q⟩:=h;cases B;have(t,rfl):=G;have(z,c,n,r,K,e):=I.lstM E;have j:c.toArray.size*k.toNat<=sizeLine:=by rw[Ic,<-K];show w
 have i:¬ c.toArray.size*k.toNat>(2^63-1) / 8:=by
  have:(sizeLine:Nat)<=(2^63-1) / 8:=by decide
  lia
 have f:¬ (~~~Builtin.List.listFitsIndex k)=T1:=by
  rw[Qb C L];show Il
 have d:¬ N8 (c.toArray.size*k.toNat)=T1:=by
  rw[dZ j];show Il
 have g:Lh (λp o=>p++o) #[] (Ih (if c.toArray.isEmpty=T1 then 0 else k.toNat) c.toArray)=(Ih k.toNat c).flatten.toArray:=by
  have A:∀m:Nat,Lh (λp o=>p++o) #[] (Ih m c.toArray)=(Ih m c).flatten.toArray:=λm=>by
   have:=fw c m [];rw[Ki]at this;show this
  rw[A];cases c with
  | nil=>simp
  | cons a N=>rw[if_neg ∅]
 show Pd (T:="list") (U:="int") (by decide) {_,e,Xr} (λJ=>Px J k t) Sk Q0 OW repeat_list Qy.lookup
  (Oz OW (Px s k t) Qz (Qm _ _) (Q5 k t l c.toArray n)
   {e,Xr,{_,e,Xr},Oz Sl {_,e,Xr} R6 (RQ _ _) (Pm l c.toArray n k t f i d) {e,?_}})
 rw[g];show{.ref _,_,I.lnew (t':=s.toks) (r.rep k.toNat) (by rw[je,LF];show w),Xr,q _ I.fresh}
end
section
variable {prog:NM}{w:NP}{A:NU}{E:Nz->NC->Prop}{s:NC}
def uy(d e:!Nz)(a c:Nat):d.toArray.extract 0 a++e.toArray++d.toArray.extract c d.toArray.size=(d.take a++e++d.drop c).toArray:=by
 apply Array.toList_inj.mp;first
  | (simp
     show Iu ∅)
  | simp[Iu]
  | simp
def pG{a c n:Nat}(d:a<=c)(g:c<=n):OI (TV (a:Int)) (TV (c:Int)) TU n=((a:Int),(c:Int),1):=by
 dsimp[OI,Le];have e:¬ ((a:Int)<0):=by lia
 have f:¬ ((c:Int)<0):=by lia
 dsimp[e,f,if_false,show(1:Int)>0 by decide,if_true];congr 1
 .lia
 .congr 1;lia
set_option maxRecDepth 100000 in
def lT{l b sl:Addr}{items new:Array Nz}{n C:Nat}{v q:Nz}{a c:Nat}{Q:Unit->NC->Prop}
  (e:s.heap.get? l=TV {cls:=.type "list",data:=.seq items n}) (y:s.heap.get? b=TV {cls:=.type "list",data:=.seq new C}) (p:l≠b)
  (hs:s.heap.IsSliceOf sl v q .none) (pl:Qq v (TV (a:Int))) (G:Qq q (TV (c:Int))) (o:a<=c) (H:c<=items.size)
  (hsz:items.size+new.size<=sizeLine) (h:Q () {s with heap:=s.heap.update l (Pw λxs=>xs.extract 0 a++new++xs.extract c xs.size)}) :
  NF (NK prog w) A (QJ (.ref l) (.ref sl) (.ref b)) Q E s:=by
 have u:s.heap.IsList l items:=PySem.IsL.isList e;have B:s.heap.IsList b new:=PySem.IsL.isList y;have(os,f,t,g):=id hs;have k:s.TypeIs (.ref sl) "slice" :=⟨os,f,t⟩;have i:¬ ((rawPart TU==Pe 0)=T1):=Il;have d:Qt (.ref l) (.ref b)=TZ:=by
  unfold Qt;show beq_eq_false_iff_ne.mpr p
 have j:(max (a:Int) (c:Int)).toNat=c:=by lia
 have r:((λxs:Array Nz=>xs.extract 0 a++new++xs.extract c xs.size) items).size<=sizeLine+1:=by
  dsimp[LG,Array.size_extract]
  lia
 unfold QJ;try with_reducible refine Oe ?_
 first|refine NA (ND ?_)|skip
 show NA (Qj u.typeIs (by decide) ?_);show NA (Oc (name:=NL "__setitem__") u.typeIs RS
  (Of RS u.typeIs entry_list_setitem ?_ (args_list_setitem _ _ _)))
 change NF _ _ (PZ (.ref sl) >>= _) _ _ s;show NA ?_;unfold PZ;show NA (wpAny_specialOf k slice_no_index ?_);dsimp[Option.isNone_none,if_true];show ND ?_;change NF _ _ (P9 (.ref sl) >>= _) _ _ s;show NA (QN k ?_);first
  | rw[if_neg (by decide)]
  | refine PySem.W.KFB.if_not (by decide) ?_
 rw[listSliceParts_eq];show NA (NA (NQ f g (x:=.none) rfl (NA (Rc .none ?_))));rw[if_neg i];show NA (NQ f g (x:=v) rfl (NA (Rc pl ?_)));show NA (NQ f g (x:=q) rfl (NA (Rc G (ND ?_))));first
  | dsimp[d,JC,if_false]
  | refine PySem.W.KFB.if_not d ?_
  | (dsimp only
     rw[if_neg (by rw[d];show Il)])
 show NA (m:=Qg (.ref b) "must assign iterable to extended slice") ?_;unfold Qg;show NA (QN B.typeIs ?_);first
  | refine PySem.W.KFB.if_so (by decide) ?_
  | rw[if_pos (by decide)]
  | dsimp[beq_self_eq_true,Mr,if_true]
 unfold Ti;show NA (Op y rfl (ND ?_));show NA (NA (Op e rfl (ND ?_)));show NA (Se ((sliceIndices_raw (TV (a:Int)) (TV (c:Int)) TU items.size ∅).trans (congrArg (pure:Int×Int×Int->Sem (Int×Int×Int)) (pG o H))) ?_);change NF _ _ (if((1:Int)==1)=T1 then _ else _) _ _ s;rw[if_pos (by decide)];show NA (P6 ?_);first
  | dsimp[dZ hsz,JC,if_false]
  | refine PySem.W.KFB.if_not (dZ hsz) ?_
 first|refine NA (ND ?_)|skip
 change NF _ _ (updateSeq l (λxs=>xs.extract 0 ((a:Int)).toNat++new++xs.extract (max (a:Int) (c:Int)).toNat xs.size) >>= _) _ _ s;rw[j,IA];show NA (Sn (hz:=Ik (IX _ _) hsz) (_hz':=r) e rfl ?_);show NA (Re ?_);first
  | show NA (ND (ND ⟨.none,rfl,ND h⟩))
  | show ND ⟨.none,rfl,ND h⟩
end
section
variable {X:Cx}
def ux{o:!(Addr×Obj)}{s:NC}{Z:St}{H:Hp}{l b sl:Addr}{xs j:!V}{a c:Int}{v p:Nz}{Q:Unit->NC->Prop}(I:Inv X o Z H s)
  (t:H l*>(.lst xs)) (y:H b*>(.lst j)) (i:l≠b) (hs:s.heap.IsSliceOf sl v p .none) (G:RelV (.int a) v) (E:RelV (.int c) p) (q:0<=a) (g:a<=c) (L:c<=xs.length)
  (hz:xs.length+j.length<=sizeLine) (h:∀u,Inv X o Z (upd H l (.lst (xs.take a.toNat++j++xs.drop c.toNat))) u->Q () u) :
  NF (NK X.prog X.w) X.A (QJ (.ref l) (.ref sl) (.ref b)) Q X.xe s:=by
 have(O,rfl):=G;have(M,rfl):=E;have(z,f,n,r,N,e):=I.lstM t;have(J,d,K,B,C,x):=I.lstM y;have(m,rfl):=Lf q;have(k,rfl):=Lf (Ms q g);dsimp[IA]at h;show lT (a:=m) (c:=k) e x i hs (.int _ _) (.int _ _) (by lia) (by rw[Ic];lia) (by rw[Ic,Ic];lia) (h _ ?_);show I.lset (its':=f.take m++d++f.drop k) (t':=s.toks) t e ?_ (Vals.append (Vals.append (r.take _) B) (r.drop _)) ?_;show uy f d m k
 .rw[Ij,Ij,IJ,I0]
  lia
end
end L2
namespace Att
open PySem PySem.W PySem.Calls PyProof.Rows
def ints_of_wellAll{P:R0}{h:Heap}:∀(ns:!Int) (vs:!Nz),WellAll P h vs (ns.map TQ)->Pb vs ns:=by
 intro ns
 induction ns with
 | nil=>
  intro vs w;rw[J3]at w;cases w;show .nil
 | cons n ns c=>
  intro vs w;rw[Ir]at w;cases w with
  | cons a b=>
   cases a;show .cons _ _ (c _ b)
def script_of{l:Tj}{n:Nat}(x:l.most*>n){P:R0}{h:Heap}{c:!TL}{f:!Nz}
  (e:l.row.toRowW.claim.pre c=T1) (m:WellAll P h f c) :
  ∃a vs ns,f=[NY a]/\c=[TL.list (ns.map TQ)]/\h.get? a=TV {cls:=.type "list",data:=.seq vs.toArray}/\Pb vs ns/\ns.length<=n:=by
 have o:Tk.hasAll [] c [.list .int]=T1:=(pre_splitW e).1;have p:l.pre.holds [] {args:=c}=T1:=(pre_splitW e).2;have(d,r,rfl,y,w):=hasAllW_cons o;obtain rfl:=hasAllW_nil w;have(z,rfl,u):=hasW_list y;have(ns,rfl):=items_int u;have i:ns.length<=n:=by
  unfold Tj.pre at p;have j:(WTm.not (.lt (.lit (.int (n:Int))) (.len (.arg 0)))).holds [] {args:=[.list (ns.map .int)]}=T1:=by
   have j:=(holds_andW p).1;rw[x]at j;show j
  have k:=condW_of j (w_not (w_lt w_lit (w_len_list (w_arg rfl))));rw[Ia]at k;show Nat.le_of_not_lt λq=>?_;have t:(n:Int)<((ns.length:Nat):Int):=by lia
  first
   | (rw[decide_eq_true t]at k;show absurd k (by decide))
   | (simp at k;lia)
 cases m with
 | cons w1 s=>
  cases s;cases w1 with
  | list v g=>show{_,_,ns,Xr,Xr,v,ints_of_wellAll ns _ g,i}
def post_true(l:Tj)(a:!TL):l.row.toRowW.claim.post a (.bool T1) a=T1:=
 postW_of (r:=l.row.toRowW) (X:=(T1==T1))
  (show TD [] (.bool T1) .bool=T1 by first|rfl|decide|simp[TD,Tk.arms,Tk.armsAll])
  (show(WTm.eq .res (.lit (.bool T1))).value [] {args:=a,res:=TV (.bool T1),after:=a}*>(.bool (T1==T1))from w_eq_bool (w_res rfl) w_lit) rfl
def attach_call{l:Tj}{n:Nat}{q:NM}{loose:!Str}{XP:(Str->↑Nz)->Heap->Prop}{YP:NP->Heap->Prop}{d:DefRec}
  (Z:l.most*>n) (A:d.params.defaults=[])
  (call:∀(w:NP) (e c : NC) (s x:Str->↑Nz) (m:Addr) (o:Obj) (z p g:Nz) (a:Addr) (vs:!Nz) (ns:!Int),
   Ground q loose [] XP w e s x c.heap->YP w c.heap ->
   c.heap.get? m*>o->o.data=.func (docDef d.name d.params d.body d.scope z p g)->c.heap.CodeRec p d.name->s d.name*>(.ref m) ->
   c.heap.get? a=TV {cls:=.type "list",data:=.seq vs.toArray}->Pb vs ns->ns.length<=n->c.gens = #[] ->
   Pa (NK l.prog w) QV (.call (.ref m) {[.ref a],[]}) (λr t=>r=.ok (.ret (.bool T1))/\OldK c.heap t.heap/\t.os=c.os/\PY t.gens) c) :
  WalkO q loose XP YP l.row.toRowW d [] (λf vs=>PySem.call f vs):=by
 intro w e c s x G Y m o z p g O kV M S u C v X E H as i B Q y P;obtain rfl:O=.none:=Dflts.none C A;obtain rfl:kV=.none:=Dflts.noKw C;have(a,vs,ns,rfl,rfl,j,h,k):=script_of Z i y;show enter_call (Po (call w e c s x m o z p g a vs ns G Y M (fd_plain S) u v j h k X) λr t N=>?_);have(rfl,U,L,K):=N;show{.inl {.bool T1,.bool T1,[],Xr,λ_=>rfl,.bool T1,post_true l _,λ_=>{List.Pairwise.nil,λ_ J=>(nomatch J)}},U,L,K}
end Att
namespace L2
open PySem PySem.Spec PyProof.Rows
def mQ:∀{vs:!Nz} {ns:!Int},Pb vs ns->Vals (ns.map V.int) vs
 | _,_,.nil=>.nil
 | _,_,.cons n t h=>.cons ⟨t,Xr⟩ (mQ h)
abbrev E4(H:Hp):Prop:=∀b,H b=TU \/ ∃o a,H b*>(.frz o (.lst a))
def vH{P:NM}{w:NP}{K:yF}{B S:Str->↑Nz}{CX:CXT}{k:Nat}{fa a:Addr}{fd:Om}{x:Str}{sp:Sp}{c : NC}{vs:!Nz}{ns:!Int}
  (KX:K.In c.heap) (y:c.heap.Ns NO B) (g:c.heap.Ns RB S) (Y:∀x:Str,x ≠ "__name__" -> S x=Oo x) (G:c.heap.NoLimit) (hg:c.gens = #[])
  (O:c.heap.get? a=TV {cls:=.type "list",data:=.seq vs.toArray}) (hi:Pb vs ns) (hl:ns.length<=sizeLine) (hr:MW k QV)
  (F:∀base:Heap,K.In base->base.Ns NO B->M6 P w K B base CX k fa fd [x] sp) (p:∀(s:NC) (u:Nz),QM s fd {[u],[]} [(x,u)])
  (Q:∀H:Hp,E4 H->SqL K H a (ns.map V.int)->sp [.ref a] H (λv _=>v=.bl T1) λ_ _ _=>False)
  (X:∀H e i,CX [] H c (λ_ _ _=>False) e i->False) :
  Pa (NK P w) QV (.call (.ref fa) {[.ref a],[]}) (λr i=>r=.ok (.ret (.bool T1))/\OldK c.heap i.heap/\i.os=c.os/\PY i.gens) c:=by
 have rv:=mQ hi;have C:=hi.length;have l:∀H:Hp,E4 H->SqL K H a (ns.map V.int)->HOk P w H c.heap->(∀b,H b≠TU->b=a)->(H a≠TU->K.lookup a=TU) ->
   Pa (NK P w) QV (.call (.ref fa) {[.ref a],[]}) (λr i=>r=.ok (.ret (.bool T1))/\OldK c.heap i.heap/\i.os=c.os/\PY i.gens) c:=by
  intro H hO hS t hA hK;have f:∀{b:Addr} {o:Obj},c.heap.get? b*>o->H b=TU->(nh c.heap H).get? b*>o:=λe n=>vv e n;have Z:∀{b:Addr} {o:Obj} {N:Array P3} {J:Nat},c.heap.get? b*>o->o.data=.dict N J->H b=TU:=λ{b o N J} e d=>by
   cases q:H b with
   | none=>rfl
   | some u=>
    have U:b=a:=hA b (by rw[q];simp);subst U;rw[O]at e;cases e;have d':Data.seq vs.toArray _=Data.dict N J:=d;cases d'
  have j:∀{b:Addr} {m:Str->↑Nz},c.heap.Ns b m->(nh c.heap H).Ns b m:=λ{b m} ⟨o,N,J,e,d,r⟩=>{o,N,J,f e (Z e d),d,r};have L:K.In (nh c.heap H):=λb o e=>f (KX b o e) (by
   cases q:H b with
   | none=>rfl
   | some u=>
    have U:b=a:=hA b (by rw[q];simp);subst U;rw[hK (by rw[q];simp)]at e;cases e)
  have hM:Mod K B (nh c.heap H):={L,j y,{S,j g,Y},let ⟨mc,h1,h2⟩:=G;{mc,j h1,h2}};have e0:Nq P w K B (nh c.heap H) QV [] c H:={Xr,hM,λb o e=>zu e,Nat.le_of_eq (tG _ _),trivial,λb g=>absurd (show b∈([]:!Addr)from g) ∅,t,.of_eq hg};show Po ((F _ L (j y)).run QV [] c H {[.ref a],[]} [.ref a] [.ref a] _ _ hr e0 (p c (.ref a)) (.cons rfl .nil) (Q H hO hS)) λr i h=>?_;cases r with
  | error e=>show(X H e i h).elim
  | ok fl=>
   cases fl with
   | next=>show N5 h
   | brk=>show N5 h
   | cont=>show N5 h
   | ret u=>
    have(v,H',os,E,un,M,r',q):=h;have q':v=.bl T1:=q;subst q';obtain rfl:u=ON T1:=r';show{Xr,OldK.of_keep λb o e=>?_,os,E};cases q:H b with
    | none=>show un.keep b o e q (by intro z;show absurd (show b∈([]:!Addr)from z) ∅) ∅
    | some u=>
     rcases hO b with z|⟨ob,xs,z⟩;rw[q]at z;cases z
     .have z2:=un.frzs b ob _ z;have(e1,_):=t b _ z;have(e2,_):=M b _ z2;rw[e]at e1;cases e1;show e2
 cases hk:K.lookup a with
 | some o=>
  have e:=KX a o hk;rw[O]at e;cases e;show l (λ_=>TU) (λ_=>.inl rfl) (.inr {_,vs.toArray,_,hk,Xr,Xr,Xr,by rw[Ic,C];show hl,by simpa using rv}) (λb u z=>by have A:(TU:↑HO)*>u:=z;cases A) (λb z=>absurd rfl z) λz=>absurd rfl z
 | none=>
  show l (λb=>if b=a then TV (.frz {cls:=.type "list",data:=.seq vs.toArray} (.lst (ns.map V.int)))else TU) (λb=>?_) (.inl (.inr {{cls:=.type "list",data:=.seq vs.toArray},if_pos rfl})) (λb u z=>?_) (λb z=>?_) λ_=>hk
  .by_cases g:b=a;show .inr {_,_,if_pos g};show .inl (if_neg g)
  .by_cases g:b=a
   .have A:=(if_pos g).symm.trans z;cases A;subst g;show{O,by rw[Ia];show hl,vs,_,rv,O}
   .have A:=(if_neg g).symm.trans z;cases A
  .by_cases g:b=a;show g;show absurd (if_neg g) z
abbrev bT(s:Stmt):RZ:=match s with
 | .FunctionDef _ a _ _ _ _ _ _ _ _=>a
 | _=>{posonlyargs:=[],args:=[],vararg:=TU,kwonlyargs:=[],kw_defaults:=[],kwarg:=TU,defaults:=[]}
abbrev aP(s:Stmt):!Stmt:=match s with
 | .FunctionDef _ _ b _ _ _ _ _ _ _=>b
 | _=>[]
abbrev ai(s:Stmt):Pn:=match s with
 | .FunctionDef _ _ _ _ _ _ a _ _ _=>a
 | _=>{kind:=.function,names:=[],isGenerator:=TZ,isCoroutine:=TZ}
protected def CX0:CXT:=λ_ _ _ _ _ _=>False
protected def E0:XK:=λ_ _ _=>False
def wl{X:Cx}:jw CX0 X E0:=λ_ _ _ _ _ _ _ h=>h.elim
structure Fun(K:yF)(x qual:Str)(st:Stmt)(f:Addr)(fd:Om):Prop where
 ex:∃(oc:Nz) (od:↑Addr) (kV doc pm:Nz) (an:↑Addr) (cdv ct:Nz) (osl:Array ↑Nz),
  fd=IR x qual (bT st) (aP st) (ai st) .none kV doc pm an cdv ct/\K.lookup f*>{oc,od,.func fd,osl}/\JN K cdv qual=T1
 kp:Jf K (.ref f)=T1
section
variable {P:NM}{w:NP}{K:yF}{mg:Str->↑Nz}{base:Heap}
def Fun.ok{x qual:Str}{st:Stmt}{f:Addr}{fd:Om}{N ps:!Str}{k:Nat}{sp:Sp}(F:Fun K x qual st f fd)(S:td N ps (ai st))(e:∀vs H Q E,sp vs H Q E->vs.length=ps.length)
  (c:∀(a:Nz) (A:NU) (outer:!Env) (s:NC) (H:Hp) (vs:!V) (Q:VK) (E:XK),MW k (A.deeper (Pv qual (ai st) s.heap.objs.size f a))->sp vs H Q E ->
   ∃t,PSs (iJ CX0 P w K mg base N qual (ai st) f a A outer s H E).nox (aP st) t/\t {nx:=λ_ H'=>Q .non H',rt:=Q} (bL N vs) H):M6 P w K mg base CX0 (k+1) f fd ps sp:=by
 obtain⟨oc,o,kV,i,u,r,a,p,j,rfl,m,d⟩:=F.ex;show Bj m d S e λA outer s H vs Q E l g=>?_;have(t,h,q):=c a A outer s H vs Q E l g;show⟨t,h.nox,q⟩
def Fun.binds{x qual:Str}{st:Stmt}{f:Addr}{fd:Om}{ps:!Str}(F:Fun K x qual st f fd)
  (h:∀(kV c e:Nz) (g:↑Addr) (a d:Nz) (us:!Nz),us.length=ps.length->Q9 (IR x qual (bT st) (aP st) (ai st) .none kV c e g a d) {us,[]}=pure (ps.zip us)):M1 K fd ps []:=by
 obtain⟨oc,k,kV,c,e,g,a,d,j,rfl,l,i⟩:=F.ex;show .all (h kV c e g a d)
def vp{x qual:Str}{st:Stmt}{f:Addr}{oc:Nz}{od i:↑Addr}{e:Array ↑Nz}{kV d h a g:Nz}(l:K.lookup f*>{oc,od,.func (IR x qual (bT st) (aP st) (ai st) .none kV d h i a g),e})
  (c:JN K a qual=T1) (k:Jf K (.ref f)=T1):Fun K x qual st f (IR x qual (bT st) (aP st) (ai st) .none kV d h i a g):={⟨oc,od,kV,d,h,i,a,g,e,Xr,l,c⟩,k}
end
def pU{A B:Prop}(h:B):if TZ=T1 then A else B:=by
 rw[if_neg Il];show h
def pV{A B:Prop}(h:A):if T1=T1 then A else B:=by
 rw[if_pos rfl];show h
abbrev MY(H H':Hp):Prop:=∀b o,H b*>o->H' b*>o
def MY.refl(H:Hp):MY H H:=λ_ _ h=>h
abbrev bM(env:Env):!(Str×NN)->!(Str×Addr)->!(Str×Addr)
 | [],a=>a
 | (n,k)::r,a=>if k == .free then bM env r ((n,(env.cells.lookup n).getD 0)::a)else bM env r a
def jz:∀(a:!(Str×NN)) (d:!(Str×Addr)),(∀x∈a,x.2=.free->∃c,env.cells.lookup x.1*>c) ->
  (forIn a d λ(x:Str×NN) (j:!(Str×Addr))=>if x.2 == .free then(do let c <-cellOf env x.1;pure (PP ((x.1,c)::j)):Sem _)else pure (PP j))=(pure (bM env a d):Sem _)
 | [],d,_=>rfl
 | (n,k)::r,d,h=>by
  have l:∀x∈r,x.2=.free->∃c,env.cells.lookup x.1*>c:=λx m=>h x (ymC _ m);rw[Kj];unfold bM;by_cases g:(k==OB)=T1
  .have(c,o):=h (n,k) ymS (by exists g);have f:env.cells.lookup n*>c:=o;have e:cellOf env n=pure c:=by unfold cellOf;rw[f]
   dsimp[g,if_true,e,f,Option.getD_some,pure_bind];show jz r _ l
  .have i:(k==OB)=TZ:=by exists g
   dsimp[i,JC,if_false,pure_bind];show jz r _ l
def iL(h:∀x∈scope.names,x.2=.free->∃c,env.cells.lookup x.1*>c):closureFor scope env=pure (bM env scope.names []):=by
 have:=jz (env:=env) scope.names [] h;dsimp[closureFor];rw[this,pure_bind]
def jy:∀(d:!(Str×NN)) (a:!(Str×Addr)),(∀y∈d,y.2=.free->∃c,env.cells.lookup y.1*>c)->(a.lookup x*>c->env.cells.lookup x*>c) ->
  (bM env d a).lookup x*>c->env.cells.lookup x*>c
 | [],a,_,g,h=>g h
 | (n,k)::r,a,q,g,h=>by
  have p:∀y∈r,y.2=.free->∃c,env.cells.lookup y.1*>c:=λy s=>q y (ymC _ s);unfold bM at h;by_cases l:(k==OB)=T1
  .rw[if_pos l]at h;show jy r _ p (λe=>?_) h;have(t,o):=q (n,k) ymS (by exists l);have f:env.cells.lookup n*>t:=o;rw[IL]at e;by_cases i:(x==n)=T1
   .rw[i]at e;have m:x=n:=by exists i
    subst m;rw[f]at e|-;show e
   .have j:(x==n)=TZ:=by exists i
    rw[j]at e;show g e
  .rw[if_neg l]at h;show jy r a p g h
def jx:∀(c:!(Str×NN)) (a:!(Str×Addr)),(a.lookup x).isSome=T1->((bM env c a).lookup x).isSome=T1
 | [],_,h=>h
 | (n,k)::r,a,h=>by
  unfold bM;by_cases d:(k==OB)=T1
  .rw[if_pos d];show jx r _ ?_;rw[IL];cases hx:(x==n)with
   | true=>rfl
   | false=>show h
  .rw[if_neg d];show jx r a h
def fJ:∀(a:!(Str×NN)) (c:!(Str×Addr)),(x,OB)∈a->((bM env a c).lookup x).isSome=T1
 | [],_,h=>by cases h
 | (n,k)::r,c,h=>by
  unfold bM;rcases ycM h with e|h
  .cases e;rw[if_pos (by rfl)];show jx r _ ?_;rw[IL,beq_self_eq_true];rfl
  .by_cases d:(k==OB)=T1
   .rw[if_pos d];show fJ r _ h
   .rw[if_neg d];show fJ r _ h
def kM:∀(a:!(Str×NN)) (n:Nat) (e:!(Str×Addr)),(N7 n a e).lookup x*>c->(n<=c/\(x,NX)∈a)\/e.lookup x*>c
 | [],_,_,h=>.inr h
 | (y,k)::r,n,e,h=>by
  unfold N7 at h;by_cases m:(k==NX)=T1
  .rw[if_pos m]at h;rcases kM r (n+1) _ h with⟨d,l⟩|d;show .inl {by omega,ymC _ l}
   .rw[IL]at d;by_cases g:(x==y)=T1
    .rw[g]at d;have i:x=y:=by exists g
     have f:k=.cell:=by exists m
     subst i f;cases d;show .inl {Ig _,ymS}
    .have j:(x==y)=TZ:=by exists g
     rw[j]at d;show .inr d
  .rw[if_neg m]at h;rcases kM r n _ h with⟨d,l⟩|d;show .inl {d,ymC _ l};show .inr d
def pH:∀(g:!(Str×NN)) (n:Nat) (f:!(Str×Addr)),(∀x c,f.lookup x*>c->c<n)->(∀x y c,f.lookup x*>c->f.lookup y*>c->x=y) ->
  ∀x y c,(N7 n g f).lookup x*>c->(N7 n g f).lookup y*>c->x=y
 | [],_,_,_,o,x,y,c,l,i=>o x y c l i
 | (z,k)::r,n,f,m,o,x,y,c,l,i=>by
  unfold N7 at l i;by_cases p:(k==NX)=T1
  .rw[if_pos p]at l i;show pH r (n+1) ((z,n)::f) (λa b e=>?_) (λa b d j h=>?_) x y c l i
   .rw[IL]at e;cases q:(a==z)with
    | true=>rw[q]at e;cases e;show LO _
    | false=>rw[q]at e;show K4 (m a b e)
   .rw[IL]at j h;cases q1:(a==z)with
    | true=>
     cases q2:(b==z)with
     | true=>rw[beq_iff_eq.mp q1,beq_iff_eq.mp q2]
     | false=>rw[q1]at j;rw[q2]at h;cases (j);show absurd (m b n h) (Jq _)
    | false=>
     cases q2:(b==z)with
     | true=>rw[q1]at j;rw[q2]at h;cases (h);show absurd (m a n j) (Jq _)
     | false=>rw[q1]at j;rw[q2]at h;show o a b d j h
  .rw[if_neg p]at l i;show pH r n f m o x y c l i
def kN:∀(a:!(Str×NN)) (n:Nat) (c:!(Str×Addr)),(x,NX)∉a->(N7 n a c).lookup x=c.lookup x
 | [],_,_,_=>rfl
 | (y,k)::r,n,c,h=>by
  unfold N7;by_cases e:(k==NX)=T1
  .rw[if_pos e,kN r _ _ (λz=>h (ymC _ z)),IL];have d:k=.cell:=by exists e
   have f:(x==y)=TZ:=by
    cases q:(x==y)with
    | false=>rfl
    | true=>show absurd (by rw[beq_iff_eq.mp q,d];show ymS) h
   rw[f]
  .rw[if_neg e];show kN r _ _ λz=>h (ymC _ z)
def mY:∀(i:!(Str×NN)) (n:Nat) (f:!(Str×Addr)),((x,NX)∈i \/ ∀g,f.lookup x*>g->n<=g)->(N7 n i f).lookup x*>c->∀lo,lo<=n->(∀g,f.lookup x*>g->lo<=g)\/(x,NX)∈i->lo<=c
 | [],n,f,_,h,lo,o,d=>by
  rcases d with d|d;show d c h;cases d
 | (y,k)::r,n,f,_,h,lo,o,d=>by
  unfold N7 at h;by_cases p:(k==NX)=T1
  .rw[if_pos p]at h;have a:(∀g,((y,n)::f).lookup x*>g->lo<=g)\/(x,NX)∈r:=by
    by_cases l:(x==y)=T1
    .show .inl λg e=>?_;rw[IL,l]at e;cases e;show o
    .have m:(x==y)=TZ:=by exists l
     rcases d with d|d
     .show .inl λg e=>?_;rw[IL,m]at e;show d g e
     .rcases ycM d with e|d
      .cases e;simp at l
      .show .inr d
   have q:(x,NX)∈r \/ ∀g,((y,n)::f).lookup x*>g->n+1<=g\/True:=.inr λ_ _=>.inr trivial;rcases a with a|a
   .by_cases j:(x,NX)∈r;show mY r (n+1) _ (.inl j) h lo ⋯ (.inr j)
    .rw[kN r _ _ j]at h;show a c h
   .show mY r (n+1) _ (.inl a) h lo ⋯ (.inr a)
  .rw[if_neg p]at h;have a:(∀g,f.lookup x*>g->lo<=g)\/(x,NX)∈r:=by
    rcases d with d|d;show .inl d
    .rcases ycM d with e|d
     .cases e;show absurd rfl p
     .show .inr d
   by_cases j:(x,NX)∈r;show mY r n _ (.inl j) h lo o (.inr j)
   .rcases a with a|a
    .rw[kN r _ _ j]at h;show a c h
    .show absurd a j
def ff:∀(d:!(Str×NN)) (h:Heap) (a:!(Str×Addr)),(N7 h.objs.size d a).lookup x*>c->(pushCells h d).IsCell c TU\/a.lookup x*>c
 | [],_,_,e=>.inr e
 | (y,k)::r,h,a,e=>by
  unfold N7 at e;unfold pushCells;by_cases f:(k==NX)=T1
  .rw[if_pos f]at e|-;have g:(N7 (h.push {cls:=.type "cell",data:=.cell TU}).objs.size r ((y,h.objs.size)::a)).lookup x*>c:=by rw[Od];show e
   rcases ff r (h.push {cls:=.type "cell",data:=.cell TU}) ((y,h.objs.size)::a) g with q|q;show .inl q
   .rw[IL]at q;cases hx:(x==y)with
    | true=>
     rw[hx]at q;cases q;show .inl {_,Q3 r _ _ _ (NI _ rfl),Xr}
    | false=>rw[hx]at q;show .inr q
  .rw[if_neg f]at e|-;show ff r h a e
def lH
  (h:∀h',h'.Ns s.heap.objs.size (λ_=>TU)->(∀b o,s.heap.get? b*>o->h'.get? b*>o)->(∀x c,(N7 (s.heap.objs.size+1) scope.names cl).lookup x*>c->h'.IsCell c TU\/cl.lookup x*>c) ->
   Q (newEnv scope s.heap.objs.size globals (N7 (s.heap.objs.size+1) scope.names cl) qual TU .none (TV env) RB) {s with heap:=h'}) :
  NF M A (Qc scope globals cl [] qual TU .none (TV env)) Q E s:=by
 dsimp[Qc,Option.isSome_some,if_true];show NA (wpAny_alloc ?_);show NA (wpAny_layCells _ (λg a f=>by cases hkc:a==NX<;>simp[hkc]) _ _ _ _ ?_);rw[show({s with heap:=s.heap.push {cls:=.type "dict",data:=.dict #[]}}:NC).heap.objs.size=s.heap.objs.size+1 from Od ..];rw[Me];show NA (ND (ND (h _ ?_ ?_ ?_)));show(Heap.Ns.new s.heap (.type "dict")).keeps (Q3 _ _);show λb o e=>Q3 _ _ b o (NB _ e)
 .intro x c e;have i:(N7 (s.heap.push {cls:=.type "dict",data:=.dict #[]}).objs.size scope.names cl).lookup x*>c:=by rw[Od];show e
  show ff _ _ _ i
abbrev rlK(env:Env) (n:Str) (k:NN):NN:=if(k == .free&&env.scope.kind == .function&&env.kindOf n==TV .cell)then .cell else k
def mx:∀(a:!(Str×NN)),
  (a.map λ(n,k)=>if(k==OB&&env.scope.kind == .function&&env.kindOf n==TV .cell)then(n,NX)else(n,k)).lookup x=(a.lookup x).map (rlK env x)
 | []=>rfl
 | (n,k)::r=>by
  have c:=mx (env:=env) (x:=x) r;rw[Ir,IL];have e:(if(k==OB&&env.scope.kind == .function&&env.kindOf n==TV .cell)then(n,NX)else(n,k))=(n,rlK env n k):=by
   unfold rlK;split<;>rfl
  change K5 x ((if(k==OB&&env.scope.kind == .function&&env.kindOf n==TV .cell)then(n,NX)else(n,k))::_)=_;rw[e,IL,IL];cases hx:(x==n)with
  | true=>
   have d:=beq_iff_eq.mp hx;subst d;rfl
  | false=>show c
def gG:(Rk scope env).names.lookup x=(scope.names.lookup x).map (rlK env x):=mx scope.names
structure Blk(osc sc:Pn)(N N':!Str)(fr:! ↑Nat):Prop where
 kind:sc.kind=.function
 nd:N'.Nodup
 len:fr.length=N'.length
 free:∀(i j:Nat) (x:Str),fr[i]?*>(TV j)->N'[i]?*>x->N[j]?*>x/\sc.names.lookup x*>.free
 out:∀x∈sc.names,x.2=.free->(osc.names.lookup x.1*>.cell\/osc.names.lookup x.1*>.free)/\(x.1,NX)∉sc.names
 locl:∀x∈sc.names,x.2=.local->sc.names.lookup x.1*>.local
abbrev E9(c a:Pn) (N N':!Str) (fr:! ↑Nat):Bool:=
 (a.kind == .function)&&decide N'.Nodup&&(fr.length==N'.length) &&
 (fr.zip N').all (λp=>match p.1 with|none=>T1|some j=>N[j]? == TV p.2&&a.names.lookup p.2==TV .free) &&
 a.names.all (λp=>(p.2 != .free||((c.names.lookup p.1==TV .cell||c.names.lookup p.1==TV .free) &&  ~~~a.names.contains (p.1,.cell)))&&(p.2 != .local||a.names.lookup p.1==TV .local))
def Blk.of(h:E9 osc sc N N' fr=T1):Blk osc sc N N' fr:=by
 unfold E9 at h;dsimp[Ie]at h;obtain⟨⟨⟨⟨q,o⟩,m⟩,l⟩,f⟩:=h;show{by simpa using q,of_decide_eq_true o,by simpa using m,λi j x p k=>?_,λx d e=>?_,λx d e=>?_}
 .have c:(TV j,x)∈fr.zip N':=by
   show JY.mpr {i,?_};rw[IN];show⟨p,k⟩
  have:=IQ.mp l _ c;dsimp[Ie]at this;show{by simpa using this.1,by simpa using this.2}
 .have:=IQ.mp f x d;dsimp[Ie]at this;have a:=this.1;rw[e]at a;dsimp[bne_self_eq_false,Mk,Ie,Ll,Ji]at a;show{a.1.imp (λz=>by exists z) (λz=>by exists z),λc=>?_};have g:=a.2;rw[Jm.mpr c]at g;cases g
 .have:=IQ.mp f x d;dsimp[Ie]at this;have a:=this.2;rw[e]at a;dsimp[bne_self_eq_false,Mk]at a;exists a
abbrev cb(fr:! ↑Nat) (Z:St):St:=fr.map λo=>match o with
 | none=>TU
 | some j=>Z.getD j TU
def dS(fr:! ↑Nat)(Z:St):(cb fr Z).length=fr.length:=by unfold cb;rw[Ia]
abbrev B9(X:Cx) (scope:Pn) (N':!Str) (cells:!(Str×Addr)) (C:Addr) (s:NC) (H:Hp) (ex:!Addr) (pn:!(Addr×Obj)) (xe:Nz->NC->Prop):Cx where
 prog:=X.prog
 w:=X.w
 K:=X.K
 mg:=X.mg
 base:=X.base
 A:=X.A
 N:=N'
 s₀:=s
 H₀:=H
 env:=Tu scope cells C X.env
 outer:=X.stack
 stack:=X.stack
 ex:=ex
 fn:=λx=>scope.names.lookup x==TV .cell
 calm:=X.calm
 pn:=pn
 xe:=xe
section
variable {X:Cx}{OK:!(Addr×Obj)}{Z:St}{H H':Hp}{s:NC}{scope:Pn}{N':!Str}{fr:! ↑Nat}{ex:!Addr}{xe:Nz->NC->Prop}
def dY{a:Pn}{x:Str}{k:NN}(h:a.names.lookup x*>k):(x,k)∈a.names:=Jy h
def Inv.freeCells(I:Inv X OK Z H s)(B:Blk X.env.scope scope X.N N' fr):∀x∈scope.names,x.2=.free->∃c,X.env.cells.lookup x.1*>c:=λx d a=>I.ok.has x.1 (B.out x d a).1
def Inv.enter{h':Heap}(I:Inv X OK Z H s)(B:Blk X.env.scope scope X.N N' fr)(A:∀b∈ex,eK X OK H b/\∃o,s.heap.get? b*>o)
  (O:h'.Ns s.heap.objs.size (λ_=>TU)) (G:∀b o,s.heap.get? b*>o->h'.get? b*>o)
  (L:∀x c,(N7 (s.heap.objs.size+1) scope.names (bM X.env scope.names [])).lookup x*>c->h'.IsCell c TU\/(bM X.env scope.names []).lookup x*>c) :
  Inv (B9 X scope N' (N7 (s.heap.objs.size+1) scope.names (bM X.env scope.names [])) s.heap.objs.size s H ex (X.pn++OK) xe) [] (cb fr Z) H {s with heap:=h'}:=by
 have hfc:=I.freeCells B;have g:∀x c,(bM X.env scope.names []).lookup x*>c->X.env.cells.lookup x*>c:=λx c e=>jy scope.names [] hfc (λz=>by cases z) e;have lt:∀x c,X.env.cells.lookup x*>c->c<s.heap.objs.size:=λx c e=>by
  have(v,q):=I.cell x c e;show q.lt
 have a:∀x c,(N7 (s.heap.objs.size+1) scope.names (bM X.env scope.names [])).lookup x*>c->s.heap.objs.size+1<=c\/X.env.cells.lookup x*>c:=λx c e=>
  (kM _ _ _ e).imp (λz=>z.1) (g x c)
 have J:∀b∈ex,b<s.heap.objs.size:=λb w=>by
  have(o,e):=(A b w).2;show NG e
 have has:∀x,scope.names.lookup x*>.cell\/scope.names.lookup x*>.free->∃c,(N7 (s.heap.objs.size+1) scope.names (bM X.env scope.names [])).lookup x*>c:=λx Y=>by
  show JJ.mp (Kr _ _ _ (Y.imp id λz=>fJ _ _ (dY z)))
 show{{I.ok.mod,?_,I.ok.glob,I.ok.blt,Ig _,?_,?_,?_,I.ok.hd,I.ok.gd,I.ok.frames,.inl rfl,?_,I.bs,Ik I.ok.bsz I.sz,?_,?_,I.stack,I.stkFree},Xr,I.bare,Un.kept G,{_,O,?_},?_,?_,?_,?_,I.hok.kept G,?_};show B.kind;show pH _ _ _ (λx c e=>K4 (lt x c (g x c e))) (λx y c S t=>I.ok.inj x y c (g x c S) (g y c t))
 .intro x Y;show has x ?_;have h:(Rk scope X.env).names.lookup x*>.cell\/(Rk scope X.env).names.lookup x*>.free:=Y;rw[gG]at h;cases q:scope.names.lookup x with
  | none=>rw[q]at h;rcases h with z|z<;>cases z
  | some k=>
   rw[q]at h;have C:rlK X.env x k=.cell\/rlK X.env x k=.free:=h.imp (λz=>IC.inj z) (λz=>IC.inj z);unfold rlK at C;split at C
   .delta L;dsimp[Ie]at L;have:k=.free:=by exists L.1.1
    rw[this];show .inr rfl
   .rcases C with z|z<;>rw[z];show .inl rfl;show .inr rfl
 .intro x c Q e;have E:scope.names.lookup x*>.cell:=by
   have:(scope.names.lookup x==TV NX)=T1:=Q;exists this
  show mY _ _ _ (.inl (dY E)) e _ (Km _) (.inr (dY E))
 .intro b w;obtain⟨⟨_,_,_,_,f4,_⟩,_⟩:=A b w;show{Is (J b w),λx c e z=>?_};rcases a x c e with q|q
  .rw[z]at q;show absurd (Iq (J b w) (Nat.le_of_succ_le q)) (Jq _)
  .show f4 x c q z
 .intro b o e w;obtain⟨⟨_,_,_,f3,_,_⟩,_⟩:=A b w;rcases f3 with z|z;show I.ok.noex b o e z;show absurd (Iq (NG e) (Ik I.ok.bsz z)) (Jq _)
 .intro b w Q;obtain⟨⟨_,f1,f2,_,_,_⟩,_⟩:=A b w;rcases ycM (I.stkSub b Q)with z|z;show f1 z;show f2 z
 .intro i x v S t e3;unfold cb at t;rw[Io]at t;cases q:fr[i]? with
  | none=>rw[q]at t;cases t
  | some o=>
   rw[q]at t;cases o with
   | none=>simp at t
   | some j=>
    have f:Z.getD j TU*>v:=by exists t
    have(b1,b2):=B.free i j x q S;have e4:Z[j]?*>(TV v):=by
     rw[IE]at f;cases q2:Z[j]? with
     | none=>rw[q2]at f;cases f
     | some y=>rw[q2]at f;simp at f;rw[f]
    have(o1,o2):=B.out (x,.free) (dY b2) rfl;have(m,hn,hl):=I.loc;have P:Vis X.env.scope x:=o1.elim (λz=>.inr (.inl z)) λz=>.inr (.inr z);have(u,r,l):=hl j x v b1 e4 P;show{u,r,.inr ?_};have nl:∃c,X.env.cells.lookup x*>c/\s.heap.IsCell c (TV u):=by
     rcases l with⟨kl,_⟩|⟨_,c,U,h2⟩
     .have M:X.env.scope.names.lookup x*>.local:=kl;rcases o1 with z|z<;>· have z':X.env.scope.names.lookup x=_:=z;rw[M]at z';cases z'
     .show⟨c,U,h2⟩
    have(c,U,h2):=nl;have kd:(Tu scope (N7 (s.heap.objs.size+1) scope.names (bM X.env scope.names [])) s.heap.objs.size X.env).kindOf x*>.cell\/(Tu scope (N7 (s.heap.objs.size+1) scope.names (bM X.env scope.names [])) s.heap.objs.size X.env).kindOf x*>.free:=by
     change(Rk scope X.env).names.lookup x*>.cell\/(Rk scope X.env).names.lookup x*>.free;rw[gG,b2];change TV (rlK X.env x .free)=_\/TV (rlK X.env x .free)=_;unfold rlK;split;show .inl rfl;show .inr rfl
    show{kd,c,?_,h2.keeps G};change(N7 (s.heap.objs.size+1) scope.names (bM X.env scope.names [])).lookup x*>c;rw[kN _ _ _ o2];have(c',K):=JJ.mp (fJ (env:=X.env) scope.names [] (dY b2));rw[K];have:=g x c' K;rw[U]at this;show this.symm
 .intro x c e;rcases L x c e with q|q;show{_,q}
  .have(v,z):=I.cell x c (g x c q);show{v,z.keeps G}
 .show I.hok.fresh (Ig _)
 .intro x c e;rcases a x c e with q|q
  .show I.hok.fresh ⋯
  .show I.freeC x c q
 .intro p hp;have hp':p∈X.pn++OK:=by
   have:p∈(X.pn++OK)++[]:=hp;rwa [Iw]at this
  have(e,n,ne,nf,d):=I.pin p hp';show{G _ _ e,n,Is (NG e),λz=>?_,d};rcases ycM (I.stkSub p.1 z)with q|q;show ne q;show nf q
 .change(cb fr Z).length=N'.length;rw[dS,B.len]
def Inv.leave(I:Inv X OK Z H s)(a:∀b∈ex,eK X OK H b)
  (J:Inv (B9 X scope N' cells C s H ex pn xe) pins' Z' H' s'):Inv X OK Z H' s':=
 I.call' J.os J.base J.hok J.bare λb f=>by
  have(_,d,_,c,e,g):=a b f;show⟨c,d,e,g⟩
def Inv.track(I:Inv X OK Z H s)(A:eK X OK H d)(E:d∉X.ex\/X.s₀.heap.objs.size<=d)(i:X.s₀.heap.objs.size<=d)(new:MR X.prog X.w (upd H d o) s.heap d o):Inv X OK Z (upd H d o) s:=by
 have(a,v,G,C,B,l):=A;show{I.ok,I.os,I.bare,{I.base.keep,I.base.slot,λb u q n j=>?_,I.base.there,λb f q=>?_,λb u f q=>?_,λb y q=>?_},I.loc,I.cell,?_,λx c e=>?_,λp g=>?_,λb u q=>?_,I.len}
 .rw[upd_ne (Is (Iq (NG q) i))];show I.base.free b u q n j
 .have:=I.base.tups b f q;rw[upd_ne (bi this a)];show this
 .have:=I.base.frzs b u f q;rw[upd_ne (bi this a)];show this
 .have(m,this):=I.base.tbls b y q;show{m,by rw[upd_ne (bi this a)];show this}
 .rw[upd_ne (NS v)];show I.free
 .rw[upd_ne (B x c e)];show I.freeC x c e
 .have(e,n,r,t,k):=I.pin p g;show{e,by rw[upd_ne (l p g)];show n,r,t,k}
 .by_cases h:b=d
  .subst h;rw[aE]at q;cases q;show new
  .rw[upd_ne h]at q;show(I.hok b u q).stay (λ_ _ _ z=>z) (λc z=>by rw[upd_ne (bi z a)];show z) λc f z=>by rw[upd_ne (bi z a)];show z
end
noncomputable abbrev nW(ifs:!Expr) (env:Env):Sem Bool:=forIn ifs T1 λc r=>if r=T1 then do let ok <-RC c env (eval c env);pure (PP ok)else pure (PP r)
def gB(I:Nat->NC->Prop)
  (o:∀n s,I n s->NF (NK prog w) A (QK it) (λr d=>match r with
   | none=>R (.ok .next) d
   | some v=>NF (NK prog w) A (Pk target it v) (λ_ a=>NF (NK prog w) A (Pu target env v) (λ_ j=>
     NF (NK prog w) A (nW ifs env) (λt c=>
      if t=T1 then NF (NK prog w) A (eval elt env) (λx g=>
       NF (NK prog w) A (call (.builtin "list.append") [acc,x]) (λ_ e=>∃m,m<n/\I m e) (λ_ _=>False) g) (λ_ _=>False) c
      else∃m,m<n/\I m c) (λ_ _=>False) j) (λ_ _=>False) a) (λ_ _=>False) d) (λ_ _=>False) s)
  (n:Nat) (h:I n s):Pa (NK prog w) A (.compLoop (.ListComp elt [{target,iter,ifs,0}] scope pos) 0 it acc env) R s:=by
 show codeAny_loop rfl I (λn s u=>?_) n h;change NF _ A ((compTurn (.ListComp elt [{target,iter,ifs,0}] scope pos) 0 it acc env).onRaise (λx=>do S8 x env;theTreesLotGoes x)) _ _ s;show wpAny_noted ?_;rw[compTurn_list];show NA (OO (NA (Ol (o n s u) (λr d f=>?_) λ_ _ z=>z.elim)));cases r with
 | none=>show ND f
 | some v=>
  show NA (Ol f (λ_ a k=>?_) λ_ _ z=>z.elim);show NA (Ol k (λ_ j q=>NA (Ol q (λt c i=>?_) λ_ _ z=>z.elim)) λ_ _ z=>z.elim);cases t with
  | false=>show ND ⟨Xr,i⟩
  | true=>
   show NA (NA (Ol i (λx g l=>NA (Ol l (λ_ e p=>ND (ND ⟨Xr,p⟩)) λ_ _ z=>z.elim)) λ_ _ z=>z.elim))
abbrev PTs(X:Cx)(a:!Expr)(t:TT):Prop:=
 ∀(c:!(Addr×Obj)) (s:NC) (Z:St) (H:Hp) (Q:Bool->Hp->Prop),Inv X c Z H s->t Z H Q->NF (NK X.prog X.w) X.A (nW a X.env) (TP X c Z Q) X.xe s
abbrev GS:TT:=λ_ H Q=>Q T1 H
def zV:PTs X [] GS:=λ_ _ _ H _ I h=>wpAny_tests_nil ⟨H,I,h⟩
def zW(h:PT X c t):PTs X [c] t:=λa s Z H Q I q=>wpAny_tests_one (h a s Z H Q I q)
abbrev Kp(fr:! ↑Nat)(Z a:St):Prop:=a.length=Z.length/\∀i j:Nat,fr[i]?*>(TV j)->a[i]?=Z[i]?
def Kp.refl(fr:! ↑Nat)(Z:St):Kp fr Z Z:={Xr,λ_ _ _=>rfl}
def Kp.trans(a:Kp fr Z Z')(b:Kp fr Z' Z''):Kp fr Z Z'':={b.1.trans a.1,λi j e=>(b.2 i j e).trans (a.2 i j e)}
abbrev gw(fr:! ↑Nat)(g:TG):Prop:=∀v Z H (Q d:St->Hp->Prop),(∀a c,Q a c->Kp fr Z a->d a c)->g v Z H Q->g v Z H d
abbrev kI(fr:! ↑Nat)(g:TGs):Prop:=∀v Z H (Q d:St->Hp->Prop),(∀a c,Q a c->Kp fr Z a->d a c)->g v Z H Q->g v Z H d
def za(h:fr[i]?*>TU):gw fr (l6 i):=λv Z H Q c k q=>by
 show k _ _ q {IF,λa j e=>?_};have:i≠a:=λz=>by subst z;rw[h]at e;cases e
 show Iz this
def Cp:kI fr Cn:=λv Z H Q a k q=>{q.1,k _ _ q.2 (Kp.refl _ _)}
def y9(o:gw fr g)(l:kI fr gs):kI fr (vq g gs):=λvs Z H Q p k q=>by
 obtain⟨v,r,e,q⟩:=q;show{v,r,e,o v Z H _ _ (λh c j a=>l r h c _ _ (λi f m d=>k i f m (a.trans d)) j) q}
def Cq{fr:! ↑Nat}{K:yF}{n:Nat}{d:TGs}(h:kI fr d):gw fr (y8 K n d):=λv Z H Q f k q=>by
 obtain⟨a,c,i,g,e,q⟩:=q;show{a,c,i,g,e,h c Z H Q f k q}
structure Bk where
 cells:!(Str×Addr)
 C:Addr
 s:NC
 H:Hp
 ex:!Addr
 pn:!(Addr×Obj)
noncomputable abbrev cxB(X:Cx) (scope:Pn) (N':!Str) (b:Bk):Cx:=B9 X scope N' b.cells b.C b.s b.H b.ex b.pn λ_ _=>False
abbrev ye(k:TI)(fr:! ↑Nat)(g:TG)(q:TT)(l:TE):TE:=λZ H Q=>
 k Z H λJ o=>∃W:Nat->Nat->!V->Hp->Prop,(∃m,W 0 m [] o)/\∀i m a H,W i m a H->a.length<sizeLine /\
  ((J.stop i H/\∀d,H d=TU->Q (.ref d) (upd H d (.lst a))) \/
  (J.go i H/\∃N:!V->Hp->Prop,(∀c e,N c e->∃f,f<m/\W (i+1) f c e) /\
   ∀x e,J.yld i H x e->g x (cb fr Z) e λj p=>q j p λb h=>if b=T1 then l j h λv r=>N (a++[v]) r else N a h))
noncomputable abbrev lO(its:!Nz) (n:Nat):Obj:={cls:=.type "list",data:=.seq its.toArray n}
abbrev Wk(Ob : α->Obj->Prop)(Y:Cx)(c:!(Addr×Obj))(fr:! ↑Nat)(g:St)(e:!Addr)(f:Nat->Heap->Prop)(d:Addr)(W:Nat->Nat->α->Hp->Prop)(n:Nat)(s:NC):Prop:=
 ∃i a o H Z,Inv Y c Z H s/\Kp fr g Z/\f i s.heap/\(∀b∈e,H b=TU)/\H d=TU/\s.heap.get? d*>o/\Ob a o/\W i n a H
structure Wa(Y:Cx)(pp:!(Addr×Obj))(tg:Expr)(J:It)(fp:!Addr)(it:Addr)(tn:Nat->Heap->Prop)(d:Addr):Prop where
 hc:Y.calm=T1
 T:Np Y.prog Y.w Y.K tg J fp it tn
 df:∀{Hx:Hp},Hx d=TU->eK Y pp Hx d
 fpk:∀{Hx:Hp} {o:Obj},(∀b∈fp,Hx b=TU)->∀b∈fp,eK Y ((d,o)::pp) Hx b
def AW(a:Kp fr (cb fr Z) Z5):∀(k:Nat) v,(cb fr Z)[k]?*>(TV v)->Z5[k]?*>(TV v):=λk v e=>by
 cases q:fr[k]? with
 | none=>
  unfold cb at e;rw[Io,q]at e;cases e
 | some o=>
  cases o with
  | none=>
   unfold cb at e;rw[Io,q]at e;simp at e
  | some j=>rw[a.2 k j q];show e
def Wa.kept(A:Wa Y pp tg J fp it tn d)(f:tn i h7)(c:Inv Y (((d,o)::pp)++eg fp h7) Z H s):tn i s.heap/\(∀b∈fp,H b=TU)/\s.heap.get? d*>o/\H d=TU/\Inv Y pp Z H s:=by
 have g:∀p∈(d,o)::pp,p∈Y.pn++(((d,o)::pp)++eg fp h7):=λp j=>yaR _ (yaL _ j);have h:∀b∈fp,∀u,h7.get? b*>u->(b,u)∈Y.pn++(((d,o)::pp)++eg fp h7):=λb a u e=>yaR _ (yaR _ (iT a e));have k:=c.pin _ (g _ ymS);show{A.T.keep _ _ _ f λb a u e=>(c.pin _ (h b a u e)).1,λb a=>?_,k.1,k.2.1,c.pins_of λp j=>c.pin p (g p (ymC _ j))};have(u,e,_):=A.T.obj _ _ f b a;show(c.pin _ (h b a u e)).2.1
def Wa.turn{Ob : α->Obj->Prop}{Sz : α->Prop}(hO:∀c o,Ob c o->∀v,o.data ≠ .cell v)(A:Wa Y pp tg J fp it tn d)(hg:PG Y tg g)(hgk:gw fr g){P : α->Hp->Prop}{B : α->(α->Hp->Prop)->St->Hp->Prop}{R h:NC->Prop}
  (hW:∀i m c H,W i m c H->Sz c/\((J.stop i H/\P c H)\/(J.go i H/\∃N : α->Hp->Prop,(∀acc' H',N acc' H'->∃L,L<m/\W (i+1) L acc' H')/\∀x H',J.yld i H x H'->g x (cb fr Z) H' (B c N))))
  (hw:Wk Ob Y pp fr (cb fr Z) fp tn d W n s)
  (O:∀c o j H M,Inv Y ((d,o)::pp) j H M->Kp fr (cb fr Z) j->Ob c o->Sz c->H d=TU->P c H->R M)
  (Q:∀i c o N h7 j H M,Inv Y (((d,o)::pp)++eg fp h7) j H M->tn (i+1) h7->Kp fr (cb fr Z) j->Ob c o->Sz c->(∀acc' H',N acc' H'->∃L,L<n/\W (i+1) L acc' H')->B c N j H->h M) :
  NF (NK Y.prog Y.w) Y.A (QK (.ref it)) (λr e=>match r with
   | none=>R e
   | some v=>NF (NK Y.prog Y.w) Y.A (Pk tg (.ref it) v) (λ_ y=>NF (NK Y.prog Y.w) Y.A (Pu tg Y.env v) (λ_ s₂=>h s₂) Y.xe y) Y.xe e) Y.xe s:=by
 obtain⟨i,c,o,S,Z5,J5,l,X,K,k,pl5,C,w5⟩:=hw;have(hz,cs):=hW i n c S w5;have U:Inv Y ((d,o)::pp) Z5 S s:=J5.pins_of λp hp=>by
  rcases ycM hp with z|z
  .subst z;have f:=A.df k;show{pl5,k,f.2.1,f.2.2.1,hO c o C}
  .show J5.pin p (yaR _ z)
 rcases cs with⟨st,q⟩|⟨go,N,hN,step⟩
 .show thn (A.T.done Y rfl rfl rfl A.hc i _ s Z5 S _ U (A.fpk K) X st) λr s6 t=>?_;have(hr,J6):=t;subst hr;show O c o Z5 S s6 J6 l C hz k q
 .show thn (A.T.item Y rfl rfl rfl A.hc i _ s Z5 S _ U (A.fpk K) X go) λr s6 t=>?_;have(u,hr,h6):=t;subst hr;show thn h6 λ_ s7 t=>?_;have(x,H7,J7,r7,y7,E,fr7):=t;have J7p:=(J7.weak l.1.symm (AW l)).pinned (A.fpk fr7) (A.T.obj _ _ E);have G:=hgk x (cb fr Z) H7 _ (λZ2 H2=>B c N Z2 H2/\Kp fr (cb fr Z) Z2) (λj H' a b=>⟨a,b⟩) (step x H7 y7);show thn (hg _ s7 (cb fr Z) H7 x u _ J7p r7 G) λ_ s8 t=>?_;have(Z8,H8,J8,q8,kp8):=t;show Q i c o N s7.heap Z8 H8 s8 J8 E kp8 C hz hN q8
def Wa.grown{Ob : α->Obj->Prop}{N : α->Hp->Prop}{acc' : α}(A:Wa Y pp tg J fp it tn d)(g:tn (i+1) h7)(h:Kp fr Z0 Z8)(J:Inv Y (((d,o)::pp)++eg fp h7) Z8 H s)(u:∀acc' H',N acc' H'->∃c,c<n/\W (i+1) c acc' H')(w:N acc' H)
  (l:NZ d s.heap h') (e:h'.get? d*>o') (ho:Ob acc' o'):∃m,m<n/\Wk Ob Y pp fr Z0 fp tn d W m {s with heap:=h',toks:=t'}:=by
 have(c,q,w):=u _ _ w;have(r,k,x,j,t):=A.kept g J;have f:=A.df j;have v:∀b∈fp,b≠d:=λb a z=>(A.fpk (o:=o) k b a).2.2.2.2.2 _ (yaR _ ymS) z.symm;show{c,q,i+1,acc',o',H,Z8,t.turned (it:=d) (t':=t') (λb o a e=>(l.2 b a).trans e) j f.2.1 f.2.2.2.1 f.2.2.2.2.1 f.2.2.2.2.2,h,A.T.keep _ _ _ r (λb a o e=>(l.2 b (v b a)).trans e),k,j,e,ho,w}
def Wa.stays{Ob : α->Obj->Prop}{N : α->Hp->Prop}(A:Wa Y pp tg J fp it tn d)(c:tn (i+1) h7)(e:Kp fr Z0 Z8)(J:Inv Y (((d,o)::pp)++eg fp h7) Z8 H s)(j:∀acc' H',N acc' H'->∃a,a<n/\W (i+1) a acc' H')(w:N acc H)
  (ho:Ob acc o):∃m,m<n/\Wk Ob Y pp fr Z0 fp tn d W m s:=by
 have(a,f,w):=j _ _ w;have(g,l,k,p,h):=A.kept c J;show{a,f,i+1,acc,o,H,Z8,h,e,g,l,p,k,ho,w}
abbrev obL(c:!V)(o:Obj):Prop:=∃a n,o=lO a n/\Vals c a
abbrev szL(a:!V):Prop:=a.length<sizeLine
def CM(a:!V)(o:Obj)(h:obL a o):∀v,o.data ≠ .cell v:=by
 have(c,n,rfl,_):=h;show λv z=>by cases z
def Wa.app{N:!V->Hp->Prop}(A:Wa Y pp tg J fp it tn d)(X:PTs Y ifs tc)(Z:PE Y elt te)
  (S:Inv Y (((d,o)::pp)++eg fp h7) Z8 H8 s8) (g:tn (i+1) h7) (p:Kp fr Z0 Z8) (c:obL acc o) (hz:szL acc) (C:∀acc' H',N acc' H'->∃E,E<n/\W (i+1) E acc' H')
  (M:tc Z8 H8 λb H=>if b=T1 then te Z8 H λv H4=>N (acc++[v]) H4 else N acc H) :
  NF (NK Y.prog Y.w) Y.A (nW ifs Y.env) (λz f=>
   if z=T1 then NF (NK Y.prog Y.w) Y.A (eval elt Y.env) (λx q=>
    NF (NK Y.prog Y.w) Y.A (call (.builtin "list.append") [.ref d,x]) (λ_ j=>∃m,m<n/\Wk obL Y pp fr Z0 fp tn d W m j) Y.xe q) Y.xe f
   else∃m,m<n/\Wk obL Y pp fr Z0 fp tn d W m f) Y.xe s8:=by
 show thn (X _ s8 Z8 H8 _ S M) λz U u=>?_;have(Q,G,r):=u;cases z with
 | false=>
  rw[if_neg (by decide)]at r|-;show A.stays g p G C r c
 | true=>
  rw[if_pos rfl]at r|-;show thn (Z _ U Z8 Q _ G r) λy K u=>?_;have(v,L,l,t,B):=u;have(e,k,rfl,c):=c;have s:e.toArray.size<=sizeLine:=by rw[Ic,<-c.length];show Kq hz
  show wpAny_list_append_plain (hsz:=s) {k,(A.kept g l).2.2.1} λO a h=>?_;have(P,a):=a;show A.grown (acc':=acc++[v]) g p l C B h a {e++[y],P,?_,c.append (.cons t .nil)};have:(e++[y]).toArray=e.toArray.push y:=by simp
  unfold lO;rw[this]
section
variable {X:Cx}{elt tg iter:Expr}{ifs:!Expr}{scope:Pn}{pos:Pos}{N':!Str}{fr:! ↑Nat}{wi:TI}{g:TG}{tc:TT}{te:TE}
def pJ{Ob : α->Obj->Prop}{Sz : α->Prop}{ho : α->HO}{a0 : α}{o0:Obj}{C:Expr}{new:Sem Nz}(hc:X.calm=T1)(B:Blk X.env.scope scope X.N N' fr)
  {j:!(Addr×Obj)} {Z:St} {Q:VK} {RI:It->Hp->Prop} {O:Nz} {f:NC} {E:Nz->NC->Prop} {RR:Nz->Addr->Th->NC->Prop}
  (hnew:∀{Q:Nz->NC->Prop},Q (.ref f.heap.objs.size) {f with heap:=f.heap.push o0}->NF (NK X.prog X.w) X.A new Q E f)
  (hst:∀{it a:Nz} {env:Env} {R:Th->NC->Prop} {s:NC},Pa (NK X.prog X.w) X.A (.compLoop C 0 it a env) R s->NF (NK X.prog X.w) X.A (SD it) (λit' m=>Pa (NK X.prog X.w) X.A (.compLoop C 0 it' a env) R m) (notedBy (NK X.prog X.w) X.A env λx m=>R (.error x) m) s->Pa (NK X.prog X.w) X.A (.compStart C 0 it a env) R s)
  (h0:Ob a0 o0) (hf:(f.heap.push o0).get? f.heap.objs.size*>o0) (hho:∀{a o H h d},Ob a o->Sz a->(d==P4)=TZ->h.get? d*>o->MR X.prog X.w H h d (ho a))
  (h2:PIE X j Z tg RI O f)
  (hRR:∀(d C:Addr) (v:V) (H':Hp) (m:NC) m',Inv X j Z H' m->v=.ref d->Q v H'->m.heap.Ns C m'->eK X j H' C->C≠d->RR (.ref d) C (.ok .next) m)
  (Y:∀(M:Bk) (it:Addr) (l:!Addr) (G:Nat->Heap->Prop) (J:It) (k:Hp) (d:Addr) (s4:NC),Wa (cxB X scope N' M) [] tg J l it G d->RI J k ->
   (∀W n,W 0 n a0 k->Wk Ob (cxB X scope N' M) [] fr (cb fr Z) l G d W n s4) ->
   (∀a o Z' H m,Inv (cxB X scope N' M) [(d,o)] Z' H m->Kp fr (cb fr Z) Z'->Ob a o->Sz a->H d=TU->(∀d,H d=TU->Q (.ref d) (upd H d (ho a)))->RR (.ref d) M.C (.ok .next) m) ->
   Pa (NK X.prog X.w) X.A (.compLoop C 0 (.ref it) (.ref d) (cxB X scope N' M).env) (RR (.ref d) M.C) s4) :
  NF (NK X.prog X.w) X.A new (λa s₃=>NF (NK X.prog X.w) X.A (Qc scope X.env.globals (bM X.env scope.names []) [] X.env.qual TU .none (TV X.env)) (λu s₄=>
   Pa (NK X.prog X.w) X.A (.compStart C 0 O a {u with scope:=Rk scope X.env}) (RR a u.locals) s₄) E s₃) E f:=by
 obtain⟨it,l,G,J,k,rfl,L,T,st2,f2,w0⟩:=h2;show hnew ?_;have y:(f.heap.objs.size==P4)=TZ:=beq_eq_false_iff_ne.mpr (NS (Is (Nat.lt_trans (by decide) (L.mod.glob.keeps L.bk).lt)));generalize hd:f.heap.objs.size=d at y hf;have fd:eK X j k d:=L.fpOk (by rw[hd];show Ig _) (L.hok.fresh (by rw[hd];show Ig _));have ne_d:∀b∈l,b≠d:=λb c=>by
  have(o,e,_):=T.obj _ _ st2 b c;rw[<-hd];show Is (NG e)
 have hd0:X.s₀.heap.objs.size<=d:=by rw[<-hd];show L.sz
 have hk3:∀b o,f.heap.get? b*>o->(f.heap.push o0).get? b*>o:=λb o e=>NB _ e;have I3:Inv X j Z k {f with heap:=f.heap.push o0}:=L.kept (t':=f.toks) hk3;have r:G 0 (f.heap.push o0):=T.keep _ _ _ st2 λb _ o e=>hk3 b o e;generalize P:({f with heap:=f.heap.push o0}:NC)=s3 at I3;have K:s3.heap.get? d*>o0:=by rw[<-P];show hf
 replace r:G 0 s3.heap:=by rw[<-P];show r
 have hex:∀b∈d::l,eK X j k b/\∃o,s3.heap.get? b*>o:=λb c=>by
  rcases ycM c with e|c;subst e;show{fd,_,K}
  .have(o,e,_):=T.obj _ _ r b c;show{f2 b c,o,e}
 show lH λh4 hns hk hcl=>?_;have J0:=I3.enter (ex:=d::l) (xe:=λ_ _=>False) B hex hns hk hcl;generalize hCs:N7 (s3.heap.objs.size+1) scope.names (bM X.env scope.names [])=cells at J0;have hCd:s3.heap.objs.size≠d:=λz=>by have:=NG K;rw[z]at this;show Jq _ this
 have t:Inv (cxB X scope N' {cells,s3.heap.objs.size,s3,k,d::l,X.pn++j}) [] (cb fr Z) k {s3 with heap:=h4}:=J0;have fpk:∀{Hx:Hp} {pq:!(Addr×Obj)} (b),b∈d::l->Hx b=TU->(∀p∈(X.pn++j)++pq,p.1≠b)->eK (cxB X scope N' {cells,s3.heap.objs.size,s3,k,d::l,X.pn++j}) pq Hx b:=λb c S hp=>
  {S,(t.ok.exf b c).1,t.ok.exfs b c,.inl c,(t.ok.exf b c).2,hp}
 have st4:G 0 h4:=T.keep _ _ _ r λb _ o e=>hk b o e;have L4:=Y {cells,s3.heap.objs.size,s3,k,d::l,X.pn++j} it l G J k d {s3 with heap:=h4} ⟨hc,T,λ{Hx} S=>fpk d ymS S λp hp=>fd.2.2.2.2.2 p (by rwa [Iw]at hp),λ{Hx o} S b c=>fpk b (ymC _ c) (S b c) λp hp=>by
   rcases yaM hp with z|z;show(f2 b c).2.2.2.2.2 p z
   .rw[ysM z];show NS (ne_d b c)⟩ w0
  (λW n w=>{0,a0,o0,k,cb fr Z,t,Kp.refl _ _,st4,λb c=>(f2 b c).1,fd.1,hk d _ K,h0,w}) λa o Z' H5 s6 J6 _ va5 hz U q=>by
   have(e6,n6,_):=J6.pin (d,o) (yaR _ ymS);have I6:Inv X j Z H5 s6:=I3.leave (λb c=>(hex b c).1) J6;have I6t:Inv X j Z (upd H5 d (ho a)) s6:=I6.track ⟨U,fd.2⟩ (.inr hd0) hd0 (hho va5 hz y e6);have(m6,hn6,_):=J6.loc;show hRR d s3.heap.objs.size (.ref d) _ s6 m6 I6t rfl (q d U) hn6 ?_ hCd;show I3.fpOk (Ig _) (by rw[upd_ne hCd];show J6.free)
 show hst L4 (T.self X.A 0 _ _ _ st4 L4)
def Fz{acc o H h d}(i:obL acc o)(f:szL acc)(_:(d==P4)=TZ)(e:h.get? d*>o):MR X.prog X.w H h d (.lst acc):=by
 have(a,n,rfl,c):=i;show{Kq f,a,n,c,e}
def kO(hc:X.calm=T1)(B:Blk X.env.scope scope X.N N' fr)
  (hg:∀b,PG (cxB X scope N' b) tg g) (K:gw fr g) (ht:∀b,PTs (cxB X scope N' b) ifs tc) (he:∀b,PE (cxB X scope N' b) elt te)
  {t:!(Addr×Obj)} {Z:St} {Q:VK} {f:Nz} {P:NC} {E:Nz->NC->Prop} {RR:Nz->Addr->Th->NC->Prop}
  (h2:PIE X t Z tg (λJ H1=>∃W:Nat->Nat->!V->Hp->Prop,(∃m,W 0 m [] H1)/\∀i m c H,W i m c H->c.length<sizeLine /\
   ((J.stop i H/\∀d,H d=TU->Q (.ref d) (upd H d (.lst c))) \/
   (J.go i H/\∃N:!V->Hp->Prop,(∀acc' H',N acc' H'->∃l,l<m/\W (i+1) l acc' H') /\
    ∀x H',J.yld i H x H'->g x (cb fr Z) H' λS M=>tc S M λb O=>if b=T1 then te S O λv H4=>N (c++[v]) H4 else N c O))) f P)
  (u:∀(d C:Addr) (v:V) (H':Hp) (r:NC) l,Inv X t Z H' r->v=.ref d->Q v H'->r.heap.Ns C l->eK X t H' C->C≠d->RR (.ref d) C (.ok .next) r) :
  NF (NK X.prog X.w) X.A (newList []) (λc h=>NF (NK X.prog X.w) X.A (Qc scope X.env.globals (bM X.env scope.names []) [] X.env.qual TU .none (TV X.env)) (λe k=>
   Pa (NK X.prog X.w) X.A (.compStart (.ListComp elt [{tg,iter,ifs,0}] scope pos) 0 f c {e with scope:=Rk scope X.env}) (RR c e.locals) k) E h) E P:=
 pJ (Ob:=obL) (Sz:=szL) (ho:=.lst) (a0:=[]) (o0:=lO [] 0) hc B (λq=>NT q) (λa b=>codeAny_compStart_list a b) {[],0,Xr,.nil} (NI _ rfl) Fz h2 u λp it fp tn J M d s4 A G wk y=>by
  obtain⟨W,⟨U,G⟩,j⟩:=G;show gB (Wk obL (cxB X scope N' p) [] fr (cb fr Z) fp tn d W) (λn s hw=>A.turn CM (hg p) K j hw y λi c o N h7 Z' H r J8 z L va Y hN q8=>A.app (ht p) (he p) J8 z L va Y hN q8) U (wk W U G)
def zF(r:X.calm=T1)(B:Blk X.env.scope scope X.N N' fr)(hi:PI X tg iter wi)
  (M:∀b,PG (cxB X scope N' b) tg g) (c:gw fr g) (E:∀b,PTs (cxB X scope N' b) ifs tc) (J:∀b,PE (cxB X scope N' b) elt te)
  (hs:∀x,OH iter X.env x=pure x:=by intro _;rfl):PE X (.ListComp elt [{tg,iter,ifs,0}] scope pos) (ye wi fr g tc te):=by
 intro f s Z H Q I h;rw[eval_ListComp];show Qu (use:=TU) rfl hs (iL (I.freeCells B)) B.kind B.locl (thn (hi f s Z H _ I h) λv P m=>thn m λi S L=>?_);show kO (RR:=λa C=>compPost (NK X.prog X.w) X.A X.xe TU (EP X f Z Q) a C) r B M c E J L ?_;intro d C v K G k z u q O t p;show{k,O,λl y=>?_};have(c0,c1,c2,c3,c4,c5):=t;show{v,K,z.turned (it:=C) (t':=G.toks) (λb o j e=>(y.2 b j).trans e) c0 c1 c3 c4 c5,by rw[u];rfl,q}
def qz(Y:X.calm=T1)(E:X.N.Nodup)(l:X.N[i]?*>x)(r:X.env.scope.names.lookup x*>.local)(B:Blk X.env.scope scope X.N N' fr)(hi:PI X tg iter wi)
  (hg:∀b,PG (cxB X scope N' b) tg g) (p:gw fr g) (ht:∀b,PTs (cxB X scope N' b) ifs tc) (he:∀b,PE (cxB X scope N' b) elt te)
  (j:O9 (.ListComp elt [{tg,iter,ifs,0}] scope pos) (TV (.Name x pos')) spos.line X.env=pure T1:=by rfl)
  (hs:∀x,OH iter X.env x=pure x:=by intro _;rfl):PS X (.Assign [.Name x pos'] (.ListComp elt [{tg,iter,ifs,0}] scope pos) spos) (AL (ye wi fr g tc te) (l6 i)):=by
 intro f s Z H D I h;rw[exec_Assign_Name_used _ _ _ _ j];show NA (OO (NA ?_));change NF _ _ (do let _ <-comprehension (.ListComp elt [{tg,iter,ifs,0}] scope pos) scope X.env _ (newList []) TZ (eval iter X.env) (TV (Pu (.Name x pos') X.env))) _ _ s;show NA (Ol (Qu (use:=TV (Pu (.Name x pos') X.env)) (Q:=λ_ c=>SP X f D .next c) rfl hs (iL (I.freeCells B)) B.kind B.locl (thn (hi f s Z H _ I h) λv s1 M=>thn M λt s2 h2=>?_)) (λ_ c L=>ND (ND L)) λ_ _ e=>e);show kO (Q:=λv H1=>l6 i v Z H1 D.nx) (RR:=λk C=>compPost (NK X.prog X.w) X.A X.xe (TV (Pu (.Name x pos') X.env)) (λ_ c=>SP X f D .next c) k C) Y B hg p ht he h2 ?_;intro d C v H' c J I' hv q hn fC P;have(c0,c1,c2,c3,c4,c5):=fC;subst hv;show RL (mO I' E l (.inl r) (show RelV (.ref d) (.ref d)from rfl) (λS u ⟨a,U,y⟩=>?_) (.inr r));have m:C≠a:=by
  rcases y with z|z;rw[z];show c1;show λO=>c4 x a z O.symm
 show{J,hn.sameBut U m,λK sb=>?_};show{_,H',u.turned (it:=C) (t':=S.toks) (λb o G e=>(sb.2 b G).trans e) c0 c1 c3 c4 c5,q}
end
inductive D where
 | int (i:Int)|str (x:Str)|tup (ds:!D)
mutual
def Rep(K:yF)(H:Hp):D->V->Prop
 | .int i,v=>v=.int i
 | .str x,v=>v=.str x
 | .tup d,v=>∃a c,v=.ref a/\SqT K H a c/\MV K H d c
def MV(K:yF)(H:Hp):!D->!V->Prop
 | [],a=>a=[]
 | d::c,a=>∃x r,a=x::r/\Rep K H d x/\MV K H c r
end
mutual
noncomputable def D.depth:D->Nat
 | .int _=>0
 | .str _=>0
 | .tup ds=>aJ ds+1
noncomputable def aJ:!D->Nat
 | []=>0
 | d::ds=>max d.depth (aJ ds)
end
def l4:∀{a:!D},d∈a->d.depth<=aJ a
 | [],h=>by cases h
 | e::a,h=>by
  rw[aJ];rcases ycM h with z|z;rw[z];show L7 _ _;show Ik (l4 z) (LP _ _)
def MV.length{K:yF}{H:Hp}:∀{a:!D} {xs:!V},MV K H a xs->xs.length=a.length
 | [],xs,h=>by rw[MV]at h;rw[h];rfl
 | d::a,xs,h=>by
  rw[MV]at h;have(x,r,rfl,_,c):=h;rw[Im,Im,c.length]
def Rep.tup_iff{K:yF}{H:Hp}{c:!D}{v:V}:Rep K H (.tup c) v ↔ ∃a xs,v=.ref a/\SqT K H a xs/\MV K H c xs:=by rw[Rep]
def MY.laid(hp:H p=TU):MY H (upd H p o):=λb u e=>by rw[upd_ne (bi e hp)];show e
section
section
variable {X:Cx}{OK:!(Addr×Obj)}{Z:St}{H:Hp}{s:NC}
mutual
theorem Rep.inj(I:Inv X OK Z H s):∀{d e:D} {v:V},Rep X.K H d v->Rep X.K H e v->d=e
 | .int i,.int j,v,h,c=>by dsimp[Rep]at h c;subst h;cases c;rfl
 | .int i,.str j,v,h,c=>by dsimp[Rep]at h c;subst h;cases c
 | .int i,.tup j,v,h,c=>by dsimp[Rep]at h c;subst h;have(_,_,z,_):=c;cases z
 | .str i,.int j,v,h,c=>by dsimp[Rep]at h c;subst h;cases c
 | .str i,.str j,v,h,c=>by dsimp[Rep]at h c;subst h;cases c;rfl
 | .str i,.tup j,v,h,c=>by dsimp[Rep]at h c;subst h;have(_,_,z,_):=c;cases z
 | .tup i,.int j,v,h,c=>by dsimp[Rep]at h c;subst c;have(_,_,z,_):=h;cases z
 | .tup i,.str j,v,h,c=>by dsimp[Rep]at h c;subst c;have(_,_,z,_):=h;cases z
 | .tup m,.tup o,v,h,c=>by
  dsimp[Rep]at h c;have(a,q,rfl,l,k):=h;have(b,p,z,g,f):=c;cases z;rw[I.tuple_inj g l]at f;rw[MV.inj I k f]
theorem MV.inj(I:Inv X OK Z H s):∀{c f:!D} {xs:!V},MV X.K H c xs->MV X.K H f xs->c=f
 | [],[],xs,h,a=>rfl
 | [],e::f,xs,h,a=>by dsimp[MV]at h a;subst h;have(_,_,z,_):=a;cases z
 | d::c,[],xs,h,a=>by dsimp[MV]at h a;subst a;have(_,_,z,_):=h;cases z
 | d::c,e::f,xs,h,a=>by
  dsimp[MV]at h a;have(x,r,rfl,k,j):=h;have(y,q,z,i,g):=a;cases z;rw[Rep.inj I k i,MV.inj I j g]
end
open SeqAt in
mutual
theorem vb(I:Inv X OK Z H s):∀(d e:D) {x y:V} {u v:Nz} {A:NU},Rep X.K H d x->Rep X.K H e y->RelV x u->RelV y v->A.units+d.depth<Ox->∃b,(b=T1↔d=e)/\EqAt A s u v b
 | .int i,.int j,x,y,u,v,A,h,c,r,g,_=>by
  dsimp[Rep]at h c;subst h c;have(t,rfl):=r;have(q,rfl):=g;show{_,by simp,EqAt.int_int i t j q}
 | .int i,.str j,x,y,u,v,A,h,c,r,g,_=>by
  dsimp[Rep]at h c;subst h c;have(t,rfl):=r;have(q,rfl):=g;show{_,by simp,EqAt.int_str i t j q}
 | .str i,.int j,x,y,u,v,A,h,c,r,g,_=>by
  dsimp[Rep]at h c;subst h c;have(t,rfl):=r;have(q,rfl):=g;show{_,by simp,EqAt.str_int i t j q}
 | .str i,.str j,x,y,u,v,A,h,c,r,g,_=>by
  dsimp[Rep]at h c;subst h c;have(t,rfl):=r;have(q,rfl):=g;show{_,by simp,EqAt.str_str i t j q}
 | .int i,.tup j,x,y,u,v,A,h,c,r,g,m=>by
  dsimp[Rep]at h c;subst h;have(t,rfl):=r;have(a,E,rfl,o,_):=c;cases g;have(f,_,p,_):=I.tuple o;show{TZ,by simp,EqAt.int_tuple i t (show s.heap.IsTuple a f.toArray from p) (JD (IX _ _) m)}
 | .str i,.tup j,x,y,u,v,A,h,c,r,g,m=>by
  dsimp[Rep]at h c;subst h;have(t,rfl):=r;have(a,E,rfl,o,_):=c;cases g;have(f,_,p,_):=I.tuple o;show{TZ,by simp,EqAt.str_tuple i t (show s.heap.IsTuple a f.toArray from p) (JD (IX _ _) m)}
 | .tup j,.int i,x,y,u,v,A,h,c,r,g,m=>by
  dsimp[Rep]at h c;subst c;have(t,rfl):=g;have(a,E,rfl,o,_):=h;cases r;have(f,_,p,_):=I.tuple o;show{TZ,by simp,EqAt.tuple_int i t (show s.heap.IsTuple a f.toArray from p) (JD (IX _ _) m)}
 | .tup j,.str i,x,y,u,v,A,h,c,r,g,m=>by
  dsimp[Rep]at h c;subst c;have(t,rfl):=g;have(a,E,rfl,o,_):=h;cases r;have(f,_,p,_):=I.tuple o;show{TZ,by simp,EqAt.tuple_str i t (show s.heap.IsTuple a f.toArray from p) (JD (IX _ _) m)}
 | .tup w,.tup P,x,y,u,v,A,h,c,r,g,m=>by
  by_cases B:u=v
  .subst B;have J:x=y:=r.inj g;subst J;show{T1,by simp[Rep.inj I h c],EqAt.same u}
  .dsimp[Rep]at h c;have(a,E,rfl,o,M):=h;have(b,ys,rfl,S,N):=c;cases r;cases g;have(f,O,p,_):=I.tuple o;have(k,C,Q,_):=I.tuple S;have G:a≠b:=λz=>B (by rw[z]);have L:A.in1.units+aJ w<Ox:=by
    have:A.units+(aJ w+1)<Ox:=by rw[D.depth]at m;show m
    change A.units+1+aJ w<Ox;omega
   have(e,he,U):=g8 I w P (A:=A.in1) M N O C L;have R:=RcAt.tuples (A:=A) (s:=s) (l:=a) (b:=b) (items:=f.toArray) (items2:=k.toArray) (e:=e) (show s.heap.IsTuple a f.toArray from p) (show s.heap.IsTuple b k.toArray from Q) (JD (IX _ _) m) (λj Y o=>by
    simpa using U j (f[j]'(by exists Y)) (k[j]'(by exists o)) ∅ ∅)
   show{_,?_,EqAt.of_refs G R};rw[he.symm];have l1:f.toArray.size=w.length:=by rw[Ic,<-O.length,M.length]
   have l2:k.toArray.size=P.length:=by rw[Ic,<-C.length,N.length]
   rw[l1,l2];simp
theorem g8(I:Inv X OK Z H s):∀(a c:!D) {xs i:!V} {us vs:!Nz} {A:NU},MV X.K H a xs->MV X.K H c i->Vals xs us->Vals i vs->A.units+aJ a<Ox ->
  ∃e:Nat->Bool,(((Ip (min a.length c.length)).all e=T1/\a.length=c.length)↔D.tup a=D.tup c)/\∀(j:Nat) u v,us[j]?*>u->vs[j]?*>v->EqAt A s u v (e j)
 | [],c,xs,i,us,vs,A,h,g,r,k,_=>by
  rw[MV]at h;subst h;cases r;show{λ_=>T1,?_,λj u v e=>by simp at e};cases c<;>simp
 | d::a,[],xs,i,us,vs,A,h,g,r,k,_=>by
  rw[MV]at g;subst g;cases k;show{λ_=>T1,by simp,λj u v _ e=>by simp at e}
 | d::a,e::c,xs,i,us,vs,A,h,g,r,k,J=>by
  dsimp[MV]at h g;have(x,q,rfl,S,E):=h;have(y,U,rfl,C,M):=g;cases r with
  | cons P N=>
   cases k with
   | cons z O=>
    rw[aJ]at J;have Y:=L7 d.depth (aJ a);have m2:=LP d.depth (aJ a);have(b,B,G):=vb I d e (A:=A) S C P z ⋯;have(f,Q,L):=g8 I a c (A:=A) E M N O ⋯;show{λj=>match j with|0=>b|j+1=>f j,?_,λj u v o l=>?_}
    .have m:((Ip (min a.length c.length)).all f=T1/\a.length=c.length)↔a=c:=by rw[Q];simp
     rw[Im,Im,Nat.succ_min_succ,Li,JX,Mt];dsimp[D.tup.injEq,KS.injEq,Ie,Nat.add_right_cancel_iff];rw[<-m,<-B];constructor;rintro⟨⟨w,p⟩,t⟩;show⟨w,p,t⟩;rintro⟨w,p,t⟩;show{⟨w,p⟩,t}
    .cases j with
     | zero=>simp at o l;subst o l;show G
     | succ j=>show L j u v (by exists o) (by exists l)
end
end
end
section
variable {X:Cx}
abbrev Gs(K:yF):R2:=λx y H Q=>∃a c,Rep K H (.tup a) x/\Rep K H (.tup c) y/\aJ a<=50/\∀b,(b=T1↔a=c)->Q (.bl b) H
abbrev GA(K:yF):R2:=λx y H Q=>∃a c,Rep K H (.tup a) x/\Rep K H (.tup c) y/\aJ a<=50/\∀b,(b=T1↔a≠c)->Q (.bl b) H
def CP(U:X.A.units+64<Ox):OpR X (N1 .Eq) (Gs X.K):=by
 intro O s Z H x y v u Q I C M h;have(f,i,k,m,Y,q):=h;rw[Rep.tup_iff]at k m;have(a,S,rfl,G,t):=k;have(b,P,rfl,L,z):=m;cases C;cases M;have(d,B,p,_):=I.tuple G;have(c,g,E,_):=I.tuple L;have r:X.A.in1.units+aJ f<Ox:=by change X.A.units+1+aJ f<Ox;omega
 have(e,N,J):=g8 I f i (A:=X.A.in1) t z B g r;have R:=SK.tuples (A:=X.A) (s:=s) (l:=a) (b:=b) (items:=d.toArray) (items2:=c.toArray) (e:=e) (show s.heap.IsTuple a d.toArray from p) (show s.heap.IsTuple b c.toArray from E) ⋯ (λj k m=>by
  simpa using J j (d[j]'(by exists k)) (c[j]'(by exists m)) ∅ ∅)
 show R X.prog X.w X.xe _ {.bl _,H,I,Xr,q _ ?_};have l1:d.toArray.size=f.length:=by rw[Ic,<-B.length,t.length]
 have l2:c.toArray.size=i.length:=by rw[Ic,<-g.length,z.length]
 have o:((Ip (min f.length i.length)).all e=T1/\f.length=i.length)↔f=i:=by rw[N];simp
 rw[l1,l2,<-o];simp
def CZ(U:X.A.units+64<Ox):OpR X (N1 .NotEq) (GA X.K):=by
 intro O s Z H x y v u Q I C M h;have(f,i,k,m,Y,q):=h;rw[Rep.tup_iff]at k m;have(a,S,rfl,G,t):=k;have(b,P,rfl,L,z):=m;cases C;cases M;have(d,B,p,_):=I.tuple G;have(c,g,E,_):=I.tuple L;have r:X.A.in1.units+aJ f<Ox:=by change X.A.units+1+aJ f<Ox;omega
 have(e,N,J):=g8 I f i (A:=X.A.in1) t z B g r;have R:=Tz (A:=X.A) (s:=s) (l:=a) (b:=b) (items:=d.toArray) (items2:=c.toArray) (e:=e) (show s.heap.IsTuple a d.toArray from p) (show s.heap.IsTuple b c.toArray from E) ⋯ (λj k m=>by
  simpa using J j (d[j]'(by exists k)) (c[j]'(by exists m)) ∅ ∅)
 show R X.prog X.w X.xe _ {.bl _,H,I,Xr,q _ ?_};have l1:d.toArray.size=f.length:=by rw[Ic,<-B.length,t.length]
 have l2:c.toArray.size=i.length:=by rw[Ic,<-g.length,z.length]
 have o:((Ip (min f.length i.length)).all e=T1/\f.length=i.length)↔f=i:=by rw[N];simp
 rw[l1,l2,ne_eq,<-not_congr o,Ji,<-Bool.not_eq_true,Ie,beq_iff_eq]
abbrev Gv(K:yF):R2:=λx y H Q=>∃a b e g d f,x=.ref a/\y=.ref b/\SqL K H a e/\SqL K H b g/\MV K H d e/\MV K H f g/\aJ d<=50/\∀c,(c=T1↔d=f)->Q (.bl c) H
abbrev GB(K:yF):R2:=λx y H Q=>∃a b e g d f,x=.ref a/\y=.ref b/\SqL K H a e/\SqL K H b g/\MV K H d e/\MV K H f g/\aJ d<=50/\∀c,(c=T1↔d≠f)->Q (.bl c) H
def CQ(hu:X.A.units+64<Ox):OpR X (N1 .Eq) (Gv X.K):=by
 intro S s Z H x y v u Q I E N h;obtain⟨a,b,Y,U,f,g,rfl,rfl,G,L,t,B,hd,q⟩:=h;cases E;cases N;have(d,C,p,_):=I.list G;have(c,i,r,_):=I.list L;have o:X.A.in1.units+aJ f<Ox:=by change X.A.units+1+aJ f<Ox;omega
 have(e,O,J):=g8 I f g (A:=X.A.in1) t B C i o;have l1:d.toArray.size=f.length:=by rw[Ic,<-C.length,t.length]
 have l2:c.toArray.size=g.length:=by rw[Ic,<-i.length,B.length]
 have m:((Ip (min f.length g.length)).all e=T1/\f.length=g.length)↔f=g:=by rw[O];simp
 by_cases k:f.length=g.length
 .have R:=SK.lists (A:=X.A) (s:=s) (l:=a) (b:=b) (items:=d.toArray) (items2:=c.toArray) (e:=e) p.isList r.isList (by rw[l1,l2];show k) ⋯ (λj M P=>by
   simpa using J j (d[j]'(by exists M)) (c[j]'(by exists P)) ∅ ∅)
  show R X.prog X.w X.xe _ {.bl _,H,I,Xr,q _ ?_};rw[l1,<-m,<-k,LH];simp
 .have R:=SK.lists_lengths (A:=X.A) (s:=s) (l:=a) (b:=b) (items:=d.toArray) (items2:=c.toArray) p.isList r.isList (by rw[l1,l2];exists k) ⋯;show R X.prog X.w X.xe _ {.bl _,H,I,Xr,q _ ?_};constructor;intro z;cases z;intro z;show absurd (by rw[z]) k
def C0(hu:X.A.units+64<Ox):OpR X (N1 .NotEq) (GB X.K):=by
 intro S s Z H x y v u Q I E N h;obtain⟨a,b,Y,U,f,g,rfl,rfl,G,L,t,B,hd,q⟩:=h;cases E;cases N;have(d,C,p,_):=I.list G;have(c,i,r,_):=I.list L;have o:X.A.in1.units+aJ f<Ox:=by change X.A.units+1+aJ f<Ox;omega
 have(e,O,J):=g8 I f g (A:=X.A.in1) t B C i o;have l1:d.toArray.size=f.length:=by rw[Ic,<-C.length,t.length]
 have l2:c.toArray.size=g.length:=by rw[Ic,<-i.length,B.length]
 have m:((Ip (min f.length g.length)).all e=T1/\f.length=g.length)↔f=g:=by rw[O];simp
 by_cases k:f.length=g.length
 .have R:=TF (A:=X.A) (s:=s) (l:=a) (b:=b) (items:=d.toArray) (items2:=c.toArray) (e:=e) p.isList r.isList (by rw[l1,l2];show k) ⋯ (λj M P=>by
   simpa using J j (d[j]'(by exists M)) (c[j]'(by exists P)) ∅ ∅)
  show R X.prog X.w X.xe _ {.bl _,H,I,Xr,q _ ?_};rw[l1,ne_eq,<-not_congr m,<-k,LH];simp
 .have R:=SL (A:=X.A) (s:=s) (l:=a) (b:=b) (items:=d.toArray) (items2:=c.toArray) p.isList r.isList (by rw[l1,l2];exists k) ⋯;show R X.prog X.w X.xe _ {.bl _,H,I,Xr,q _ ?_};constructor;intro _ z;show absurd (by rw[z]) k;intro _;rfl
open Classical in
abbrev isD(K:yF) (H:Hp) (d:D) (u:Nz):Bool:=decide (∃v,RelV v u/\Rep K H d v)
open Classical in
def rB{K:yF}{H:Hp}{d:D}{u:Nz}:isD K H d u=T1 ↔ ∃v,RelV v u/\Rep K H d v:=by
 unfold isD;show decide_eq_true_iff
def i5(I:Inv X OK Z H s)  : ∀{a:!D} {xs:!V} {us:!Nz},MV X.K H a xs->Vals xs us->(us.any (isD X.K H d)=T1↔d∈a)
 | [],xs,us,h,r=>by rw[MV]at h;subst h;cases r;simp
 | e::a,xs,us,h,r=>by
  rw[MV]at h;have(x,q,rfl,f,k):=h;cases r with
  | @cons _ l _ j g m=>
   rw[K8,Ll,i5 I k m,IH];have:isD X.K H d l=T1↔d=e:=by
    rw[rB];constructor
    .rintro⟨v,i,c⟩;rw[i.inj g]at c;show Rep.inj I c f
    .intro z;subst z;show⟨x,g,f⟩
   rw[this]
def gD(I:Inv X OK Z H s)(k:Rep X.K H d x)(l:RelV x v)(a:A.units+aJ ds<Ox) :
  ∀{j:!D} {xs:!V} {us:!Nz},(∀e∈j,e∈ds)->MV X.K H j xs->Vals xs us->∀u∈us,N4 A s u v (isD X.K H d u)
 | [],xs,us,_,h,r=>by rw[MV]at h;subst h;cases r;intro u a;cases a
 | e::j,xs,us,m,h,r=>by
  rw[MV]at h;have(y,q,rfl,i,E):=h;cases r with
  | cons c J=>
   intro u f;rcases ycM f with z|z
   .subst z;have(b,C,G):=vb I e d (A:=A) i k c l (JD (Nat.add_le_add_left (l4 (m e ymS)) _) a);have:isD X.K H d u=b:=by
     have p:isD X.K H d u=T1↔e=d:=by
      rw[rB];constructor
      .rintro⟨w,g,o⟩;rw[g.inj c]at o;show(Rep.inj I o i).symm
      .intro z;subst z;show⟨y,c,i⟩
     rw[Jl,p,C]
    rw[this];show G
   .show gD I k l a (λt B=>m t (ymC _ B)) E J u z
abbrev Ae(K:yF)(e:Bool):R2:=λx y H Q=>∃p c d a,y=.ref p/\(SqL K H p c\/SqT K H p c)/\Rep K H d x/\MV K H a c/\aJ a<=50/\∀b,(b=T1↔(if e=T1 then d∉a else d∈a))->Q (.bl b) H
def CT(B:X.A.units+64<Ox):OpR X (N1 .In) (Ae X.K TZ):=by
 intro r s Z H x y v u Q I m o h;obtain⟨p,t,d,k,rfl,f,l,g,w,q⟩:=h;cases o;have e:X.A.in1.units+aJ k<Ox:=by change X.A.units+1+aJ k<Ox;omega
 rcases f with f|f
 .have(c,a,i,_):=I.list f;show Si (isD X.K H d) i.isList (λy j=>gD I l m e (λ_ z=>z) g a y (by exists j)) {.bl _,H,I,Xr,q _ ?_};rw[if_neg (by decide),<-i5 I g a];simp
 .have(c,a,i,_):=I.tuple f;show R4 (isD X.K H d) (show s.heap.IsTuple p c.toArray from i) (λy j=>gD I l m e (λ_ z=>z) g a y (by exists j)) {.bl _,H,I,Xr,q _ ?_};rw[if_neg (by decide),<-i5 I g a];simp
def tV(B:X.A.units+64<Ox):OpR X (N1 .NotIn) (Ae X.K T1):=by
 intro r s Z H x y v u Q I m o h;obtain⟨p,t,d,k,rfl,f,l,g,w,q⟩:=h;cases o;have e:X.A.in1.units+aJ k<Ox:=by change X.A.units+1+aJ k<Ox;omega
 rcases f with f|f
 .have(c,a,i,_):=I.list f;show RG (isD X.K H d) i.isList (λy j=>gD I l m e (λ_ z=>z) g a y (by exists j)) {.bl _,H,I,Xr,q _ ?_};rw[if_pos rfl,<-i5 I g a];simp
 .have(c,a,i,_):=I.tuple f;show Rq (isD X.K H d) (show s.heap.IsTuple p c.toArray from i) (λy j=>gD I l m e (λ_ z=>z) g a y (by exists j)) {.bl _,H,I,Xr,q _ ?_};rw[if_pos rfl,<-i5 I g a];simp
abbrev pA(i j:Int):Prop:=0<j/\j<2^64
def tU:OpR X (Og .FloorDiv) (rI pA λi j=>.int (i / j)):=opI λi j _ _ _ _ _ a q=>by
 have f:(0:Int)<j:=a.1;have e:j<2^64:=a.2;show floordiv_int ⋯ (by rw[KU i ⋯];show q) (.inl (PyProof.noPylong_of_log2 ?_));have c:j.natAbs<2^64:=by omega
 have d:j.natAbs≠0:=by omega
 have:=(Nat.log2_lt d).mpr c;omega
end
noncomputable abbrev sL(z:Str):!Nat:=z.cps.toList
noncomputable abbrev oL(l:!Nat):Str:=⟨l.toArray⟩
def cU(l:!Nat):sL (oL l)=l:=rfl
def vX(z:Str):oL (sL z)=z:=by cases z;rfl
def dB(z:Str):z.length=(sL z).length:=by unfold TC sL;rw[Jk]
def lu(x y:Str):sL (x++y)=sL x++sL y:=by
 change(x.cps++y.cps).toList=_;rw[Array.toList_append]
def nP(h:sL x=sL y):x=y:=by rw[<-vX x,h,vX]
abbrev bS{a:Type} (xs:!a) (lo hi:↑Int):!a:=(xs.drop (HT.sIx xs.length 0 lo)).take (HT.sIx xs.length xs.length hi-HT.sIx xs.length 0 lo)
def pf(lo hi:↑Int)(n:Nat):N9 lo hi 1 n=(Ip (HT.sIx n n hi-HT.sIx n 0 lo)).map (HT.sIx n 0 lo + ·):=by
 have c:(1:Int)>0:=by lia
 have a:∀(v:↑Int) (d:Nat),(match v with|none=>(d:Int)|some i=>(if(1:Int)>0 then max 0 (min (if i<0 then i+(n:Int)else i) (n:Int))else max (-1) (min (if i<0 then i+(n:Int)else i) ((n:Int)-1))))=((HT.sIx n d v:Nat):Int):=by
  intro v d;cases v with
  | none=>rfl
  | some i=>
   change(if(1:Int)>0 then max 0 (min (if i<0 then i+(n:Int)else i) (n:Int))else _)=(((if i<0 then(i+(n:Int)).toNat else min i.toNat n):Nat):Int);rw[if_pos c];by_cases hi:i<0;dsimp[if_pos hi];lia;dsimp[if_neg hi];lia
 have e:N9 lo hi 1 n=sliceRange ((HT.sIx n 0 lo:Nat):Int) ((HT.sIx n n hi:Nat):Int) 1:=by
  unfold N9;dsimp[c,if_true];have c1:=a lo 0;have c2:=a hi n;dsimp[c,if_true]at c1 c2;rw[<-c1,<-c2];rfl
 rw[e,SJ]
def mS(x:Str)(lo hi:↑Int):S9 x lo hi=oL (bS (sL x) lo hi):=by
 have d:x.length=(sL x).length:=dB x;have c:((N9 lo hi 1 x.length).filterMap (x.cps[·]?))=bS (sL x) lo hi:=by
  rw[pf,d];unfold bS;show Tt x.cps _ _
 unfold S9;split
 .delta h;have f:(N9 lo hi 1 x.length).length=x.length:=by
   dsimp[Ie]at h;exists h.2
  have e:(bS (sL x) lo hi)=sL x:=by
   unfold bS;rw[pf,Ia,K6,d]at f;have g:=HT.sIx_le (sL x).length (sL x).length (Ig _) hi;have a:HT.sIx (sL x).length 0 lo=0\/(sL x).length=0:=by lia
   rcases a with a|a
   .rw[a,Mf];show Iu (by lia)
   .rw[Jr a];simp
  rw[e,vX]
 .rw[c]
section
variable {X:Cx}
def Er:SlR X (λx lo hi H Q=>∃z,x=.str z/\z.length<=sizeLine/\Q (.str (oL (bS (sL z) lo hi))) H):=by
 intro r s Z H x v A w lo hi y Q I f m d j h;have(z,rfl,c,q):=h;have(t,rfl):=f;have a:∀{v:Nz} {o:↑Int},Qq v o->∃p:↑(Int×Tok),v=partValue p/\p.map (·.1)=o:=λ{v o} p=>by
  cases p with
  | none=>show⟨TU,Xr,Xr⟩
  | int i t=>show{TV (i,t),Xr,Xr}
 have(l,rfl,rfl):=a d;have(u,rfl,rfl):=a j;show{"str",_,F.slot_str_getitem.lookup,SI _ _ _,?_};show wpAny_getItem_str_slice (l:=l) (u:=u) (st:=TU) m rfl ?_;have e:sliceMade z t l u TU=if((1:Int)==1&&(N9 (l.map (·.1)) (u.map (·.1)) 1 z.length).length==z.length)=T1 then Made.val (.str z t)else Made.str {((N9 (l.map (·.1)) (u.map (·.1)) 1 z.length).filterMap (z.cps[·]?)).toArray}:=rfl;rw[e];show So {Ik (Txt.slice_le z _ _) c,λg k=>?_};show{.str (S9 z (l.map (·.1)) (u.map (·.1))),H,I.tok k,⟨g,Xr⟩,?_};rw[mS];show q
abbrev rSl(K:yF):V->↑Int->↑Int->Hp->VK->Prop:=λx lo a H Q=>GE K x lo a H Q\/GD K x lo a H Q \/ ∃z,x=.str z/\z.length<=sizeLine/\Q (.str (oL (bS (sL z) lo a))) H
def qJ:∀{us:!Nz},Vals (zs.map V.str) us->StrsAre us zs:=by
 induction zs with
 | nil=>intro us r;rw[J3]at r;cases r;show .nil
 | cons n f a=>
  intro us r;rw[Ir]at r;cases r with
  | cons c d=>
   have(t,e):=c;subst e;show .cons n t (a d)
def zq:MtR X "str.join" (λx vs H Q=>∃z a zs,x=.str z/\vs=[.ref a]/\SqL X.K H a (zs.map V.str)/\(zs.map (·.length)).sum+zs.length*z.length<=16777216/\Q (.str (Pq z zs)) H):=by
 intro l s Z H x m v o Q I f d h;have(z,a,zs,rfl,rfl,j,e,q):=h;have(t,rfl):=f;have(u,rfl,i):=eU d;cases i;have(g,r,p,_):=I.list j;show join_list p.isList (by simpa using qJ r) e λc k=>{.str (Pq z zs),H,I.tok k,⟨c,Xr⟩,q}
def tF(zs:!Str):sL (Pq (oL []) zs)=(zs.map sL).flatten:=by
 have c:∀(zs:!Str) (a:Array Nat),(zs.foldl (λa p=>a++(oL []).cps++p.cps) a).toList=a.toList++(zs.map sL).flatten:=by
  intro zs
  induction zs with
  | nil=>intro a;simp
  | cons z zs d=>
   intro a;rw[Lk,d];simp
 cases zs with
 | nil=>rfl
 | cons z zs=>
  change(zs.foldl (λa p=>a++(oL []).cps++p.cps) z.cps).toList=_;rw[c];simp
def op_mulS:OpR X (Og .Mult) (λx y H Q=>∃z n,x=.str z/\y=.int n/\1<=n/\n<=1000/\z.length<=1000/\Q (.str (oL (Ih n.toNat (sL z)).flatten)) H):=by
 intro K s Z H x y v u Q I p E h;have(z,n,rfl,rfl,L,N,r,q):=h;have(t,rfl):=p;have(M,rfl):=E;have G:∀(m:Nat) (d:Array Nat),(Ih m z.cps).foldl (· ++ ·) d=d++(Ih m (sL z)).flatten.toArray:=by
  intro m
  induction m with
  | zero=>intro d;simp
  | succ m j=>intro d;rw[IV,Lk,j,IV,Jh];apply Array.ext';simp
 have g:z.length*n.toNat<=1000*1000:=Lr r (by lia);have i:¬ n<1:=by lia
 show P.mul_str ?_ ?_ ?_ ?_;rw[decide_eq_false (by lia),decide_eq_false (by lia)];rfl
 .intro _ _;have O:n*9223372036854775<=2^63-1:=by lia
  have:(9223372036854775:Int)<=(2^63-1) / n:=(Int.le_ediv_iff_mul_le (by lia)).mpr (by lia)
  lia
 .intro _ _;unfold TB;show decide_eq_false (by rw[NE];lia)
 .rw[if_neg i];show So ?_;have C:(if(n==1||z.length==0)=T1 then z else({(Ih n.toNat z.cps).foldl (· ++ ·) #[]}:Str))=oL (Ih n.toNat (sL z)).flatten:=by
   split
   .delta B;rcases Bool.or_eq_true_iff.mp B with c|c
    .have:n=1:=by exists c
     subst this;change z=oL (Ih 1 (sL z)).flatten;dsimp[IV,List.replicate_zero,Jh,List.flatten_nil,Iw]
    .have A:(sL z).length=0:=by rw[<-dB];exists c
     have e:sL z=[]:=Jr A;rw[e];apply nP;rw[e,cU];symm;show List.eq_nil_iff_forall_not_mem.mpr λa o=>by
      have(l,J,f):=LQ.mp o;rw[List.eq_of_mem_replicate J]at f;cases f
   .rw[G];simp
  rw[C];show{?_,λw k=>{.str (oL (Ih n.toNat (sL z)).flatten),H,I.tok k,⟨w,Xr⟩,q}};rw[dB,cU,je,<-dB,NE,LF]
  lia
def jH:fillsNumberSlot (.type "tuple") "mul" = pure TZ:=
 PySem.fillsNumberSlot_seq (id:="tuple.__mul__") (r:=TV (.builtin "tuple.__rmul__")) Pc.lookup (by decide +kernel) RU.lookup (by decide +kernel)
def nN:seqRepeat? (.type "tuple")=pure (TV (.builtin "tuple.__mul__")):=by
 unfold seqRepeat?;rw[LR (T:="tuple") (name:="__mul__") (id:="tuple.__mul__") Pc.lookup (by decide +kernel),LR (T:="tuple") (name:="__rmul__") (id:="tuple.__rmul__") RU.lookup (by decide +kernel)];rfl
def kS(a:Int)(t:Tok)(l:Addr)(items:Array Nz)(n:Nat)(e:↑Addr)(sl:Array ↑Nz) :
  Ts (NJ.«int.__rmul__» {[.int a t,.ref l],[]}) (λ_ R s=>s.heap.get? l=TV {cls:=.type "tuple",dict:=e,data:=.seq items n,slots:=sl}/\R (.ok (.ret Ra)) s):=
 .of_wp λc w A R s h=>by obtain⟨f,g,d,j,os⟩:=s;obtain⟨i,h⟩:=h;wp_walk;show{_,Xr,h}
def kh(l:Addr)(items:Array Nz)(n:Nat)(p:↑Addr)(sl:Array ↑Nz)(k:Int)(t:Tok)(v:2<=k)(q:k<=1000)(a:items.isEmpty=TZ)(hz:items.size<=1000) :
  Ts (NJ.«tuple.__mul__» {[.ref l,.int k t],[]}) (λ_ R s=>s.heap.get? l=TV {cls:=.type "tuple",dict:=p,data:=.seq items n,slots:=sl} /\
   R (.ok (.ret (.ref s.heap.objs.size))) {s with heap:=s.heap.push {cls:=.type "tuple",data:=.seq ((Ih k.toNat items).foldl (· ++ ·) #[])}}):=
 .of_wp λe w A R s h=>by
  obtain⟨u,g,d,x,os⟩:=s;obtain⟨f,h⟩:=h;have c1:¬ (decide (k < -(2^63))||decide (k≥2^63))=T1:=by rw[decide_eq_false (by lia),decide_eq_false (by lia)];decide
  have c2:¬ (items.isEmpty||k==1)=T1:=by rw[a];simp;lia
  have c3:¬ (decide (k<=0)||items.isEmpty)=T1:=by rw[a,decide_eq_false (by lia)];decide
  have c0:((items.size:Nat):Int)*k<=1000*1000:=Int.mul_le_mul (by lia) q (by lia) (by lia);have c4:¬ ((items.size:Int)*k>(2^63-1) / 8):=by lia
  have c5:¬ Qd ((items.size:Int)*k)=T1:=by unfold Qd;simp;rw[NE];lia
  have y:=Pz;wp_walk using Ot f
  rw[if_neg c1];show NA (Rx {_,f,Xr,n,Xr} ?_);dsimp only;rw[if_neg c2,if_neg c3,if_neg c4,if_neg c5];have c:sizeOk (.seq ((Ih k.toNat items).foldl (· ++ ·) #[])):=by
   change((Ih k.toNat items).foldl (· ++ ·) #[]).size<=sizeLine;have o:=fw items.toList k.toNat [];have i:(Ih k.toNat items.toList.toArray).foldl (· ++ ·) #[]=(Ih k.toNat items.toList).flatten.toArray:=by exists o
   have r:items.toList.toArray=items:=by simp
   rw[r]at i;rw[i,Ic,je,Jk,NE];have z:k.toNat*items.size<=1000*1000:=Lr (by lia) hz
   lia
  first
   | show NA (m:=NW _) (NT (ND ⟨_,rfl,h⟩) c)
   | show NA (NA (m:=NW _) (NT (ND ⟨_,rfl,h⟩) c))
abbrev BL(K:yF):R2:=λx y H Q=>∃l k a,x=.ref l/\y=.int k/\SqT K H l a/\a≠[]/\a.length<=1000/\0<=k/\k<=1000 /\
 (k=1->Q (.ref l) H)/\(k≠1->∀p,H p=TU->Q (.ref p) (upd H p (.tup (Ih k.toNat a).flatten)))
def zA:OpR X (Og .Mult) (BL X.K):=by
 intro OK s Z H x y v u Q I O ry h;obtain⟨l,k,E,rfl,rfl,hH,w,f,h1,h2,S,J⟩:=h;cases O;have(t,rfl):=ry;have(c,r,p,hz):=I.tuple (X:=X) hH;obtain⟨⟨B,L,m,G⟩,j,M,n,N⟩:=id p;simp only at M N;subst M N;have hl:=r.length;have i:c.toArray.isEmpty=TZ:=by
  cases c with
  | nil=>cases r;show absurd rfl w
  | cons a r'=>rfl
 have e:s.TypeIs (.ref l) "tuple" :={_,j,Xr};show Pd (T:="tuple") (U:="int") (by decide) e (λs'=>Px s' k t) jH Q0 OW nN Qy.lookup
  (Oz OW (Px s k t) Qz (Qm _ _) (kS k t l c.toArray n L G)
   {j,Xr,e,?_})
 by_cases A:k=1
 .subst A;show Of Pc e Qn ?_ (Qe _ _);have f1:=Pz;have c1:¬ (decide ((1:Int) < -(2^63))||decide ((1:Int)≥2^63))=T1:=by decide
  have(C,g,d,tk,os):=s;wp_walk using Ot j
  show{_,Xr,.ref l,H,I,Xr,S rfl}
 by_cases z:k=0
 .subst z;show Of Pc e Qn ?_ (Qe _ _);have f1:=Pz;have c1:¬ (decide ((0:Int) < -(2^63))||decide ((0:Int)≥2^63))=T1:=by decide
  have q3:=J A s.heap.objs.size (I.hok.fresh (Ig _));have I3:=I.laid (t':=s.toks) (o:=.tup []) (a:=s.heap.objs.size) (λb Y q=>NB {cls:=.type "tuple",data:=.seq #[]} q) (Ig _) {Kn _,[],.nil,M4.new _ _};have(C,g,d,tk,os):=s;wp_walk using Ot j
  show{_,Xr,.ref C.objs.size,_,I3,Xr,q3}
 .have h1:2<=k:=by lia
  show Oz Pc e Qn (Qe _ _) (kh l c.toArray n L G k t (by lia) h2 i (by rw[Ic,<-hl];show f)) {j,?_};have P:(Ih k.toNat c.toArray).foldl (· ++ ·) #[]=(Ih k.toNat c).flatten.toArray:=by simpa using fw c k.toNat []
  rw[P];show{.ref s.heap.objs.size,_,I.laid (t':=s.toks) (o:=.tup (Ih k.toNat E).flatten) (λb Y q=>NB _ q) (Ig _) ?_,Xr,J A _ (I.hok.fresh (Ig _))};show{?_,_,r.rep k.toNat,M4.new _ _};rw[je,NE];have a1:k.toNat*E.length<=1000*1000:=Lr (by lia) f
  lia
def iP(l:Addr)(items:Array Nz)(n:Nat)(b:Addr)(items2:Array Nz)(k:Nat)(m:↑Addr)(sl:Array ↑Nz)(p:¬(~~~items.isEmpty&&N8 (items.size+items2.size))=T1)(a:items.size<=sizeLine)(e:items.size+items2.size<=sizeLine+1) :
  Ts (NJ.«list.extend» {[.ref l,.ref b],[]}) (λ_ R s=>s.heap.get? l=TV {cls:=.type "list",dict:=TU,data:=.seq items n,slots:=#[]}/\s.heap.get? b=TV {cls:=.type "tuple",dict:=m,data:=.seq items2 k,slots:=sl}/\R (.ok (.ret Oj)) {s with heap:=s.heap.update l (Pw λx=>x++items2),toks:=s.toks}):=
 .of_wp λf w A R s h=>by
  obtain⟨r,g,d,u,os⟩:=s;obtain⟨i,o,h⟩:=h;have v:=Pz;have y:=Qp;have q:=AutoSeq1.sub_list_list;have z:=AutoSeq1.sub_tuple_list;have t:=AutoSeq1.sub_list_tuple;have c:(items++items2).size<=sizeLine+1:=by rw[LG];show e
  wp_walk using(Sn i rfl (hz:=a) (_hz':=c)),Ot i,Ot o;show{_,Xr,h}
abbrev o4(K:yF):V->!V->Hp->VK->Prop:=λx vs H Q=>∃l b a c,x=.ref l/\vs=[.ref b]/\H l*>(.lst a)/\SqT K H b c/\a.length+c.length<=sizeLine/\Q .non (upd H l (.lst (a++c)))
def qf:MtM X "list.extend" (o4 X.K):=by
 intro L s Z H x vs v S Q I o A h;obtain⟨l,b,O,U,rfl,rfl,i,p,N,q⟩:=h;cases o;have(u,rfl,G):=A.one;cases G;have(z,c,n,r,P,e):=I.lstM i;have(a,g,J,M):=I.tuple p;obtain⟨⟨B,E,k,w⟩,t,j,y,m⟩:=id J;simp only at j m;subst j m;have C:=g.length;have f:c.toArray.size+a.toArray.size<=sizeLine:=by rw[Ic,Ic];lia
 have d:¬ (~~~c.toArray.isEmpty&&N8 (c.toArray.size+a.toArray.size))=T1:=by
  rw[dZ f,JZ];show Il
 show Oz Qa {_,e,Xr} PX (PJ _ _)
  (iP l c.toArray n b a.toArray y E w d (by rw[Ic];lia) (by lia)) {e,t,?_}
 show{.non,_,I.lset (its':=c++a) i e ∅ (r.append g) ?_,Xr,q};rw[Ij]
 lia
end
section
variable {X:Cx}
def gp{c d:Type}{f : c->↑d}{g : c->d}:∀{l:!c},(∀k∈l,f k*>(g k))->l.filterMap f=l.map g
 | [],_=>rfl
 | a::l,h=>by
  rw[Kc,h a ymS,Ir];change g a::_=_;rw[gp λk e=>h k (ymC _ e)]
def pe(xs:Array Nz):((Ip xs.size).filterMap λ(k:Nat)=>xs[(((xs.size:Int)-1)+(k:Int) * -1).toNat]?)=xs.toList.reverse:=by
 apply LI;intro i;rw[gp (g:=λk=>(xs[xs.size-1-k]?).getD default) (λk d=>?_),Io]
 .by_cases a:i<xs.size
  .have c:xs.size-1-i<xs.size:=by omega
   rw[List.getElem?_range a,Lm (by exists a)];simp[c]
  .rw[Ln (by exists a),Ln (by exists a)];rfl
 .have f:=JM.mp d;have e:((((xs.size:Nat):Int)-1)+(k:Int) * -1).toNat=xs.size-1-k:=by omega
  rw[e];have c:xs.size-1-k<xs.size:=by omega
  simp[c]
def i8(e:RK s.heap t items)(hs:s.heap.IsSliceOf sl .none .none (.int (-1) tt))
  (h:Q (.ref s.heap.objs.size) {s with heap:=s.heap.push {cls:=.type "tuple",data:=.seq items.toList.reverse.toArray}})
  (hsz:items.size<=sizeLine):NF (NK prog w) A (Rj (.ref t) (.ref sl)) Q E s:=by
 have a:sizeOk (.seq items.toList.reverse.toArray):=by
  change items.toList.reverse.toArray.size<=sizeLine;rw[Ic,Jz,Jk];show hsz
 have(os,c,j,d):=id hs;have i:s.TypeIs (.ref sl) "slice" :=⟨os,c,j⟩;unfold Rj;try with_reducible refine Oe ?_
 first|refine NA (ND ?_)|skip
 show NA (Qj e.typeIs (by decide) ?_);show NA (Oc (name:=NL "__getitem__") e.typeIs IT
  (Of IT e.typeIs Ro ?_ (RE _ _)))
 change NF _ _ (P8 (.ref t) >>= _) _ _ s;show NA (Rx e ?_);show NA (QN i ?_);rw[if_pos (by decide)];have f:∀{g:Int×Int×Nat->NC->Prop},g ((items.size:Int)-1,-1,items.size) s->NF (NK prog w) A.in1 (OD (.ref sl) (pure (items.size:Int))) g E s:=by
  intro g o;unfold OD Qf;show NA (NA (NQ c d (x:=.none) rfl (NA (NQ c d (x:=.none) rfl (NA (NQ c d (x:=.int (-1) tt) rfl (ND ?_)))))));show NA (slicePart_int ?_);change NF _ _ (if((-1:Int)==0)=T1 then _ else _) _ _ s;rw[if_neg (by decide)];show NA (P7 (NA (P7 (NA (ND ?_)))));change NF _ _ (match Oh TU TU (-1) (items.size:Int)with|(lo,q)=>pure (lo,(-1:Int),N6 lo q (-1))) _ _ s;have p:Oh TU TU (-1) (items.size:Int)=((items.size:Int)-1,-1):=by
   unfold Oh;simp
  rw[p];have l:N6 ((items.size:Int)-1) (-1) (-1)=items.size:=by
   unfold N6;rw[if_neg ⋯];split;rw[MJ,LD];omega;omega
  change NF _ _ (pure ((items.size:Int)-1,(-1:Int),N6 ((items.size:Int)-1) (-1) (-1))) _ _ s;rw[l];show ND o
 show NA (f ?_);change NF _ _ (if((((items.size:Int)-1)==0&&(-1:Int)==1&&items.size==items.size))=T1 then _ else _) _ _ s;rw[if_neg ∅,pe];first
  | show NA (m:=NW _) (NT (ND ⟨_,rfl,ND h⟩) a)
  | show NA (m:=NW _) (NT (NA (ND (ND ⟨_,rfl,ND h⟩))) a)
  | show NA (NA (m:=NW _) (NT (ND (ND ⟨_,rfl,ND h⟩)) a))
  | show NA (NA (m:=NW _) (NT (ND ⟨_,rfl,ND h⟩) a))
abbrev yl(K:yF)(e:TE):TE:=λZ H Q=>e Z H λx c=>∃a d,x=.ref a/\SqT K c a d/\∀p,c p=TU->Q (.ref p) (upd c p (.tup d.reverse))
def zI(P:PE X e te):PE X (.Subscript e (.Slice TU TU (TV (.UnaryOp .USub (.Constant (.int 1) j p1) p2)) p3) pos) (yl X.K te):=by
 intro f s Z H Q I h;show RF (thn (P f s Z H _ I h) λv E i=>?_);have(x,t,N,S,G):=i;have(a,C,rfl,M,q):=G;cases S;show Rb ?_;rw[PF];show ND (ND ?_);rw[Ry];show thn (wt qR qu f E Z t (λx k=>x=.int (-1)/\k=t) N {1,Xr,Xr,Xr}) λU c i=>?_;have(y,k,z,O,L,B):=i;subst L B;have(g,rfl):=O;have l:Inv X f Z k {c with heap:=c.heap.push {cls:=.type "slice",data:=.fields #[.none,.none,.int (-1) g]}}:=z.kept (t':=c.toks) λb J q=>NB _ q;have(m,r,u,p):=l.tuple M;change NF (NK X.prog X.w) X.A (Qr e (.Slice TU TU (TV (.UnaryOp .USub (.Constant (.int 1) j p1) p2)) p3) (.ref a) (.ref c.heap.objs.size)) (EP X f Z Q) X.xe {c with heap:=c.heap.push {cls:=.type "slice",data:=.fields #[.none,.none,.int (-1) g]}};show SH (ops:=[.ref a,.ref c.heap.objs.size]) u.typeIs IT.lookup (i8 (tt:=g) u (Pl ..) ?_ (by rw[Ic,<-r.length];show p)) (by unhygienic rfl);show{.ref _,_,l.laid (t':=c.toks) (o:=.tup C.reverse) (λb J q=>NB _ q) (Ig _) ?_,Xr,q _ (l.hok.fresh (Ig _))};show{by rw[Jz];show p,m.reverse,r.reverse,M4.new _ _}
def qN{A:NU}{bs:!Bool}:TruthOf X.prog X.w A (λi v=>(bs.map ON)[i]?*>v) (λi=>bs.getD i TZ):=by
 intro i v s Q E a c;rw[Io]at a;cases q:bs[i]? with
 | none=>rw[q]at a;cases a
 | some b=>
  rw[q]at a;cases a;have e:bs.getD i TZ=b:=by rw[IE,q];rfl
  dsimp[e]at c;show Ou c
def GV{bs:!Bool}:∀{us:!Nz},Vals (bs.map V.bl) us->us=bs.map ON:=by
 induction bs with
 | nil=>intro us r;rw[J3]at r;cases r;rfl
 | cons b bs a=>
  intro us r;rw[Ir]at r;cases r with
  | cons c d=>rw[a d,Ir];cases c;rfl
def range_getD(bs:!Bool):(Ip bs.length).all (λi=>bs.getD i TZ)=bs.all id:=by
 have:(Ip bs.length).map (λi=>bs.getD i TZ)=bs:=Ta bs TZ
 conv=>rhs;rw[<-this]
 rw[Mt];rfl
def uS(t:X.calm=T1):MU X (.builtin "all") (λxs H Q=>∃(a:Addr) (bs:!Bool),xs=[.ref a]/\SqL X.K H a (bs.map V.bl)/\Q (.bl (bs.all id)) H):=by
 intro g s Z H xs G Q I m h;have(a,bs,rfl,d,q):=h;have(u,rfl,y):=eU m;cases y;have(x,r,p,C):=I.list d;have e:=GV r;subst e;have c:a≠s.heap.objs.size:=by
  have(o,n,e,_):=p;show Is (NG e)
 show call_all_walk (Ps p.isList ?_);show{s.heap.objs.size,_,_,_,_,_,λi=>bs.getD i TZ,Xr,TH (A:=X.A.in1) (show X.A.in1.handled=TU from I.ok.hd t) s.heap.objs.size a c (bs.map ON).toArray,{{_,NI _ rfl,Xr,Xr},?_},?_,λl B j=>?_};show p.isList.at λo e=>NB _ e
 .intro i v s Q E w d;show qN (bs:=bs) i v s Q E (by exists w) d
 .have k:Inv X g Z H {s with heap:=l,toks:=B}:=I.kept λb o e=>j b o (λz=>absurd (ysM z) (Is (NG e))) (NB _ e);show{.bl _,H,k,Xr,?_};have:(Ip (bs.map ON).toArray.size).all (λi=>bs.getD i TZ)=bs.all id:=by rw[Ic,Ia];show range_getD bs
  rw[this];show q
abbrev vt(j:TE)(k h:TO):TG:=λv Z H Q=>j Z H λo g=>k Z g λl i=>h Z i λu f=>∃p b d e a c,o=.ref p/\v=.ref b/\l*>a/\u*>c/\f p*>(.lst d)/\f b*>(.lst e)/\p≠b/\0<=a/\a<=c/\c<=d.length/\d.length+e.length<=sizeLine /\
 Q Z (upd f p (.lst (d.take a.toNat++e++d.drop c.toNat)))
def wv{o:Expr}{lo hi:↑Expr}{z:TE}{t w:TO}{m pos:Pos}(ho:PE X o z)(hl:PO X lo t)(S:PO X hi w)
  (B:∀v,Pu (.Subscript o (.Slice lo hi TU m) pos) X.env v=(do
   let d <-Ov [v] (eval o X.env)
   let k <-Ov [v,d] (eval (.Slice lo hi TU m) X.env)
   Pj pos
   Ov [v,d,k] (QJ d k v)
   Tf [k,v,d] []):=by intro _;rfl):PG X (.Subscript o (.Slice lo hi TU m) pos) (vt z t w):=by
 intro e s Z H v u Q I r h;rw[B];show NA (Oe (thn (ho e s Z H _ I h) λd K j=>?_));have(x,H1,U,r1,N):=j;show NA (Oe (Rb (thn (hl e K Z H1 _ U N) λvl s2 ⟨l,L,A,E,q2⟩=>thn (S e s2 Z L _ A q2) λO f j=>?_)));have(w',M,Y,pu,q3):=j;rw[PF];show ND ?_;obtain⟨p,b,xs,ys,a,c,rfl,rfl,rfl,rfl,G,J,i,h0,g,hc,C,q⟩:=q3;have I4:Inv X e Z M {f with heap:=f.heap.push {cls:=.type "slice",data:=.fields #[vl,O,.none]}}:=Y.kept (t':=f.toks) λb ob q=>NB _ q;cases r1;cases r;show NA (OO (NA (Oe ?_)));cases E with
 | int _ t1=>
  cases pu with
  | int _ P=>
   show ux (sl:=f.heap.objs.size) I4 G J i (Pl ..) ⟨t1,Xr⟩ ⟨P,Xr⟩ h0 g hc C λs' I'=>wpAny_release {Z,_,I',q}
end
abbrev Has(P:NM)(w:NP)(K:yF)(d:Str->↑Nz)(base:Heap)(k:Nat)(name:Str)(ps:!Str)(sp:Sp):Prop:=
 ∃(f:Addr) (c:Om),d name*>(.ref f)/\Jf K (.ref f)=T1/\M1 K c ps []/\M6 P w K d base CX0 k f c ps sp/\∃oc e a,K.lookup f*>{oc,e,.func c,a}
abbrev Def(K:yF)(c:Str->↑Nz)(name:Str)(st:Stmt)(ps:!Str):Prop:=
 ∃(f:Addr) (a:Om),c name*>(.ref f)/\Fun K name name st f a/\M1 K a ps []
def Def.has{P:NM}{w:NP}{K:yF}{i:Str->↑Nz}{base:Heap}{k:Nat}{name:Str}{st:Stmt}{N ps:!Str}{sp:Sp}(d:Def K i name st ps)(S:td N ps (ai st))(g:∀vs H Q E,sp vs H Q E->vs.length=ps.length)
  (c:∀(f:Addr) (a:Nz) (A:NU) (outer:!Env) (s:NC) (H:Hp) (vs:!V) (Q:VK) (E:XK),MW k (A.deeper (Pv name (ai st) s.heap.objs.size f a))->sp vs H Q E ->
   ∃t,PSs (iJ CX0 P w K i base N name (ai st) f a A outer s H E).nox (aP st) t/\t {nx:=λ_ H'=>Q .non H',rt:=Q} (bL N vs) H):Has P w K i base (k+1) name ps sp:=by
 have(f,o,p,F,b):=d;obtain⟨oc,l,kV,m,v,u,a,r,h,e,q,j⟩:=F.ex;show{f,o,p,F.kp,b,F.ok S g (c f),oc,l,h,q}
def vI{P:NM}{w:NP}{K:yF}{a:Str->↑Nz}{r:Addr}{name:Str}{st:Stmt}{x:Str}{k:Nat}{sp:Sp}(i:a name*>(.ref r))(d:Def K a name st [x])
  (u:∀(kV h q:Nz) (m:↑Addr) (c l:Nz) (s:NC) (v:Nz),QM s (IR name name (bT st) (aP st) (ai st) .none kV h q m c l) {[v],[]} [(x,v)])
  (H:∀base:Heap,K.In base->base.Ns NO a->Has P w K a base k name [x] sp) :
  ∃fd:Om,(∀(s:NC) (v:Nz),QM s fd {[v],[]} [(x,v)])/\∀base:Heap,K.In base->base.Ns NO a->M6 P w K a base CX0 k r fd [x] sp:=by
 have(f,fd,o,F,b):=d;rw[i]at o;cases o;obtain⟨oc,L,kV,h,q,m,c,l,z,e,B,t⟩:=F.ex;show{fd,λs v=>by rw[e];show u _ _ _ _ _ _ s v,λbase E G=>?_};obtain⟨M,J,p,_,_,A,y,C,j,g⟩:=H base E G;rw[i]at p;cases p;rw[B]at g;cases g;show A
section
variable {X:Cx}{x:Str}{e:Expr}{es:!Expr}{p pos:Pos}{k:Nat}{ps:!Str}{sp:Sp}{t:TA}
def F7(h:Has X.prog X.w X.K X.mg X.base k x ps sp)(m:MW k X.A)(o:Gl X x)(i:PA X (e::es) t)(a:(x==("__debug__" : Str))=TZ:=by decide)
  (j:NR (e::es) X.env=(TZ,eval e X.env)::NR es X.env:=by rfl) (c:(OY pos (NR es X.env)).any (·.1)=TZ:=by rfl) :
  PE X (.Call (.Name x p) (e::es) [] pos) (lx sp [] E0 t):=by
 have(f,r,q,l,g,d,_):=h;show zD d m o q l g .nil wl i a j c
end
section
variable {X:Cx}
abbrev BF(K:yF):R2:=λx y H Q=>rI0 (λi j=>.int (i+j)) x y H Q\/((∃i j,x=.str i/\y=.str j/\i.length+j.length<=sizeLine/\Q (.str (i++j)) H)\/(Gr x y H Q\/BH K x y H Q))
def op_addX:OpR X (Og .Add) (BF X.K):=op_add.or (op_add_str.or (op_cat.or zx))
abbrev BJ(K:yF):R2:=λx y H Q=>rI Nt (λi j=>.int (i*j)) x y H Q\/((∃z n,x=.str z/\y=.int n/\1<=n/\n<=1000/\z.length<=1000/\Q (.str (oL (Ih n.toNat (sL z)).flatten)) H)\/(GC x y H Q\/BL K x y H Q))
def op_mulX:OpR X (Og .Mult) (BJ X.K):=op_mul.or (op_mulS.or (op_rep.or zA))
abbrev D4(K:yF):R2:=λx y H Q=>rEq x y H Q\/(Gs K x y H Q\/Gv K x y H Q)
def CS(a:X.A.units+64<Ox):OpR X (N1 .Eq) (D4 X.K):=op_eq.or ((CP a).or (CQ a))
abbrev D9(K:yF):R2:=λx y H Q=>rNe x y H Q\/(GA K x y H Q\/GB K x y H Q)
def C3(a:X.A.units+64<Ox):OpR X (N1 .NotEq) (D9 X.K):=op_ne.or ((CZ a).or (C0 a))
abbrev D5(K:yF):R2:=λx y H Q=>(∃i j,x=.str i/\y=.str j/\Q (.bl (~~~(Ow j i 0 j.length 1).isEmpty)) H)\/(rIn K TZ x y H Q\/Ae K TZ x y H Q)
def CV(a:X.A.units+64<Ox):OpR X (N1 .In) (D5 X.K):=op_in_str.or (op_in_seq.or (CT a))
abbrev nK(K:yF):R2:=λx y H Q=>(∃i j,x=.str i/\y=.str j/\Q (.bl (~~~(~~~(Ow j i 0 j.length 1).isEmpty))) H)\/(rIn K T1 x y H Q\/Ae K T1 x y H Q)
def tW(a:X.A.units+64<Ox):OpR X (N1 .NotIn) (nK X.K):=op_notIn_str.or (op_notIn_seq.or (tV a))
def HP:SlR X (rSl X.K):=sl_tup.or (sl_list.or Er)
abbrev xt(K:yF):!V->Hp->VK->Prop:=λc H Q=>(∃p a,c=[.ref p]/\(SqL K H p a\/SqT K H p a)/\Q (.int a.length) H)\/(∃z,c=[.str z]/\z.length<=sizeLine/\Q (.int z.length) H)
def sS:MU X (.builtin "len") (xt X.K):=MU.or mV mW
def si(n:String):RelV (.ty n) (.type n):=rfl
end
abbrev Its(z:Str):It:={λi _=>i<z.cps.size,λi H y a=>a=H/\∃c,z.cps[i]?*>c/\y=.str {#[c]},λi _=>z.cps.size<=i}
def dE{N:!Str}(h:decide N.Nodup=T1):N.Nodup:=of_decide_eq_true h
section
variable {X:Cx}{K:yF}
def HG(h:X.K=K):IxR X (rIx K):=h▸Cu
abbrev xw(K:yF):!V->Hp->VK->Prop:=λc H Q=>∃p a,c=[.ref p]/\((SqL K H p a/\∀l,H l=TU->Q (.ref l) (upd H l (.tup a)))\/(SqT K H p a/\Q (.ref p) H))
abbrev xu(K:yF):!V->Hp->VK->Prop:=λc H Q=>∃p a,c=[.ref p]/\(SqL K H p a\/SqT K H p a)/\∀l,H l=TU->Q (.ref l) (upd H l (.lst a))
abbrev Gq(K:yF):!V->Hp->VK->Prop:=λd H Q=>∃(a:Addr) (c:!Bool),d=[.ref a]/\SqL K H a (c.map V.bl)/\Q (.bl (c.all id)) H
abbrev BI(K:yF):V->!V->Hp->VK->Prop:=λx vs H Q=>∃z a c,x=.str z/\vs=[.ref a]/\SqL K H a (c.map V.str)/\(c.map (·.length)).sum+c.length*z.length<=16777216/\Q (.str (Pq z c)) H
def HL(h:X.K=K)(a:PE X e te):PE X (.Subscript e (.Slice TU TU (TV (.UnaryOp .USub (.Constant (.int 1) j p1) p2)) p3) pos) (yl K te):=h▸zI a
def tgK(h:X.K=K)(c:X.calm=T1)(hs:PGs X es t)
  (d:(Oy es X.env).length=n:=by rfl) (a:(Oy es X.env).findIdx? (·.1)=TU:=by rfl):PG X (.Tuple es k pos) (y8 K n t):=h▸Dx c hs d a
abbrev GQ(K:yF)(c:TE):TT:=λZ H Q=>c Z H λx a=>∃k,yO K x a k/\Q k a
def HQ(h:X.K=K)(d:PE X a ta)(e:∀c,RC a X.env c=(do let v <-c;Pj a.pos;Ov [v] (SB v))):PT X a (GQ K ta):=h▸w6 d e
variable {o e:Expr}{es:!Expr}{to:TE}{t:TA}{name:Str}{apos cpos:Pos}{T id:String}{r:V->!V->Hp->VK->Prop}
def Hr(h:X.K=K)(i:Py T)(d:Slot T name id)(f:P9 (.builtin id)=pure (.type "method_descriptor"))(g:MtR X id r)(ho:PE X o to)
  (a:OA o name X.env (eval o X.env)=eval o X.env:=by rfl) (c:(apos.endLine==cpos.line)=T1:=by rfl):PE X (.Call (.Attribute o name apos) [] [] cpos) (Ev K T r to):=h▸Dq i d f g ho a c
def bmK(h:X.K=K)(l:Py T)(g:Slot T name id)(i:P9 (.builtin id)=pure (.type "method_descriptor"))(j:MtR X id r)(ho:PE X o to)(k:PA X (e::es) t)
  (d:OA o name X.env (eval o X.env)=eval o X.env:=by rfl)
  (f:((OY cpos (NR (e::es) X.env)).all (λx=> ~~~x.1)&&(RP cpos (Ql [] X.env)).all (λx=>x.1.isSome)
   && decide ((e::es).length+([]:!Sv).length+(if([]:!Sv).isEmpty then 0 else 1)<30))=T1:=by rfl)
  (c:(apos.endLine==cpos.line)=T1:=by rfl) (hs:NR (e::es) X.env=(TZ,eval e X.env)::NR es X.env:=by rfl) (a:(OY cpos (NR es X.env)).any (·.1)=TZ:=by rfl) :
  PE X (.Call (.Attribute o name apos) (e::es) [] cpos) (tBM K T r to t):=h▸F6 l g i j ho k d f c hs a
end
def MY.put(s:MY H H1)(a:H l=TU):MY H (L2.upd H1 l o):=λb u h=>by rw[L2.upd_ne (bi h a)];show s b u h
structure Bi(mg:Str->↑Nz):Prop where
 b_len:mg "len" = TU
 b_all:mg "all" = TU
 b_any:mg "any" = TU
 b_tuple:mg "tuple" = TU
 b_list:mg "list" = TU
 b_range:mg "range" = TU
 b_min:mg "min" = TU
 b_max:mg "max" = TU
 b_int:mg "int" = TU
 b_bool:mg "bool" = TU
 b_isinstance:mg "isinstance" = TU
 b_str:mg "str" = TU
 b_sorted:mg "sorted" = TU
 b_sum:mg "sum" = TU
 b_zip:mg "zip" = TU
 b_enumerate:mg "enumerate" = TU
 b_dict:mg "dict" = TU
 b_abs:mg "abs" = TU
 b_repr:mg "repr" = TU
 b_reversed:mg "reversed" = TU
 b_set:mg "set" = TU
noncomputable abbrev LET:Str:="abcdefghijklmnopqrstuvwxyz"
def mR:(sL LET).length=26:=by decide +kernel
def LET_len':LET.length=26:=by decide +kernel
abbrev rd:D->↑D
 | .tup [.str x,c,a]=>if x=("at" : Str)then TV (.tup [c,a])else TU
 | _=>TU
abbrev Itv(K:yF) (a:Addr) (n:Nat):It:=
 {λi H=>i<n/\∃c,SqL K H a c/\c.length=n,λi H x d=>d=H/\∀c,SqL K H a c->c.length=n->c[n-1-i]?*>x,λi _=>n<=i}
def yt{P:NM}{w:NP}{K:yF}{tg:Expr}(a it:Addr)(n:Nat):Np P w K tg (Itv K a n) [it] it (λi h=>h.IsRevIter it a ((n:Int)-1-i)/\i<=n) where
 mem:=by simp
 obj:=λi h st b hb=>by
  have e:b=it:=by exists hb
  subst e;have(o,e,c,d):=st.1;show{o,e,λv z=>by rw[d]at z;cases z}
 keep:=λi h h' st k=>{st.1.at λo e=>k it ∅ o e,st.2}
 item:=by
  intro X hP hw hK hc i OK s Z H E I hf st hg;subst hP hw hK;have(hi,xs,hq,hl):=hg;have(its,rv,p,hz):=I.list hq;have hlt:n-1-i<xs.length:=by omega
  have(u,hu,ru):=rv.get (i:=n-1-i) (x:=xs[n-1-i]) (by simp[hlt]);have(f0,f1,f2,f3,f4,f5):=hf it ∅;have e1:((n:Int)-1-i)=((n-1-i:Nat):Int):=by omega
  have st1:=st.1;rw[e1]at st1;show wpAny_pyNext_rev_item st1 p.isList (x:=u) (by exists hu) λh' st' sb=>?_;have I1:Inv X OK Z H {s with heap:=h'}:=I.turned (t':=s.toks) (λb o hb e=>(sb.2 b hb).trans e) f0 f1 f3 f4 f5;have(o,e,c,d):=id st';have e2:((n-1-i:Nat):Int)-1=(n:Int)-1-((i+1:Nat):Int):=by omega
  rw[e2]at st';show{u,Xr,ol (s:={s with heap:=h'}) e c d (by decide) {xs[n-1-i],H,I1,ru,{Xr,λys hy _=>by rw[I.list_inj hy hq];simp[hlt]},{st',by omega},λb hb=>(hf b hb).1}}
 done:=by
  intro X hP hw hK hc i OK s Z H E I hf st hg;subst hP hw hK;have(f0,f1,f2,f3,f4,f5):=hf it ∅;have hi:i=n:=L8 st.2 hg;have e1:((n:Int)-1-i) = -1:=by omega
  have st1:=st.1;rw[e1]at st1;show wpAny_pyNext_rev_end (I.ok.hd hc) st1 λh' eb=>{Xr,I.turned (t':=s.toks) (λb o hb e=>eb b o hb e) f0 f1 f3 f4 f5}
 self:=λ_ _ _ _ _ st h=>Rf st.1 h
abbrev Cr(K:yF)(e:TA):TI:=λZ H R=>e Z H λvs d=>∃a c,vs=[.ref a]/\SqL K d a c/\R (Itv K a c.length) d
def Dy{X:Cx}{w a:Expr}{j:TA}{p pos:Pos}(E:Gl X "reversed")(k:X.mg "reversed" = TU)(r:PA X [a] j)(hs:NR [a] X.env=[(TZ,eval a X.env)]:=by rfl):PI X w (.Call (.Name "reversed" p) [a] [] pos) (Cr X.K j):=by
 intro m s Z H R I h;show TK (fQ I E k boot_reversed (I9 (thn (r pos m s Z H _ I h) λL c ⟨vs,A,f,G,x⟩=>?_) hs rfl));have(l,g,e,y,q):=x;subst e;have(u,rfl,C):=eU G;cases C;have(d,z,v,J):=f.list y;show call_reversed_list v.isList ?_;have B:=z.length;have st:(c.heap.push (revObj l ((d.toArray.size:Int)-1))).IsRevIter c.heap.objs.size l ((g.length:Int)-1-((0:Nat):Int)):=by
  show{_,NI _ rfl,Xr,?_};change Tp #[.ref l,Pe ((d.toArray.size:Int)-1)]=_;rw[Ic,<-B];simp
 show Rf (i:=((g.length:Int)-1-((0:Nat):Int))) st ?_;show{c.heap.objs.size,[c.heap.objs.size],_,_,A,Xr,f.kept (t':=c.toks) λb o e=>NB _ e,yt l _ g.length,{st,Kn _},λb t=>?_,q};have e:b=c.heap.objs.size:=by exists t
 subst e;show f.fpOk (Ig _) (f.hok.fresh (Ig _))
def irK{X:Cx}{K:yF}{f a:Expr}{c:TA}{p pos:Pos}(h:X.K=K)(g:Gl X "reversed")(d:X.mg "reversed" = TU)(e:PA X [a] c)(hs:NR [a] X.env=[(TZ,eval a X.env)]:=by rfl):PI X f (.Call (.Name "reversed" p) [a] [] pos) (Cr K c):=h▸Dy g d e hs
abbrev BU(i j k:Nat)(a:TA):TS:=λD Z H=>a Z H λvs c=>∃u v w,vs=[u,v,w]/\D.nx (((Z.set i (TV u)).set j (TV v)).set k (TV w)) c
def zS{kt k2 pt2}(hc:X.calm=T1)(t:X.N.Nodup)(hi:X.N[i]?*>x)(hj:X.N[j]?*>y)(hk:X.N[k]?*>z)(K:i≠j)(r:i≠k)(G:j≠k)
  (Q:X.env.scope.names.lookup x*>.local) (U:X.env.scope.names.lookup y*>.local) (hz:X.env.scope.names.lookup z*>.local) (ha:PA X [a,b,c] ta)
  (hw:Pg [.Tuple [.Name x px,.Name y py,.Name z pz] kt pt] (.Tuple [a,b,c] k2 pt2) X.env=pure (TV [x,y,z]))
  (hs:Pf [.Tuple [.Name x px,.Name y py,.Name z pz] kt pt] (.Tuple [a,b,c] k2 pt2) pos.line X.env=pure TZ:=by rfl) :
  PS X (.Assign [.Tuple [.Name x px,.Name y py,.Name z pz] kt pt] (.Tuple [a,b,c] k2 pt2) pos) (BU i j k ta):=by
 intro M s Z H D I h;rw[Sg];show NA (OO ?_);rw[hs];show NA (ND ?_);rw[if_neg (by decide)];show NA (Tuple_ (thn (ha _ M s Z H _ I h) λus g z9=>?_));have(vs,S,I1,r1,C):=z9;obtain⟨u,v,w,e1,C⟩:=C;subst e1;obtain⟨l,f,m,rfl,ru,rv,L⟩:∃l f m,us=[l,f,m]/\RelV u l/\RelV v f/\RelV w m:=by
  cases r1 with
  | cons p q=>
   cases q with
   | cons p' q'=>
    cases q' with
    | cons J E=>
     cases E;show{_,_,_,Xr,p,p',J}
 show NT ?_ (by change 3<=sizeLine;decide);have I2:Inv X M Z S {g with heap:=g.heap.push {cls:=.type "tuple",data:=.seq [l,f,m].toArray}}:=I1.kept (t':=g.toks) λb o e=>NB _ e;rw[hw];show NA (ND ?_);change NF (NK X.prog X.w) X.A (do rule "assign.swapped-stores";let d <-unpackItems (.ref g.heap.objs.size) 3 TU;PD [λv=>OZ X.env z v,λv=>OZ X.env y v,λv=>OZ X.env x v] d.reverse;pure R1) _ _ _;show NA (P6 (NA (RM (items:=#[l,f,m]) (I.ok.hd hc) (TN g.heap _) λP B=>?_)));have I3:=I2.kept (h':=P) (t':=g.toks) λb o e=>B b o (Is (NG e)) e;change NF _ _ (PD [λv=>OZ X.env z v,λv=>OZ X.env y v,λv=>OZ X.env x v] [m,f,l] >>= λ_=>pure R1) _ _ _;show NA (OC (O5 (cf I3 t hk (.inl hz) L (λs2 I4=>?_) (.inr hz))));show OC (O5 (cf I4 t hj (.inl U) rv (λs3 I5=>?_) (.inr U)));show OC (O5 (cf I5 t hi (.inl Q) ru (λs4 O=>Qi (ND ?_)) (.inr Q)));have e:((Z.set k (TV w)).set j (TV v)).set i (TV u)=((Z.set i (TV u)).set j (TV v)).set k (TV w):=by
  rw[K7 _ _ (NS K),K7 _ _ (NS r),K7 _ _ (NS G)]
 rw[e]at O;show{_,S,O,C}
abbrev E2(g:It)(o:St)(l:TG)(f:TT)(r:TE)(acc0:!V)(p:Hp)(N:!V->Hp->Prop):Prop:=
 ∃W2:Nat->Nat->!V->Hp->Prop,(∃m,W2 0 m acc0 p)/\∀i m a H,W2 i m a H->a.length<sizeLine /\
  ((g.stop i H/\N a H) \/
  (g.go i H/\∃e:!V->Hp->Prop,(∀c d,e c d->∃j,j<m/\W2 (i+1) j c d) /\
   ∀x d,g.yld i H x d->l x o d λh q=>f h q λb k=>if b=T1 then r h k λv H6=>e (a++[v]) H6 else e a k))
open PySem.AutoSeq1 (wpAny_loadPart')
section
variable {prog:NM}{w:NP}{A:NU}{E:Nz->NC->Prop}{ss:NC}
def lR(e:ss.heap.IsTupleIter jt tt k)(i:ss.heap.IsTuple tt els)(j:els[k]?*>y)
  (m:∀f,f.IsTupleIter jt tt (k+1)->NZ jt ss.heap f->Q y {ss with heap:=f}):NF (NK prog w) A (NV (.ref jt)) Q E ss:=by
 have(o,c,h,a):=id e;have(p,l,_,q,d):=i;unfold NV;show NA (Oc (name:=NL "__next__") e.typeIs OE (Of OE e.typeIs P0 ?_ (PQ _)));change NF _ _ (Sf (.ref jt) 0 >>= _) _ _ ss;show NA (NQ c a (x:=.ref tt) rfl ?_);change NF _ _ (if(NY tt==Oj)=T1 then _ else _) _ _ ss;rw[if_neg (show ¬ ((NY tt==Oj)=T1)from Il)];change NF _ _ (Sf (.ref jt) 1 >>= _) _ _ ss;show NA (NQ c a (x:=.int k 0) rfl ?_);change NF _ _ (QB (.ref tt) >>= _) _ _ ss;show NA (Op l d ?_);dsimp[IA,j];show NA (On c a ∅ (ND {y,Xr,ND (m _ ?_ (Oq ..))}));show{_,Oa _ c (Pt (OT a _)),(Obj.cls_mapFields ..).trans h,by rw[OT a];simp[Pe]}
def fW(j:A.handled=TU)(g:ss.heap.IsTupleIter jt tt k)(l:ss.heap.IsTuple tt els)(p:els[k]?=TU)
  (r:∀h e,Rg jt ss.heap h->(∃o,h.get? e*>o/\o.cls=.type "StopIteration")->E (.ref e) {ss with heap:=h}):NF (NK prog w) A (NV (.ref jt)) Q E ss:=by
 have(s,d,t,f):=id g;have(u,q,_,v,c):=l;unfold NV;show NA (Oc (name:=NL "__next__") g.typeIs OE (Of OE g.typeIs P0 ?_ (PQ _)));change NF _ _ (Sf (.ref jt) 0 >>= _) _ _ ss;show NA (NQ d f (x:=.ref tt) rfl ?_);change NF _ _ (if(NY tt==Oj)=T1 then _ else _) _ _ ss;rw[if_neg (show ¬ ((NY tt==Oj)=T1)from Il)];change NF _ _ (Sf (.ref jt) 1 >>= _) _ _ ss;show NA (NQ d f (x:=.int k 0) rfl ?_);change NF _ _ (QB (.ref tt) >>= _) _ _ ss;show NA (Op q c ?_);dsimp[IA,p];show NA (P6 (NA (On d f ∅ ?_)));change NF _ _ (newExc (.type "StopIteration") ([]:!Nz) >>= _) _ _ _;show NA ?_;dsimp[newExc,newTuple];show NA (NT ?_ (by size_fits));show NA (m:=SN _ _) (Se (a:=Oj) (by first|rfl|(dsimp[SN];rfl;done)) ?_);show NT ?_ (by size_fits);dsimp[raiseNew];show NA (wpAny_handled ?_);first|rw[show A.in1.handled=TU from j]|rw[id j]
 show NA (ND (wpAny_throw ?_));show r _ _ (((Oq ..).extBut.push _).push _) {_,NI _ rfl,Xr}
def jZ(hh:A.handled=TU)(jt tt:Addr)(ne:tt≠jt)(els:Array Nz):Rh prog w A jt [jt,tt] els.size (λk v=>els[k]?*>v) (λk h=>h.IsTupleIter jt tt k/\h.IsTuple tt els) where
 live:=λ_ _ st=>let ⟨o,ho,_⟩:=st.1;⟨o,ho⟩
 frame:=λ_ _ _ st hk=>{st.1.at λo e=>hk jt ∅ o e,let ⟨o,ho,r⟩:=st.2;{o,hk tt ∅ o ho,r}}
 item:=λk s Q E hi st kk=>lR st.1 st.2 (y:=els[k]) (by simp[hi]) λh1 i1 s1=>kk _ h1 s.toks (by simp[hi]) {i1,st.2.extBut s1.extBut ne} s1
 done:=λs Q E st kk=>fW hh st.1 st.2 ∅ kk
def jG(l:Addr)(c:Array Nz)(n:Nat)(f:↑Addr)(sl:Array ↑Nz) :
  Ts (NJ.«enumerate.__new__» {[.type "enumerate",.ref l],[]}) (λ_ R s=>s.heap.get? l=TV {cls:=.type "tuple",dict:=f,data:=.seq c n,slots:=sl} /\
   R (.ok (.ret (.ref (s.heap.push {cls:=.type "tuple_iterator",data:=.fields #[.ref l,.int 0 0]}).objs.size)))
    {s with heap:=(s.heap.push {cls:=.type "tuple_iterator",data:=.fields #[.ref l,.int 0 0]}).push {cls:=.type "enumerate",data:=.fields #[.none,.bool TZ,.ref s.heap.objs.size,Pe 0,.none,.none]}}):=
 .of_wp λt r q RR k a=>by
  obtain⟨m,g,d,p,os⟩:=k;obtain⟨e,a⟩:=a;have i:=sub_enumerate;have h:Heap.IsTuple (NC.heap ⟨m,g,d,p,os⟩) l c:={_,e,Xr,n,Xr};wp_walk using OV e
  show wpAny_stack_any λo=>ND ?_;split
  .rename_i c0 _ _ _ _ _;cases (c0==NH "enumerate")
   .wp_walk using OV e,OU h
    show{_,Xr,a}
   .wp_walk using OV e,OU h
    show{_,Xr,a}
  .wp_walk using OV e,OU h
   show{_,Xr,a}
def ke(k:ss.heap.IsTuple l els)
  (m:∀f,TJ f (ss.heap.objs.size+1) ss.heap.objs.size 0 .none->f.IsTupleIter ss.heap.objs.size l 0->f.objs.size=ss.heap.objs.size+2->(∀b o,ss.heap.get? b*>o->f.get? b*>o)->Q (.ref (ss.heap.objs.size+1)) {ss with heap:=f}) :
  NF (NK prog w) A (call (.type "enumerate") [.ref l]) Q E ss:=by
 obtain⟨⟨c0,g,p,r⟩,q,a,n,d⟩:=k;replace a:c0=.type "tuple" :=a;replace d:p=.seq els n:=d;subst a d;show callType_new F.called_enumerate (by decide) (F.typeCall_enumerate_1 _) (F.newCall_enumerate_1 _) (λh=>F.args_object_init_2 h _) F.entry_enumerate_new (jG l els n g r) {q,?_};have c:(ss.heap.push {cls:=.type "tuple_iterator",data:=.fields #[.ref l,.int 0 0]}).objs.size=ss.heap.objs.size+1:=Od ..;change _/\_;rw[c];have e:TJ ((ss.heap.push {cls:=.type "tuple_iterator",data:=.fields #[.ref l,.int 0 0]}).push {cls:=.type "enumerate",data:=.fields #[.none,.bool TZ,.ref ss.heap.objs.size,Pe 0,.none,.none]}) (ss.heap.objs.size+1) ss.heap.objs.size 0 .none:=by
  have i:=NI (ss.heap.push {cls:=.type "tuple_iterator",data:=.fields #[.ref l,.int 0 0]}) (o:={cls:=.type "enumerate",data:=.fields #[.none,.bool TZ,.ref ss.heap.objs.size,Pe 0,.none,.none]}) rfl;rw[c]at i;show i
 show{{_,e,Xr},m _ e {_,NB _ (NI _ rfl),Xr,Xr} (by rw[Od,c]) λb o x=>NB _ (NB _ x)}
end
def Inv.turned2(I:Inv X OK Z H s)(k:∀b o,b≠i1->b≠i2->s.heap.get? b*>o->h'.get? b*>o)(i:eK X OK H i1)(j:eK X OK H i2):Inv X OK Z H {s with heap:=h',toks:=t'}:=by
 have d:∀b u,H b*>u->b≠i1/\b≠i2:=λb u e=>{λz=>(by rw[z,i.1]at e;cases e),λz=>(by rw[z,j.1]at e;cases e)};show I.step (g':=s.gens) (d':=s.drawn) (ch:=[i1,i2]) (λb x=>?_) (λb o _ _ a e _=>k b o (λz=>a (by simp[z])) (λz=>a (by simp[z])) e) (λb o _ _ a e _=>{o.slots,k b o (λz=>a (by simp[z])) (λz=>a (by simp[z])) e}) (λ_ _ _ _ n=>n)
  (λb o a e=>{o,k b o (λz=>a (by simp[z])) (λz=>a (by simp[z])) e}) (λ_ _ e=>e) (λ_ _ _ e=>e) (λb B e=>{#[],by rw[e];simp}) (λm t=>?_) (λb u e=>?_) I.bare
 .have e:b=i1\/b=i2:=by exists x
  rcases e with e|e
  .subst e;have(_,f,_,l,h,g):=i;show⟨l,f,h,g⟩
  .subst e;have(_,f,_,l,h,g):=j;show⟨l,f,h,g⟩
 .have(o,A,w,y,r):=t;show{o,A,w,k _ o (NS i.2.1) (NS j.2.1) y,r}
 .show(I.hok b u e).stay (λc v a q=>k c v ?_ ?_ q) (λ_ q=>q) λ_ _ q=>q
  .rcases a with z|z;rw[z];show(d b u e).1;show(d c _ z).1
  .rcases a with z|z;rw[z];show(d b u e).2;show(d c _ z).2
def Cc
  (D:∀(Q:Nz->NC->Prop) (E:Nz->NC->Prop),(∀a x,Rg jt ss.heap a->(∃o,a.get? x*>o/\o.cls=.type "StopIteration")->E (.ref x) {ss with heap:=a})->NF (NK prog w) A.in1 (NV (.ref jt)) Q E ss)
  (g:TJ ss.heap e jt i old) (l:∀a,Rg jt ss.heap a->Q TU {ss with heap:=a}):NF (NK prog w) A (QK (.ref e)) Q E ss:=by
 have h:ss.TypeIs (.ref e) "enumerate" :={_,g,Xr};unfold QK;show NA (Ph (Oc (name:=NL "__next__") h Q6 (Of Q6 h F.entry_enumerate_next ?_ (F.args_enumerate_next_1 _))));change NF _ _ (Sf (.ref e) 2 >>= _) _ _ _;show NA (NQ g rfl (x:=.ref jt) rfl ?_);show NA (D _ _ λa x f d=>?_);have(o,j,k):=d;show NA (R7 (T:="StopIteration") (b:=T1) ⟨o,j,k⟩ SO ?_);show ND (l _ f)
def tj{prog:NM}{w:NP}{A:NU}{a:NC}{e tt:Addr}{k:Nat}{c:Array Nz}(h:A.handled=TU)(l:a.heap.IsTupleIter e tt k)(j:a.heap.IsTuple tt c)(g:c[k]?=TU) :
  ∀(Q:Nz->NC->Prop) (E:Nz->NC->Prop),(∀d x,Rg e a.heap d->(∃o,d.get? x*>o/\o.cls=.type "StopIteration")->E (.ref x) {a with heap:=d})->NF (NK prog w) A.in1 (NV (.ref e)) Q E a:=λQ E i=>fW h l j g i
abbrev Ite(K:yF) (a:Addr):It:=
 {λi H=>∃c x,SqT K H a c/\c[i]?*>x,λi H y d=>∃p x,H p=TU/\y=.ref p/\d=upd H p (.tup [.int i,x])/\∀c,SqT K H a c->c[i]?*>x,λi H=>∃c,SqT K H a c/\c.length<=i}
def uC{P:NM}{w:NP}{K:yF}{elts:!Expr}{k0:Nat}{pos:Pos}(a it e:Addr)(hei:e≠it) :
  Np P w K (.Tuple elts k0 pos) (Ite K a) [e,it] e (λi h=>(∃old,TJ h e it ((i:Nat):Int) old)/\h.IsTupleIter it a i) where
 mem:=by simp
 obj:=λi h st b hb=>by
  rcases ycM hb with z|z
  .subst z;have(old,e1):=st.1;show{_,e1,λv z=>by cases z}
  .have z':b=it:=by exists z
   subst z';have(o,e,c,d):=st.2;show{o,e,λv z=>by rw[d]at z;cases z}
 keep:=λi h h' st k=>{let ⟨old,e1⟩:=st.1;{old,k e ∅ _ e1},st.2.at λo e=>k it ∅ o e}
 item:=by
  intro X hP hw hK hc i OK s Z H E I hf st hg;subst hP hw hK;have(xs,x,hq,hx):=hg;have(its,rv,p,hz):=I.tuple hq;have(u,hu,ru):=rv.get hx;have(f0,f1,f2,f3,f4,f5):=hf it ∅;have(e0,e1,e2,e3,e4,e5):=hf e ∅;obtain⟨⟨old,he⟩,hit⟩:=st;have hT:s.heap.IsTuple a its.toArray:=p;have nai:a≠it:=λz=>by
   subst z;have(o1,q1,q2,_):=hT;have(o2,q3,q4,_):=hit;rw[q1]at q3;cases q3;rw[q2]at q4;show absurd q4 (by decide +kernel)
  have nae:e≠a:=λz=>by
   subst z;have(o1,q1,q2,_):=hT;have q3:s.heap.get? e=_:=he;rw[q1]at q3;cases q3;have q5:NH "enumerate" = NH "tuple" :=q2;show absurd q5 (by decide +kernel)
  have hn:i<its.toArray.size:=by
   rw[Ic];show(Ib.mp hu).1
  show wpAny_pyNext_enum_itemD (jZ (A:=X.A.in1) (I.ok.hd hc) it a nai its.toArray) he ⟨hit,hT⟩ hn hei (by simp[hei,nae]) λx' h1 tk px ho st1 ht hz1 kk=>?_;have ex:x'=u:=by
   have e1:its.toArray[i]?*>x':=px;have e2:its.toArray[i]?*>u:=by exists hu
   rw[e1]at e2;show IC.inj e2
  subst ex;show{_,Xr,wpAny_letOwnedTupleGo_enum ho λh2 he2 sb=>?_};have sb':NZ e h1 h2:=sb;have hel:e<s.heap.objs.size:=NG he;have k2:∀b o,b≠e->b≠it->s.heap.get? b*>o->h2.get? b*>o:=λb o n1 n2 q=>(sb'.2 b n1).trans (kk b o n1 n2 q);have I1:Inv X OK Z H {s with heap:=h2,toks:=tk+1}:=I.turned2 k2 (hf e ∅) (hf it ∅);have fz:eK X OK H s.heap.objs.size:=I.fpOk (Ig _) (I.hok.fresh (Ig _));have hT2:h2.get? s.heap.objs.size=TV {cls:=.type "tuple",data:=.seq #[.int i tk,x']}:=(sb'.2 _ (JI hel)).trans ht;have I2:Inv X OK Z (upd H s.heap.objs.size (.tup [.int i,x])) {s with heap:=h2,toks:=tk+1}:=I1.track fz (.inr I.sz) I.sz {by change 2<=sizeLine;decide,[.int i tk,x'],.cons ⟨tk,Xr⟩ (.cons ru .nil),{_,hT2,⟨Xr,Xr⟩,_,Xr}};show{.ref s.heap.objs.size,_,I2,Xr,{_,x,fz.1,Xr,Xr,λys hy=>by rw[I.tuple_inj hy hq];show hx},{{x',?_},?_},λb hb=>?_}
  .have e9:((i+1:Nat):Int)=(i:Int)+1:=by push_cast;rfl
   rw[e9];show he2
  .show st1.1.extBut sb'.extBut (NS hei)
  .have hbo:∃o,s.heap.get? b*>o:=by
    rcases ycM hb with z|z;subst z;show{_,he}
    .have z':b=it:=by exists z
     subst z';have(o,q,_):=hit;show⟨o,q⟩
   have(o,q):=hbo;rw[upd_ne (Is (NG q))];show(hf b hb).1
 done:=by
  intro X hP hw hK hc i OK s Z H E I hf st hg;subst hP hw hK;have(xs,hq,hx):=hg;have(its,rv,p,hz):=I.tuple hq;have(f0,f1,f2,f3,f4,f5):=hf it ∅;have hl:=rv.length;obtain⟨⟨old,he⟩,hit⟩:=st;have hT:s.heap.IsTuple a its.toArray:=p;have nai:a≠it:=λz=>by
   subst z;have(o1,q1,q2,_):=hT;have(o2,q3,q4,_):=hit;rw[q1]at q3;cases q3;rw[q2]at q4;show absurd q4 (by decide +kernel)
  show Cc (tj (I.ok.hd hc) hit hT (by simp;lia)) he λh1 eb=>{Xr,I.turned (t':=s.toks) (λb o hb e=>eb b o hb e) f0 f1 f3 f4 f5}
 self:=λ_ _ _ _ _ st h=>by
  obtain⟨⟨old,he⟩,_⟩:=st;show RV he h
abbrev vz(K:yF)(e:TA):TI:=λZ H R=>e Z H λvs c=>∃a d,vs=[.ref a]/\SqT K c a d/\R (Ite K a) c
def zM{X:Cx}{a:Expr}{i:TA}{elts:!Expr}{k0:Nat}{p pos pt:Pos}(G:Gl X "enumerate")(k:X.mg "enumerate" = TU)(r:PA X [a] i)(hs:NR [a] X.env=[(TZ,eval a X.env)]:=by rfl):PI X (.Tuple elts k0 pt) (.Call (.Name "enumerate" p) [a] [] pos) (vz X.K i):=by
 intro m s Z H R I h;show TK (fQ I G k boot_enumerate (I9 (thn (r pos m s Z H _ I h) λP c ⟨vs,B,d,J,w⟩=>?_) hs rfl));have(l,M,e,x,q):=w;subst e;have(u,rfl,E):=eU J;cases E;have(f,O,v,L):=d.tuple x;show ke (show c.heap.IsTuple l f.toArray from v) λN j g C A=>?_;show RV j ?_;show{c.heap.objs.size+1,[c.heap.objs.size+1,c.heap.objs.size],_,_,B,Xr,d.kept (t':=c.toks) λb o e=>A b o e,uC l c.heap.objs.size _ (LS _),{{_,j},g},λb t=>?_,q};rcases ycM t with z|z
 .subst z;show d.fpOk (Km _) (d.hok.fresh (Km _))
 .have y:b=c.heap.objs.size:=by exists z
  subst y;show d.fpOk (Ig _) (d.hok.fresh (Ig _))
def ieK{X:Cx}{K:yF}{a:Expr}{c:TA}{elts:!Expr}{k0:Nat}{p pos pt:Pos}(h:X.K=K)(f:Gl X "enumerate")(d:X.mg "enumerate" = TU)(e:PA X [a] c)(hs:NR [a] X.env=[(TZ,eval a X.env)]:=by rfl):PI X (.Tuple elts k0 pt) (.Call (.Name "enumerate" p) [a] [] pos) (vz K c):=h▸zM f d e hs
abbrev nJ:V->!V->Hp->VK->Prop:=λx vs H Q=>∃l a i y,x=.ref l/\vs=[.int i,y]/\H l*>(.lst a)/\0<=i/\i<=a.length/\a.length<sizeLine/\Q .non (upd H l (.lst (a.take i.toNat++y::a.drop i.toNat)))
def tQ:MtM X "list.insert" nJ:=by
 intro C s Z H x vs v L Q I p u h;obtain⟨l,E,i,y,rfl,rfl,m,w,J,j,q⟩:=h;cases p;have(G,d,rfl,B,A):=lD u;have(t,rfl):=B;have(z,a,n,r,K,e):=I.lstM m;have f:i<2^63:=by rw[NE]at j;lia
 have g : -(2^63)<=i:=by lia
 have c:¬(~~~Builtin.List.listFitsIndex i)=T1:=by rw[Qb g f];show Il
 have k:a.toArray.size<=sizeLine:=by rw[Ic];lia
 show Oz F.slot_list_insert {_,e,Xr} F.entry_list_insert (F.args_list_insert_3 _ _ _) (PySem.AutoSeq1.list_insert_list_int_val_1 l _ n i t d c k) {e,?_};show{.non,_,I.lset (its':=a.take i.toNat++d::a.drop i.toNat) m e ?_ ((r.take i.toNat).append (.cons A (r.drop i.toNat))) ?_,Xr,q}
 .change(a.toArray.extract 0 (if i<0 then(i+(a.toArray.size:Int)).toNat else min i.toNat a.toArray.size)).push d++a.toArray.extract (if i<0 then(i+(a.toArray.size:Int)).toNat else min i.toNat a.toArray.size)=(a.take i.toNat++d::a.drop i.toNat).toArray;have o:min i.toNat a.toArray.size=i.toNat:=by rw[Ic];lia
  rw[if_neg (by lia),o];simp;rw[Iu (by rw[I0];show Ig _)]
 .rw[Ij,IJ,Im,I0]
  lia
abbrev bh:Expr->Bool
 | .Starred _ _=>T1
 | _=>TZ
def aM(h:bh e=TZ):NR (e::es) env=(TZ,eval e env)::NR es env:=by
 cases e<;>first|rfl|cases h
abbrev aX:!Expr->Bool
 | []=>T1
 | e::a=>(~~~bh e)&&aX a
def cC:∀{a:!Expr},aX a=T1->(OY pos (NR a env)).any (·.1)=TZ
 | [],_=>rfl
 | e::a,h=>by
  rw[aX,Ie]at h;have c:bh e=TZ:=by exists h.1
  rw[aM c];change(TZ||(OY pos (NR a env)).any (·.1))=TZ;rw[cC h.2];rfl
def j6:∀{a:!Expr},aX a=T1->(OY pos (NR a env)).all (λx=> ~~~x.1)=T1
 | [],_=>rfl
 | e::a,h=>by
  rw[aX,Ie]at h;have c:bh e=TZ:=by exists h.1
  rw[aM c];change(~~~TZ&&(OY pos (NR a env)).all (λx=> ~~~x.1))=T1;rw[j6 h.2];rfl
section
variable {X:Cx}{K:yF}{e:Expr}{es:!Expr}{te:TE}{t:TA}{x:Str}{p pos:Pos}{k:Nat}{ps:!Str}{sp:Sp}
def bD(a:PE X e te)(c:PA X es t)(hs:bh e=TZ:=by rfl):PA X (e::es) (pi te t):=ny a c (aM hs)
def wo(h:Has X.prog X.w X.K X.mg X.base k x ps sp)(d:MW k X.A)(f:Gl X x)(g:PA X (e::es) t)(c:aX (e::es)=T1:=by rfl)(a:(x==("__debug__" : Str))=TZ:=by decide):PE X (.Call (.Name x p) (e::es) [] pos) (lx sp [] E0 t):=by
 rw[aX,Ie]at c;show F7 h d f g a (aM (by exists c.1)) (cC c.2)
def fE{id:String}{r:!V->Hp->VK->Prop}(h:MU X (.builtin id) r)(i:Gl X x)(d:X.mg x=TU)(j:Oo x*>(.builtin id))(f:PA X (e::es) t)(a:aX (e::es)=T1:=by rfl)(g:x≠("__name__" : Str):=by decide)(c:(x==("__debug__" : Str))=TZ:=by decide):PE X (.Call (.Name x p) (e::es) [] pos) (tCB r t):=by
 rw[aX,Ie]at a;show wm h i d j f g c (aM (by exists a.1)) (cC a.2)
def iU(h:MU X (.type T) r)(i:Gl X x)(d:X.mg x=TU)(j:Oo x*>(.type T))(f:PA X (e::es) t)(a:aX (e::es)=T1:=by rfl)(g:x≠("__name__" : Str):=by decide)(c:(x==("__debug__" : Str))=TZ:=by decide):PE X (.Call (.Name x p) (e::es) [] pos) (tCB r t):=by
 rw[aX,Ie]at a;show tX h i d j f g c (aM (by exists a.1)) (cC a.2)
def B8{o:Expr}{q:TE}{name:Str}{a c:Pos}{T id:String}{r:V->!V->Hp->VK->Prop}(h:X.K=K)(v:Py T)(j:Slot T name id)(l:P9 (.builtin id)=pure (.type "method_descriptor"))(s:MtR X id r)(ho:PE X o q)(u:PA X (e::es) t)(m:aX (e::es)=T1:=by rfl)(i:decide ((e::es).length<30)=T1:=by rfl)
  (g:OA o name X.env (eval o X.env)=eval o X.env:=by rfl) (f:(a.endLine==c.line)=T1:=by rfl):PE X (.Call (.Attribute o name a) (e::es) [] c) (tBM K T r q t):=by
 have d:=m;rw[aX,Ie]at d;show bmK h v j l s ho u g ?_ f (aM (by exists d.1)) (cC d.2);rw[j6 m];have:=of_decide_eq_true i;dsimp[Bool.true_and,Kh,Nat.add_zero,List.isEmpty_nil,if_true];rw[decide_eq_true this];rfl
end
end L2
namespace L2
open PySem PySem.Spec PySem.Calls PyProof.Rows PySem.W
noncomputable abbrev eM(C t:Addr):Obj:={cls:=.ref C,data:=.fields #[.ref t,.none,.none,.none,.bool TZ,.none]}
noncomputable abbrev kc(vs:!Nz):Obj:={cls:=.type "tuple",data:=.seq vs.toArray}
section
variable {prog:NM}{w:NP}{A:NU}{R:Th->NC->Prop}{h:Heap}{g:Array Sx}{d:Drawn}{t:Nat}{os:OsState}
variable {nm q:Str}{C N f:Addr}{bs bm:!Nz}{hdct:Bool}{sn:!Str}{sub:!Nz}{ab:Bool}{col:↑Bool}{dd:↑Addr}{k0 k1 k2 k3 k5:↑Nz}
def yX(u:bm.contains (.type "ValueError")=T1)(o:bm.contains (.type "AttributeError")=TZ)(r:bm.contains (.type "NameError")=TZ)(c:h.get? C*>(Ri nm q C N bs bm hdct sn sub ab col dd k0 k1 k2 k3 k5 "ValueError.__new__"))(m:rsts.length<=sizeLine)
  (s:R (.ok (.ret (.ref (h.objs.size+1)))) {(h.push (kc rsts)).push (eM C h.objs.size),g,d,t,os}) :
  Pa (NK prog w) A (.call (.builtin "ValueError.__new__") {.ref C::rsts,[]}) R ⟨h,g,d,t,os⟩:=by
 have a:=PySem.F.excBase_ValueError;have e:(NY C::bm).contains (.type "ValueError")=T1:=by rw[JE,u,KR]
 have i:(NY C::bm).contains (.type "AttributeError")=TZ:=by rw[JE,o];rfl
 have j:(NY C::bm).contains (.type "NameError")=TZ:=by rw[JE,r];rfl
 have l:=a.noStar;have k:=a.ends;show codeAny_call_builtin_code (RH _ a.quiet) ?_;dsimp[R8,a.newKind,a.newSplit,a.newRow];repeat (first|refine OJ c ?_|(refine OP c ?_;rw[e])|refine wpAny_staticBase_exc c ?_|refine R9 c ?_|dsimp[bne_self_eq_false,JC,if_false]|wp_step)
 show codeAny_builtinAt a.entry ?_;unfold NJ.«BaseException.__new__»;show L9 ?_;change PySem.wpAt _ _ _ (stack >>= _) _ _ _;show L9 (PySem.wpAt_stack λp below=>Lv ?_);wp_walk
 show Lv ?_;rw[a.owner];repeat (first|with_reducible refine wpAny_madeHere_exc a.canon c ?_|with_reducible refine OJ c ?_|(with_reducible refine OP c ?_;first|rw[e]|rw[i]|rw[j])|wp_step)
 change R _ _;rw[Od];show s
def vm(B:bm.contains (.type "ValueError")=T1)(J:bm.contains (.type "AttributeError")=TZ)(x:bm.contains (.type "NameError")=TZ)(j:h.get? C*>(Ri nm q C N bs bm hdct sn sub ab col dd k0 k1 k2 k3 k5 "ValueError.__new__"))(i:rsts.length<=sizeLine)
  (call:Looks (NK prog w) h (Tc (.ref C) "__call__") (TV (.builtin "type.__call__"))) (l:Looks (NK prog w) h (RJ (.ref C) (.type "type")) T1)
  (hi:Looks (NK prog w) h (typeLookup (.ref C) "__init__") (TV (.ref f))) (y:∀c,Looks (NK prog w) h (bindSpecial (.ref f) c) (.ref f,[c]))
  (G:Pa (NK prog w) (A.under (.builtin "type.__call__" {.ref C::rsts,[]})) (.call (.ref f) {.ref (h.objs.size+1)::rsts,[]}) (InitBack (h.objs.size+1) R) {(h.push (kc rsts)).push (eM C h.objs.size),g,d,t,os}) :
  Pa (NK prog w) A (.call (.ref C) {rsts,[]}) R ⟨h,g,d,t,os⟩:=by
 have p:Looks (NK prog w) h (Bind.madeBy (.ref C)) (TV "ValueError.__new__"):=λA Q E s k q=>by
  have(m,g,d,u,os):=s;show R9 (k _ _ j) q
 have L:Looks (NK prog w) h (mroOf (.ref C)) (.ref C::bm):=λA Q E s k q=>by
  have(m,g,d,u,os):=s;show wpAny_mroOf_exc (k _ _ j) q
 have c:Looks (NK prog w) h (isSubtype (.ref C) (.ref C)) T1:=λA Q E s k q=>by
  have(m,g,d,u,os):=s;show OP (k _ _ j) ?_;rw[show(NY C::bm).contains (.ref C)=T1 by simp];show q
 have K:(NY C::bm).isEmpty=TZ:=rfl;show codeAny_of_tree ?_;change NF _ _ (callAny (.ref C) _) _ _ _;show nd_load j ?_;change NF _ _ (RW (.ref C) _) _ _ _;unfold RW;show NA (call.at ?_);dsimp only;rw[tc_bind];show NA (ND (NA (ND ?_)));show ND (a:=Fin.again (.call (.builtin "type.__call__") {.ref C::rsts,[]})) (And.intro rfl ?_);show codeAny_call_builtin_at (RH _ (by decide +kernel)) entry_typeCall (check_slot tc_kind tc_split l (tc_args _ _ _) ?_);unfold NJ.«type.__call__»;repeat (first|dsimp[K,JC,if_false]|with_reducible refine O6 ?_|lk)
 show yX B J x j i ?_;have k:∀b o,h.get? b*>o->((h.push (kc rsts)).push (eM C h.objs.size)).get? b*>o:=λb o e=>NB _ (NB _ e);have H:((h.push (kc rsts)).push (eM C h.objs.size)).get? (h.objs.size+1)*>(eM C h.objs.size):=by heap_get
 have P:Looks (NK prog w) ((h.push (kc rsts)).push (eM C h.objs.size)) (P9 (.ref (h.objs.size+1))) (.ref C):=(Looks.ld H).andThen .now;have M:=c.keeps k;have O:=hi.keeps k;have S:=(y (.ref (h.objs.size+1))).keeps k;unfold RJ callSpecial? Tc;repeat (first|with_reducible refine O6 ?_|lk)
 show Po G λr U z=>?_;rcases r with e|(v|_|_|_)<;>first|show z|show z.elim|skip
 have(rfl,z):=z;show ND (ND z)
end
section
variable {prog:NM}{w:NP}{A:NU}{E:Nz->NC->Prop}{h:Heap}{g:Array Sx}{d:Drawn}{t:Nat}{os:OsState}
variable {nm q:Str}{C N x a:Addr}{bs bm:!Nz}{hdct:Bool}{sn:!Str}{sub:!Nz}{ab:Bool}{col:↑Bool}{dd:↑Addr}{k0 k1 k2 k3 k5:↑Nz}
def vk(m:bm.contains (.type "ValueError")=T1)(j:h.get? C*>(Ri nm q C N bs bm hdct sn sub ab col dd k0 k1 k2 k3 k5 "ValueError.__new__"))(i:h.get? x*>(eM C a))
  (k:∀h':Heap,h'.get? x*>(eM C h.objs.size)->(∀b o,b≠x->h.get? b*>o->h'.get? b*>o)->Q .none ⟨h',g,d,t,os⟩) :
  NF (NK prog w) A (call (.builtin "ValueError.__init__") [.ref x]) Q E ⟨h,g,d,t,os⟩:=by
 have F:=PySem.F.excBase_ValueError;have f:(NY C::bm).contains (.type "ValueError")=T1:=by rw[JE,m,KR]
 have c:=F.noStar;show O6 (PK F.init.plain F.initEntry ?_);dsimp[R8,F.initKind,F.initSplit,F.initRow];repeat (first|with_reducible refine OJ i ?_|with_reducible refine OJ j ?_|(with_reducible refine OP j ?_;rw[f])|wp_step)
 show k _ (Oa _ (NB _ i) rfl) λb o l e=>?_;show(N0 _ _ (NS l)).trans (NB _ e)
end
abbrev g9:!Nz->Bool
 | .ref _::r=>g9 r
 | .type n::r=>n == "ValueError" && r==[.type "Exception",.type "BaseException",.type "object"]
 | _=>TZ
open Builtin Builtin.ObjectAttr
end L2
namespace L2
open PySem PySem.Spec PySem.Calls PyProof.Rows PySem.W Builtin Builtin.ObjectAttr
section
variable {prog:NM}{w:NP}{A:NU}{E:Nz->NC->Prop}{s:NC}{K:Frag}{x C:Addr}{ox:Obj}{od:↑Obj}{name:Str}{v:Nz}{expr:Bool}{Q:Nz->NC->Prop}
def exc_get(X:K.In s.heap)(f:OQ K (.ref C) "__getattribute__" = TV (TV (.builtin "BaseException.__getattribute__")))(e:OQ K (.ref C) "__getattr__" = TV TU)(a:Tv K (.ref C) (.type "BaseException")*>T1)
  (J:InstAt s.heap x ox C od) (r:findObj K C od name*>(.value v)) (o:SQ v=T1) (h:Q v {s with toks:=s.toks+1}):NF (NK prog w) A (getAttr (.ref x) name expr) Q E s:=by
 have j:=PySem.F.attrBase_ValueError;have m:=j.ga.bind (.ref x);have c:=J.type (M:=NK prog w);have l:=QY (M:=NK prog w) X f;have L2:=QY (M:=NK prog w) X e;have u:=looks_find (M:=NK prog w) X J r;have p:Looks (NK prog w) s.heap (RJ (.ref x) (.type "BaseException")) T1:=c.andThen (looks_subIn X a);have(q,g,d,t,os):=s;unfold getAttr getAttrBy;show NA (wpAny_mkText (Oe (NA (c.at (NA (l.at ?_))))));have i:(OM "BaseException.__getattribute__" == OM "object.__getattribute__")=TZ:=by decide +kernel
 dsimp only;rw[i,JZ,if_neg (by decide)];unfold Sr hookBefore;rw[if_pos (by rfl)];show NA (L2.at (NA (Ph (Oe ?_))));unfold Sa;rw[show(expr&&onTheHeap (OM "BaseException.__getattribute__"))=TZ from JZ _,if_neg (by decide)];unfold SR;rw[m];show NA (ND ?_);change NF _ _ (call (.builtin "BaseException.__getattribute__") [.ref x,.str name t]) _ _ _;show O6 ?_;show PK j.ga.plain Ss ?_;show @check_slot (NK prog w) _ _ {q,g,d,t+1,os} "BaseException.__getattribute__" "BaseException" "__getattribute__" (.ref x) [.str name t] [] _ (by decide +kernel) (by decide +kernel) p (SS (.ref x) (.str name t)) ?_;unfold NJ.«object.__getattribute__»;show NA (ND ?_);dsimp only;show NA (ND (NA (c.at (NA (u.at ?_)))));show ND ?_;change NF _ _ (Td v) _ _ _;rw[handedOut_of o];show ND h
def tm{Q:↑Nz->NC->Prop}(X:K.In s.heap)(f:OQ K (.ref C) "__getattribute__" = TV (TV (.builtin "BaseException.__getattribute__")))(e:OQ K (.ref C) "__getattr__" = TV TU)(a:Tv K (.ref C) (.type "BaseException")*>T1)
  (J:InstAt s.heap x ox C od) (r:findObj K C od "__class__" = TV (.bind (.builtin "getset_descriptor.__get__") (.builtin "object.__class__"))) (m:mroIn K C (.type "object")*>T1) (h:Q (TV (.ref C)) {s with toks:=s.toks+1}):NF (NK prog w) A (getAttr? (.ref x) "__class__") Q E s:=by
 have j:=PySem.F.attrBase_ValueError;have p:=j.ga.bind (.ref x);have c:=J.type (M:=NK prog w);have o:=QY (M:=NK prog w) X f;have L2:=QY (M:=NK prog w) X e;have u:=looks_find (M:=NK prog w) X J r;have q:Looks (NK prog w) s.heap (RJ (.ref x) (.type "BaseException")) T1:=c.andThen (looks_subIn X a);have(k,g,d,t,os):=s;unfold getAttr? getAttrBy? getAttrBy;show NA (wpAny_mkText (NA (Ph (Oe (NA (c.at (NA (o.at ?_))))))));have i:(OM "BaseException.__getattribute__" == OM "object.__getattribute__")=TZ:=by decide +kernel
 dsimp only;rw[i,JZ,if_neg (by decide)];unfold Sr hookBefore;rw[if_pos (by rfl)];show NA (L2.at (NA (Ph (Oe ?_))));unfold Sa;rw[if_neg (by decide)];unfold SR;rw[p];show NA (ND ?_);change NF _ _ (call (.builtin "BaseException.__getattribute__") [.ref x,.str "__class__" t]) _ _ _;show O6 ?_;show PK j.ga.plain Ss ?_;show @check_slot (NK prog w) _ _ {k,g,d,t+1,os} "BaseException.__getattribute__" "BaseException" "__getattribute__" (.ref x) [.str "__class__" t] [] _ (by decide +kernel) (by decide +kernel) q (SS (.ref x) (.str "__class__" t)) ?_;unfold NJ.«object.__getattribute__»;show NA (ND ?_);dsimp only;show NA (ND (NA (c.at (NA (u.at ?_)))));change NF _ _ (Ov [OM "object.__class__"] (call (.builtin "getset_descriptor.__get__") [.builtin "object.__class__",.ref x,.ref C]) >>= ret) _ _ _;show NA (Oe (O6 (class_get (s:={k,g,d,t+1,os}) (ox:=ox) (od:=od) X J m ?_)));show ND ?_;change NF _ _ (Td (.ref C)) _ _ _;show handed_on rfl (ND h)
def vG(hga:OQ K (.ref C) "__getattribute__" = TV (TV (.builtin "BaseException.__getattribute__")))(hg0:OQ K (.ref C) "__getattr__" = TV TU)(hsub:Tv K (.ref C) (.type "BaseException")*>T1)
  (hdct:(TM K C).isSome=T1) (ha:OQ K (.ref C) "__class__" = TV (TV (.builtin "object.__class__")))
  (hn:PB K (.builtin "object.__class__") "__get__" = TV (TV (.builtin "getset_descriptor.__get__"))) (htk:takesIn K (.builtin "object.__class__")*>T1) (hm:mroIn K C (.type "object")*>T1) :
  KitX K (.ref x) (.ref C) (λh=>InstAt h x ox C od) where
 ty:=λ_ _ _ I=>I.type
 it:=λ_ _ X _=>by
  unfold TM at hdct;ext hdct ho;intro A' Q' E' s' k q;unfold isType loadHead;show NA (wpAny_loadPart (k _ _ (X _ _ ho)) (ND q))
 ne:=λh tp dd its n sl X htp=>by
  show Bool.eq_false_iff.mpr λq=>?_;have e:C=tp:=NY.inj (beq_iff_eq.mp q);subst e;unfold TM at hdct;ext hdct ho;have z:=(X _ _ ho).symm.trans htp;cases z
 ca:=λX I k=>tm X hga hg0 hsub I (by have(cd,hc):=JJ.mp hdct;dsimp[findObj,hc,ha,hn,htk,J4]) hm k
end
end L2
namespace L2
open PySem PySem.Spec PyProof.Rows
open PySem.W (Frag clsIn findIn subIn specialIn instIn mroIn takesIn InstAt Looks)
abbrev exO(b:Bool) (C:Addr) (d:↑Addr) (x:Addr):HO:=.ext λh=>∃vs,h.get? x=TV {cls:=.ref C,dict:=d,data:=.fields vs}/\(b=TZ->∃t,vs = #[.ref t,.none,.none,.none,.bool TZ,.none])
noncomputable abbrev exF(C x:Addr):HO:=exO TZ C TU x
noncomputable abbrev exD(C dx x:Addr):HO:=exO TZ C (TV dx) x
def pO(e:h.get? x=TV {cls:=.ref C,dict:=d,data:=.fields vs})(c:b=TZ->∃t,vs = #[.ref t,.none,.none,.none,.bool TZ,.none]):MR P w H h x (exO b C d x):=
 {⟨vs,e,c⟩,{_,e},λg f ⟨vs,a,h⟩ k=>{vs,k _ a,h}}
def vf(e:h.get? x*>(eM C t)):MR P w H h x (exF C x):=pO e λ_=>⟨t,Xr⟩
def jB(a:HOk P w H h)(e:H x*>(exO b C d x)):∃vs,h.get? x=TV {cls:=.ref C,dict:=d,data:=.fields vs}/\(b=TZ->∃t,vs = #[.ref t,.none,.none,.none,.bool TZ,.none]):=(show MR P w H h x (exO b C d x)from a x _ e).1
def Cf(a:HOk P w H h)(e:H x*>(exF C x)):∃t,h.get? x*>(eM C t):=by
 have(vs,c,d):=jB a e;have(t,rfl):=d rfl;show⟨t,c⟩
abbrev vg(K:Frag) (C:Addr):Bool:=match K.lookup C with
 | some o=>(match o.data with
  | .cls a=>decide (o.cls=.type "type")&&decide (o.slots.size=6)&&decide (o.slots[4]?*>(TV (.builtin "ValueError.__new__")))&&decide (a.mro.head?*>(.ref C)) &&  ~~~a.hasDel&&a.hasDict&&g9 a.mro.tail &&  ~~~a.mro.tail.contains (.type "AttributeError") &&  ~~~a.mro.tail.contains (.type "NameError")&&a.mro.tail.contains (.type "ValueError")
  | _=>TZ)
 | none=>TZ
structure ExK(K:Frag)(C:Addr):Prop where
 obj:vg K C=T1
 sa:OQ K (.ref C) "__setattr__" = TV (TV (.builtin "object.__setattr__"))
 ga:OQ K (.ref C) "__getattribute__" = TV (TV (.builtin "BaseException.__getattribute__"))
 g0:OQ K (.ref C) "__getattr__" = TV TU
 sub:Tv K (.ref C) (.type "BaseException")*>T1
 call:PB K (.ref C) "__call__" = TV (TV (.builtin "type.__call__"))
 typ:instIn K (.ref C) (.type "type")*>T1
 ca:OQ K (.ref C) "__class__" = TV (TV (.builtin "object.__class__"))
 cn:PB K (.builtin "object.__class__") "__get__" = TV (TV (.builtin "getset_descriptor.__get__"))
 ct:takesIn K (.builtin "object.__class__")*>T1
 cm:mroIn K C (.type "object")*>T1
def ku{K:Frag}{C:Addr}(e:vg K C=T1):∃r q N bs g d s sub p h t k0 k v u m,K.lookup C*>(Ri r q C N bs g d s sub p h t k0 k v u m "ValueError.__new__") /\
  g.contains (.type "ValueError")=T1/\g.contains (.type "AttributeError")=TZ/\g.contains (.type "NameError")=TZ/\g9 g=T1/\d=T1:=by
 unfold vg at e;ext e o J;ext e H i;dsimp[Ie,decide_eq_true_eq,Ji]at e;obtain⟨⟨⟨⟨⟨⟨⟨⟨⟨z,f⟩,y⟩,w⟩,a⟩,B⟩,j⟩,x⟩,E⟩,A⟩:=e;obtain⟨c,t,S,⟨l⟩⟩:=o;obtain⟨r,bs,M,P,G,L,s,sub,p,h,O⟩:=H;dsimp only at w a B i z y f j x E A;have(g,rfl):=List.head?_eq_some_iff.mp w;subst a B i z;have(k0,l,rfl):=IS (l:=l) (n:=5) f;have(k,l,rfl):=IS (l:=l) (n:=4) (Jn.inj f);have(v,l,rfl):=IS (l:=l) (n:=3) (Jn.inj (Jn.inj f));have(u,l,rfl):=IS (l:=l) (n:=2) (Jn.inj (Jn.inj (Jn.inj f)));have(Q,l,rfl):=IS (l:=l) (n:=1) (Jn.inj (Jn.inj (Jn.inj (Jn.inj f))));have(m,rfl):=List.length_eq_one_iff.mp (Jn.inj (Jn.inj (Jn.inj (Jn.inj (Jn.inj f)))));cases IC.inj y;show⟨r,G,P,bs,g,T1,s,sub,p,h,t,k0,k,v,u,m,J,A,x,E,j,Xr⟩
section
variable {X:Cx}{CX:CXT}{k:Nat}{C f:Addr}{fd:Om}{ps:!Str}{sp:Sp}{E:XK}{OK:!(Addr×Obj)}{Z:St}{H:Hp}{s:NC}
structure EMk(K:Frag)(C f:Addr):Prop where
 ex:ExK K C
 init:OQ K (.ref C) "__init__" = TV (TV (.ref f))
 fn:LB K (.ref f)=T1
 kp:Jf K (.ref C)=T1
def uw{Q:VK}{us:!Nz}{vs:!V}(M:EMk X.K C f)(F:M6 X.prog X.w X.K X.mg X.base CX k f fd ps sp)(O:MW (k+1) X.A)(G:M1 X.K fd ps [])(U:jw CX X E)(I:Inv X OK Z H s)(r:Vals vs us)(hz:us.length<=sizeLine)
  (h:∀x,H x=TU->sp (.ref x::vs) (upd H x (exF C x)) (λv L=>v=.non/\Q (.ref x) L) E) :
  NF (NK X.prog X.w) X.A (call (.ref C) us) (EP X OK Z Q) X.xe s:=by
 have m:=h (s.heap.objs.size+1) (I.hok.fresh (Km _));obtain⟨nm,q,N,bs,bm,y,sn,sub,ab,J,dd,k0,k1,k2,k3,k5,lk,c1,c2,c3,c4,c5⟩:=ku M.ex.obj;have c:((s.heap.push (kc us)).push (eM C s.heap.objs.size)).get? (s.heap.objs.size+1)*>(eM C s.heap.objs.size):=by
  have:=NI (s.heap.push (kc us)) (o:=eM C s.heap.objs.size) rfl;rwa [Od]at this
 have l:Inv X OK Z (upd H (s.heap.objs.size+1) (exF C (s.heap.objs.size+1))) {s with heap:=(s.heap.push (kc us)).push (eM C s.heap.objs.size)}:=
  I.laid (t':=s.toks) (λb u e=>NB _ (NB _ e)) (Km _) (vf c)
 have p:Vals (V.ref (s.heap.objs.size+1)::vs) (NY (s.heap.objs.size+1)::us):=.cons rfl r;have hl:(NY (s.heap.objs.size+1)::us++[]).length=ps.length:=by
  have e:=p.length;rw[F.len _ _ _ _ m]at e;rw[Iw];show e.symm
 have i:=G _ (NY (s.heap.objs.size+1)::us) l.kIn hl;rw[Iw]at i;have Y:=Po (F.run _ X.stack _ _ {NY (s.heap.objs.size+1)::us,[]} (NY (s.heap.objs.size+1)::us) _ _ E (O.make C us []) (l.env0.make C us []) i p m) (R':=PySem.W.InitBack (s.heap.objs.size+1) (wants (EP X OK Z Q) X.xe)) λr s' a=>?_
 .show O6 ?_;have(hp,g,d,t,os):=s;show vm c1 c2 c3 (I.kIn _ _ lk) hz (PySem.W.looks_specialIn I.kIn M.ex.call) (PySem.W.looks_instIn I.kIn M.ex.typ) (PySem.W.looks_findIn I.kIn M.init) (λj=>PySem.W.bind_fn I.kIn j (beq_iff_eq.mp M.fn)) Y
 .cases r with
  | error e=>show U OK Z _ _ e s' l a
  | ok fl=>
   cases fl with
   | ret u=>
    have(v,H',P,S,B,q3):=l.after a;subst B;show{S,{V.ref (s.heap.objs.size+1),H',P,Xr,q3}}
   | next=>show N5 a
   | brk=>show N5 a
   | cont=>show N5 a
end
open PySem.W (Frag clsIn findIn subIn specialIn instIn mroIn takesIn InstAt Looks)
abbrev exX(fs:!(Str×V)) (c:Addr):HO:=.ext λh=>∃a,h.Ns1 c a/\(∀f,RelO (fs.lookup f) (a f))/\PySem.Within a (fs.map (·.1))
def Cg(c:HOk P w H h)(e:H dx*>(exX fs dx)):∃a,h.Ns1 dx a/\(∀f,RelO (fs.lookup f) (a f))/\PySem.Within a (fs.map (·.1)):=(show MR P w H h dx (exX fs dx)from c dx _ e).1
def ExK.cls{K:Frag}{C:Addr}(x:ExK K C):∃a,TM K C*>a/\g9 a.mro=T1/\a.hasDict=T1:=by
 obtain⟨p,q,N,m,j,c,r,sub,o,e,i,f,g,l,k,h,d,c1,c2,c3,c4,c5⟩:=ku x.obj;show{_,by unfold TM;rw[d],c4,c5}
section
variable {X:Cx}{OK:!(Addr×Obj)}{Z:St}{H:Hp}{s:NC}{a C dx:Addr}{f:Str}{y v:V}{u:Nz}{A:NU}{E:Nz->NC->Prop}{fs:!(Str×V)}
def u8{c:Nz}{b:Bool}{Q:Nz->NC->Prop}(I:Inv X OK Z H s)(e:∃r,H a*>(exO r C TU a) \/ ∃dx fs,H a*>(exO r C (TV dx) a)/\H dx*>(exX fs dx))(ex:ExK X.K C)(k:IZ X.K (.ref C) c*>b)(h:∀o,Q (.bool b) {s with toks:=o}) :
  NF (NK X.prog X.w) A (call (.builtin "isinstance") [.ref a,c]) Q E s:=by
 have J:∃i d,InstAt s.heap a i C d:=by
  rcases e with⟨r,e|⟨dx,fs,e,l⟩⟩
  .obtain⟨vs,g,_⟩:=jB I.hok e;show{_,TU,g,Xr,Xr,trivial}
  .obtain⟨vs,g,_⟩:=jB I.hok e;obtain⟨q,m,_⟩:=Cg I.hok l;obtain⟨d,p,_⟩:=tM m;show{_,TV d,g,Xr,Xr,p}
 obtain⟨i,d,J⟩:=J;obtain⟨t,c1,_⟩:=ex.cls;show Ma (vG ex.ga ex.g0 ex.sub (by rw[c1];rfl) ex.ca ex.cn ex.ct ex.cm) I.kIn J k (λz=>nomatch z) h
end
end L2
namespace L2
open PySem PySem.Spec PySem.Calls PyProof.Rows PySem.W Builtin Builtin.ObjectAttr
def AQ{K:Frag}:Tl K (.type "ValueError") (.type "type") "__init__" = TV (.val (.builtin "ValueError.__init__")):=by rfl'
def BX:P9 (.type "ValueError")=pure (.type "type"):=by rfl'
def GW{K:Frag}:OQ K (.type "type") "__getattribute__" = TV (TV (.builtin "type.__getattribute__")):=by rfl'
def EC{K:Frag}:Tv K (.type "type") (.type "type")*>T1:=by rfl'
def GY:Tc (.type "ValueError") "__getattribute__" = pure (TV (.builtin "type.__getattribute__")):=by
 change P9 (.type "ValueError") >>= _=_;rw[BX,pure_bind,typeLookup_type,builtinLookup_eq_fast]
 rfl'
def GX:opaqueClassAbove (.type "ValueError")=pure TU:=by rfl'
def AR{prog:NM}{w:NP}{A:NU}{E:Nz->NC->Prop}{s:NC}{K:Frag}{pl:Sem Bool}{Q:Nz×!Nz->NC->Prop}(X:K.In s.heap)(h:Q (.builtin "ValueError.__init__",[]) {s with toks:=s.toks+1}) :
  NF (NK prog w) A (Rl (.type "ValueError") "__init__" pl) Q E s:=by
 unfold Rl;show NA (Se GY ?_);dsimp only;rw[if_pos canon_tga];show NA (cls_open X (Looks.of_pure GX) (Looks.of_pure BX) GW (Looks.of_pure (r:=TU) (by rfl')) EC AQ ?_);show ND ?_;change NF _ _ (Td (.builtin "ValueError.__init__")) _ _ _;show handed_on (by rfl') (ND h)
section
variable {X:Cx}{CX:CXT}{k:Nat}{C f:Addr}{fd:Om}{ps:!Str}{sp:Sp}{E:XK}{e o:Expr}{es:!Expr}{t:TA}{te ta tv:TE}{x:Str}{p ap pos:Pos}
abbrev yg(C:Addr)(sp:Sp)(E:XK)(t:TA):TE:=λZ H Q=>t Z H λvs a=>vs.length<=100/\∀x,a x=TU->sp (.ref x::vs) (upd a x (exF C x)) (λv c=>v=.non/\Q (.ref x) c) E
def tY(M:EMk X.K C f)(F:M6 X.prog X.w X.K X.mg X.base CX k f fd ps sp)(g:MW (k+1) X.A)(i:Gl X x)(c:X.mg x*>(.ref C))(j:M1 X.K fd ps [])(d:jw CX X E)
  (a:(x==("__debug__" : Str))=TZ:=by decide):PE X (.Call (.Name x p) [] [] pos) (yg C sp E yj):=by
 intro l s Z H Q I h;show OS (ib I i c ?_ a);show PySem.W.callWith_K0 I.kIn M.kp (uw (us:=[]) M F g j d I .nil (by rw[NE];decide) h.2)
abbrev Ey(K:Frag)(t:TA):TE:=λZ H Q=>t Z H λvs c=>∃a C,vs=[.ref a]/\c a*>(exF C a)/\ExK K C/\Q .non c
def EB{H:Hp}{a:Addr}{o:HO}(e:H a*>o):upd H a o=H:=by
 funext b;by_cases c:b=a;subst c;rw[aE,e];rw[upd_ne c]
def wu{pl:Sem Bool}(hg:Gl X "ValueError")(y:X.mg "ValueError" = TU)(A:PA X [e] t)(hs:bh e=TZ)
  (Y:eval (.Call (.Attribute (.Name "ValueError" p) "__init__" ap) [e] [] pos) X.env=(do
   let w <-eval (.Name "ValueError" p) X.env
   Pj ap.atName
   let (f,first) <-Ov [w] (Rl w "__init__" pl)
   Tw pos f first (OY pos (NR [e] X.env)) (RP pos (Ql [] X.env))):=by rfl) :
  PE X (.Call (.Attribute (.Name "ValueError" p) "__init__" ap) [e] [] pos) (Ey X.K t):=by
 intro z s Z H Q I h;show Lo (pl:=pl) (fQ (u:=.type "ValueError") I hg y (by rfl') ?_) Y;show AR I.kIn ?_;show Ky (thn (A pos z _ Z H _ (I.tok _) h) λus L M=>?_) (aM hs) rfl;obtain⟨vs,U,j,r,a,C,B,l,O,q⟩:=M;subst B;have(u,rfl,ru):=eU r;cases ru;have(b,P):=Cf j.hok l;obtain⟨nm,qn,N,bs,bm,v,sn,sub,ab,J,dd,k0,k1,k2,k3,k5,S,c1,c2,c3,c4,c5⟩:=ku O.obj;have(hp,g,d,tk,os):=L;show vk c1 (j.kIn _ _ S) P λm c i=>{.non,U,?_,Xr,q};have:=j.write (t':=tk) (x:=a) (e:=a) (o:=exF C a) (h':=m) (by rw[l];trivial) (.inl rfl) (λb o G q=>i b o G q) {_,c} (vf c);rw[EB l]at this;show this
def wn(M:Gl X x)(i:X.mg x*>(.ref B))(O:PB X.K (.ref B) "__getattribute__" = TV (TV (.builtin "type.__getattribute__")))(J:readsIn X.K B mc=T1)(z:Tl X.K (.ref B) mc "__init__" = TV (.val (.ref f)))
  (m:Tn X.K (.ref f)=T1) (u:SQ (.ref f)=T1) (F:M6 X.prog X.w X.K X.mg X.base CX k f fd ps sp) (L:MW k X.A) (v:M1 X.K fd ps []) (q:jw CX X E) (l:PA X [e] t) (hs:bh e=TZ) (a:(x==("__debug__" : Str))=TZ:=by decide)
  (G:eval (.Call (.Attribute (.Name x p) "__init__" ap) [e] [] pos) X.env=(do
   let g <-eval (.Name x p) X.env
   Pj ap.atName
   let (f,first) <-Ov [g] (Rl g "__init__" pl)
   Tw pos f first (OY pos (NR [e] X.env)) (RP pos (Ql [] X.env))):=by rfl) :
  PE X (.Call (.Attribute (.Name x p) "__init__" ap) [e] [] pos) (lx sp [] E t):=by
 intro j s Z H Q I h;show Lo (pl:=pl) (ib I M i ?_ a) G;show method_cls I.kIn O (cls_value I.kIn J z u ?_);have y:=I.tok (s.toks+1);show KY (first:=[]) (h₀:=X.base) I.ok.mod.kin m (thn (l pos j _ Z H _ y h) λd P ⟨vs,S,c,r,N⟩=>{c.kIn,?_}) (aM hs) rfl;show xY (us:=d) (vs:=vs) F L v .nil q c r N
end
end L2
namespace L2
open PySem PySem.Spec PyProof.Rows
open PySem.W (Frag clsIn findIn subIn specialIn instIn mroIn takesIn InstAt Looks keepIn readsIn findCls handedIn)
abbrev nV(K:Frag):Sp:=λvs H Q _=>∃a C,vs=[.ref a]/\H a*>(exF C a)/\ExK K C/\Q .non H
abbrev fv(o:Str)(e:Expr)(d g c:Pos):Prop:=∀a:Env,∃i:Sem Bool,eval (.Call (.Attribute (.Name o d) "__init__" g) [e] [] c) a=(do
 let h <-eval (.Name o d) a
 Pj g.atName
 let (f,first) <-Ov [h] (Rl h "__init__" i)
 Tw c f first (OY c (NR [e] a)) (RP c (Ql [] a)))
structure CIn(K:Frag)(B f:Addr):Prop where
 sp:PB K (.ref B) "__getattribute__" = TV (TV (.builtin "type.__getattribute__"))
 rd:readsIn K B (.type "type")=T1
 fc:Tl K (.ref B) (.type "type") "__init__" = TV (.val (.ref f))
 kp:Tn K (.ref f)=T1
 hh:SQ (.ref f)=T1
section
variable {P:NM}{W:NP}{K:Frag}{mg:Str->↑Nz}{base:Heap}{k j:Nat}{f g:Addr}{fd gd:Om}{st:Stmt}{qn:Str}{p1 p2 p3 p4 p5 p6 p7 p8 p9 p10 p11 p12 p13 p14 p15 p16 p17:Pos}{spk:Sp}{A B:Str}{F G:Str}{HE:Addr}
def zb(t:Fun K "__init__" qn st f fd)(S:td ["self"] ["self"] (ai st))(p:aP st=[.Expr (.Call (.Attribute (.Name "ValueError" p1) "__init__" p2) [.Name "self" p3] [] p4) p5])(l:mg "ValueError" = TU)
  (v:(ai st).names.lookup (NL "ValueError")*>.globalImplicit) (m:Vis (ai st) "self") (o:fv "ValueError" (.Name "self" p3) p1 p2 p4):M6 P W K mg base CX0 (k+1) f fd ["self"] (nV K):=by
 show t.ok S (λvs H Q E ⟨a,C,e,_⟩=>by rw[e];rfl) λd A c s H vs Q E x h=>?_;have(a,C,rfl,r,u,q):=h;rw[p];have(w,e):=o (iJ CX0 P W K mg base ["self"] qn (ai st) f d A c s H E).nox.env;show{_,kD (nD (wu v l (ny (lc (i:=0) rfl m) fY) rfl e)),.ref a,Xr,a,C,Xr,r,u,q}
def yT{X:Cx}(l:X.K=K)(s:X.prog=P)(q:X.w=W)(v:X.mg=mg)(c:X.base=base)(t:MW k X.A)(a:CIn K HE g)(h:M6 P W K mg base CX0 k g gd ["self"] (nV K))(o:M1 K gd ["self"] [])(d:mg "HouseError" = TV (.ref HE))(u:Gl X "HouseError"){i:Nat}(m:X.N[i]?*>"self")(p:Vis X.env.scope "self")(r:fv "HouseError" (.Name "self" p3) p1 p2 p4) :
  PS X (.Expr (.Call (.Attribute (.Name "HouseError" p1) "__init__" p2) [.Name "self" p3] [] p4) p5) (yf (lx (nV K) [] E0 (pi (ym i) yj))):=by
 subst l s q v c;have(x,e):=r X.env;show nD (wn u d a.sp a.rd a.fc a.kp a.hh h t o wl (ny (lc m p) fY) rfl (by decide) e)
def Cs(x:Fun K "__init__" qn st f fd)(S:td ["self"] ["self"] (ai st))(u:aP st=[.Expr (.Call (.Attribute (.Name "HouseError" p1) "__init__" p2) [.Name "self" p3] [] p4) p5])(p:CIn K HE g)(m:M6 P W K mg base CX0 k g gd ["self"] (nV K))(o:M1 K gd ["self"] [])(l:mg "HouseError" = TV (.ref HE))
  (z:(ai st).names.lookup (NL "HouseError")*>.globalImplicit) (r:Vis (ai st) "self") (t:fv "HouseError" (.Name "self" p3) p1 p2 p4):M6 P W K mg base CX0 (k+1) f fd ["self"] (nV K):=by
 show x.ok S (λvs H Q E ⟨a,C,e,_⟩=>by rw[e];rfl) λd A c s H vs Q E v h=>?_;have(a,C,rfl,w,y,q):=h;rw[u];show{_,kD (yT (X:=(iJ CX0 P W K mg base ["self"] qn (ai st) f d A c s H E).nox) rfl rfl rfl rfl rfl v p m o l z (i:=0) rfl r t),.ref a,Xr,a,C,Xr,w,y,q}
end
inductive I where
 | non|bl (b:Bool)|int (i:Int)|str (x:Str)|tup (is:!I)|ls (is:!I)
 | fd (ks:!Key) (is:!I)
 | exn (x:Str) (ks:!Str) (is:!I)
mutual
def I.beq:I->I->Bool
 | .non,b=>(match b with|.non=>T1|_=>TZ)
 | .bl a,b=>(match b with|.bl b=>a==b|_=>TZ)
 | .int a,b=>(match b with|.int b=>decide (a=b)|_=>TZ)
 | .str a,b=>(match b with|.str b=>decide (a=b)|_=>TZ)
 | .tup a,b=>(match b with|.tup b=>I.beqs a b|_=>TZ)
 | .ls a,b=>(match b with|.ls b=>I.beqs a b|_=>TZ)
 | .fd k a,b=>(match b with|.fd j b=>decide (k=j)&&I.beqs a b|_=>TZ)
 | .exn x k a,b=>(match b with|.exn y j b=>decide (x=y/\k=j)&&I.beqs a b|_=>TZ)
def I.beqs:!I->!I->Bool
 | [],b=>b.isEmpty
 | a::c,b=>(match b with|b::d=>I.beq a b&&I.beqs c d|[]=>TZ)
end
mutual
theorem I.beq_iff:∀{a b:I},I.beq a b=T1↔a=b
 | .non,b=>by cases b<;>simp[I.beq]
 | .bl x,b=>by cases b<;>simp[I.beq]
 | .int x,b=>by cases b<;>simp[I.beq]
 | .str x,b=>by cases b<;>simp[I.beq]
 | .tup x,b=>by
  cases b with
  | tup y=>dsimp[I.beq,I.beqs_iff,I.tup.injEq]
  | _=>simp[I.beq]
 | .ls x,b=>by
  cases b with
  | ls y=>dsimp[I.beq,I.beqs_iff,I.ls.injEq]
  | _=>simp[I.beq]
 | .fd k x,b=>by
  cases b with
  | fd j y=>dsimp[I.beq,Ie,I.beqs_iff,I.fd.injEq,decide_eq_true_iff]
  | _=>simp[I.beq]
 | .exn z k x,b=>by
  cases b with
  | exn w j y=>dsimp[I.beq,Ie,I.beqs_iff,I.exn.injEq,decide_eq_true_iff,and_assoc]
  | _=>simp[I.beq]
theorem I.beqs_iff:∀{a b:!I},I.beqs a b=T1↔a=b
 | [],b=>by cases b<;>simp[I.beqs]
 | x::c,b=>by
  cases b with
  | nil=>simp[I.beqs]
  | cons y d=>dsimp[I.beqs,Ie,I.beq_iff,I.beqs_iff,KS.injEq]
end
instance:DecidableEq I:=λa b=>decidable_of_iff (I.beq a b=T1) I.beq_iff
inductive T where
 | im (i:I)|tup (ts:!T)|li (is:!I)|lst (ts:!T)|di (kvs:!(I×I))|dc (kvs:!(I×T))|ins (x:Str) (fs:!(Str×T))
 | dq (kvs:!(I×I))
abbrev Cy:Key->I
 | .inl i=>.int i
 | .inr x=>.str x
abbrev DAt(K:yF)(H:Hp)(a:Addr)(ks:!(I×V)):Prop:=∃c:!(Key×V),H a*>(.dK c)/\ks=c.map λp=>(Cy p.1,p.2)
mutual
def RpI(K:yF)(H:Hp):I->V->Prop
 | .non,v=>v=.non
 | .bl b,v=>v=.bl b
 | .int i,v=>v=.int i
 | .str x,v=>v=.str x
 | .tup c,v=>∃a e,v=.ref a/\SqT K H a e/\ek K H c e
 | .ls c,v=>∃a o e,v=.ref a/\H a*>(.frz o (.lst e))/\ek K H c e
 | .fd f c,v=>∃a o d,v=.ref a/\H a*>(.frz o (.dK d))/\d.map (·.1)=f/\ek K H c (d.map (·.2))
 | .exn x f c,v=>∃C a,v=.ref a/\IW K NO x*>(TV (.ref C))/\∃b,(f=[]/\c=[]/\H a*>(exO b C TU a) \/ ∃g d,H a*>(exO b C (TV g) a)/\H g*>(exX d g)/\d.map (·.1)=f/\ek K H c (d.map (·.2)))
def ek(K:yF)(H:Hp):!I->!V->Prop
 | [],a=>a=[]
 | t::c,a=>∃x r,a=x::r/\RpI K H t x/\ek K H c r
end
abbrev k1I:K1->I
 | .inl k=>Cy k
 | .inr a=>.tup (a.map Cy)
abbrev Fc(ks:!K1):I:=.tup (ks.map k1I)
protected def QA1(K:yF)(H:Hp)(p:I×I)(y:!K1×Addr×V):Prop:=Fc y.1=p.1/\RpI K H p.1 (.ref y.2.1)/\RpI K H p.2 y.2.2
mutual
def Rp(K:yF)(H:Hp):T->V->!Addr->Prop
 | .im i,v,F=>RpI K H i v/\F=[]
 | .tup g,v,F=>∃a e,v=.ref a/\Rd H a (.tup e)/\Rps K H g e F
 | .li h,v,F=>∃a e,v=.ref a/\Rd H a (.lst e)/\ek K H h e/\F=[a]
 | .lst g,v,F=>∃a e f,v=.ref a/\Rd H a (.lst e)/\Rps K H g e f/\F=a::f
 | .di c,v,F=>∃a d,v=.ref a/\DAt K H a d/\ek K H (c.map (·.2)) (d.map (·.2))/\d.map (·.1)=c.map (·.1)/\F=[a]
 | .dc c,v,F=>∃a d f,v=.ref a/\DAt K H a d/\Rpk K H c d f/\F=a::f
 | .ins x j,v,F=>∃C a k d f,IW K NO x*>(TV (.ref C))/\v=.ref a/\H a*>(.ins C k d)/\Rpf K H j d f/\F=a::f
 | .dq c,v,F=>∃a d,v=.ref a/\H a*>(.dT d)/\Paired (QA1 K H) c d/\F=[a]
def Rps(K:yF)(H:Hp):!T->!V->!Addr->Prop
 | [],a,F=>a=[]/\F=[]
 | t::e,a,F=>∃x r d c,a=x::r/\Rp K H t x d/\Rps K H e r c/\F=d++c
def Rpk(K:yF)(H:Hp):!(I×T)->!(I×V)->!Addr->Prop
 | [],a,F=>a=[]/\F=[]
 | (k,t)::e,a,F=>∃x r d c,a=(k,x)::r/\Rp K H t x d/\Rpk K H e r c/\F=d++c
def Rpf(K:yF)(H:Hp):!(Str×T)->!(Str×V)->!Addr->Prop
 | [],a,F=>a=[]/\F=[]
 | (k,t)::e,a,F=>∃x r d c,a=(k,x)::r/\Rp K H t x d/\Rpf K H e r c/\F=d++c
end
abbrev HC:HO->Bool
 | .lst _=>T1|.dK _=>T1|.dT _=>T1|.ins _ _ _=>T1|_=>TZ
abbrev Mu(H:Hp)(a:Addr):Prop:=∃o,H a*>o/\HC o=T1
abbrev MQ(M:!Addr)(H H':Hp):Prop:=∀b o,H b*>o->b∉M->H' b*>o
def MY.offM(s:MY H H')(M:!Addr):MQ M H H':=λb o h _=>s b o h
def MQ.refl(M:!Addr)(H:Hp):MQ M H H:=λb o h _=>h
def MQ.mono(x:MQ M H H1)(y:∀a∈M,a∈M'):MQ M' H H1:=λb o h n=>x b o h λz=>n (y b z)
def MQ.upd:MQ [a] H (upd H a o):=λb u h n=>by rw[upd_ne (by exists n)];show h
def MQ.rd(x:MQ M H H')(n:a∉M)(h:Rd H a o):Rd H' a o:=by
 rcases h with h|⟨u,h⟩;show .inl (x a _ h n);show .inr {u,x a _ h n}
def MQ.rdT{M:!Addr}{H H':Hp}{a:Addr}{xs:!V}(x:MQ M H H')(c:∀b∈M,Mu H b)(h:Rd H a (.tup xs)):Rd H' a (.tup xs):=by
 rcases h with h|⟨u,h⟩;show .inl (x a _ h λz=>by have(o,e,m):=c a z;rw[h]at e;cases e;cases m);show .inr {u,x a _ h λz=>by have(o,e,m):=c a z;rw[h]at e;cases e;cases m}
def MQ.sqT{K:yF}{M:!Addr}{H H':Hp}{a:Addr}{xs:!V}(x:MQ M H H')(c:∀b∈M,Mu H b)(h:SqT K H a xs):SqT K H' a xs:=by
 rcases h with h|h;show .inl (x.rdT c h);show .inr h
def DAt.off{K:yF}{M:!Addr}{H H':Hp}{a:Addr}{ks:!(I×V)}(x:MQ M H H')(n:a∉M)(h:DAt K H a ks):DAt K H' a ks:=by
 have(e,d,c):=h;show{e,x a _ d n,c}
def DAt.dom{K:yF}{H:Hp}{a:Addr}{ks:!(I×V)}(h:DAt K H a ks):∃o,H a*>o:=by
 have(e,c,d):=h;show{_,c}
def Rd.dom(h:Rd H a u):∃o,H a*>o:=by
 rcases h with h|⟨o,h⟩;show{_,h};show{_,h}
mutual
theorem RpI.off{K:yF}{M:!Addr}{H H':Hp}(x:MQ M H H')(f:∀b∈M,Mu H b):∀{t:I} {v:V},RpI K H t v->RpI K H' t v
 | .non,_,h=>by rw[RpI]at h|-;show h
 | .bl _,_,h=>by rw[RpI]at h|-;show h
 | .int _,_,h=>by rw[RpI]at h|-;show h
 | .str _,_,h=>by rw[RpI]at h|-;show h
 | .tup j,_,h=>by rw[RpI]at h|-;have(a,r,i,c,d):=h;show{a,r,i,x.sqT f c,ek.off x f d}
 | .ls j,_,h=>by
  rw[RpI]at h|-;have(a,o,r,i,c,d):=h;show{a,o,r,i,x a _ c (λz=>by have(u,e,m):=f a z;rw[c]at e;cases e;cases m),ek.off x f d}
 | .fd y j,_,h=>by
  rw[RpI]at h|-;have(a,o,p,i,c,d,w):=h;show{a,o,p,i,x a _ c (λz=>by have(u,e,m):=f a z;rw[c]at e;cases e;cases m),d,ek.off x f w}
 | .exn z y j,_,h=>by
  have g:∀{b:Addr} {l : Heap->Prop},H b*>(.ext l)->H' b*>(.ext l):=λ{b l} c=>x b _ c λz=>by have(u,e,m):=f b z;rw[c]at e;cases e;cases m
  rw[RpI]at h|-;obtain⟨C,a,i,c,d⟩:=h;obtain⟨b,d⟩:=d;show{C,a,i,c,b,?_};rcases d with⟨k,s,q⟩|⟨A,p,k,s,q,B⟩;show .inl {k,s,g q};show .inr {A,p,g k,g s,q,ek.off x f B}
theorem ek.off{K:yF}{M:!Addr}{H H':Hp}(x:MQ M H H')(a:∀b∈M,Mu H b):∀{ts:!I} {xs:!V},ek K H ts xs->ek K H' ts xs
 | [],_,h=>by rw[ek]at h|-;show h
 | t::ts,_,h=>by
  rw[ek]at h|-;have(y,r,e,d,c):=h;show{y,r,e,RpI.off x a d,ek.off x a c}
end
mutual
theorem Rp.off{K:yF}{M:!Addr}{H H':Hp}(x:MQ M H H')(g:∀b∈M,Mu H b):∀{t:T} {v:V} {F:!Addr},(∀a∈F,a∉M)->Rp K H t v F->Rp K H' t v F
 | .im _,_,_,_,h=>by rw[Rp]at h|-;show{RpI.off x g h.1,h.2}
 | .tup l,_,_,n,h=>by rw[Rp]at h|-;have(a,f,e,d,c):=h;show{a,f,e,x.rdT g d,Rps.off x g n c}
 | .li l,_,_,n,h=>by
  rw[Rp]at h|-;have(a,f,e,d,c,rfl):=h;show{a,f,e,x.rd (n a ymS) d,ek.off x g c,Xr}
 | .lst l,_,_,n,h=>by
  rw[Rp]at h|-;have(a,f,k,e,d,c,rfl):=h;show{a,f,k,e,x.rd (n a ymS) d,Rps.off x g (λb j=>n b (ymC _ j)) c,Xr}
 | .di i,_,_,n,h=>by
  rw[Rp]at h|-;have(a,f,e,d,c,q,rfl):=h;show{a,f,e,d.off x (n a ymS),ek.off x g c,q,Xr}
 | .dc i,_,_,n,h=>by
  rw[Rp]at h|-;have(a,f,k,e,d,c,rfl):=h;show{a,f,k,e,d.off x (n a ymS),Rpk.off x g (λb j=>n b (ymC _ j)) c,Xr}
 | .ins C s,_,_,n,h=>by
  rw[Rp]at h|-;obtain⟨C,a,r,f,k,m,e,d,c,rfl⟩:=h;show{C,a,r,f,k,m,e,x a _ d (n a ymS),Rpf.off x g (λb j=>n b (ymC _ j)) c,Xr}
 | .dq i,_,_,n,h=>by
  rw[Rp]at h|-;have(a,o,e,d,c,rfl):=h;show{a,o,e,x a _ d (n a ymS),Paired.mapP c λp y z=>{z.1,RpI.off x g z.2.1,RpI.off x g z.2.2},Xr}
theorem Rps.off{K:yF}{M:!Addr}{H H':Hp}(x:MQ M H H')(d:∀b∈M,Mu H b):∀{ts:!T} {xs:!V} {F:!Addr},(∀a∈F,a∉M)->Rps K H ts xs F->Rps K H' ts xs F
 | [],_,_,_,h=>by rw[Rps]at h|-;show h
 | t::ts,_,_,n,h=>by
  rw[Rps]at h|-;have(y,r,e,g,j,i,f,rfl):=h;show{y,r,e,g,j,Rp.off x d (λb c=>n b (yaL _ c)) i,Rps.off x d (λb c=>n b (yaR _ c)) f,Xr}
theorem Rpk.off{K:yF}{M:!Addr}{H H':Hp}(x:MQ M H H')(d:∀b∈M,Mu H b):∀{ts:!(I×T)} {xs:!(I×V)} {F:!Addr},(∀a∈F,a∉M)->Rpk K H ts xs F->Rpk K H' ts xs F
 | [],_,_,_,h=>by rw[Rpk]at h|-;show h
 | (k,t)::ts,_,_,n,h=>by
  rw[Rpk]at h|-;have(y,r,e,g,j,i,f,rfl):=h;show{y,r,e,g,j,Rp.off x d (λb c=>n b (yaL _ c)) i,Rpk.off x d (λb c=>n b (yaR _ c)) f,Xr}
theorem Rpf.off{K:yF}{M:!Addr}{H H':Hp}(x:MQ M H H')(d:∀b∈M,Mu H b):∀{ts:!(Str×T)} {xs:!(Str×V)} {F:!Addr},(∀a∈F,a∉M)->Rpf K H ts xs F->Rpf K H' ts xs F
 | [],_,_,_,h=>by rw[Rpf]at h|-;show h
 | (k,t)::ts,_,_,n,h=>by
  rw[Rpf]at h|-;have(y,r,e,g,j,i,f,rfl):=h;show{y,r,e,g,j,Rp.off x d (λb c=>n b (yaL _ c)) i,Rpf.off x d (λb c=>n b (yaR _ c)) f,Xr}
end
def Rp.same{K:yF}{H H':Hp}(x:MY H H'){t:T}{v:V}{F:!Addr}(h:Rp K H t v F):Rp K H' t v F:=Rp.off (x.offM []) ∅ ∅ h
def Rps.same{K:yF}{H H':Hp}(x:MY H H'){t:!T}{v:!V}{F:!Addr}(h:Rps K H t v F):Rps K H' t v F:=Rps.off (x.offM []) ∅ ∅ h
def ek.same{K:yF}{H H':Hp}(x:MY H H'){t:!I}{v:!V}(h:ek K H t v):ek K H' t v:=ek.off (x.offM []) ∅ h
mutual
theorem Rp.dom{K:yF}{H:Hp}:∀{t:T} {v:V} {F:!Addr},Rp K H t v F->∀a∈F,∃o,H a*>o
 | .im _,_,_,h=>by rw[Rp]at h;rw[h.2];simp
 | .tup f,_,_,h=>by rw[Rp]at h;obtain⟨_,_,_,_,h⟩:=h;show Rps.dom h
 | .li f,_,_,h=>by
  rw[Rp]at h;have(a,i,g,d,e,rfl):=h;intro b c;rw[ysM c];show d.dom
 | .lst f,_,_,h=>by
  rw[Rp]at h;have(a,i,j,g,d,e,rfl):=h;intro b c;rcases ycM c with rfl|c;show d.dom;show Rps.dom e b c
 | .di f,_,_,h=>by
  rw[Rp]at h;have(a,i,g,d,e,m,rfl):=h;intro b c;rw[ysM c];show d.dom
 | .dc f,_,_,h=>by
  rw[Rp]at h;have(a,i,j,g,d,e,rfl):=h;intro b c;rcases ycM c with rfl|c;show d.dom;show Rpk.dom e b c
 | .ins C f,_,_,h=>by
  rw[Rp]at h;obtain⟨C,a,p,i,j,k,g,d,e,rfl⟩:=h;intro b c;rcases ycM c with rfl|c;show{_,d};show Rpf.dom e b c
 | .dq f,_,_,h=>by
  rw[Rp]at h;have(a,l,g,d,e,rfl):=h;intro b c;rw[ysM c];show{_,d}
theorem Rps.dom{K:yF}{H:Hp}:∀{ts:!T} {xs:!V} {F:!Addr},Rps K H ts xs F->∀a∈F,∃o,H a*>o
 | [],_,_,h=>by rw[Rps]at h;rw[h.2];simp
 | t::ts,_,_,h=>by
  rw[Rps]at h;have(y,r,f,g,i,e,d,rfl):=h;intro b c;rcases yaM c with c|c;show Rp.dom e b c;show Rps.dom d b c
theorem Rpk.dom{K:yF}{H:Hp}:∀{ts:!(I×T)} {xs:!(I×V)} {F:!Addr},Rpk K H ts xs F->∀a∈F,∃o,H a*>o
 | [],_,_,h=>by rw[Rpk]at h;rw[h.2];simp
 | (k,t)::ts,_,_,h=>by
  rw[Rpk]at h;have(y,r,f,g,i,e,d,rfl):=h;intro b c;rcases yaM c with c|c;show Rp.dom e b c;show Rpk.dom d b c
theorem Rpf.dom{K:yF}{H:Hp}:∀{ts:!(Str×T)} {xs:!(Str×V)} {F:!Addr},Rpf K H ts xs F->∀a∈F,∃o,H a*>o
 | [],_,_,h=>by rw[Rpf]at h;rw[h.2];simp
 | (k,t)::ts,_,_,h=>by
  rw[Rpf]at h;have(y,r,f,g,i,e,d,rfl):=h;intro b c;rcases yaM c with c|c;show Rp.dom e b c;show Rpf.dom d b c
end
def ek.nil{K:yF}{H:Hp}:ek K H [] []:=by rw[ek]
def ek.cons{K:yF}{H:Hp}{t:I}{ts:!I}{x:V}{xs:!V}(h:RpI K H t x)(hs:ek K H ts xs):ek K H (t::ts) (x::xs):=by rw[ek];show⟨x,xs,Xr,h,hs⟩
def ek.cons_inv{K:yF}{H:Hp}{t:I}{ts:!I}{xs:!V}(h:ek K H (t::ts) xs):∃x r,xs=x::r/\RpI K H t x/\ek K H ts r:=by rw[ek]at h;show h
def ek.nil_inv{K:yF}{H:Hp}{xs:!V}(h:ek K H [] xs):xs=[]:=by rw[ek]at h;show h
def ek.length{K:yF}{H:Hp}:∀{ts:!I} {xs:!V},ek K H ts xs->xs.length=ts.length
 | [],xs,h=>by rw[h.nil_inv];rfl
 | d::c,xs,h=>by have(x,r,rfl,_,a):=h.cons_inv;rw[Im,Im,a.length]
def ek.get{K:yF}{H:Hp}:∀{ts:!I} {xs:!V} {i:Nat} {t:I},ek K H ts xs->ts[i]?*>t->∃x,xs[i]?*>x/\RpI K H t x
 | [],_,_,_,_,e=>by simp at e
 | d::f,xs,0,g,h,e=>by
  have(x,r,rfl,c,a):=h.cons_inv;simp at e;subst e;show⟨x,Xr,c⟩
 | d::f,xs,i+1,g,h,e=>by
  have(x,r,rfl,c,a):=h.cons_inv;have(y,j,k):=ek.get (i:=i) a (by exists e);show{y,by simpa using j,k}
def ek.append{K:yF}{H:Hp}:∀{e a:!I} {xs c:!V},ek K H e xs->ek K H a c->ek K H (e++a) (xs++c)
 | [],a,xs,c,h,f=>by obtain rfl:=h.nil_inv;show f
 | d::e,a,xs,c,h,f=>by
  have(x,r,rfl,i,g):=h.cons_inv;show ek.cons i (ek.append g f)
def ek.take{K:yF}{H:Hp}:∀{ds:!I} {xs:!V} (n:Nat),ek K H ds xs->ek K H (ds.take n) (xs.take n)
 | ds,xs,0,h=>by dsimp[Mg];show ek.nil
 | [],xs,n+1,h=>by obtain rfl:=h.nil_inv;show ek.nil
 | d::ds,xs,n+1,h=>by
  have(x,r,rfl,c,a):=h.cons_inv;show ek.cons c (ek.take n a)
def ek.drop{K:yF}{H:Hp}:∀{ds:!I} {xs:!V} (n:Nat),ek K H ds xs->ek K H (ds.drop n) (xs.drop n)
 | ds,xs,0,h=>h
 | [],xs,n+1,h=>by obtain rfl:=h.nil_inv;show ek.nil
 | d::ds,xs,n+1,h=>by
  have(x,r,rfl,c,a):=h.cons_inv;show ek.drop n a
def ek.one{K:yF}{H:Hp}{t:I}{x:V}(h:RpI K H t x):ek K H [t] [x]:=.cons h .nil
def ek.reverse{K:yF}{H:Hp}:∀{a:!I} {xs:!V},ek K H a xs->ek K H a.reverse xs.reverse
 | [],xs,h=>by obtain rfl:=h.nil_inv;show ek.nil
 | d::a,xs,h=>by
  have(x,r,rfl,e,c):=h.cons_inv;rw[IG,IG];show ek.append (ek.reverse c) (.one e)
def ek.set{K:yF}{H:Hp}{t:I}{x:V}(e:RpI K H t x):∀{a:!I} {xs:!V} (n:Nat),ek K H a xs->ek K H (a.set n t) (xs.set n x)
 | [],xs,n,h=>by obtain rfl:=h.nil_inv;show ek.nil
 | d::a,xs,0,h=>by have(y,r,rfl,f,c):=h.cons_inv;show ek.cons e c
 | d::a,xs,n+1,h=>by have(y,r,rfl,f,c):=h.cons_inv;show ek.cons f (ek.set e n c)
def ek.ints{K:yF}{H:Hp}:∀(ns:!Int),ek K H (ns.map I.int) (ns.map V.int)
 | []=>ek.nil
 | n::ns=>ek.cons (by rw[RpI]) (ek.ints ns)
def Rps.nil{K:yF}{H:Hp}:Rps K H [] [] []:=by rw[Rps];show⟨Xr,Xr⟩
def Rps.cons{K:yF}{H:Hp}{t:T}{ts:!T}{x:V}{xs:!V}{F F':!Addr}(h:Rp K H t x F)(hs:Rps K H ts xs F'):Rps K H (t::ts) (x::xs) (F++F'):=by rw[Rps];show⟨x,xs,F,F',Xr,h,hs,Xr⟩
def Rps.cons_inv{K:yF}{H:Hp}{t:T}{ts:!T}{xs:!V}{F:!Addr}(h:Rps K H (t::ts) xs F):∃x r c a,xs=x::r/\Rp K H t x c/\Rps K H ts r a/\F=c++a:=by rw[Rps]at h;show h
def Rps.nil_inv{K:yF}{H:Hp}{xs:!V}{F:!Addr}(h:Rps K H [] xs F):xs=[]/\F=[]:=by rw[Rps]at h;show h
def Rps.length{K:yF}{H:Hp}:∀{ts:!T} {xs:!V} {F:!Addr},Rps K H ts xs F->xs.length=ts.length
 | [],xs,_,h=>by rw[h.nil_inv.1];rfl
 | d::c,xs,_,h=>by have(x,r,_,_,rfl,_,a,_):=h.cons_inv;rw[Im,Im,a.length]
def Rps.append{K:yF}{H:Hp}:∀{e a:!T} {xs c:!V} {F G:!Addr},Rps K H e xs F->Rps K H a c G->Rps K H (e++a) (xs++c) (F++G)
 | [],a,xs,c,F,G,h,f=>by have(rfl,rfl):=h.nil_inv;show f
 | d::e,a,xs,c,F,G,h,f=>by
  have(x,r,j,k,rfl,i,g,rfl):=h.cons_inv;rw[Iy];show Rps.cons i (Rps.append g f)
def Rps.at{K:yF}{H:Hp}:∀{ts:!T} {xs:!V} {F:!Addr} {i:Nat} {t:T},Rps K H ts xs F->ts[i]?*>t ->
  ∃x A G B,xs[i]?*>x/\Rp K H t x G/\F=A++G++B/\Rps K H (ts.take i) (xs.take i) A/\Rps K H (ts.drop (i+1)) (xs.drop (i+1)) B
 | [],_,_,_,_,_,e=>by simp at e
 | d::j,xs,_,0,m,h,e=>by
  have(x,r,a,g,rfl,f,c,rfl):=h.cons_inv;simp at e;subst e;show{x,[],a,g,Xr,f,by simp,Rps.nil,by simpa using c}
 | d::j,xs,_,i+1,m,h,e=>by
  have(x,r,a,g,rfl,f,c,rfl):=h.cons_inv;have(y,A,G,B,o,k,p,l,q):=Rps.at (i:=i) c (by exists e);show{y,a++A,G,B,by simpa using o,k,by rw[p];simp,?_,by simpa using q};simpa using Rps.cons f l
def Rps.take{K:yF}{H:Hp}:∀{ds:!T} {xs:!V} {F:!Addr} (n:Nat),Rps K H ds xs F->∃G a,Rps K H (ds.take n) (xs.take n) G/\Rps K H (ds.drop n) (xs.drop n) a/\F=G++a
 | ds,xs,F,0,h=>{[],F,by dsimp[Mg];show Rps.nil,by simpa using h,Xr}
 | [],xs,F,n+1,h=>by have(rfl,rfl):=h.nil_inv;show{[],[],Rps.nil,Rps.nil,Xr}
 | d::ds,xs,F,n+1,h=>by
  have(x,r,c,j,rfl,i,g,rfl):=h.cons_inv;have(G,a,e,f,rfl):=Rps.take n g;show{c++G,a,Rps.cons i e,f,by rw[Iy]}
def Rps.ims{K:yF}{H:Hp}:∀{is:!I} {xs:!V} {F:!Addr},Rps K H (is.map T.im) xs F↔(ek K H is xs/\F=[])
 | [],xs,F=>by rw[J3,Rps,ek]
 | i::is,xs,F=>by
  rw[Ir,Rps,ek];constructor
  .rintro⟨x,r,e,d,rfl,a,c,rfl⟩;rw[Rp]at a;have:=Rps.ims.mp c;show{⟨x,r,Xr,a.1,this.1⟩,by rw[a.2,this.2];rfl}
  .rintro⟨⟨x,r,rfl,a,c⟩,rfl⟩;show{x,r,[],[],Xr,by rw[Rp];show⟨a,Xr⟩,Rps.ims.mpr ⟨c,Xr⟩,Xr}
def j9{K:yF}{H:Hp}{i:I}{v:V}(h:RpI K H i v):Rp K H (.im i) v []:=by rw[Rp];show⟨h,Xr⟩
def bq{K:yF}{H:Hp}{i:I}{v:V}{F:!Addr}(h:Rp K H (.im i) v F):RpI K H i v/\F=[]:=by rw[Rp]at h;show h
abbrev I.sc:I->↑V
 | .non=>TV .non|.bl b=>TV (.bl b)|.int i=>TV (.int i)|.str x=>TV (.str x)|.tup _=>TU|.ls _=>TU|.fd _ _=>TU|.exn _ _ _=>TU
def ju{t:I}{K:yF}{H:Hp}{v:V}(h:t.sc*>v):RpI K H t v:=by
 cases t<;>dsimp[I.sc]at h<;>cases h<;>rw[RpI]
def BO{t:I}{K:yF}{H:Hp}{v w:V}(h:t.sc*>v)(r:RpI K H t w):w=v:=by
 cases t<;>dsimp[I.sc]at h<;>cases h<;>rw[RpI]at r<;>show r
inductive Ac where
 | ix (n:Nat)|ky (k:I)|fd (f:Str)|tp (n:Nat)
 deriving DecidableEq
abbrev fR{a c:Type} [DecidableEq a]:!(a × c)->a->↑c
 | [],_=>TU
 | (d,t)::r,k=>if d=k then TV t else fR r k
abbrev lh{a c:Type} [DecidableEq a]:!(a × c)->a->c->!(a × c)
 | [],_,_=>[]
 | (d,t)::r,k,s=>if d=k then(d,s)::r else(d,t)::lh r k s
abbrev jU:T->Ac->↑T
 | .lst c,.ix n=>c[n]?
 | .dc a,.ky k=>fR a k
 | .ins _ d,.fd f=>fR d f
 | .tup c,.tp n=>c[n]?
 | _,_=>TU
abbrev put1:T->Ac->T->T
 | .lst a,.ix n,s=>.lst (a.set n s)
 | .dc c,.ky k,s=>.dc (lh c k s)
 | .ins C d,.fd f,s=>.ins C (lh d f s)
 | .tup a,.tp n,s=>.tup (a.set n s)
 | t,_,_=>t
abbrev T.sub:T->!Ac->↑T
 | t,[]=>TV t
 | t,a::p=>(jU t a).bind λs=>s.sub p
abbrev T.put:T->!Ac->T->T
 | _,[],s=>s
 | t,a::p,s=>match jU t a with
  | some u=>put1 t a (u.put p s)
  | none=>t
abbrev at1(K:yF)(H:Hp):V->Ac->V->Prop
 | v,.ix n,w=>∃a c,v=.ref a/\H a*>(.lst c)/\c[n]?*>w
 | v,.ky k,w=>∃a d,v=.ref a/\DAt K H a d/\fR d k*>w
 | v,.fd f,w=>∃a C e d,v=.ref a/\H a*>(.ins C e d)/\fR d f*>w
 | v,.tp n,w=>∃a c,v=.ref a/\Rd H a (.tup c)/\c[n]?*>w
abbrev atP(K:yF)(H:Hp):V->!Ac->V->Prop
 | v,[],w=>w=v
 | v,a::p,w=>∃u,at1 K H v a u/\atP K H u p w
def DAt.det{K:yF}{H:Hp}{a:Addr}{xs d:!(I×V)}(h:DAt K H a xs)(g:DAt K H a d):xs=d:=by
 have(i,f,rfl):=h;have(e,c,rfl):=g;rw[f]at c;cases c;rfl
def sE{H:Hp}{a:Addr}{xs c:!V}(h:Rd H a (.tup xs))(g:Rd H a (.tup c)):xs=c:=by
 rcases h with h|⟨o,h⟩<;>rcases g with g|⟨d,g⟩<;>rw[h]at g<;>cases g<;>rfl
def qZ{K:yF}{H:Hp}{v w p:V}{a:Ac}(h:at1 K H v a w)(g:at1 K H v a p):w=p:=by
 cases a with
 | ix n=>
  have(a,m,rfl,l,j):=h;have(o,i,e,d,c):=g;cases e;rw[l]at d;cases d;rw[j]at c;cases c;rfl
 | ky k=>
  have(a,m,rfl,l,j):=h;have(o,i,e,d,c):=g;cases e;have:=l.det d;subst this;rw[j]at c;cases c;rfl
 | fd f=>
  have(a,C,s,m,rfl,l,j):=h;have(o,r,q,i,e,d,c):=g;cases e;rw[l]at d;cases d;rw[j]at c;cases c;rfl
 | tp n=>
  have(a,m,rfl,l,j):=h;have(o,i,e,d,c):=g;cases e;have:=sE l d;subst this;rw[j]at c;cases c;rfl
def kn{K:yF}{H:Hp}:∀{p:!Ac} {v w c:V},atP K H v p w->atP K H v p c->w=c
 | [],v,w,c,h,g=>by rw[atP]at h g;rw[h,g]
 | a::p,v,w,c,h,g=>by
  rw[atP]at h g;have(u,i,f):=h;have(j,d,e):=g;have:=qZ i d;subst this;show kn f e
def q0{K:yF}{H:Hp}{a:Ac}:∀{p:!Ac} {v w u:V},atP K H v p w->at1 K H w a u->atP K H v (p++[a]) u
 | [],v,w,u,h,g=>by rw[atP]at h;subst h;show⟨u,g,Xr⟩
 | b::p,v,w,u,h,g=>by
  rw[atP]at h;have(x,d,c):=h;show{x,d,q0 c g}
def sy:∀{p:!Ac} {t s u:T},t.sub p*>s->jU s a*>u->t.sub (p++[a])*>u
 | [],t,s,u,h,g=>by rw[T.sub]at h;cases h;rw[Ki,T.sub,g];rfl
 | b::p,t,s,u,h,g=>by
  rw[T.sub]at h;rw[LU,T.sub];cases e:jU t b with
  | none=>rw[e]at h;cases h
  | some x=>rw[e]at h;show sy (p:=p) h g
section
variable {K:yF}{H:Hp}
def Rpk.at:∀{ts:!(I×T)} {xs:!(I×V)} {F:!Addr} {t:T},Rpk K H ts xs F->fR ts k*>t ->
  ∃x A G B,fR xs k*>x/\Rp K H t x G/\F=A++G++B/\∀H' g f,(∀{u:T} {w:V} {F':!Addr},(∀a∈F',a∈A\/a∈B)->Rp K H u w F'->Rp K H' u w F')->Rp K H' g x f->Rpk K H' (lh ts k g) xs (A++f++B)
 | [],xs,F,t,h,e=>by simp[fR]at e
 | (J,d)::P,xs,F,t,h,e=>by
  rw[Rpk]at h;have(x,r,m,o,rfl,l,i,rfl):=h;by_cases j:J=k
  .subst j;simp[fR]at e;subst e;show{x,[],m,o,by simp[fR],l,by simp,λH' g f st q=>?_};dsimp[lh,if_pos];rw[Rpk];show{x,r,f,o,Xr,q,?_,by simp};have:∀{ts:!(I×T)} {xs:!(I×V)} {F:!Addr},(∀a∈F,a∈o)->Rpk K H ts xs F->Rpk K H' ts xs F:=by
    intro ts
    induction ts with
    | nil=>intro xs F _ h;rw[Rpk]at h|-;show h
    | cons p ts v=>
     intro xs F s h;have(S,Q):=p;rw[Rpk]at h|-;have(y,r,z,L,N,l,i,rfl):=h;show{y,r,z,L,N,st (λa c=>.inr (s a (yaL _ c))) l,v (λa c=>s a (yaR _ c)) i,Xr}
   show this (λa c=>c) i
  .simp[fR,j]at e;have(y,A,G,B,C,M,E,O):=Rpk.at i e;show{y,m++A,G,B,by simp[fR,j,C],M,by rw[E];simp,λH' g f st q=>?_};dsimp[lh,if_neg j];rw[Rpk];show{x,r,m,A++f++B,Xr,st (λa c=>.inl (yaL _ c)) l,O H' g f (λc=>st (λa h=>(c a h).imp (yaR _) id)) q,by simp}
def Rpf.at:∀{ts:!(Str×T)} {xs:!(Str×V)} {F:!Addr} {t:T},Rpf K H ts xs F->fR ts k*>t ->
  ∃x A G B,fR xs k*>x/\Rp K H t x G/\F=A++G++B/\∀H' g f,(∀{u:T} {w:V} {F':!Addr},(∀a∈F',a∈A\/a∈B)->Rp K H u w F'->Rp K H' u w F')->Rp K H' g x f->Rpf K H' (lh ts k g) xs (A++f++B)
 | [],xs,F,t,h,e=>by simp[fR]at e
 | (J,d)::P,xs,F,t,h,e=>by
  rw[Rpf]at h;have(x,r,m,o,rfl,l,i,rfl):=h;by_cases j:J=k
  .subst j;simp[fR]at e;subst e;show{x,[],m,o,by simp[fR],l,by simp,λH' g f st q=>?_};dsimp[lh,if_pos];rw[Rpf];show{x,r,f,o,Xr,q,?_,by simp};have:∀{ts:!(Str×T)} {xs:!(Str×V)} {F:!Addr},(∀a∈F,a∈o)->Rpf K H ts xs F->Rpf K H' ts xs F:=by
    intro ts
    induction ts with
    | nil=>intro xs F _ h;rw[Rpf]at h|-;show h
    | cons p ts v=>
     intro xs F s h;have(S,Q):=p;rw[Rpf]at h|-;have(y,r,z,L,N,l,i,rfl):=h;show{y,r,z,L,N,st (λa c=>.inr (s a (yaL _ c))) l,v (λa c=>s a (yaR _ c)) i,Xr}
   show this (λa c=>c) i
  .simp[fR,j]at e;have(y,A,G,B,C,M,E,O):=Rpf.at i e;show{y,m++A,G,B,by simp[fR,j,C],M,by rw[E];simp,λH' g f st q=>?_};dsimp[lh,if_neg j];rw[Rpf];show{x,r,m,A++f++B,Xr,st (λa c=>.inl (yaL _ c)) l,O H' g f (λc=>st (λa h=>(c a h).imp (yaR _) id)) q,by simp}
def Mu.lst(m:Mu H a)(h:Rd H a (.lst xs)):H a*>(.lst xs):=by
 rcases h with h|⟨o,h⟩;show h;obtain⟨u,e,m⟩:=m;rw[h]at e;cases e;cases m
def Rps.stay:∀{ts:!T} {xs:!V} {F:!Addr},(∀{u:T} {w:V} {F':!Addr},(∀a∈F',a∈F)->Rp K H u w F'->Rp K H' u w F')->Rps K H ts xs F->Rps K H' ts xs F
 | [],_,_,_,h=>by rw[Rps]at h|-;show h
 | t::ts,_,_,n,h=>by
  rw[Rps]at h|-;have(y,r,d,f,i,g,e,rfl):=h;show{y,r,d,f,i,n (λa c=>yaL _ c) g,Rps.stay (λc=>n λa h=>yaR _ (c a h)) e,Xr}
def Rp.at1(h:Rp K H t v F)(mu:∀b∈F,Mu H b)(P:F.Nodup)(e:jU t a*>s) :
  ∃w A G B,L2.at1 K H v a w/\Rp K H s w G/\F=A++G++B/\∀H' i l,MQ G H H'->Rp K H' i w l->Rp K H' (put1 t a i) v (A++l++B):=by
 have N:∀{A G B:!Addr},F=A++G++B->∀b,(b∈A\/b∈B)->b∉G:=by
  intro A G B e b c hg;rw[e]at P;rcases c with c|c;show(Iv.mp (Iv.mp P).1).2.2 b c b hg rfl;show(Iv.mp P).2.2 b (yaR _ hg) b c rfl
 have o:∀{A G B:!Addr},F=A++G++B->∀b∈G,Mu H b:=λe b c=>mu b (by rw[e];simp[c]);cases t with
 | lst m=>
  cases a with
  | ix n=>
   rw[Rp]at h;have(a,g,f,rfl,E,J,rfl):=h;have ha:=(mu a ymS).lst E;have(x,A,G,B,p,L,y,M,Q):=J.at e;have j:a::f=(a::A)++G++B:=by rw[y];simp
   show{x,a::A,G,B,⟨a,g,Xr,ha,p⟩,L,j,λH' i l d q=>?_};have st:∀{u:T} {w:V} {f:!Addr},(∀b∈f,b∈A\/b∈B)->Rp K H u w f->Rp K H' u w f:=λc r=>r.off d (o j) (λb z=>N j b ((c b z).imp (ymC _) id));change Rp K H' (.lst (m.set n i)) (.ref a) _;rw[Rp];show{a,g,A++l++B,Xr,.inl (d a _ ha (N j a (.inl ymS))),?_,by simp};have Y:n<m.length:=(Ib.mp e).1;have hn':n<g.length:=(Ib.mp p).1;have S:m.set n i=m.take n++i::m.drop (n+1):=by rw[Ko,if_pos Y]
   have O:g=g.take n++x::g.drop (n+1):=by
    have:=Ib.mp p;have(X,U):=this
    conv=>lhs;rw[<-I8 n g,Kb X,U]
   rw[S,O,Iy];show Rps.append (Rps.stay (λc=>st λb z=>.inl (c b z)) M) (Rps.cons q (Rps.stay (λc=>st λb z=>.inr (c b z)) Q))
  | ky k=>cases e
  | fd k=>cases e
  | tp k=>cases e
 | dc Z=>
  cases a with
  | ky k=>
   rw[Rp]at h;have(a,g,f,rfl,E,J,rfl):=h;have(x,A,G,B,p,L,y,M):=J.at e;have j:a::f=(a::A)++G++B:=by rw[y];simp
   show{x,a::A,G,B,⟨a,g,Xr,E,p⟩,L,j,λH' i l d q=>?_};have st:∀{u:T} {w:V} {f:!Addr},(∀b∈f,b∈A\/b∈B)->Rp K H u w f->Rp K H' u w f:=λc r=>r.off d (o j) (λb z=>N j b ((c b z).imp (ymC _) id));change Rp K H' (.dc (lh Z k i)) (.ref a) _;rw[Rp];show{a,g,A++l++B,Xr,E.off d (N j a (.inl ymS)),M H' i l st q,by simp}
  | ix k=>cases e
  | fd k=>cases e
  | tp k=>cases e
 | ins C fs=>
  cases a with
  | fd k=>
   rw[Rp]at h;obtain⟨D,a,dx,g,f,h0,rfl,E,J,rfl⟩:=h;have(x,A,G,B,p,L,y,M):=J.at e;have j:a::f=(a::A)++G++B:=by rw[y];simp
   show{x,a::A,G,B,⟨a,D,dx,g,Xr,E,p⟩,L,j,λH' i l d q=>?_};have st:∀{u:T} {w:V} {f:!Addr},(∀b∈f,b∈A\/b∈B)->Rp K H u w f->Rp K H' u w f:=λc r=>r.off d (o j) (λb z=>N j b ((c b z).imp (ymC _) id));change Rp K H' (.ins C (lh fs k i)) (.ref a) _;rw[Rp];show{D,a,dx,g,A++l++B,h0,Xr,d a _ E (N j a (.inl ymS)),M H' i l st q,by simp}
  | ix k=>cases e
  | ky k=>cases e
  | tp k=>cases e
 | im _=>cases a<;>cases e
 | tup m=>
  cases a with
  | tp n=>
   rw[Rp]at h;have(a,g,rfl,E,J):=h;have(x,A,G,B,p,L,y,M,Q):=J.at e;show{x,A,G,B,⟨a,g,Xr,E,p⟩,L,y,λH' i l d q=>?_};have st:∀{u:T} {w:V} {f:!Addr},(∀b∈f,b∈A\/b∈B)->Rp K H u w f->Rp K H' u w f:=λc r=>r.off d (o y) (λb z=>N y b (c b z));change Rp K H' (.tup (m.set n i)) (.ref a) _;rw[Rp];show{a,g,Xr,d.rdT (o y) E,?_};have Y:n<m.length:=(Ib.mp e).1;have S:m.set n i=m.take n++i::m.drop (n+1):=by rw[Ko,if_pos Y]
   have O:g=g.take n++x::g.drop (n+1):=by
    have:=Ib.mp p;have(X,U):=this
    conv=>lhs;rw[<-I8 n g,Kb X,U]
   rw[S,O,Iy];show Rps.append (Rps.stay (λc=>st λb z=>.inl (c b z)) M) (Rps.cons q (Rps.stay (λc=>st λb z=>.inr (c b z)) Q))
  | ix k=>cases e
  | ky k=>cases e
  | fd k=>cases e
 | li _=>cases a<;>cases e
 | di _=>cases a<;>cases e
 | dq _=>cases a<;>cases e
def Rp.atP:∀{p:!Ac} {t s:T} {v:V} {F:!Addr},Rp K H t v F->(∀b∈F,Mu H b)->F.Nodup->t.sub p*>s ->
  ∃w A G B,L2.atP K H v p w/\Rp K H s w G/\F=A++G++B/\∀H' c d,MQ G H H'->Rp K H' c w d->Rp K H' (t.put p c) v (A++d++B)
 | [],t,s,v,F,h,g,k,e=>by
  rw[T.sub]at e;cases e;show{v,[],F,[],Xr,h,by simp,λH' c d _ q=>by rw[T.put];simpa using q}
 | a::p,t,s,v,F,h,g,k,e=>by
  rw[T.sub]at e;cases e1:jU t a with
  | none=>rw[e1]at e;cases e
  | some u=>
   rw[e1]at e;have(w,A,G,B,y,J,rfl,r):=h.at1 g k e1;have j:=(Iv.mp (Iv.mp k).1).2.1;have(x,m,d,l,z,C,rfl,E):=Rp.atP (p:=p) J (λb i=>g b (yaL _ (yaR _ i))) j e;show{x,A++m,d,l++B,⟨w,y,z⟩,C,by simp,λH' c o f q=>?_};rw[T.put,e1];have:=r H' (u.put p c) (m++o++l) (f.mono λb i=>by simp[i]) (E H' c o f q);exists this
end
inductive Kd where
 | ow|io (k:Nat)|vw (r:↑Nat) (p:Option !Ac)
structure R where
 k:Kd
 t:T
structure Gm where
 K:yF
 H0:Hp
 io:!Addr
 iov:!V
 ok:Nat->Prop
abbrev Kd.isOw:Kd->Bool
 | .vw _ _=>TZ|_=>T1
abbrev Kd.root:Kd->↑Nat
 | .vw r _=>r|_=>TU
protected def Fam:=Nat->↑(V×R)
abbrev iO(A:Fam)(F:Nat->!Addr)(a:Addr):Prop:=∃i v r,A i*>(v,r)/\r.k.isOw=T1/\a∈F i
abbrev fH(Γ:Gm)(H:Hp)(A:Fam)(F:Nat->!Addr)(i:Nat)(v:V)(r:R):Prop:=match r.k with
 | .ow=>∀a∈F i,Γ.H0 a=TU
 | .io k=>Γ.iov[k]?*>v
 | .vw TU _=>∀a∈F i,¬ iO A F a
 | .vw (TV j) p=>∃w s,A j*>(w,s)/\s.k.isOw=T1/\(∀a∈F i,a∈F j \/ ¬ iO A F a)/\∀q,p*>q->s.t.sub q*>r.t/\atP Γ.K H w q v
structure SM(Γ:Gm)(H:Hp)(A:Fam)(F:Nat->!Addr):Prop where
 rp:∀{i v r},A i*>(v,r)->Rp Γ.K H r.t v (F i)
 nd:∀{i v r},A i*>(v,r)->r.k.isOw=T1->(F i).Nodup
 ad:∀{a},iO A F a->Mu H a/\(Γ.H0 a=TU\/a ∈ Γ.io)
 dj:∀{i j v r w s a},A i*>(v,r)->A j*>(w,s)->r.k.isOw=T1->s.k.isOw=T1->a∈F i->a∈F j->i=j
 kd:∀{i v r},A i*>(v,r)->fH Γ H A F i v r
 fr:∀b o,Γ.H0 b*>o->b∉Γ.io->H b*>o
 iol:∀a ∈ Γ.io,∃o,H a*>o
section
variable {K:yF}{Γ:Gm}{H H':Hp}{A A':Fam}{F F':Nat->!Addr}{i j:Nat}{v w:V}{r s:R}
def re{M:!Addr}(c:MQ M H H'){F:!Addr}(E:∀a∈F,a∉M)(P:∀a∈M,Mu H a)(L:∀a∈F,Mu H a):∀{q:!Ac} {t s:T} {v w:V} {F':!Addr},(∀a∈F',a∈F)->F'.Nodup->Rp K H t v F'->t.sub q*>s->atP K H v q w->atP K H' v q w
 | [],_,_,_,_,_,_,_,_,_,h=>h
 | a::q,t,s,v,w,F',o,N,r,e,h=>by
  rw[atP]at h|-;have(u,m,Y):=h;rw[T.sub]at e;cases e1:jU t a with
  | none=>rw[e1]at e;cases e
  | some x=>
   rw[e1]at e;have(y,A,G,B,S,U,rfl,_):=r.at1 (λb J=>L b (o b J)) N e1;have:=qZ m S;subst this;show{u,?_,re c E P L (λb J=>o b (yaL _ (yaR _ J))) (Iv.mp (Iv.mp N).1).2.1 U e Y};cases a with
   | ix n=>
    have(b,f,rfl,g,d):=m;show{b,f,Xr,c b _ g (E b ?_),d};cases t<;>dsimp[jU]at e1<;>try cases e1
    rw[Rp]at r;have(O,l,k,p,_,_,z):=r;cases p;show o b (by rw[z];show ymS)
   | ky n=>
    have(b,f,rfl,g,d):=m;show{b,f,Xr,g.off c (E b ?_),d};cases t<;>dsimp[jU]at e1<;>try cases e1
    rw[Rp]at r;have(O,l,k,p,_,_,z):=r;cases p;show o b (by rw[z];show ymS)
   | fd n=>
    have(b,C,Q,f,rfl,g,d):=m;show{b,C,Q,f,Xr,c b _ g (E b ?_),d};cases t<;>dsimp[jU]at e1<;>try cases e1
    rw[Rp]at r;obtain⟨_,O,X,l,k,_,p,_,_,z⟩:=r;cases p;show o b (by rw[z];show ymS)
   | tp n=>
    have(b,f,rfl,g,d):=m;show{b,f,Xr,c.rdT P g,d}
def SM.new0(S:SM Γ H A F)(e:H a=TU) : Γ.H0 a=TU:=by
 cases q : Γ.H0 a with
 | none=>rfl
 | some o=>
  by_cases c:a ∈ Γ.io;have(o,d):=S.iol a c;rw[e]at d;cases d;rw[S.fr a o q c]at e;cases e
abbrev Mv(A':Fam)(c : Nat->Nat)(r0 r:R):Prop:=r.t=r0.t/\match r0.k with
 | .vw (TV j) p=>∃a x,r.k=.vw (TV a) p/\c a=j/\A' a*>x
 | k=>r.k=k
def Mv.ow{r0:R}{a : Nat->Nat}(m:Mv A' a r0 r):r.k.isOw=r0.k.isOw:=by
 obtain⟨_,m⟩:=m;split at m;delta e;have(_,_,c,_):=m;rw[e,c];rfl;rw[m]
def SM.mv(S:SM Γ H A F)(d : Nat->Nat)(h:∀i v r,A' i*>(v,r)->∃r0,A (d i)*>(v,r0)/\Mv A' d r0 r)
  (x:∀i j v r y,A' i*>(v,r)->A' j*>y->r.k.isOw=T1->d i = d j->i=j):SM Γ H A' (λi=>F (d i)):=by
 have f:∀a,iO A' (λi=>F (d i)) a->iO A F a:=λa ⟨i,v,r,c,l,t⟩=>by
  have(r0,g,m):=h i v r c;show{d i,v,r0,g,m.ow▸l,t}
 show{λc=>?_,λc l=>?_,λo=>S.ad (f _ o),λc l t N X O=>?_,λ{i v r} c=>?_,S.fr,S.iol}
 .have(r0,g,m):=h _ _ _ c;rw[m.1];show S.rp g
 .have(r0,g,m):=h _ _ _ c;show S.nd g (m.ow▸l)
 .have(r0,g,m):=h _ _ _ c;obtain⟨P,Y,M⟩:=h _ _ _ l;show x _ _ _ _ _ c l t (S.dj g Y (m.ow▸t) (M.ow▸N) X O)
 .obtain⟨r0,g,m⟩:=h i v r c;have k:=S.kd g;obtain⟨mt,m⟩:=m;unfold fH at k|-;cases e:r0.k with
  | ow=>rw[e]at k m;rw[m];show k
  | io n=>rw[e]at k m;rw[m];show k
  | vw G p=>
   rw[e]at k m;cases G with
   | none=>rw[m];show λa u z=>k a u (f a z)
   | some j=>
    obtain⟨j',⟨x1,Q⟩,L,rfl,B⟩:=m;have(w,s,J,k2,k3,Z):=k;have(P,C,E):=h j' x1 Q B;rw[J]at C;cases C;rw[L];show{_,_,B,E.ow▸k2,λa u=>(k3 a u).imp id λn z=>n (f a z),λq U=>?_};rw[E.1,mt];show Z q U
def SM.sub(S:SM Γ H A F)(h:∀i x,A' i*>x->A i*>x)(c:∀i x j,A' i*>x->x.2.k.root*>j->A' j=A j):SM Γ H A' F:=by
 show S.mv id (λi v r a=>{r,h i _ a,Xr,?_}) λi j v r y _ _ _ e=>e;split
 .delta j p e;have k:=S.kd (h i _ a);unfold fH at k;rw[e]at k;have(w,s,d,_):=k;show{j,(w,s),e,Xr,by rw[c i _ j a (by rw[e];rfl)];show d}
 .rfl
def SM.step(S:SM Γ H A F)(J:!Nat)(N:Nat->Prop)(hJ:∀j∈J,∃v r,A j*>(v,r)/\r.k.isOw=T1)(E:MQ (J.flatMap F) H H')(dom:∀a∈J.flatMap F,∃o,H' a*>o)
  (f:∀i v r,A' i*>(v,r)->¬ N i->A i*>(v,r)/\F' i=F i/\i∉J/\∀j,r.k.root*>j->¬ N j/\A' j=A j)
  (new:∀i v r,A' i*>(v,r)->N i->r.k.isOw=T1/\Rp Γ.K H' r.t v (F' i)/\(F' i).Nodup/\(∀a∈F' i,(H a=TU\/a∈J.flatMap F)/\Mu H' a)/\fH Γ H' A' F' i v r)
  (ndj:∀i j a,N i->N j->a∈F' i->a∈F' j->i=j):SM Γ H' A' F':=by
 have h:∀a∈J.flatMap F,iO A F a:=λa d=>by
  have(j,C,d):=Jo.mp d;have(v,r,c,u):=hJ j C;show⟨j,v,r,c,u,d⟩
 have muJ:∀a∈J.flatMap F,Mu H a:=λa d=>(S.ad (h a d)).1;have apO:∀{l v r},A l*>(v,r)->r.k.isOw=T1->l∉J->∀a∈F l,a∉J.flatMap F:=λc u G a d z=>by
  have(j,C,hz):=Jo.mp z;have(w,s,P,g2):=hJ j C;show G (S.dj c P u g2 d hz▸C)
 have Y:∀i v r,A' i*>(v,r)->¬ N i->∀a∈F i,a∉J.flatMap F:=λi v r c g a d z=>by
  have(u,_,G,O):=f i v r c g;by_cases Z:r.k.isOw=T1;show apO u Z G a d z
  .have k:=S.kd u;unfold fH at k;split at k;delta e;rw[e]at Z;show Z rfl;delta e;rw[e]at Z;show Z rfl;show k a d (h a z)
   .delta j p e;have(w,s,M,k2,k3,_):=k;have(L,B):=O j (by rw[e];rfl);rcases k3 a d with q|q;show apO M k2 (f j w s (by rw[B];show M) L).2.2.1 a q z;show q (h a z)
 have U:∀{i v r a},A' i*>(v,r)->¬ N i->a∈F i->iO A' F' a->iO A F a:=λ{i v r a} c g d ⟨l,w,s,P,g2,g3⟩=>by
  by_cases hl:N l
  .rcases((new l w s P hl).2.2.2.1 a g3).1 with z|z;have(o,e):=(S.rp (f i v r c g).1).dom a d;rw[z]at e;cases e;show absurd z (Y i v r c g a d)
  .have(x,y,_):=f l w s P hl;show{l,w,s,x,g2,y▸g3}
 show{λ{i v r} c=>?_,λ{i v r} c u=>?_,λ{a} ⟨i,v,r,c,u,G⟩=>?_,λ{i j v r w s a} c u G O L B=>?_,λ{i v r} c=>?_,λb o e n=>?_,λa d=>?_}
 .by_cases g:N i;show(new i v r c g).2.1
  .have(x,y,_):=f i v r c g;rw[y];show(S.rp x).off E muJ (Y i v r c g)
 .by_cases g:N i;show(new i v r c g).2.2.1
  .have(x,y,_):=f i v r c g;rw[y];show S.nd x u
 .by_cases g:N i
  .have(z,m):=(new i v r c g).2.2.2.1 a G;show{m,z.elim (λz=>.inl (S.new0 z)) λz=>(S.ad (h a z)).2}
  .have(x,y,_):=f i v r c g;rw[y]at G;obtain⟨⟨o,e,m⟩,z⟩:=S.ad ⟨i,v,r,x,u,G⟩;show{{o,E a o e (Y i v r c g a G),m},z}
 .have X:∀{i j v r w s},A' i*>(v,r)->A' j*>(w,s)->s.k.isOw=T1->a∈F' i->a∈F' j->N i->¬ N j->False:=λ{i j v r w s} c u O L B Q C=>by
   have(x,y,_):=f j w s u C;rw[y]at B;rcases((new i v r c Q).2.2.2.1 a L).1 with z|z;have(o,e,_):=(S.ad ⟨j,w,s,x,O,B⟩).1;rw[z]at e;cases e;show Y j w s u C a B z
  by_cases Q:N i<;>by_cases C:N j;show ndj i j a Q C L B;show(X c u O L B Q C).elim;show(X u c G B L C Q).elim
  .have(x,y,_):=f i v r c Q;have(P,g2,_):=f j w s u C;show S.dj x P G O (y▸L) (g2▸B)
 .by_cases g:N i;show(new i v r c g).2.2.2.2
  .have(x,y,q3,q4):=f i v r c g;have k:=S.kd x;unfold fH at k|-;rw[y];split at k;show k;show k;show λa d z=>k a d (U c g d z)
   .delta j p e;have(w,s,M,k2,k3,k4):=k;have(L,B):=q4 j (by rw[e];rfl);have h7:A' j*>(w,s):=by rw[B];show M
    show{w,s,h7,k2,λa d=>?_,λq hq=>{(k4 q hq).1,?_}};rw[(f j w s h7 L).2.1];show(k3 a d).imp id λn z=>n (U c g d z);show re E (F:=F j) (Y j w s h7 L) muJ (λa d=>(S.ad ⟨j,w,s,M,k2,d⟩).1) (λa d=>d) (S.nd M k2) (S.rp M) (k4 q hq).1 (k4 q hq).2
 .show E b o (S.fr b o e n) λhm=>by
   rcases(S.ad (h b hm)).2 with z|z;rw[z]at e;cases e;show n z
 .have(o,e):=S.iol a d;by_cases hm:a∈J.flatMap F;show dom a hm;show{o,E a o e hm}
abbrev up{a:Type} (A:Nat->a) (n:Nat) (x : a):Nat->a:=λi=>if i=n then x else A i
def aG{a:Type}{A:Nat->a}{n:Nat}{x : a}:up A n x n=x:=if_pos rfl
def aY{a:Type}{A:Nat->a}{n:Nat}{x : a}(h:i≠n):up A n x i=A i:=if_neg h
def SM.push(S:SM Γ H A F)(P:A n=TU){G:!Addr}(X:Rp Γ.K H r.t v G)(B:r.k.isOw=TZ\/G=[])(U:∀F':Nat->!Addr,F' n=G->(∀i,A i≠TU->F' i=F i)->(∀a,iO (up A n (TV (v,r))) F' a->iO A F a)->fH Γ H (up A n (TV (v,r))) F' n v r) :
  SM Γ H (up A n (TV (v,r))) (up F n G):=by
 have st:∀{i x},up A n (TV (v,r)) i*>x->i≠n->A i*>x/\up F n G i=F i:=λc d=>{by rw[aY d]at c;show c,aY d};have m:∀a,iO (up A n (TV (v,r))) (up F n G) a->iO A F a:=λa ⟨i,w,s,c,h,q⟩=>by
  by_cases d:i=n
  .subst d;rw[aG]at c q;cases c;rcases B with z|z;rw[z]at h;cases h;rw[z]at q;cases q
  .have(f,g):=st c d;show{i,w,s,f,h,g▸q}
 show{λ{i w s} c=>?_,λ{i w s} c h=>?_,λo=>S.ad (m _ o),λ{i j v1 r1 w1 L a} c h q E M J=>?_,λ{i w s} c=>?_,S.fr,S.iol}
 .by_cases d:i=n;subst d;rw[aG]at c;cases c;rw[aG];show X
  .have(f,g):=st c d;rw[g];show S.rp f
 .by_cases d:i=n
  .subst d;rw[aG]at c;cases c;rw[aG];rcases B with z|z;rw[z]at h;cases h;rw[z];show IP
  .have(f,g):=st c d;rw[g];show S.nd f h
 .have N:∀{l x},up A n (TV (v,r)) l*>x->x.2.k.isOw=T1->a∈up F n G l->l≠n:=λ{l x} f g C e=>by
   subst e;rw[aG]at f C;cases f;rcases B with z|z;rw[z]at g;cases g;rw[z]at C;cases C
  have(Q,q2):=st c (N c q M);have(f,g):=st h (N h E J);show S.dj Q f q E (q2▸M) (g▸J)
 .by_cases d:i=n
  .subst d;rw[aG]at c;cases c;show U _ aG (λi d=>aY λe=>d (e▸P)) m
  .have(f,g):=st c d;have k:=S.kd f;unfold fH at k|-;rw[g];split at k;show k;show k;show λa u z=>k a u (m a z)
   .rename_i j p _;have(w1,L,y,Z,k3,Y):=k;have O:j≠n:=λe=>by rw[e,P]at y;cases y
    show{w1,L,by rw[aY O];show y,Z,λa u=>by rw[aY O];show(k3 a u).imp id λn z=>n (m a z),Y}
end
protected def Rho:=! ↑R
abbrev aL(M:!Nat) (r:R):Bool:=match r.k.root with
 | some j=> ~~~M.contains j
 | none=>T1
abbrev gq(M:!Nat):↑R->↑R
 | some r=>if aL M r=T1 then TV r else TU
 | none=>TU
abbrev aB(M:!Nat) (O:Rho):Rho:=O.map (gq M)
def cV(M:!Nat)(O:Rho):(aB M O).length=O.length:=by unfold aB;rw[Ia]
def killO_iff:gq M o*>r↔o*>r/\aL M r=T1:=by
 cases o with
 | none=>simp[gq]
 | some x=>
  dsimp[gq];split;show{λz=>by cases z;show{Xr,by assumption},λz=>z.1};show{λz=>(nomatch z),λz=>by cases z.1;show absurd z.2 (by assumption)}
def Na{O:Rho}{i:Nat}:(aB M O)[i]?*>(TV r)↔O[i]?*>(TV r)/\aL M r=T1:=by
 unfold aB;rw[Io];cases O[i]? with
 | none=>simp
 | some o=>simp[killO_iff]
def md{M N:!Nat}:aL (M++N) r=(aL M r&&aL N r):=by
 unfold aL;split;rename_i j _;by_cases a:j∈M<;>by_cases c:j∈N<;>simp[a,c];rfl
def me{M N:!Nat}(h:∀j∈N,j∈M)(k:aL M r=T1):aL N r=T1:=by
 unfold aL at k|-;split at k
 .delta j a;dsimp[Ji,KC,decide_eq_false_iff_not]at k|-;show λz=>k (h j z)
 .rfl
def bO(h:r.k.isOw=T1):aL M r=T1:=by
 unfold aL;cases e:r.k with
 | vw a b=>rw[e]at h;cases h
 | ow=>rfl
 | io _=>rfl
def fO(h:aL M r=T1)(e:r.k.root*>j):j∉M:=by
 unfold aL at h;rw[e]at h;exists h
abbrev loc(O:Rho) (Z:St) (i:Nat):↑(V×R):=match O[i]?,Z[i]? with
 | some (TV r),TV (TV v)=>TV (v,r)
 | _,_=>TU
def MP{O:Rho}{Z:St}:loc O Z i*>(v,r)↔O[i]?*>(TV r)/\Z[i]?*>(TV v):=by
 unfold loc;split;delta a c;rw[a,c];simp[and_comm];delta h;show{λz=>(nomatch z),λz=>absurd z.2 (h _ _ z.1)}
abbrev Rt(Γ:Gm)(L b j:Nat):Prop:=j<b/\(L<=j->Γ.ok j)
structure Sim(Γ:Gm)(H:Hp)(O:Rho)(Z:St)(A:Fam)(b n:Nat):Prop where
 sm:∃F,SM Γ H A F
 lo:∀i,i<Z.length->A i=loc O Z i
 al:∀(i:Nat) r,O[i]?*>(TV r)->∃v,Z[i]?*>(TV v)
 len:Z.length=O.length
 le:Z.length<=b
 bn:b<=n
 rt:∀i x j,A i*>x->x.2.k.root*>j->Rt Γ Z.length b j
 ub:∀i,n<=i->A i=TU
abbrev vx(L:Nat)(M:!Nat)(n:Nat)(A:Fam)(m:Nat)(A':Fam):Prop:=n<=m/\∀i x,L<=i->A i*>x->aL M x.2=T1->A' i*>x
def vx.tr(c:vx L M n A m A1)(a:vx L N m A1 l A2):vx L (M++N) n A l A2:=⟨Ik c.1 a.1,λi x h e k=>by
 rw[md,Ie]at k;show a.2 i x h (c.2 i x h e k.1) k.2⟩
def vx.sub(k:vx L M n A m A')(h:∀j∈M,j∈N):vx L N n A m A':={k.1,λi x l e z=>k.2 i x l e (me h z)}
abbrev Got(Γ:Gm)(H:Hp)(O:Rho)(Z:St)(A:Fam)(b n:Nat)(M:!Nat)(v:V)(r:R):Prop:=∃a k m,Sim Γ H O Z a b m/\n<=k/\a k*>(v,r)/\vx Z.length M n A m a
abbrev At(A:Fam):!Nat->!V->!R->Prop
 | [],[],[]=>True
 | k::a,v::vs,r::c=>A k*>(v,r)/\At A a vs c
 | _,_,_=>False
abbrev Nw(Γ:Gm)(H:Hp)(O:Rho)(Z:St)(A:Fam)(b n:Nat)(M:!Nat)(vs:!V)(rs:!R):Prop:=∃c a m,Sim Γ H O Z c b m/\At c a vs rs/\a.Nodup/\(∀k∈a,n<=k)/\vx Z.length M n A m c
abbrev Rpx(K:yF)(H:Hp)(t:T)(v:V):Prop:=∃F,Rp K H t v F
abbrev New(K:yF)(H H':Hp)(t:T)(v:V):Prop:=MY H H'/\∃F,Rp K H' t v F/\F.Nodup/\∀a∈F,H a=TU/\Mu H' a
section
variable {Γ:Gm}{H H':Hp}{O:Rho}{Z:St}{A A0:Fam}{F:Nat->!Addr}{v w:V}{r:R}{t s:T}{M:!Nat}{ks:!Nat}{vs:!V}{ts:!T}{i b n m:Nat}
def Sim.kept(_:Sim Γ H O Z A b n):vx L [] n A n A:={Ig _,λ_ _ _ e _=>e}
def Sim.lt(S:Sim Γ H O Z A b n)(h:A i*>x):i<n:=Nat.lt_of_not_le λz=>by rw[S.ub i z]at h;cases h
def Sim.rd(S:Sim Γ H O Z A b m)(h:A i*>(v,r)):Rpx Γ.K H r.t v:=by
 have(F,g):=S.sm;show{_,g.rp h}
def Sim.slot(S:Sim Γ H O Z A b m)(h : O[i]?*>(TV r)):∃v,Z[i]?*>(TV v)/\A i*>(v,r):=by
 have(v,a):=S.al i r h;show{v,a,by rw[S.lo i (Ib.mp a).1];show MP.mpr ⟨h,a⟩}
def Sim.nm(S:Sim Γ H O Z A b m)(hi:i<Z.length)(h:A i*>(v,r)) : O[i]?*>(TV r)/\Z[i]?*>(TV v):=MP.mp (by rw[<-S.lo i hi];show h)
def Sim.got(S:Sim Γ H O Z A b m)(c:vx Z.length M n A0 m A)(f:∀j,r.k.root*>j->Rt Γ Z.length b j)(h:∃F,SM Γ H' (up A m (TV (v,r))) F):Got Γ H' O Z A0 b n M v r:=by
 have g:=S.bn;have le:=S.le;show{_,m,m+1,{h,λi a=>?_,S.al,S.len,S.le,by omega,λi x j e d=>?_,λi a=>?_},c.1,aG,Nat.le_succ_of_le c.1,λi x l e k=>?_};rw[aY ⋯];show S.lo i a
 .by_cases a:i=m;rw[a,aG]at e;cases e;show f j d;rw[aY a]at e;show S.rt i x j e d
 .rw[aY ⋯];show S.ub i ⋯
 .have:=c.2 i x l e k;have:=S.lt this;rw[aY ⋯];assumption
def SM.same(g:SM Γ H A F)(a:MY H H'):SM Γ H' A F:=g.step [] (λ_=>False) ∅ (a.offM _) ∅ (λi v r h _=>{h,Xr,by simp,λj _=>⟨id,Xr⟩}) (λ_ _ _ _ z=>z.elim) (λ_ _ _ z=>z.elim)
def Sim.new(S:Sim Γ H O Z A b m)(J:vx Z.length M n A0 m A)(o:New Γ.K H H' t v):Got Γ H' O Z A0 b n M v {.ow,t}:=by
 show S.got J (λj c=>(nomatch c)) ?_;have C:=S.ub m (Ig _);have(F,g):=S.sm;have(u,G,x,B,l):=o;show{up F m G,g.step [] (λi=>i=m) ∅ (u.offM _) ∅ (λi w r e f=>?_) (λi w r e f=>?_) (λi j a E y _ _=>E.trans y.symm)}
 .rw[aY f]at e;show{e,aY f,by simp,λj c=>?_};have:j≠m:=λz=>by
   have h:=g.kd e;unfold fH at h;cases er:r.k with
   | vw a p=>
    rw[er]at h c;cases c;have(w,s,q,_):=h;rw[z,C]at q;cases q
   | ow=>rw[er]at c;cases c
   | io _=>rw[er]at c;cases c
  show{this,aY this}
 .subst f;rw[aG]at e;cases e;rw[aG];show{Xr,x,B,λa d=>{.inl (l a d).1,(l a d).2},λa d=>g.new0 (l a (by rwa [aG]at d)).1}
def Sim.imm(S:Sim Γ H O Z A b m)(a:vx Z.length M n A0 m A){i:I}(h:RpI Γ.K H i v):Got Γ H O Z A0 b n M v {.ow,.im i}:=S.new a {MY.refl H,[],j9 h,IP,by simp}
def SM.part(g:SM Γ H A F)(E:MY H H')(S:A i*>(v,r)){x:↑Nat}{p:Option !Ac}(ho:r.k=.vw x p)(C:A m=TU){G:!Addr}(L:Rp Γ.K H' s w G)(B:∀a∈G,a∈F i\/H a=TU):SM Γ H' (up A m (TV (w,{.vw x TU,s}))) (up F m G):=by
 have y:∀a,H a=TU->¬ iO A F a:=λa h o=>by have(u,e,_):=(g.ad o).1;rw[h]at e;cases e
 show(g.same E).push C L (.inl rfl) λF' X J c=>?_;have d:=g.kd S;unfold fH at d|-;rw[ho]at d;dsimp only;rw[X];cases x with
 | none=>show λa l z=>(B a l).elim (λq=>d a q (c a z)) λq=>y a q (c a z)
 | some j=>
  have(w1,Q,f,P,N,_):=d;have U:j≠m:=λz=>by rw[z,C]at f;cases f
  show{w1,Q,by rw[aY U];show f,P,λa l=>?_,λq Y=>(nomatch Y)};rw[J j (by rw[f];simp)];show(B a l).elim (λq=>(N a q).imp id λn z=>n (c a z)) λq=>.inr λz=>y a q (c a z)
def Sim.part(S:Sim Γ H O Z A b m)(o:vx Z.length M n A0 m A)(f:MY H H')(c:A i*>(v,r)){d:↑Nat}{p:Option !Ac}(ho:r.k=.vw d p)(hp:∀F,Rp Γ.K H r.t v F->∃G,Rp Γ.K H' s w G/\∀a∈G,a∈F\/H a=TU):Got Γ H' O Z A0 b n M w {.vw d TU,s}:=by
 have(F,g):=S.sm;have(G,e,h):=hp _ (g.rp c);show S.got o (λj l=>S.rt _ _ j c (by rw[ho];show l)) {_,g.part f c ho (S.ub m (Ig _)) e h}
def Sim.partP(S:Sim Γ H O Z A b m)(kp:vx Z.length M n A0 m A)(E:A i*>(v,r))(ho:r.k=.vw (TV j) (TV q))(hs:jU r.t a*>s):∃w,at1 Γ.K H v a w/\Got Γ H O Z A0 b n M w {.vw (TV j) (TV (q++[a])),s}:=by
 have(F,g):=S.sm;have p:=g.kd E;unfold fH at p;rw[ho]at p;have(w1,o,c,e,k3,k4):=p;have(B,y2):=k4 q rfl;have u:o.t.sub (q++[a])*>s:=sy B hs;have f:∀b∈F j,Mu H b:=λb d=>(g.ad ⟨j,w1,o,c,e,d⟩).1;have(w,X,G,Y,x,N,z3,_):=(g.rp c).atP f (g.nd c e) u;have(w0,X0,G0,Y0,y,L,C,_):=(g.rp c).atP f (g.nd c e) B;have ew:=kn y y2;subst ew;have J:=g.nd c e;rw[C]at J;have(P,X',G',Y',v1,v2,v3,_):=L.at1 (λb d=>f b (by rw[C];show yaL _ (yaR _ d))) (Iv.mp (Iv.mp J).1).2.1 hs;have h:=kn (q0 y v1) x;subst h;show{P,v1,S.got kp (λl hl=>S.rt _ _ l E (by rw[ho];show hl)) {_,g.push (S.ub m (Ig _)) N (.inl rfl) λF' e1 h Q=>?_}};have U:=S.ub m (Ig _);have hj:j≠m:=λz=>by rw[z,U]at c;cases c
 show{w1,o,by rw[aY hj];show c,e,λb d=>.inl ?_,λq' hq=>by cases hq;show⟨u,x⟩};rw[e1]at d;rw[h j (by rw[c];simp),z3];show yaL _ (yaR _ d)
def Sim.copy(S:Sim Γ H O Z A b m)(G:vx Z.length M n A0 m A)(l:A i*>(v,r))(ho:r.k.isOw=TZ):Got Γ H O Z A0 b n M v r:=by
 show S.got G (λj o=>S.rt _ _ j l o) ?_;have q:=S.ub m (Ig _);have(F,g):=S.sm;show{_,g.push q (g.rp l) (.inl ho) λJ C u d=>?_};have c:=g.kd l;unfold fH at c|-;rw[C];split at c;show c;show c;show λa h z=>c a h (d a z)
 .delta j p e;have(w1,B,f,y,x,E):=c;have o:j≠m:=λz=>by rw[z,q]at f;cases f
  show{w1,B,by rw[aY o];show f,y,λa h=>by rw[u j (by rw[f];simp)];show(x a h).imp id λn z=>n (d a z),E}
def Sim.view(S:Sim Γ H O Z A b m)(x:vx Z.length M n A0 m A)(c:A i*>(v,r))(ho:r.k.isOw=T1)(hi:Rt Γ Z.length b i):Got Γ H O Z A0 b n M v {.vw (TV i) (TV []),r.t}:=by
 show S.got x (λj d=>by cases d;show hi) ?_;have f:=S.ub m (Ig _);have(F,g):=S.sm;have o:Rp Γ.K H r.t v (F i):=g.rp c;show{_,g.push (r:={.vw (TV i) (TV []),r.t}) f o (.inl rfl) λy p h l=>?_};have d:i≠m:=λz=>by rw[z,f]at c;cases c
 show{v,r,by rw[aY d];show c,ho,λa e=>.inl (by rw[p]at e;rw[h i (by rw[c];simp)];show e),λq u=>by cases u;show⟨Xr,Xr⟩}
abbrev rdR(i:Nat):R->R
 | ⟨.ow,.im x⟩=>{.ow,.im x}
 | ⟨.vw a b,t⟩=>{.vw a b,t}
 | ⟨_,t⟩=>{.vw (TV i) (TV []),t}
def Sim.var(S:Sim Γ H O Z A b m)(d:vx Z.length M n A0 m A)(h : O[i]?*>(TV r)):∃v,Z[i]?*>(TV v)/\Got Γ H O Z A0 b n M v (rdR i r):=by
 have(v,f,c):=S.slot h;have g:=(Ib.mp f).1;have e:Rt Γ Z.length b i:={Iq g S.le,λz=>absurd g (Nat.not_lt.mpr z)};show{v,f,?_};have(k,t):=r;cases k with
 | vw a p=>show S.copy d c rfl
 | io n=>have:=S.view d c rfl e;cases t<;>show this
 | ow=>
  cases t with
  | im x=>have(F,j):=S.rd c;show S.imm d (bq j).1
  | _=>show S.view d c rfl e
end
abbrev dr(A:Fam) (M ks:!Nat):Fam:=λi=>if i∈M++ks then TU else(A i).filter λx=>aL M x.2
section
variable {Γ:Gm}{H H':Hp}{O O':Rho}{Z:St}{A A0:Fam}{F:Nat->!Addr}{v w x:V}{r:R}{t s:T}{M ks G:!Nat}{vs:!V}{ts:!T}{i b n m k:Nat}{kd:Kd}
def M3{x:V×R}:dr A M ks i*>x↔i∉M/\i∉ks/\A i*>x/\aL M x.2=T1:=by
 unfold dr;by_cases h:i∈M++ks
 .rw[if_pos h];rw[KI]at h;show{λz=>(nomatch z),λz=>(h.elim z.1 z.2.1).elim}
 .rw[if_neg h,K2];rw[KI,not_or]at h;show{λz=>⟨h.1,h.2,z.1,z.2⟩,λz=>⟨z.2.2.1,z.2.2.2⟩}
def SM.dr_old(g:SM Γ H A F)(d:∀i x j,A i*>x->x.2.k.root*>j->j∉ks)(h:dr A M ks i*>(v,r)):A i*>(v,r)/\i∉M++ks/\∀j,r.k.root*>j->j∉M++ks/\∃y,dr A M ks j*>y/\A j*>y:=by
 have(B,z,e,u):=M3.mp h;show{e,by simp[B,z],λj c=>?_};have l:=fO u c;have o:=d _ _ _ e c;show{by simp[l,o],?_};have kd:=g.kd e;unfold fH at kd;cases er:r.k with
 | vw a p=>
  rw[er]at kd c;cases c;have(w,s,f,q,_):=kd;show{_,M3.mpr {l,o,f,bO q},f}
 | ow=>rw[er]at c;cases c
 | io _=>rw[er]at c;cases c
def SM.drop(g:SM Γ H A F)(a:∀i x j,A i*>x->x.2.k.root*>j->j∉ks):SM Γ H (dr A M ks) F:=g.sub (λi x h=>(M3.mp h).2.2.1) λi x j h f=>by
 have(_,_,c):=g.dr_old a h;have(_,y,d,e):=c j f;rw[d,e]
def SM.mvD(g:SM Γ H A F)(f:∀i x j,A i*>x->x.2.k.root*>j->j∉ks)(B:A k*>(v,r))(Q:k∈M++ks)(Y:n∈M\/A n=TU)(X:∀j,r.k.root*>j->j∉M):SM Γ H (up (dr A M ks) n (TV (v,r))) (λi=>F (if i=n then k else i)):=by
 have J:∀{j y},dr A M ks j*>y->j≠n:=λh z=>by
  have(o,_,u,_):=M3.mp h;rcases Y with q|q;show o (z▸q);rw[z,q]at u;cases u
 have C:∀{w s},(∀j,s.k.root*>j->∃y,dr A M ks j*>y)->w=s->Mv (up (dr A M ks) n (TV (v,r))) (λi=>if i=n then k else i) s w:=λ{w s} h e=>by
  subst e;show{Xr,?_};split
  .delta j p e;have(y,h):=h j (by rw[e];rfl);show{j,y,e,if_neg (J h),by rw[aY (J h)];show h}
  .rfl
 show g.mv _ (λi w s h=>?_) λi j w s y o L _ e=>?_
 .by_cases d:i=n
  .subst d;rw[aG]at h;cases (h);show{r,by rw[if_pos rfl];show B,C (λj c=>?_) rfl};have kd:=g.kd B;unfold fH at kd;cases er:r.k with
   | vw a p=>
    rw[er]at kd;rw[er]at c;cases c;have(w,s,P,S,_):=kd;show{_,M3.mpr {X j (by rw[er];rfl),f _ _ _ B (by rw[er];rfl),P,bO S}}
   | ow=>rw[er]at c;cases c
   | io _=>rw[er]at c;cases c
  .rw[aY d]at h;have(o,L,u):=g.dr_old f h;show{s,by rw[if_neg d];show o,C (λj c=>let ⟨_,y,q,_⟩:=u j c;⟨y,q⟩) rfl}
 .have E:∀{l y},up (dr A M ks) n (TV (v,r)) l*>y->l≠n->l≠k:=λh U z=>by
   rw[aY U]at h;have(K,N,_):=M3.mp h;rw[z]at K N;show(yaM Q).elim K N
  by_cases d:i=n<;>by_cases c:j=n;rw[d,c];rw[if_pos d,if_neg c]at e;show absurd e.symm (E L c);rw[if_neg d,if_pos c]at e;show absurd e (E o d);rw[if_neg d,if_neg c]at e;show e
def SM.stepD(g:SM Γ H A F)(J:∀i x j,A i*>x->x.2.k.root*>j->j∉ks)(S:∀j∈M++ks,∃v r,A j*>(v,r)/\r.k.isOw=T1)(d:MQ ((M++ks).flatMap F) H H')(p:∀a∈(M++ks).flatMap F,∃o,H' a*>o)(hn:n∈M\/A n=TU)
  {X:!Addr} (hp:Rp Γ.K H' r.t v X) (nd:X.Nodup) (N:∀a∈X,(H a=TU\/a∈(M++ks).flatMap F)/\Mu H' a) (L:(r.k=.ow/\∀j∈M++ks,∃v t,A j*>(v,{.ow,t})) \/ ∃k,r.k=.io k/\Γ.iov[k]?*>v):SM Γ H' (up (dr A M ks) n (TV (v,r))) (up F n X):=by
 show g.step (M++ks) (λi=>i=n) S d p (λi w s h c=>?_) (λi w s h c=>?_) (λi j a f E _ _=>f.trans E.symm)
 .rw[aY c]at h;have(f,E,Q):=g.dr_old J h;show{f,aY c,E,λj C=>?_};have(U,y,Y,B):=Q j C;have:j≠n:=λz=>by
   rcases hn with q|q;show U (z▸yaL _ q);rw[z,q]at B;cases B
  show{this,by rw[aY this,Y,B]}
 .subst c;rw[aG]at h;cases h;rw[aG];show{by rcases L with⟨e,_⟩|⟨_,e,_⟩<;>rw[e]<;>rfl,hp,nd,N,?_};unfold fH;rcases L with⟨e,q⟩|⟨l,e,q⟩
  .dsimp[e];rw[aG];intro a P;rcases(N a P).1 with z|z;show g.new0 z
   .have(j,C,z):=Jo.mp z;have(w,u,q):=q j C;show g.kd q a z
  .dsimp[e];show q
def SM.add(g:SM Γ H A F)(hn:A n=TU)(Y:Rp Γ.K H t v G)(nd:G.Nodup)(B:∀a∈G,Mu H a/\Γ.H0 a=TU/\∀i x,A i*>x->a∉F i):SM Γ H (up A n (TV (v,{.ow,t}))) (up F n G):=by
 have st:∀{i x},up A n (TV (v,{.ow,t})) i*>x->i≠n->A i*>x/\up F n G i=F i:=λd c=>{by rw[aY c]at d;show d,aY c};have y:∀{a},iO (up A n (TV (v,{.ow,t}))) (up F n G) a->iO A F a\/a∈G:=λ{a} ⟨i,w,s,d,E,J⟩=>by
  by_cases c:i=n;subst c;rw[aG]at J;show .inr J
  .have(f,l):=st d c;show .inl {i,w,s,f,E,l▸J}
 show{λ{i w s} d=>?_,λ{i w s} d E=>?_,λ{a} o=>?_,λ{i j v1 r1 w1 Q a} d E J S N L=>?_,λ{i w s} d=>?_,g.fr,g.iol}
 .by_cases c:i=n;subst c;rw[aG]at d;cases d;rw[aG];show Y
  .have(f,l):=st d c;rw[l];show g.rp f
 .by_cases c:i=n;subst c;rw[aG];show nd
  .have(f,l):=st d c;rw[l];show g.nd f E
 .show(y o).elim g.ad λh=>{(B a h).1,.inl (B a h).2.1}
 .by_cases c:i=n<;>by_cases C:j=n;rw[c,C]
  .have(f,l):=st E C;subst c;rw[aG]at N;rw[l]at L;show((B a N).2.2 j _ f L).elim
  .have(f,l):=st d c;subst C;rw[aG]at L;rw[l]at N;show((B a L).2.2 i _ f N).elim
  .have(U,q2):=st d c;have(f,l):=st E C;show g.dj U f J S (q2▸N) (l▸L)
 .by_cases c:i=n
  .subst c;rw[aG]at d;cases d;show∀a∈up F i G i,_;rw[aG];show λa u=>(B a u).2.1
  .have(f,l):=st d c;have k:=g.kd f;unfold fH at k|-;rw[l];split at k;show k;show k;show λa u z=>(y z).elim (k a u) λq=>(B a q).2.2 i _ f u
   .rename_i j p _;have(w1,Q,P,k2,k3,X):=k;have C:j≠n:=λe=>by rw[e,hn]at P;cases P
    show{w1,Q,by rw[aY C];show P,k2,λa u=>by rw[aY C];show(k3 a u).imp id λno z=>(y z).elim no λq=>(B a q).2.2 i _ f u,X}
def SM.apart(g:SM Γ H A F)(h:A i*>(v,r))(ho:r.k.isOw=T1)(c:a∈F i){y:V×R}(f:A k*>y)(l:k≠i)(B:y.2.k.root*>i->i∉[i])(d:a∈F k):False:=by
 have(x,s):=y;have kd:=g.kd f;unfold fH at kd;split at kd;delta e;show l (g.dj f h (by rw[e];rfl) ho d c);delta e;show l (g.dj f h (by rw[e];rfl) ho d c);show kd a d ⟨i,v,r,h,ho,c⟩
 .delta j p e;have(w,s,o,z,u,_):=kd;rcases u a d with q|q
  .have:=g.dj o h z ho q c;subst this;show B (by rw[e];rfl) ymS
  .show q ⟨i,v,r,h,ho,c⟩
def Sim.fr{j:Nat}(S:Sim Γ H O Z A b m)(h:m<=j):b<=j/\A j=TU:={Ik S.bn h,S.ub j h}
def Sim.hks(S:Sim Γ H O Z A b m)(h:∀k∈ks,b<=k):∀i x j,A i*>x->x.2.k.root*>j->j∉ks:=λi x j d c a=>by
 have:=(S.rt i x j d c).1;have:=h j a;omega
def Sim.drop(S:Sim Γ H O Z A b m)(y:vx Z.length G n A0 m A)(q:∀k∈ks,b<=k)(o:∀k∈ks,A0 k=TU)(u:∀(i:Nat) r,O'[i]?*>(TV r)↔i∉M/\O[i]?*>(TV r)/\aL M r=T1)(C : O'.length=O.length)(B:∀i∈M,i<Z.length) :
  Sim Γ H O' Z (dr A M ks) b m/\vx Z.length (G++M) n A0 m (dr A M ks):=by
 show{{let ⟨F,g⟩:=S.sm;{F,g.drop (S.hks q)},λi p=>?_,λi r h=>S.al i r ((u i r).mp h).2.1,by rw[C];show S.len,S.le,S.bn,λi x j h=>S.rt i x j (M3.mp h).2.2.1,λi p=>?_},y.1,λi x l e k=>?_}
 .have f:i∉ks:=λz=>by have:=q i z;have:=S.le;omega
  show Mh fun⟨v,r⟩=>?_;rw[M3,S.lo i p,MP,MP,u];show{fun⟨a,_,⟨b,c⟩,d⟩=>{⟨a,b,d⟩,c},fun⟨⟨a,b,d⟩,c⟩=>{a,f,⟨b,c⟩,d}}
 .cases e:dr A M ks i with
  | none=>rfl
  | some x=>have:=(M3.mp e).2.2.1;rw[S.ub i p]at this;cases this
 .rw[md,Ie]at k;show M3.mpr {λz=>?_,λz=>?_,y.2 i x l e k.1,k.2};have:=B i z;omega;rw[o i z]at e;cases e
def Sim.fill(S:Sim Γ H O Z A b m)(d:vx Z.length M n A0 m A)(hi:i<Z.length)(o:∀j,r.k.root*>j->Rt Γ Z.length b j)(h:∃F,SM Γ H' (up A i (TV (v,r))) F):Sim Γ H' (O.set i (TV r)) (Z.set i (TV v)) (up A i (TV (v,r))) b m/\vx Z.length M n A0 m (up A i (TV (v,r))):=by
 have c:i < O.length:=by rw[<-S.len];show hi
 show{{h,λj a=>?_,λj g a=>?_,by rw[IF,IF];show S.len,by rw[IF];show S.le,S.bn,λj x l e f=>?_,λj a=>?_},d.1,λj x l e k=>?_}
 .rw[IF]at a;by_cases e:j=i;subst e;rw[aG];show(MP.mpr {by simp[c],by simp[hi]}).symm
  .rw[aY e,S.lo j a];unfold loc;rw[Iz (NS e),Iz (NS e)]
 .by_cases e:j=i;subst e;show{v,by simp[hi]};rw[Iz (NS e)]at a|-;show S.al j g a
 .rw[IF];by_cases a:j=i;rw[a,aG]at e;cases e;show o l f;rw[aY a]at e;show S.rt j x l e f
 .have:=S.le;have:=S.bn;rw[aY ⋯];show S.ub j a
 .rw[aY ⋯];show d.2 j x l e k
def hZ:((aB [i] O).set i TU)[j]?*>(TV r)↔j∉[i]/\O[j]?*>(TV r)/\aL [i] r=T1:=by
 by_cases e:j=i
 .subst e;rw[List.getElem?_set_self'];dsimp[KT,not_true_eq_false,false_and,iff_false];cases (aB [j] O)[j]?<;>simp
 .rw[Iz (NS e),Na];simp[e]
def hU:aL [] r=T1:=by unfold aL;split<;>rfl
abbrev bZ(O:Rho) (i:Nat):Bool:=match O[i]? with
 | some (TV ⟨.io _,_⟩)=>TZ
 | some _=>T1
 | none=>TZ
def vW(hi:bZ O i=T1):i < O.length:=by
 unfold bZ at hi;cases q : O[i]? with
 | none=>rw[q]at hi;cases hi
 | some o=>show(Ib.mp q).1
def Sim.put(S:Sim Γ H O Z A b m)(y:vx Z.length G n A0 m A)(f:b<=k)(p:A0 k=TU)(h:A k*>(v,r))(hi:bZ O i=T1)(u:aL [i] r=T1):∃A',Sim Γ H ((aB [i] O).set i (TV r)) (Z.set i (TV v)) A' b m/\vx Z.length (G++[i]) n A0 m A':=by
 have d:=vW hi;have a:i<Z.length:=by rw[S.len];show d
 have(q,l):=S.drop (M:=[i]) (ks:=[k]) y (by exists f) (by exists p) (λ_ _=>hZ) (by simp[cV]) (by exists a);have(F,g):=S.sm;have(e,o):=q.fill (v:=v) (r:=r) l a (λj c=>S.rt _ _ j h c) {_,g.mvD (S.hks (by exists f)) h ∅ (.inl ∅) λj c=>fO u c};rw[Mw]at e;show{_,e,o}
def Sim.move(S:Sim Γ H O Z A b m)(B:vx Z.length G n A0 m A)(u:A k*>(w,{.vw (TV i) (TV []),s}))(h : O[i]?*>(⇑t)):Got Γ H ((aB [i] O).set i TU) Z A0 b n (G++[i]) w {.ow,s}:=by
 have(v0,c,e):=S.slot h;have(F,g):=S.sm;have kd:=g.kd u;have(x,y,f,C,E,q):=kd;rw[e]at f;cases f;have(l,o):=q [] rfl;rw[T.sub]at l;cases l;rw[atP]at o;subst o;have a:=(Ib.mp c).1;have(z,p):=S.drop (M:=[i]) (ks:=[]) B ∅ ∅ (λ_ _=>hZ) (by simp[cV]) (by exists a);show z.got p (λj d=>(nomatch d)) {_,g.mvD (S.hks ∅) e ∅ (.inr (S.ub m (Ig _))) λj d=>(nomatch d)}
def SM.rps(g:SM Γ H A F):∀{ks:!Nat} {vs:!V} {ts:!T},At A ks vs (ts.map λt=>{.ow,t})->ks.Nodup->Rps Γ.K H ts vs (ks.flatMap F)/\(ks.flatMap F).Nodup/\∀k∈ks,∃v t,A k*>(v,{.ow,t})
 | [],[],[],_,_=>{Rps.nil,IP,by simp}
 | k::ks,v::vs,t::ts,h,C=>by
  have(f,z):=h;have(B,p):=IM.mp C;have(E,J,o):=g.rps z p;show{Rps.cons (g.rp f) E,?_,λj d=>?_}
  .rw[Ju];show Iv.mpr {g.nd f rfl,J,λa y c l e=>?_};subst e;have(j,d,l):=Jo.mp l;have(w,u,q):=o j d;show B (g.dj f q rfl rfl y l▸d)
  .rcases ycM d with rfl|d;show⟨v,t,f⟩;show o j d
 | [],[],_::_,h,_=>by cases h
 | [],_::_,[],h,_=>by cases h
 | [],_::_,_::_,h,_=>by cases h
 | _::_,[],[],h,_=>by cases h
 | _::_,[],_::_,h,_=>by cases h
 | _::_,_::_,[],h,_=>by cases h
def Sim.use(S:Sim Γ H O Z A b m)(kp:vx Z.length M n A0 m A)(h:At A ks vs (ts.map λt=>{.ow,t}))(nd:ks.Nodup)(C:∀k∈ks,b<=k/\A0 k=TU):∃X,Rps Γ.K H ts vs X/\X.Nodup/\(∀a∈X,Mu H a)/\(∀l x r,A l*>(x,r)->l∉ks->∃Y,Rp Γ.K H r.t x Y/\∀a∈Y,a∉X) /\
  ∀H' v t p,MQ X H H'->(∀a∈X,∃o,H' a*>o)->p.Nodup->(∀a∈p,(a∈X\/H a=TU)/\Mu H' a)->Rp Γ.K H' t v p->Got Γ H' O Z A0 b n M v {.ow,t}:=by
 have(F,g):=S.sm;have(r1,U,f):=g.rps h nd;show{_,r1,U,λa d=>?_,λl x r J nl=>{_,g.rp J,λa d z=>?_},λH' v t p B E y P rp=>?_}
 .have(j,c,d):=Jo.mp d;have(w,u,q):=f j c;show(g.ad {j,w,_,q,Xr,d}).1
 .have(j,c,z):=Jo.mp z;have(w,u,q):=f j c;show g.apart q rfl z J (λe=>nl (e▸c)) (λe=>by have:=(S.rt _ _ _ J e).1;have:=(C j c).1;omega) d
 .have N:∀k∈ks,b<=k:=λk h=>(C k h).1;have(Q,L):=S.drop (M:=[]) (ks:=ks) (O':=O) kp N (λk h=>(C k h).2) (λi r=>by simp[hU]) rfl ∅;rw[Iw]at L;show Q.got L (λj c=>(nomatch c)) {_,g.stepD (M:=[]) (S.hks N) (λj c=>let ⟨w,u,q⟩:=f j c;{w,_,q,Xr}) B E (.inr (S.ub m (Ig _))) rp y (λa d=>{(P a d).1.symm,(P a d).2}) (.inl ⟨Xr,f⟩)}
def Sim.place(S:Sim Γ H O Z A b m)(d:A k*>(w,{.vw (TV i) (TV p),s}))(h:A i*>(v,r)):r.t.sub p*>s/\atP Γ.K H v p w:=by
 have(F,g):=S.sm;have(x,y,a,e,f,c):=g.kd d;rw[h]at a;cases a;show c p rfl
def Sim.mut{p:!Ac}(S:Sim Γ H O Z A b m)(kp:vx Z.length M n A0 m A)(hw:A k*>(w,{.vw (TV i) (TV p),s}))(h:At A ks vs (ts.map λt=>{.ow,t}))(nd:ks.Nodup)(hk:∀k∈ks,b<=k/\A0 k=TU)(hi : O[i]?*>(TV ⟨kd,t⟩))(ho:kd.isOw=T1) :
  ∃G X,Rp Γ.K H s w G/\Rps Γ.K H ts vs X/\(G++X).Nodup/\(∀a∈G++X,Mu H a)/\(∀l x r,Z.length<=l->A l*>(x,r)->aL [i] r=T1->∃Y,Rp Γ.K H r.t x Y/\∀a∈Y,a∉G) /\
  ∀H' s' Q,MQ G H H'->(∀a∈G,∃o,H' a*>o)->Q.Nodup->(∀a∈Q,(a∈G++X\/H a=TU)/\Mu H' a)->Rp Γ.K H' s' w Q->∃A',Sim Γ H' ((aB [i] O).set i (TV {kd,t.put p s'})) Z A' b m/\vx Z.length (M++[i]) n A0 m A' /\
   ∀x u Y,Y.Nodup->(∀a∈Y,H a=TU/\a∉Q/\Mu H' a)->Rp Γ.K H' u x Y->Got Γ H' ((aB [i] O).set i (TV {kd,t.put p s'})) Z A0 b n (M++[i]) x {.ow,u}:=by
 have(v0,hv0,L):=S.slot hi;have(pl1,pl2):=S.place hw L;have(F,g):=S.sm;have(r1,r2,r3):=g.rps h nd;have U:=(Ib.mp hv0).1;have le:=S.le;have nik:i∉ks:=λz=>by have:=(hk i z).1;omega
 have C:∀a∈F i,Mu H a:=λa d=>(g.ad {i,v0,_,L,ho,d}).1;have(w',X,G,Y,z1,z2,z3,z4):=(g.rp L).atP C (g.nd L ho) pl1;have ew:=kn z1 pl2;subst ew;have J:∀a∈G,a∈F i:=λa d=>by rw[z3];show yaL _ (yaR _ d)
 have ndi:=g.nd L ho;rw[z3]at ndi;have nA:=Iv.mp ndi;have nB:=Iv.mp nA.1;have djk:∀a∈F i,a∉ks.flatMap F:=λa d z=>by
  have(j,E,z):=Jo.mp z;have(x,u,q):=r3 j E;show nik (g.dj L q ho rfl d z▸E)
 have muk:∀a∈ks.flatMap F,Mu H a:=λa d=>by
  have(j,E,d):=Jo.mp d;have(x,u,q):=r3 j E;show(g.ad {j,x,_,q,Xr,d}).1
 have B:∀{a},a∈([i]++ks).flatMap F↔a∈F i\/a∈ks.flatMap F:=λ{a}=>by
  rw[List.singleton_append,Ju,KI]
 show{G,_,z2,r1,Iv.mpr {nB.2.1,r2,λa d c hc e=>djk a (J a d) (e▸hc)},λa d=>(yaM d).elim (λq=>C a (J a q)) (muk a),λl x r hl hx hr=>{_,g.rp hx,λa d P=>?_},λH' s' Q N dom nd' hG rp=>?_};show g.apart L ho (J a P) hx ⋯ (fO hr) d;have hb:∀k∈ks,b<=k:=λk h=>(hk k h).1;have(S1,k1):=S.drop (M:=[i]) (ks:=ks) kp hb (λk h=>(hk k h).2) (λ_ _=>hZ) (by simp[cV]) (by exists U);have f:∀a,a∈X\/a∈Y->a∈F i/\a∉G:=λa q=>by
  show{by rw[z3];rcases q with q|q<;>simp[q],λP=>?_};rcases q with q|q;show nB.2.2 a q a P rfl;show nA.2.2 a (yaR _ P) a q rfl
 have nXY:∀a,a∈X\/a∈Y->a∉Q:=λa q P=>by
  have(h1,h2):=f a q;rcases(hG a P).1 with z|z;show(yaM z).elim h2 (djk a h1);have(o,e,_):=C a h1;rw[z]at e;cases e
 have gs:=g.stepD (v:=v0) (r:={kd,t.put p s'}) (H':=H') (n:=i) (M:=[i]) (S.hks hb) (λj E=>by
   rcases yaM E with q|q;rw[ysM q];show{_,_,L,ho}
   .have(x,u,q):=r3 j q;show{_,_,q,Xr}) (N.mono λa d=>B.mpr (.inl (J a d))) (λa d=>by
   by_cases P:a∈G;show dom a P;have(o,e,_):=(B.mp d).elim (C a) (muk a);show{o,N a o e P}) (.inl ∅) (z4 H' s' Q N rp)
   (Iv.mpr ⟨Iv.mpr {nB.1,nd',λa d c hc e=>nXY a (.inl d) (e▸hc)},nA.2.1,λa d c hc e=>by
    subst e;rcases yaM d with z|z;show nA.2.2 a (yaL _ z) a hc rfl
    .show nXY a (.inr hc) z⟩) (λa d=>by
    have old:a∈X\/a∈Y->(H a=TU\/a∈([i]++ks).flatMap F)/\Mu H' a:=λq=>by
     have(h1,h2):=f a q;have(o,e,mo):=C a h1;show{.inr (B.mpr (.inl h1)),o,N a o e h2,mo}
    rcases yaM d with z|z
    .rcases yaM z with z|z;show old (.inl z);show{(hG a z).1.symm.imp id λq=>B.mpr ((yaM q).imp (J a) id),(hG a z).2}
    .show old (.inr z)) (by
    have kx:=g.kd L;cases kd with
    | ow=>show .inl ⟨Xr,λj E=>by
      rcases yaM E with q|q;rw[ysM q];show{_,_,L};show r3 j q⟩
    | io l=>show .inr ⟨l,Xr,kx⟩
    | vw a c=>cases ho)
 have(S2,k2):=S1.fill k1 U (λj E=>by
   cases kd with
   | vw a c=>cases ho
   | ow=>cases E
   | io _=>cases E) {_,gs}
 rw[Mw]at S2;have eZ:Z.set i (TV v0)=Z:=by
  apply LI;intro l;by_cases hl:l=i;subst hl;rw[hv0];simp[U];rw[Iz (NS hl)]
 rw[eZ]at S2;show{_,S2,k2,λx u Y' nY hY rpY=>S2.got k2 (λj E=>(nomatch E)) {_,gs.add (S2.ub m (Ig _)) rpY nY λa d=>{(hY a d).2.2,g.new0 (hY a d).1,λl y hl z=>?_}}};by_cases e:l=i
 .subst e;rw[aG]at z;have no:a∉F l:=λq=>by have(o,e,_):=C a q;rw[(hY a d).1]at e;cases e
  rcases yaM z with z|z
  .rcases yaM z with z|z;show no (f a (.inl z)).1;show(hY a d).2.1 z
  .show no (f a (.inr z)).1
 .rw[aY e]at z hl;have(o,e):=(g.rp (M3.mp (show dr A [i] ks l*>(y.1,y.2)from hl)).2.2.1).dom a z;rw[(hY a d).1]at e;cases e
end
section
variable {X:Cx}
def Inv.lstR(I:Inv X OK Z H s)(c:Rd H l (.lst xs)):xs.length<=sizeLine/\∃(a:!Nz) (n:Nat),Vals xs a/\xs.length=a.length/\s.heap.get? l=TV {cls:=.type "list",data:=.seq a.toArray n}:=by
 have(z,a,n,r,e):=c.ok I.hok;show⟨z,a,n,r,r.length,e⟩
abbrev BG:R2:=λx y H Q=>∃l b a c,x=.ref l/\y=.ref b/\Rd H l (.lst a)/\Rd H b (.lst c)/\a.length+c.length<=sizeLine/\∀p,H p=TU->Q (.ref p) (upd H p (.lst (a++c)))
def op_catR:OpR X (Og .Add) BG:=by
 intro p s Z H x y v u Q I f m h;obtain⟨l,b,A,E,rfl,rfl,k,g,w,q⟩:=h;cases f;cases m;have(z,c,n,r,C,e):=I.lstR k;have(t,a,B,i,j,d):=I.lstR g;show PySem.P.add_list e d ?_ (by rw[Ic,Ic];omega);have o:c.toArray++a.toArray=(c++a).toArray:=by simp
 rw[o];show{.ref _,_,I.lnew (t':=s.toks) (r.append i) (by rw[Ij];omega),Xr,q _ I.fresh}
abbrev xp(K:yF):R2:=λx y H Q=>∃a b c,x=.ref a/\y=.ref b/\SqT K H a []/\SqT K H b c/\Q (.ref b) H
def vY:OpR X (Og .Add) (xp X.K):=by
 intro N s Z H x y v u Q I t J h;have(a,b,O,rfl,rfl,r,w,q):=h;cases t;cases J;have(j,M,A,_):=I.tuple r;have(f,P,L,_):=I.tuple w;have G:j=[]:=M.nil_iff.mpr rfl;subst G;obtain⟨⟨C,E,o,z⟩,l,m,n,p⟩:=id A;obtain⟨⟨k,g,data2,i⟩,e,c,B,d⟩:=id L;simp only at m p c d;subst m p c d;show RO {_,l,Xr} {_,e,Xr} Qx Rw PySem.F.slot_tuple_add PySem.F.entry_tuple_add (PySem.F.args_tuple_add_2 _ _)
   (tuple_addW0 a b #[] f.toArray n B E g z i rfl) {l,e,{.ref b,H,I,Xr,q}}
abbrev xo(K:yF):R2:=λx y H Q=>BF K x y H Q\/(BG x y H Q\/xp K x y H Q)
def zw:OpR X (Og .Add) (xo X.K):=op_addX.or (op_catR.or vY)
abbrev BK:R2:=λx y H Q=>∃l k a,x=.ref l/\y=.int k/\Rd H l (.lst a)/\-(2^63)<=k/\k<2^63/\a.length*k.toNat<=sizeLine/\∀p,H p=TU->Q (.ref p) (upd H p (.lst (Ih k.toNat a).flatten))
def zz:OpR X (Og .Mult) BK:=by
 intro M s Z H x y v u Q I B G h;obtain⟨l,k,O,rfl,rfl,E,C,L,w,q⟩:=h;cases B;have(t,rfl):=G;have(z,c,n,r,K,e):=I.lstR E;have j:c.toArray.size*k.toNat<=sizeLine:=by rw[Ic,<-K];show w
 have i:¬ c.toArray.size*k.toNat>(2^63-1) / 8:=by
  have:(sizeLine:Nat)<=(2^63-1) / 8:=by decide
  omega
 have f:¬ (~~~Builtin.List.listFitsIndex k)=T1:=by
  rw[Qb C L];show Il
 have d:¬ N8 (c.toArray.size*k.toNat)=T1:=by
  rw[dZ j];show Il
 have g:Lh (λp o=>p++o) #[] (Ih (if c.toArray.isEmpty=T1 then 0 else k.toNat) c.toArray)=(Ih k.toNat c).flatten.toArray:=by
  have A:∀m:Nat,Lh (λp o=>p++o) #[] (Ih m c.toArray)=(Ih m c).flatten.toArray:=λm=>by
   have:=fw c m [];rw[Ki]at this;show this
  rw[A];cases c with
  | nil=>simp
  | cons a N=>rw[if_neg ∅]
 show Pd (T:="list") (U:="int") (by decide) {_,e,Xr} (λJ=>Px J k t) Sk Q0 OW repeat_list Qy.lookup
  (Oz OW (Px s k t) Qz (Qm _ _) (Q5 k t l c.toArray n)
   {e,Xr,{_,e,Xr},Oz Sl {_,e,Xr} R6 (RQ _ _) (Pm l c.toArray n k t f i d) {e,?_}})
 rw[g];show{.ref _,_,I.lnew (t':=s.toks) (r.rep k.toNat) (by rw[je,LF];show w),Xr,q _ I.fresh}
abbrev xv(K:yF):R2:=λx y H Q=>BJ K x y H Q\/BK x y H Q
def zy:OpR X (Og .Mult) (xv X.K):=op_mulX.or zz
abbrev o3:V->!V->Hp->VK->Prop:=λx vs H Q=>∃l b a c,x=.ref l/\vs=[.ref b]/\H l*>(.lst a)/\Rd H b (.lst c)/\a.length+c.length<=sizeLine/\Q .non (upd H l (.lst (a++c)))
def qe:MtM X "list.extend" o3:=by
 intro y s Z H x vs v G Q I j p h;obtain⟨l,b,C,J,rfl,rfl,g,k,B,q⟩:=h;cases j;have(u,rfl,w):=p.one;cases w;have(z,c,n,r,E,e):=I.lstM g;have(A,a,o,m,t,i):=I.lstR k;have f:c.toArray.size+a.toArray.size<=sizeLine:=by rw[Ic,Ic];omega
 have d:¬ (~~~c.toArray.isEmpty&&N8 (c.toArray.size+a.toArray.size))=T1:=by
  rw[dZ f,JZ];show Il
 show Oz Qa {_,e,Xr} PX (PJ _ _)
  (Pp l c.toArray n b a.toArray o d (by rw[Ic];omega) ⋯) {e,i,?_}
 show{.non,_,I.lset (its':=c++a) g e ∅ (r.append m) ?_,Xr,q};rw[Ij];omega
abbrev xq(K:yF):V->!V->Hp->VK->Prop:=λx a H Q=>o3 x a H Q\/o4 K x a H Q
def zp:MtR X "list.extend" (xq X.K):=MtR.or qe qf
end
structure ME where
 run:Rho->(R->Rho->Prop)->Prop
 mu:!Nat
structure MT where
 run:Rho->(Bool->Rho->Prop)->Prop
 mu:!Nat
structure MA where
 run:Rho->(!R->Rho->Prop)->Prop
 mu:!Nat
inductive Fl where
 | nx|rt (t:T)|bk|ct
structure MS where
 run:Rho->(Fl->Rho->Prop)->Prop
 mu:!Nat
structure MG where
 run:R->Rho->(Rho->Prop)->Prop
 mu:!Nat
structure MGs where
 run:!R->Rho->(Rho->Prop)->Prop
 mu:!Nat
abbrev C1{c:Type}(f:(c->Prop)->Prop)(Q : c->Prop):Prop:=∃P,f P/\∀a,P a->Q a
abbrev C2{d c:Type}(f:(d->c->Prop)->Prop)(Q : d->c->Prop):Prop:=∃P,f P/\∀a b,P a b->Q a b
def C1.of{a:Type}{f:(a->Prop)->Prop}{Q : a->Prop}(h:f Q):C1 f Q:={Q,h,λ_=>id}
def C2.of{c a:Type}{f:(c->a->Prop)->Prop}{Q : c->a->Prop}(h:f Q):C2 f Q:={Q,h,λ_ _=>id}
def C1.mono{c:Type}{f:(c->Prop)->Prop}{Q R : c->Prop}(h:C1 f Q)(k:∀a,Q a->R a):C1 f R:=let ⟨P,h,q⟩:=h;{P,h,λa p=>k a (q a p)}
def C2.mono{c d:Type}{f:(c->d->Prop)->Prop}{Q R : c->d->Prop}(h:C2 f Q)(k:∀a b,Q a b->R a b):C2 f R:=let ⟨P,h,q⟩:=h;{P,h,λa b p=>k a b (q a b p)}
abbrev WE(m:ME)(O:Rho)(Q:R->Rho->Prop):Prop:=C2 (m.run O) Q
abbrev WT(m:MT)(O:Rho)(Q:Bool->Rho->Prop):Prop:=C2 (m.run O) Q
abbrev WA(m:MA)(O:Rho)(Q:!R->Rho->Prop):Prop:=C2 (m.run O) Q
abbrev WS(m:MS)(O:Rho)(Q:Fl->Rho->Prop):Prop:=C2 (m.run O) Q
abbrev WG(m:MG)(r:R)(O:Rho)(Q:Rho->Prop):Prop:=C1 (m.run r O) Q
abbrev WGs(m:MGs)(rs:!R)(O:Rho)(Q:Rho->Prop):Prop:=C1 (m.run rs O) Q
abbrev Gu(b:Bool)(P:Prop):Prop:=b=T1/\P
abbrev W1{a:Type}(o:↑a)(Q : a->Prop):Prop:=∃x,o*>x/\Q x
abbrev W2{c a:Type}(o:↑(c × a))(Q : c->a->Prop):Prop:=∃x y,o*>(x,y)/\Q x y
abbrev ay(M:!Nat) (r:R):Bool:=aL M r
abbrev Af(Γ:Gm)(O':Rho)(A:Fam)(b n L:Nat)(M:!Nat)(Q:St->Hp->Prop):Prop:=∀a d c m,a.length=L->Sim Γ d O' a c b m->vx L M n A m c->Q a d
abbrev No(Γ:Gm)(O':Rho)(A:Fam)(b n L:Nat)(M:!Nat)(D:Nh):Fl->Prop
 | .nx=>Af Γ O' A b n L M D.nx
 | .bk=>Af Γ O' A b n L M D.bk
 | .ct=>Af Γ O' A b n L M D.ct
 | .rt t=>∀v d c a m k,Sim Γ c O' d a b m->a k*>(v,{.ow,t})->D.rt v c
abbrev rm(A:Fam) (ks:!Nat):Fam:=λi=>if i∈ks then TU else A i
abbrev MN(K:yF)(e:TE)(m:ME):Prop:=∀{a:Gm} {H:Hp} {O:Rho} {Z:St} {A:Fam} {b n:Nat} {Q:VK} {P:R->Rho->Prop},a.K=K->m.run O P->Sim a H O Z A b n->(∀r d v c,P r d->Got a c d Z A b n m.mu v r->Q v c)->e Z H Q
abbrev M5(K:yF)(h:TT)(m:MT):Prop:=∀{a:Gm} {H:Hp} {O:Rho} {Z:St} {A:Fam} {b n:Nat} {Q:Bool->Hp->Prop} {P:Bool->Rho->Prop},a.K=K->m.run O P->Sim a H O Z A b n->(∀c g f e d,P c g->Sim a f g Z e b d->vx Z.length m.mu n A d e->Q c f)->h Z H Q
abbrev M2(K:yF)(f:TA)(m:MA):Prop:=∀{a:Gm} {H:Hp} {O:Rho} {Z:St} {A:Fam} {b n:Nat} {Q:!V->Hp->Prop} {P:!R->Rho->Prop},a.K=K->m.run O P->Sim a H O Z A b n->(∀c e vs d,P c e->Nw a d e Z A b n m.mu vs c->Q vs d)->f Z H Q
abbrev MX(K:yF)(ts:TS)(m:MS):Prop:=∀{a:Gm} {H:Hp} {O:Rho} {Z:St} {A:Fam} {b n:Nat} {D:Nh} {P:Fl->Rho->Prop},a.K=K->m.run O P->Sim a H O Z A b n->(∀f c,P f c->No a c A b n Z.length m.mu D f)->ts D Z H
abbrev Nc(K:yF)(g:TG)(m:MG):Prop:=∀{a:Gm} {H:Hp} {O:Rho} {Z:St} {A:Fam} {b n k:Nat} {Q:St->Hp->Prop} {v:V} {r:R} {P:Rho->Prop},a.K=K->m.run r O P->Sim a H O Z A b n->b<=k->A k*>(v,r)->(∀c,P c->Af a c (rm A [k]) b n Z.length m.mu Q)->g v Z H Q
abbrev Ni(K:yF)(g:TGs)(m:MGs):Prop:=∀{c:Gm} {H:Hp} {O:Rho} {Z:St} {A:Fam} {b n:Nat} {a:!Nat} {Q:St->Hp->Prop} {vs:!V} {d:!R} {P:Rho->Prop},c.K=K->m.run d O P->Sim c H O Z A b n->At A a vs d->a.Nodup->(∀k∈a,b<=k)->(∀e,P e->Af c e (rm A a) b n Z.length m.mu Q)->g vs Z H Q
section
variable {K:yF}{Γ:Gm}{H:Hp}{O:Rho}{Z:St}{A A' A0:Fam}{b n m k L:Nat}{M N ks:!Nat}{r:R}{v:V}{vs:!V}{rs:!R}
def MN.w{a:TE}{m:ME}{Q:VK}{P:R->Rho->Prop}(h:MN K a m)(c : Γ.K=K)(w:WE m O P)(S:Sim Γ H O Z A b n)(q:∀r O' v H',P r O'->Got Γ H' O' Z A b n m.mu v r->Q v H'):a Z H Q:=let ⟨_,w,k⟩:=w;h c w S λr O' v H' p g=>q r O' v H' (k _ _ p) g
def M5.w{d:TT}{m:MT}{Q:Bool->Hp->Prop}{P:Bool->Rho->Prop}(h:M5 K d m)(e : Γ.K=K)(w:WT m O P)(S:Sim Γ H O Z A b n)(q:∀c O' H' A' a,P c O'->Sim Γ H' O' Z A' b a->vx Z.length m.mu n A a A'->Q c H'):d Z H Q:=let ⟨_,w,k⟩:=w;h e w S λc O' H' A' a p g=>q c O' H' A' a (k _ _ p) g
def M2.w{a:TA}{m:MA}{Q:!V->Hp->Prop}{P:!R->Rho->Prop}(h:M2 K a m)(c : Γ.K=K)(w:WA m O P)(S:Sim Γ H O Z A b n)(q:∀rs O' vs H',P rs O'->Nw Γ H' O' Z A b n m.mu vs rs->Q vs H'):a Z H Q:=let ⟨_,w,k⟩:=w;h c w S λrs O' vs H' p g=>q rs O' vs H' (k _ _ p) g
def MX.w{a:TS}{m:MS}{D:Nh}{P:Fl->Rho->Prop}(h:MX K a m)(c : Γ.K=K)(w:WS m O P)(S:Sim Γ H O Z A b n)(q:∀f O',P f O'->No Γ O' A b n Z.length m.mu D f):a D Z H:=let ⟨_,w,k⟩:=w;h c w S λf O' p=>q f O' (k _ _ p)
def Nc.w{a:TG}{m:MG}{Q:St->Hp->Prop}{P:Rho->Prop}(h:Nc K a m)(c : Γ.K=K)(w:WG m r O P)(S:Sim Γ H O Z A b n)(d:b<=k)(e:A k*>(v,r))(q:∀O',P O'->Af Γ O' (rm A [k]) b n Z.length m.mu Q):a v Z H Q:=let ⟨_,w,k⟩:=w;h c w S d e λO' p=>q O' (k _ p)
def Ni.w{c:TGs}{m:MGs}{Q:St->Hp->Prop}{P:Rho->Prop}(h:Ni K c m)(d : Γ.K=K)(w:WGs m rs O P)(S:Sim Γ H O Z A b n)(a:At A ks vs rs)(f:ks.Nodup)(e:∀k∈ks,b<=k)(q:∀O',P O'->Af Γ O' (rm A ks) b n Z.length m.mu Q):c vs Z H Q:=let ⟨_,w,k⟩:=w;h d w S a f e λO' p=>q O' (k _ p)
def vx.rm(a:vx L M n A0 m A)(d:∀i,n<=i->A0 i=TU)(c:∀k∈ks,n<=k):vx L M n A0 m (L2.rm A ks):=⟨a.1,λi x l e z=>by
 have:i∉ks:=λh=>by rw[d i (c i h)]at e;cases e
 unfold L2.rm;rw[if_neg this];show a.2 i x l e z⟩
def Af.tr{O':Rho}{Q:St->Hp->Prop}(q:Af Γ O' A0 b n L (M++N) Q)(f:vx L M n A0 m A):Af Γ O' A b m L N Q:=λe d A' a c S k=>q e d A' a c S (f.tr k)
def No.tr{O':Rho}{D:Nh}{f:Fl}(q:No Γ O' A0 b n L (M++N) D f)(a:vx L M n A0 m A):No Γ O' A b m L N D f:=by
 cases f with
 | rt t=>show q
 | _=>show Af.tr q a
def Af.sub{O':Rho}{Q:St->Hp->Prop}(q:Af Γ O' A b n L M Q)(h:∀j∈N,j∈M):Af Γ O' A b n L N Q:=λe d A' a c S k=>q e d A' a c S (k.sub h)
def No.sub{O':Rho}{D:Nh}{f:Fl}(q:No Γ O' A b n L M D f)(h:∀j∈N,j∈M):No Γ O' A b n L N D f:=by
 cases f with
 | rt t=>show q
 | _=>show Af.sub q h
def inl{M N:!Nat}:∀j∈M,j∈M++N:=λ_=>yaL _
def inr{M N:!Nat}:∀j∈N,j∈M++N:=λ_=>yaR _
def MN.two{C s:TE}{a c:ME}{P:R->R->Rho->Prop}{Q:V->V->Hp->Prop}(G:MN K C a)(U:MN K s c)(u : Γ.K=K)(w:WE a O λd E=>WE c E λe h=>Gu (ay c.mu d) (P d e h))(S:Sim Γ H O Z A b n)
  (q:∀d e h x y f g k l m,P d e h->Sim Γ f h Z g b m->g k*>(x,d)->g l*>(y,e)->n<=k->k<l->vx Z.length (a.mu++c.mu) n A m g->Q x y f):C Z H λx B=>s Z B λy f=>Q x y f:=
 G.w u w S λd E x B w ⟨A1,k,m1,t,o,z,j⟩=>U.w u w t λe h y f ⟨X,p⟩ ⟨g,l,m2,J,k2,Y,i⟩=>
  q d e h x y f g k l m2 p J (i.2 k _ (Ik S.le (Ik S.bn o)) z X) Y o (Iq (t.lt z) k2) (j.tr i)
private def mC(i:I):ME:={λO Q=>Q {.ow,.im i} O,[]}
private def ag(i:Nat):ME:={λO Q=>∃r,O[i]?*>(TV r)/\Q (rdR i r) O,[]}
def r9(h:i.sc*>v):MN K (tC v) (mC i):=by unhygienic
 intro Γ H O Z A b n Q P a w S q;show q _ _ v H w (S.imm S.kept (ju h))
def AB{i:Nat}:MN K (ym i) (ag i):=by unhygienic
 intro Γ H O Z A b n Q P c w S q;obtain⟨r,h,w⟩:∃r,O[i]?*>(TV r)/\P (rdR i r) O:=w;have(v,a,g):=S.var S.kept h;show{v,a,q _ _ v H w g}
private def af:MA:={λO Q=>Q [] O,[]}
private def aa(m:ME)(a:MA):MA:={λO Q=>WE m O λr d=>WA a d λrs c=>Gu (ay a.mu r) (Q (r::rs) c),m.mu++a.mu}
def Ar:M2 K yj af:=by unhygienic
 intro Γ H O Z A b n Q P a w S q;show q [] _ [] H w {A,[],n,S,trivial,IP,by simp,S.kept}
def At.kept{d:Nat}(h:At A ks vs rs)(g:vx L M n A d A')(c:∀k∈ks,L<=k)(a:rs.all (ay M)=T1):At A' ks vs rs:=by
 induction ks generalizing vs rs with
 | nil=>cases vs<;>cases rs<;>first|show h|cases h
 | cons k ks e=>
  cases vs with
  | nil=>cases rs<;>cases h
  | cons v vs=>
   cases rs with
   | nil=>cases h
   | cons r rs=>
    rw[JX,Ie]at a;show{g.2 k _ (c k ymS) h.1 a.1,e h.2 (λj f=>c j (ymC _ f)) a.2}
def xB{f:TE}{t:TA}{m:ME}{h:MA}(B:MN K f m)(J:M2 K t h):M2 K (pi f t) (aa m h):=by unhygienic
 intro Γ H O Z A b n Q P o w S q;show B.w o w S λr O1 v Y w ⟨X,k,m1,l,g,s,c⟩=>?_;show J.w o w l λrs G vs x ⟨y,p⟩ ⟨C,ks,E,u,d,U,i,a⟩=>q (r::rs) G (v::vs) x p {C,k::ks,E,u,{?_,d},IM.mpr {λz=>?_,U},λj e=>?_,c.tr a};show a.2 k _ (Ik S.le (Ik S.bn g)) s y;have:=i k z;have:=l.lt s;omega
 .rcases ycM e with rfl|e;show g;show Ik c.1 (i j e)
private def aV:MS:={λO Q=>Q .nx O,[]}
@[irreducible] def yY(s:MS)(Q:Fl->Rho->Prop):Fl->Rho->Prop
 | .nx,O=>WS s O Q
 | f,O=>Q f O
private def ao(a c:MS):MS:={λO Q=>WS a O (yY c Q),a.mu++c.mu}
private def mIf(c:MT)(a e:MS):MS:={λO Q=>WT c O λd f=>(d=T1->WS a f Q)/\(d=TZ->WS e f Q),c.mu++(a.mu++e.mu)}
private def bB(e:ME):MS:={λO Q=>WE e O λ_ a=>Q .nx a,e.mu}
private def ax(e:ME)(g:MG):MS:={λO Q=>WE e O λr c=>WG g r c λa=>Q .nx a,e.mu++g.mu}
private def ut:R->Rho->↑(T×Rho)
 | ⟨.ow,t⟩,O=>TV (t,O)
 | ⟨.vw (TV i) (TV []),t⟩,O=>match O[i]? with
  | some (⇑_)=>TV (t,(aB [i] O).set i TU)
  | _=>TU
 | _,_=>TU
private def aT(e:ME):MS:={λO Q=>WE e O λr c=>W2 (ut r c) λt a=>Q (.rt t) a,e.mu}
def o9:MX K BR aV:=by unhygienic
 intro Γ H O Z A b n D P a w S q;show q .nx _ w Z H A n rfl S S.kept
def se{t u:TS}{a c:MS}(l:MX K t a)(i:MX K u c):MX K (Ex t u) (ao a c):=by unhygienic
 intro Γ H O Z A b n D P e w S q;show l.w (D:={D with nx:=u D}) e w S λf o w=>?_;cases f with
 | nx=>show λy s z x g j d=>i.w e w j λf h p=>by rw[g];show(q f h p).tr d
 | _=>show(q _ o w).sub inl
def sd{c:TT}{t u:TS}{i:MT}{a e:MS}(l:M5 K c i)(x:MX K t a)(s:MX K u e):MX K (GL c t u) (mIf i a e):=by unhygienic
 intro Γ H O Z A b n D P g w S q;show l.w g w S λo C y B z w j d=>?_;cases o with
 | true=>show pV (x.w g (w.1 rfl) j λf h p=>((q f h p).tr d).sub inl)
 | false=>show pU (s.w g (w.2 rfl) j λf h p=>((q f h p).tr d).sub inr)
def xC{c:TE}{m:ME}(h:MN K c m):MX K (yf c) (bB m):=by unhygienic
 intro Γ H O Z A b n D P d w S q;show h.w d w S λr j v e p ⟨g,k,f,i,l,o,a⟩=>q .nx j p Z e g f rfl i a
def nM{f:TE}{g:TG}{m:ME}{c:MG}(h:MN K f m)(j:Nc K g c):MX K (AL f g) (ax m c):=by unhygienic
 intro Γ H O Z A b n D P e w S q;show h.w e w S λr x v s w ⟨u,k,t,o,d,i,a⟩=>j.w e w o (Ik S.bn d) i λl p=>Af.tr (q .nx l p) (a.rm S.ub (by exists d))
def Av{f:TE}{m:ME}(h:MN K f m):MX K (GP f) (aT m):=by unhygienic
 intro Γ H O Z A b n D P s w S q;show h.w s w S λr E v e w ⟨i,k,y,c,C,d,u⟩=>?_;have(t,B,a,p):=w;have q:=q (.rt t) B p v;unfold ut at a;split at a;cases a;show q Z e i y k c d
 .ext a j;cases a;have(x,l,z,g,_,o,_):=c.move c.kept d j;show q Z e x z l g o
 .cases a
private def ah(i:Nat):MG:={λr O Q=>Gu (bZ O i&&ay [i] r) (Q ((aB [i] O).set i (TV r))),[i]}
def nO:vx L [] n (rm A ks) n A:=⟨Ig _,λi x l e _=>by
 unfold rm at e;split at e;cases e;show e⟩
def jr{i:Nat}:Nc K (l6 i) (ah i):=by unhygienic
 intro Γ H O Z A b n k Q v r P f w S c e q;obtain⟨h,p⟩:Gu (bZ O i&&ay [i] r) (P ((aB [i] O).set i (TV r))):=w;rw[Ie]at h;have(A',a,d):=S.put (A0:=rm A [k]) nO c (by unfold rm;simp) e h.1 h.2;show q _ p _ H A' n ∅ a d
end
section
variable {K:yF}{H H':Hp}{Γ:Gm}{O:Rho}{Z:St}{A:Fam}{t:T}{v x y:V}{Q:VK}{b n:Nat}{M N:!Nat}{r:R}
def New.im(h:RpI K H i v):New K H H (.im i) v:={MY.refl H,[],j9 h,IP,by simp}
def New.sc(h:i.sc*>v):New K H H (.im i) v:=.im (ju h)
def New.tup(hp:H p=TU)(h:ek K H is xs):New K H (upd H p (.tup xs)) (.im (.tup is)) (.ref p):=by
 show{MY.laid hp,[],j9 ?_,IP,by simp};rw[RpI];show{p,xs,Xr,SqT.of aE,h.same (MY.laid hp)}
def New.li(hp:H p=TU)(h:ek K H is xs):New K H (upd H p (.lst xs)) (.li is) (.ref p):=by
 show{MY.laid hp,[p],?_,by simp,λa c=>?_};rw[Rp];show{p,xs,Xr,.inl aE,h.same (MY.laid hp),Xr};rw[ysM c];show{hp,_,aE,Xr}
def cT(h:Rpx K H (.im i) v):RpI K H i v:=by obtain⟨F,h⟩:=h;show(bq h).1
def aH{n:Int}(h:Rpx K H (.im (.int n)) v):v=.int n:=by have:=cT h;rw[RpI]at this;show this
def dA{n:Str}(h:Rpx K H (.im (.str n)) v):v=.str n:=by have:=cT h;rw[RpI]at this;show this
def su{n:Bool}(h:Rpx K H (.im (.bl n)) v):v=.bl n:=by have:=cT h;rw[RpI]at this;show this
def Eo(h:Rpx K H (.im .non) v):v=.non:=by have:=cT h;rw[RpI]at this;show this
def bG(h:Rpx K H (.im (.tup is)) v):∃a xs,v=.ref a/\SqT K H a xs/\ek K H is xs:=by have:=cT h;rw[RpI]at this;show this
def bE(h:Rpx K H (.li is) v):∃a xs,v=.ref a/\Rd H a (.lst xs)/\ek K H is xs:=by
 obtain⟨F,h⟩:=h;rw[Rp]at h;obtain⟨a,xs,e,d,c,_⟩:=h;show⟨a,xs,e,d,c⟩
def ka(h:Rpx K H (.im (.ls is)) v):∃a xs,v=.ref a/\Rd H a (.lst xs)/\ek K H is xs:=by
 have:=cT h;rw[RpI]at this;have(a,o,xs,d,e,c):=this;show{a,xs,d,.inr ⟨o,e⟩,c}
def iW(h:Rpx K H (.lst ts) v):∃a xs F,v=.ref a/\Rd H a (.lst xs)/\Rps K H ts xs F:=by
 obtain⟨F,h⟩:=h;rw[Rp]at h;obtain⟨a,xs,d,f,e,c,_⟩:=h;show⟨a,xs,d,f,e,c⟩
def aK(h:Rd H a (.lst xs)):SqL K H a xs:=.inl h
abbrev jX(K:yF)(red:V->Hp->VK->Prop)(f:T->↑T):Prop:=∀(H:Hp) (x:V) (a t:T) (Q:VK),Rpx K H a x->f a*>t->(∀v H',New K H H' t v->Q v H')->red x H Q
abbrev dR(K:yF)(red:R2)(f:T->T->↑T):Prop:=∀(H:Hp) (x y:V) (a c t:T) (Q:VK),Rpx K H a x->Rpx K H c y->f a c*>t->(∀v H',New K H H' t v->Q v H')->red x y H Q
abbrev M9(K:yF)(H:Hp):!T->!V->Prop
 | [],vs=>vs=[]
 | t::a,vs=>∃v r,vs=v::r/\Rpx K H t v/\M9 K H a r
abbrev gn(K:yF)(red:!V->Hp->VK->Prop)(f:!T->↑T):Prop:=∀(H:Hp) (vs:!V) (a:!T) (t:T) (Q:VK),M9 K H a vs->f a*>t->(∀v H',New K H H' t v->Q v H')->red vs H Q
private def mOp(f:T->T->↑T)(a c:ME):ME:={λO Q=>WE a O λd h=>WE c h λe g=>Gu (ay c.mu d) (W1 (f d.t e.t) λt=>Q {.ow,t} g),a.mu++c.mu}
def qE{red:R2}{i g:TE}{a c:ME}{f:T->T->↑T}(hp:dR K red f)(o:MN K i a)(s:MN K g c):MN K (tOp red i g) (mOp f a c):=by unhygienic
 intro Γ H O Z A b n Q P h w S q;show o.two s h w S λJ G U x y u L k l m ⟨t,e,p⟩ d z E _ _ C=>?_;subst h;show hp u x y _ _ t Q (d.rd z) (d.rd E) e λv B j=>q _ _ v B p (d.new C j)
private def mUn(f:T->↑T)(a:ME):ME:={λO Q=>WE a O λc d=>W1 (f c.t) λt=>Q {.ow,t} d,a.mu}
def lq{red:V->Hp->VK->Prop}{h:TE}{a:ME}{f:T->↑T}(hp:jX K red f)(j:MN K h a):MN K (tUn red h) (mUn f a):=by unhygienic
 intro Γ H O Z A b n Q P d w S q;show j.w d w S λr B x m ⟨t,e,p⟩ ⟨z,k,u,g,s,l,c⟩=>?_;subst d;show hp m x _ t Q (g.rd l) e λv o i=>q _ _ v o p (g.new c i)
def Sim.rds(S:Sim Γ H O Z A b n):∀{ks:!Nat} {vs:!V} {rs:!R},At A ks vs rs->M9 Γ.K H (rs.map (·.t)) vs
 | [],[],[],_=>rfl
 | k::ks,v::vs,r::rs,h=>{v,vs,Xr,S.rd h.1,S.rds h.2}
 | [],[],_::_,h=>h.elim
 | [],_::_,[],h=>h.elim
 | [],_::_,_::_,h=>h.elim
 | _::_,[],[],h=>h.elim
 | _::_,[],_::_,h=>h.elim
 | _::_,_::_,[],h=>h.elim
private def mB(f:!T->↑T)(a:MA):ME:={λO Q=>WA a O λc d=>W1 (f (c.map (·.t))) λt=>Q {.ow,t} d,a.mu}
def xz{red:!V->Hp->VK->Prop}{h:TA}{a:MA}{f:!T->↑T}(hp:gn K red f)(j:M2 K h a):MN K (tCB red h) (mB f a):=by unhygienic
 intro Γ H O Z A b n Q P d w S q;show j.w d w S λs z vs k ⟨t,e,p⟩ ⟨u,m,o,g,at1,_,_,c⟩=>?_;subst d;show hp k vs _ t Q (g.rds at1) e λv l i=>q _ _ v l p (g.new c i)
abbrev tyT(a:String) (t:T):Bool:=match t with
 | .im i=>(match i with|.str _=>a == "str" | .ls _=>a == "list" | _=>TZ)
 | .li _=>a == "list"
 | .lst _=>a == "list"
 | .di _=>a == "dict"
 | .dc _=>a == "dict"
 | .dq _=>a == "dict"
 | _=>TZ
def nX{g:String}(h:tyT g t=T1)(r:Rpx K H t v):tyV K g v H:=by
 unfold tyT at h;split at h
 .split at h;rw[dA r];show eq_of_beq h;have(a,d,rfl,c,_):=ka r;show .inl {eq_of_beq h,d,aK c};cases h
 .have(a,d,rfl,c,_):=bE r;show .inl {eq_of_beq h,d,aK c}
 .have(a,d,F,rfl,c,_):=iW r;show .inl {eq_of_beq h,d,aK c}
 .obtain⟨F,r⟩:=r;rw[Rp]at r;obtain⟨a,f,rfl,⟨e,c,_⟩,_⟩:=r;show .inr (.inr (.inl {eq_of_beq h,.inl ⟨e,c⟩}))
 .obtain⟨F,r⟩:=r;rw[Rp]at r;obtain⟨a,f,i,rfl,⟨e,c,_⟩,_⟩:=r;show .inr (.inr (.inl {eq_of_beq h,.inl ⟨e,c⟩}))
 .obtain⟨F,r⟩:=r;rw[Rp]at r;obtain⟨a,f,rfl,c,_⟩:=r;show .inr (.inr (.inl {eq_of_beq h,.inr ⟨f,c⟩}))
 .cases h
private def mM(g:String)(f:T->!T->↑T)(o:ME)(a:MA):ME:={λO Q=>WE o O λc h=>Gu (tyT g c.t) (WA a h λd e=>Gu (ay a.mu c) (W1 (f c.t (d.map (·.t))) λt=>Q {.ow,t} e)),o.mu++a.mu}
abbrev uN(K:yF)(d:String)(red:V->!V->Hp->VK->Prop)(f:T->!T->↑T):Prop:=∀(H:Hp) (x:V) (vs:!V) (c:T) (a:!T) (t:T) (Q:VK),Rpx K H c x->M9 K H a vs->f c a*>t->(∀v H',New K H H' t v->Q v H')->red x vs H Q
def GG{h:String}{red:V->!V->Hp->VK->Prop}{s:TE}{j:TA}{o:ME}{a:MA}{f:T->!T->↑T}(hp:uN K h red f)(ho:MN K s o)(z:M2 K j a):MN K (tBM K h red s j) (mM h f o a):=by unhygienic
 intro Γ H O Z A b n Q P J w S q;subst J;show ho.w rfl w S λr0 U x H1 ⟨L,w⟩ ⟨Y,k,m1,l,B,m,i⟩=>{nX L (l.rd m),?_};show z.w rfl w l λrs O1 vs C ⟨G,t,e,p⟩ ⟨A2,X,m2,d,g,_,_,c⟩=>?_;show hp C x vs _ _ t Q (d.rd (c.2 k _ (Ik S.le (Ik S.bn B)) m G)) (d.rds g) e λv E u=>q _ _ v E p (d.new (i.tr c) u)
abbrev IsB(t:T)(P:Bool->Prop):Prop:=∃b,t=.im (.bl b)/\P b
private def aA(a:ME):MT:={λO Q=>WE a O λr d=>IsB r.t λc=>Q c d,a.mu}
def pb{g:TE}{a:ME}(h:MN K g a):M5 K (BV g) (aA a):=by unhygienic
 intro Γ H O Z A b n Q P i w S q;show h.w i w S λr s x l ⟨c,e,p⟩ ⟨o,k,m,f,u,j,d⟩=>{c,?_,q c s l o m p f d};have:=f.rd j;rw[e]at this;show su this
def Ek{c:TE}{a:ME}(d:MN K c a):M5 K (tB c) (aA a):=pb d
abbrev tru:T->↑Bool
 | .im .non=>TV TZ
 | .im (.bl b)=>TV b
 | .im (.int i)=>TV (i != 0)
 | .im (.str x)=>if x.length<=sizeLine then TV ((x.length:Int) != 0)else TU
 | .im (.tup a)=>TV (~~~a.isEmpty)
 | .li a=>TV (~~~a.isEmpty)
 | .lst c=>TV (~~~c.isEmpty)
 | .tup c=>TV (~~~c.isEmpty)
 | _=>TU
private def vQ(a:ME):MT:={λO Q=>WE a O λr d=>W1 (tru r.t) λc=>Q c d,a.mu}
def gY{c a:Type}{l:!c}{m:!a}(h:l.length=m.length):l.isEmpty=m.isEmpty:=by
 cases l<;>cases m<;>first|rfl|cases h
def tru_ok'{b:Bool}(h:tru t*>b)(r:Rpx K H t v):yO K v H b:=by
 cases t with
 | im i=>
  cases i with
  | non=>rw[Eo r];cases h;rfl
  | bl x=>rw[su r];cases h;rfl
  | int x=>rw[aH r];cases h;rfl
  | str x=>
   rw[dA r];dsimp[tru]at h;split at h;cases h;show{by assumption,Xr};cases h
  | tup f=>
   have(a,c,rfl,e,d):=bG r;cases h;show .inr (.inl {c,e,by rw[gY d.length]})
  | ls f=>cases h
  | fd _ _=>cases h
  | exn _ _ _=>cases h
 | li f=>
  have(a,c,rfl,e,d):=bE r;cases h;show .inl {c,aK e,by rw[gY d.length]}
 | lst f=>
  have(a,c,F,rfl,e,d):=iW r;cases h;show .inl {c,aK e,by rw[gY d.length]}
 | tup g=>
  obtain⟨F,r⟩:=r;rw[Rp]at r;have(a,c,rfl,e,d):=r;cases h;show .inr (.inl {c,.inl e,by rw[gY d.length]})
 | di _=>cases h
 | dq _=>cases h
 | dc _=>cases h
 | ins _ _=>cases h
def Ay{g:TE}{a:ME}(h:MN K g a):M5 K (GQ K g) (vQ a):=by unhygienic
 intro Γ H O Z A b n Q P i w S q;subst i;show h.w rfl w S λr s x l ⟨c,e,p⟩ ⟨o,k,m,f,u,j,d⟩=>{c,tru_ok' e (f.rd j),q c s l o m p f d}
private def oA(a e:MT):MT:={λO Q=>WT a O λc d=>(c=T1->WT e d Q)/\(c=TZ->Q TZ d),a.mu++e.mu}
private def mOr(a e:MT):MT:={λO Q=>WT a O λc d=>(c=T1->Q T1 d)/\(c=TZ->WT e d Q),a.mu++e.mu}
private def pY(a:MT):MT:={λO Q=>WT a O λc d=>Q (~~~c) d,a.mu}
def Ak{h g:TT}{a e:MT}(j:M5 K h a)(l:M5 K g e):M5 K (GI h g) (oA a e):=by unhygienic
 intro Γ H O Z A b n Q P f w S q;show j.w f w S λc G m C z w i d=>?_;cases c with
 | true=>show pV (l.w f (w.1 rfl) i λc E u o B p k s=>q c E u o B p k (d.tr s))
 | false=>show pU (q TZ G m C z (w.2 rfl) i (d.sub inl))
def Eh{h g:TT}{a e:MT}(j:M5 K h a)(l:M5 K g e):M5 K (tOr h g) (mOr a e):=by unhygienic
 intro Γ H O Z A b n Q P f w S q;show j.w f w S λc G m C z w i d=>?_;cases c with
 | false=>show pU (l.w f (w.2 rfl) i λc E u o B p k s=>q c E u o B p k (d.tr s))
 | true=>show pV (q T1 G m C z (w.1 rfl) i (d.sub inl))
def As{d:TT}{a:MT}(e:M5 K d a):M5 K (GN d) (pY a):=by unhygienic
 intro Γ H O Z A b n Q P g w S q;show e.w g w S λc l h j i p k f=>q _ l h j i p k f
private def mz(a e:ME):ME:={λO Q=>WE a O λr d=>IsB r.t λc=>(c=T1->WE e d Q)/\(c=TZ->Q {.ow,.im (.bl TZ)} d),a.mu++e.mu}
private def rH(a:ME):ME:={λO Q=>WE a O λr d=>IsB r.t λc=>Q {.ow,.im (.bl (~~~c))} d,a.mu}
def Got.tr{d:Fam}{c:Nat}(g:Got Γ H O Z d b c N v r)(k:vx Z.length M n A c d):Got Γ H O Z A b n (M++N) v r:=let ⟨j,l,h,i,e,f,a⟩:=g;{j,l,h,i,Ik k.1 e,f,k.tr a}
def Got.sub(g:Got Γ H O Z A b n M v r)(h:∀j∈M,j∈N):Got Γ H O Z A b n N v r:=let ⟨i,l,e,f,c,d,a⟩:=g;{i,l,e,f,c,d,a.sub h}
def Sim.bl{i:Nat}{c:Bool}{r:R}(S:Sim Γ H O Z A b n)(h:A i*>(v,r))(e:r.t=.im (.bl c)):v=.bl c:=by
 have:=S.rd h;rw[e]at this;show su this
def xA{i h:TE}{a e:ME}(m:MN K i a)(o:MN K h e):MN K (BQ i h) (mz a e):=by unhygienic
 intro Γ H O Z A b n Q P j w S q;show m.w j w S λr J x E ⟨c,l,w⟩ ⟨C,k,G,f,B,u,d⟩=>{c,f.bl u l,?_};cases c with
 | true=>show pV (o.w j (w.1 rfl) f λr z y s p g=>q r z y s p (g.tr d))
 | false=>show pU (q _ _ _ _ (w.2 rfl) ((f.imm d (ju rfl)).sub inl))
def xJ{f:TE}{a:ME}(h:MN K f a):MN K (BS f) (rH a):=by unhygienic
 intro Γ H O Z A b n Q P i w S q;show h.w i w S λr u x m ⟨c,g,p⟩ ⟨s,k,o,e,l,j,d⟩=>{c,e.bl j g,q _ _ _ _ p (e.imm d (ju rfl))}
private def zm(c:MT)(a e:ME):ME:={λO Q=>WT c O λd f=>(d=T1->WE a f Q)/\(d=TZ->WE e f Q),c.mu++(a.mu++e.mu)}
def Ao{l:TT}{k j:TE}{c:MT}{a e:ME}(s:M5 K l c)(o:MN K k a)(z:MN K j e):MN K (tIf l k j) (zm c a e):=by unhygienic
 intro Γ H O Z A b n Q P d w S q;show s.w d w S λu G B E C w m i=>?_;cases u with
 | true=>show pV (o.w d (w.1 rfl) m λr h y f p g=>q r h y f p ((g.sub inl).tr i))
 | false=>show pU (z.w d (w.2 rfl) m λr h y f p g=>q r h y f p ((g.sub inr).tr i))
end
mutual
noncomputable def I.dok:I->Bool
 | .int _=>T1|.str _=>T1|.tup is=>I.doks is|_=>TZ
noncomputable def I.doks:!I->Bool
 | []=>T1
 | i::is=>i.dok&&I.doks is
end
mutual
noncomputable def I.toD:I->D
 | .int i=>.int i|.str x=>.str x|.tup is=>.tup (I.toDs is)|_=>.int 0
noncomputable def I.toDs:!I->!D
 | []=>[]
 | i::is=>i.toD::I.toDs is
end
mutual
noncomputable def I.dep:I->Nat
 | .tup is=>I.deps is+1|_=>0
noncomputable def I.deps:!I->Nat
 | []=>0
 | i::is=>max i.dep (I.deps is)
end
mutual
theorem Ca:∀(i:I),i.toD.depth=i.dep
 | .non=>rfl|.bl _=>rfl|.int _=>rfl|.str _=>rfl|.ls _=>rfl|.fd _ _=>rfl|.exn _ _ _=>rfl
 | .tup a=>by rw[I.toD,D.depth,I.dep,gX a]
theorem gX:∀(is:!I),aJ (I.toDs is)=I.deps is
 | []=>rfl
 | i::is=>by rw[I.toDs,aJ,I.deps,Ca i,gX is]
end
mutual
theorem sD:∀{a b:I},a.dok=T1->b.dok=T1->(a.toD=b.toD↔a=b)
 | .non,_,h,_=>by simp[I.dok]at h
 | .bl _,_,h,_=>by simp[I.dok]at h
 | .ls _,_,h,_=>by simp[I.dok]at h
 | .fd _ _,_,h,_=>by simp[I.dok]at h
 | .exn _ _ _,_,h,_=>by simp[I.dok]at h
 | .int x,b,_,h=>by cases b<;>simp[I.dok]at h<;>simp[I.toD]
 | .str x,b,_,h=>by cases b<;>simp[I.dok]at h<;>simp[I.toD]
 | .tup x,b,c,h=>by
  cases b with
  | tup y=>
   rw[I.dok]at h c;rw[I.toD,I.toD,D.tup.injEq,I.tup.injEq];show jv c h
  | non=>simp[I.dok]at h
  | bl _=>simp[I.dok]at h
  | ls _=>simp[I.dok]at h
  | fd _ _=>simp[I.dok]at h
  | exn _ _ _=>simp[I.dok]at h
  | int _=>simp[I.toD]
  | str _=>simp[I.toD]
theorem jv:∀{a b:!I},I.doks a=T1->I.doks b=T1->(I.toDs a=I.toDs b↔a=b)
 | [],b,_,_=>by cases b<;>simp[I.toDs]
 | x::d,b,c,h=>by
  cases b with
  | nil=>simp[I.toDs]
  | cons y e=>
   rw[I.doks,Ie]at h c;rw[I.toDs,I.toDs,KS.injEq,KS.injEq,sD c.1 h.1,jv c.2 h.2]
end
section
section
variable {K:yF}{H:Hp}
mutual
theorem lr:∀{i:I} {v:V},i.dok=T1->RpI K H i v->Rep K H i.toD v
 | .non,_,h,_=>by simp[I.dok]at h
 | .bl _,_,h,_=>by simp[I.dok]at h
 | .ls _,_,h,_=>by simp[I.dok]at h
 | .fd _ _,_,h,_=>by simp[I.dok]at h
 | .exn _ _ _,_,h,_=>by simp[I.dok]at h
 | .int _,_,_,r=>by rw[RpI]at r;rw[I.toD,Rep];show r
 | .str _,_,_,r=>by rw[RpI]at r;rw[I.toD,Rep];show r
 | .tup g,_,h,r=>by
  rw[RpI]at r;rw[I.dok]at h;have(a,c,f,e,d):=r;rw[I.toD,Rep];show{a,c,f,e,iD h d}
theorem iD:∀{is:!I} {vs:!V},I.doks is=T1->ek K H is vs->MV K H (I.toDs is) vs
 | [],_,_,r=>by rw[ek]at r;rw[I.toDs,MV];show r
 | i::is,_,h,r=>by
  rw[ek]at r;rw[I.doks,Ie]at h;have(x,a,e,d,c):=r;rw[I.toDs,MV];show{x,a,e,lr h.1 d,iD h.2 c}
end
def kY:∀{is:!I},i.dok=T1->I.doks is=T1->(i.toD∈I.toDs is↔i∈is)
 | [],_,_=>by simp[I.toDs]
 | x::c,h,a=>by
  rw[I.doks,Ie]at a;rw[I.toDs,IH,IH,sD h a.1,kY h a.2]
abbrev isI:T->↑Int
 | .im i=>(match i with|.int a=>TV a|_=>TU)
 | _=>TU
abbrev isS:T->↑Str
 | .im i=>(match i with|.str a=>TV a|_=>TU)
 | _=>TU
abbrev vD:T->Option !I
 | .im i=>(match i with|.tup a=>TV a|_=>TU)
 | _=>TU
abbrev vC:T->Option !I
 | .li a=>TV a
 | _=>TU
def fL{t:T}{a:Int}(h:isI t*>a):t=.im (.int a):=by
 cases t with
 | im i=>cases i<;>cases h;rfl
 | _=>cases h
def ze{t:T}{a:Str}(h:isS t*>a):t=.im (.str a):=by
 cases t with
 | im i=>cases i<;>cases h;rfl
 | _=>cases h
def jc{t:T}{a:!I}(h:vD t*>a):t=.im (.tup a):=by
 cases t with
 | im i=>cases i<;>cases h;rfl
 | _=>cases h
def jb{t:T}{a:!I}(h:vC t*>a):t=.li a:=by
 cases t with
 | li i=>cases h;rfl
 | _=>cases h
abbrev i2(g:Int->Int->↑T) (x y:T):↑T:=match isI x with
 | some a=>(match isI y with
  | some b=>g a b
  | none=>TU)
 | none=>TU
def iQ{g:Int->Int->↑T}{x y t:T}(h:i2 g x y*>t):∃a b,x=.im (.int a)/\y=.im (.int b)/\g a b*>t:=by
 unfold i2 at h;ext h a d;ext h b c;show{a,b,fL d,fL c,h}
def aU{d:Type}{c:Prop}[Decidable c]{t u : d}(h:(if c then TV t else TU)*>u):c/\t=u:=by
 by_cases a:c;rw[if_pos a]at h;show{a,IC.inj h};rw[if_neg a]at h;cases h
abbrev E8(i:I) (y:T):↑T:=match i with
 | .int a=>(match isI y with|some b=>TV (.im (.int (a+b)))|none=>TU)
 | .str a=>(match isS y with|some b=>if a.length+b.length<=sizeLine then TV (.im (.str (a++b)))else TU|none=>TU)
 | .tup a=>(match vD y with|some b=>if a.length+b.length<=sizeLine then TV (.im (.tup (a++b)))else TU|none=>TU)
 | _=>TU
private def aW(x y:T):↑T:=match x with
 | .im i=>E8 i y
 | .li a=>(match vC y with|some b=>if a.length+b.length<=sizeLine then TV (.li (a++b))else TU|none=>TU)
 | _=>TU
def ek.nil_iff(h:ek K H is xs):xs=[]↔is=[]:=by
 have:=h.length;cases is<;>cases xs<;>first|(simp;done)|(cases this;done)
def wA:dR K (xo K) aW:=by
 intro H x y v w t Q m r e q;unfold aW at e;split at e
 .delta i;unfold E8 at e;split at e
  .ext e b f;cases fL f;cases e;rw[aH m,aH r];show .inl (.inl {_,_,Xr,Xr,q _ H (.sc rfl)})
  .ext e b f;cases ze f;have(k,rfl):=aU e;rw[dA m,dA r];show .inl (.inr (.inl {_,_,Xr,Xr,k,q _ H (.sc rfl)}))
  .delta a;ext e b f;cases jc f;have(k,rfl):=aU e;have(p,o,rfl,l,c):=bG m;have(h,j,rfl,g,d):=bG r;by_cases u:a=[]
   .subst u;have:=c.nil_inv;subst this;show .inr (.inr {p,h,j,Xr,Xr,l,g,q _ H (.im ?_)});rw[RpI];show⟨h,j,Xr,g,d⟩
   .show .inl (.inr (.inr (.inr {p,h,o,j,Xr,Xr,l,g,λz=>u (c.nil_iff.mp z),by rw[c.length,d.length];show k,λz=>q _ H (.im ?_),λz p s=>q _ _ (.tup s (c.append d))})));have:=d.nil_iff.mp z;subst this;rw[Iw,RpI];show⟨p,o,Xr,l,c⟩
  .cases e
 .ext e b f;cases jb f;have(k,rfl):=aU e;have(p,o,rfl,l,c):=bE m;have(h,j,rfl,g,d):=bE r;show .inr (.inl {p,h,o,j,Xr,Xr,l,g,by rw[c.length,d.length];show k,λp s=>q _ _ (.li s (c.append d))})
 .cases e
private def bH:T->T->↑T:=i2 λa b=>TV (.im (.int (a-b)))
def wT:dR K (rI0 λi j=>.int (i-j)) bH:=by
 intro H x y f g t Q c d e q;unfold bH at e;have(a,b,rfl,rfl,e):=iQ e;cases e;rw[aH c,aH d];show{_,_,Xr,Xr,q _ H (.sc rfl)}
abbrev j5(i j:Int):Bool:=(decide (-(2^64)<i)&&decide (i<2^64))||(decide (-(2^64)<j)&&decide (j<2^64))
def zr{i j:Int}(h:j5 i j=T1):Nt i j:=by
 unfold j5 at h;dsimp[Ll,Ie,decide_eq_true_eq]at h;show h
abbrev FD(i:I) (b:Int):↑T:=match i with
 | .int a=>if j5 a b=T1 then TV (.im (.int (a*b)))else TU
 | .str a=>if 1<=b/\b<=1000/\a.length<=1000 then TV (.im (.str (oL (Ih b.toNat (sL a)).flatten)))else TU
 | .tup a=>if a≠[]/\a.length<=1000/\0<=b/\b<=1000 then TV (.im (.tup (Ih b.toNat a).flatten))else TU
 | _=>TU
private def bW(x y:T):↑T:=match isI y with
 | some b=>(match x with
  | .im i=>FD i b
  | .li a=>if -(2^63)<=b/\b<2^63/\a.length*b.toNat<=sizeLine then TV (.li (Ih b.toNat a).flatten)else TU
  | _=>TU)
 | none=>TU
def ek.reps{is:!I}{xs:!V}(h:ek K H is xs):∀n:Nat,ek K H (Ih n is).flatten (Ih n xs).flatten
 | 0=>.nil
 | n+1=>by
  rw[IV,IV,Jh,Jh];show h.append (h.reps n)
def wO:dR K (xv K) bW:=by
 intro H x y m o t Q d g e q;unfold bW at e;ext e b k;cases fL k;split at e
 .unfold FD at e;split at e
  .have(h,rfl):=aU e;rw[aH d,aH g];show .inl (.inl {_,_,Xr,Xr,zr h,q _ H (.sc rfl)})
  .have(h,rfl):=aU e;rw[dA d,aH g];show .inl (.inr (.inl {_,_,Xr,Xr,h.1,h.2.1,h.2.2,q _ H (.sc rfl)}))
  .delta a;have(h,rfl):=aU e;have(p,f,rfl,i,c):=bG d;rw[aH g];show .inl (.inr (.inr (.inr {p,b,f,Xr,Xr,i,λz=>h.1 (c.nil_iff.mp z),by rw[c.length];show h.2.1,h.2.2.1,h.2.2.2,λz=>q _ H (.im ?_),λz p j=>q _ _ (.tup j (c.reps _))})));subst z;have l:(Ih (1:Int).toNat a).flatten=a:=by simp
   rw[l,RpI];show⟨p,f,Xr,i,c⟩
  .cases e
 .have(h,rfl):=aU e;have(p,f,rfl,i,c):=bE d;rw[aH g];show .inr {p,b,f,Xr,Xr,i,h.1,h.2.1,by rw[c.length];show h.2.2,λp j=>q _ _ (.li j (c.reps _))}
 .cases e
private def iM:T->T->↑T:=i2 λa b=>if 0<b/\b<2^64 then TV (.im (.int (a / b)))else TU
def t9:dR K (rI pA λi j=>.int (i / j)) iM:=by
 intro H x y f g t Q c d e q;unfold iM at e;have(a,b,rfl,rfl,e):=iQ e;have(h,rfl):=aU e;rw[aH c,aH d];show{_,_,Xr,Xr,h,q _ H (.sc rfl)}
private def fD:T->T->↑T:=i2 λa b=>if 0<b then TV (.im (.int (a % b)))else TU
def wN:dR K (rI (λ_ j=>0<j) λi j=>.int (i % j)) fD:=by
 intro H x y f g t Q c d e q;unfold fD at e;have(a,b,rfl,rfl,e):=iQ e;have(h,rfl):=aU e;rw[aH c,aH d];show{_,_,Xr,Xr,h,q _ H (.sc rfl)}
private def t7:T->T->↑T:=i2 λa b=>if 0<=b/\b<=1000000/\a.natAbs<2^64 then TV (.im (.int (a^b.toNat)))else TU
def wS:dR K (rI BZ λi j=>.int (i^j.toNat)) t7:=by
 intro H x y f g t Q c d e q;unfold t7 at e;have(a,b,rfl,rfl,e):=iQ e;have(h,rfl):=aU e;rw[aH c,aH d];show{_,_,Xr,Xr,h,q _ H (.sc rfl)}
private def qg:T->↑T
 | .im (.int a)=>TV (.im (.int (-a)))
 | _=>TU
def wP:jX K (rU λi=>.int (-i)) qg:=by
 intro H x c t Q a e q;unfold qg at e;split at e;cases e;rw[aH a];show{_,Xr,q _ H (.sc rfl)};cases e
private def gA(p:Int->Int->Bool):T->T->↑T:=i2 λa b=>TV (.im (.bl (p a b)))
def lg:dR K (rI0 λi j=>.bl (p i j)) (gA p):=by
 intro H x y f g t Q c d e q;unfold gA at e;have(a,b,rfl,rfl,e):=iQ e;cases e;rw[aH c,aH d];show{_,_,Xr,Xr,q _ H (.sc rfl)}
abbrev BP(a b:I):Bool:=match a.sc with
 | some v=>(match b.sc with
  | some w=>xZ v w
  | none=>TZ)
 | none=>TZ
abbrev ofV:V->I
 | .bl b=>.bl b
 | .int i=>.int i
 | .str x=>.str x
 | _=>.non
def Bq(h:a.sc*>v):ofV v=a:=by cases a<;>cases h<;>rfl
abbrev eqI:I->I->↑Bool
 | .tup a,.tup b=>if I.doks a=T1/\I.doks b=T1/\I.deps a<=50 then TV (decide (a=b))else TU
 | a,b=>if BP a b=T1 then TV (decide (a=b))else TU
abbrev eqL(a b:!I):↑Bool:=if I.doks a=T1/\I.doks b=T1/\I.deps a<=50 then TV (decide (a=b))else TU
abbrev lsI:I->Option !I
 | .ls a=>TV a
 | _=>TU
abbrev eqB:T->T->↑Bool
 | .im a,.im b=>eqI a b
 | .li a,.li b=>eqL a b
 | .im a,.li b=>(lsI a).bind λa=>eqL a b
 | .li a,.im b=>(lsI b).bind λb=>eqL a b
 | _,_=>TU
def qH{i:I}{is:!I}(e:lsI i*>is)(r:Rpx K H (.im i) v):∃p xs,v=.ref p/\SqL K H p xs/\ek K H is xs:=by
 unfold lsI at e;ext e;cases e;have h:=cT r;rw[RpI]at h;have(a,o,xs,f,d,c):=h;show{a,xs,f,.inl (.inr ⟨o,d⟩),c}
private def eqT(x y:T):↑T:=(eqB x y).map λb=>.im (.bl b)
private def neT(x y:T):↑T:=(eqB x y).map λb=>.im (.bl (~~~b))
def Ce(h:eqI a b*>c):(∃x y,a=.tup x/\b=.tup y/\I.doks x=T1/\I.doks y=T1/\I.deps x<=50/\c=decide (x=y)) \/ ∃v w,a.sc*>v/\b.sc*>w/\xZ v w=T1/\c=decide (v=w):=by
 unfold eqI at h;split at h
 .delta x y;split at h;delta d;cases h;show .inl ⟨x,y,Xr,Xr,d.1,d.2.1,d.2.2,Xr⟩;cases h
 .ext h d;cases h;right;unfold BP at d;ext d v f;ext d w e;show{v,w,f,e,d,?_};have:(a=b)↔(v=w):={λz=>IC.inj (f.symm.trans ((congrArg I.sc z).trans e)),λz=>by rw[<-Bq f,<-Bq e,z]};show decide_eq_decide.mpr this
def pL{a c:!I}{p q:Addr}{xs d:!V}{b:Bool}(e:eqL a c*>b)(o:SqL K H p xs)(m:ek K H a xs)(k:SqL K H q d)(l:ek K H c d):∃i g xs d f j,V.ref p=.ref i/\V.ref q=.ref g/\SqL K H i xs/\SqL K H g d/\MV K H f xs/\MV K H j d/\aJ f<=50/\(b=T1↔f=j):=by
 unfold eqL at e;ext e h;cases e;show{p,q,xs,d,_,_,Xr,Xr,o,k,iD h.1 m,iD h.2.1 l,by rw[gX];show h.2.2,by rw[decide_eq_true_eq,jv h.1 h.2.1]}
def vc{x y:V}{A z:T}{b:Bool}{P:V->Prop}(k:Rpx K H A x)(o:Rpx K H z y)(e:eqB A z*>b) :
  (xZ x y=T1/\b=decide (x=y))\/(∃g l,Rep K H (.tup g) x/\Rep K H (.tup l) y/\aJ g<=50/\(b=T1↔g=l))\/(∃p q xs m g l,x=.ref p/\y=.ref q/\SqL K H p xs/\SqL K H q m/\MV K H g xs/\MV K H l m/\aJ g<=50/\(b=T1↔g=l)):=by
 unfold eqB at e;split at e
 .delta a c;rcases Ce e with⟨t,B,rfl,rfl,f,d,r,rfl⟩|⟨v,w,f,d,r,rfl⟩
  .show .inr (.inl {I.toDs t,I.toDs B,?_,?_,by rw[gX];show r,?_})
   .have:=lr (i:=.tup t) (by rw[I.dok];show f) (cT k);rwa [I.toD]at this
   .have:=lr (i:=.tup B) (by rw[I.dok];show d) (cT o);rwa [I.toD]at this
   .rw[decide_eq_true_eq,jv f d]
  .rw[BO f (cT k),BO d (cT o)];show .inl ⟨r,Xr⟩
 .have(p,xs,rfl,f,d):=bE k;have(u,m,rfl,h,j):=bE o;show .inr (.inr (pL e (aK f) d (aK h) j))
 .have(a,s,e):=JO.mp e;have(p,xs,rfl,f,d):=qH s k;have(u,m,rfl,h,j):=bE o;show .inr (.inr (pL e f d (aK h) j))
 .have(a,s,e):=JO.mp e;have(p,xs,rfl,f,d):=bE k;have(u,m,rfl,h,j):=qH s o;show .inr (.inr (pL e (aK f) d h j))
 .cases e
def zP:dR K (D4 K) eqT:=by
 intro H x y B A t Q l z e q;unfold eqT at e;cases h:eqB B A with
 | none=>rw[h]at e;cases e
 | some b=>
  rw[h]at e;cases e;rcases vc (P:=λ_=>True) l z h with⟨a,rfl⟩|⟨d,k,a,j,g,f⟩|⟨p,m,r,o,d,k,a,j,g,f,v,s,w,u⟩;show .inl {a,q _ H (.sc rfl)}
  .show .inr (.inl {d,k,a,j,g,λc i=>?_});have:c=b:=by rw[Jl,i,f]
   subst this;show q _ H (.sc rfl)
  .show .inr (.inr {p,m,r,o,d,k,a,j,g,f,v,s,w,λc i=>?_});have:c=b:=by rw[Jl,i,u]
   subst this;show q _ H (.sc rfl)
def zR:dR K (D9 K) neT:=by
 intro H x y A z t Q k w e q;unfold neT at e;cases h:eqB A z with
 | none=>rw[h]at e;cases e
 | some b=>
  rw[h]at e;cases e;rcases vc (P:=λ_=>True) k w h with⟨a,rfl⟩|⟨d,i,a,g,f,j⟩|⟨p,l,o,m,d,i,a,g,f,j,s,r,v,B⟩;show .inl {a,q _ H (.sc rfl)}
  .show .inr (.inl {d,i,a,g,f,λc u=>?_});have:c =  ~~~b:=by cases b<;>cases c<;>simp_all
   subst this;show q _ H (.sc rfl)
  .show .inr (.inr {p,l,o,m,d,i,a,g,f,j,s,r,v,λc u=>?_});have:c =  ~~~b:=by cases b<;>cases c<;>simp_all
   subst this;show q _ H (.sc rfl)
abbrev occ(i j:Str):Bool:= ~~~(Ow j i 0 j.length 1).isEmpty
abbrev inI(i:I) (y:T):↑Bool:=match y with
 | .im j=>(match j with
  | .str b=>(match i with
   | .str a=>TV (occ a b)
   | _=>TU)
  | .tup c=>if i.dok=T1/\I.doks c=T1/\I.deps c<=50 then TV (decide (i∈c))else TU
  | _=>TU)
 | .li c=>if i.dok=T1/\I.doks c=T1/\I.deps c<=50 then TV (decide (i∈c))else TU
 | _=>TU
abbrev inB(x y:T):↑Bool:=match x with
 | .im i=>inI i y
 | _=>TU
private def inT(x y:T):↑T:=(inB x y).map λb=>.im (.bl b)
private def oP(x y:T):↑T:=(inB x y).map λb=>.im (.bl (~~~b))
def vA{x y:V}{m l:T}{b:Bool}(c:Rpx K H m x)(f:Rpx K H l y)(e:inB m l*>b) :
  (∃i j,x=.str i/\y=.str j/\b=occ i j)\/(∃p xs d a,y=.ref p/\(SqL K H p xs\/SqT K H p xs)/\Rep K H d x/\MV K H a xs/\aJ a<=50/\(b=T1↔d∈a)):=by
 unfold inB at e;ext e;unfold inI at e;split at e
 .split at e
  .split at e;cases e;show .inl {_,_,dA c,dA f,Xr};cases e
  .have(h,rfl):=aU e;have(p,xs,rfl,k,g):=bG f;show .inr {p,xs,_,_,Xr,.inr k,lr h.1 (cT c),iD h.2.1 g,by rw[gX];show h.2.2,by rw[decide_eq_true_eq,kY h.1 h.2.1]}
  .cases e
 .have(h,rfl):=aU e;have(p,xs,rfl,k,g):=bE f;show .inr {p,xs,_,_,Xr,.inl (aK k),lr h.1 (cT c),iD h.2.1 g,by rw[gX];show h.2.2,by rw[decide_eq_true_eq,kY h.1 h.2.1]}
 .cases e
def zQ:dR K (D5 K) inT:=by
 intro H x y w v t Q g s e q;unfold inT at e;cases h:inB w v with
 | none=>rw[h]at e;cases e
 | some b=>
  rw[h]at e;cases e;rcases vA g s h with⟨i,j,rfl,rfl,rfl⟩|⟨p,l,d,a,z,u,o,m,f,r⟩;show .inl {i,j,Xr,Xr,q _ H (.sc rfl)}
  .show .inr (.inr {p,l,d,a,z,u,o,m,f,λc k=>?_});have:c=b:=by rw[Jl,k,r];simp
   subst this;show q _ H (.sc rfl)
def wQ:dR K (nK K) oP:=by
 intro H x y u s t Q g o e q;unfold oP at e;cases h:inB u s with
 | none=>rw[h]at e;cases e
 | some b=>
  rw[h]at e;cases e;rcases vA g o h with⟨i,j,rfl,rfl,rfl⟩|⟨p,k,d,a,v,r,m,l,f,z⟩;show .inl {i,j,Xr,Xr,q _ H (.sc rfl)}
  .show .inr (.inr {p,k,d,a,v,r,m,l,f,λc w=>?_});have:c =  ~~~b:=by cases b<;>cases c<;>simp_all
   subst this;show q _ H (.sc rfl)
abbrev l1{a:Type} (g:T->↑a) (ts:!T):↑a:=match ts with
 | []=>TU
 | t::r=>(match r with
  | []=>g t
  | _::_=>TU)
def eW{a:Type}{g:T->↑a}{ts:!T}{u : a}(h:l1 g ts*>u):∃t,ts=[t]/\g t*>u:=by
 cases ts with
 | nil=>cases h
 | cons t r=>cases r with
  | nil=>show⟨t,Xr,h⟩
  | cons _ _=>cases h
abbrev l2{a:Type} (g:T->T->↑a) (ts:!T):↑a:=match ts with
 | []=>TU
 | t::r=>l1 (g t) r
def pX{a:Type}{g:T->T->↑a}{ts:!T}{u : a}(h:l2 g ts*>u):∃t s,ts=[t,s]/\g t s*>u:=by
 cases ts with
 | nil=>cases h
 | cons t r=>
  have(s,rfl,e):=eW (show l1 (g t) r*>u from h);show⟨t,s,Xr,e⟩
abbrev Fy(i:I):↑T:=match i with
 | .str x=>if x.length<=sizeLine then TV (.im (.int x.length))else TU
 | .tup a=>TV (.im (.int a.length))
 | .ls a=>TV (.im (.int a.length))
 | _=>TU
abbrev Fx(t:T):↑T:=match t with
 | .im i=>Fy i
 | .li c=>TV (.im (.int c.length))
 | .lst a=>TV (.im (.int a.length))
 | .tup a=>TV (.im (.int a.length))
 | _=>TU
private def cy:!T->↑T:=l1 Fx
def lS(h:M9 K H [t] vs):∃v,vs=[v]/\Rpx K H t v:=by
 have(v,r,rfl,c,a):=h;rw[M9]at a;subst a;show⟨v,Xr,c⟩
def Ep(h:M9 K H [t,u] vs):∃v w,vs=[v,w]/\Rpx K H t v/\Rpx K H u w:=by
 have(v,r,rfl,d,c):=h;have(w,rfl,a):=lS c;show⟨v,w,Xr,d,a⟩
def sv(h:Rpx K H (.tup ts) v):∃a xs F,v=.ref a/\SqT K H a xs/\Rps K H ts xs F:=by
 obtain⟨F,h⟩:=h;rw[Rp]at h;obtain⟨a,xs,d,e,c⟩:=h;show{a,xs,F,d,.inl e,c}
def wI:gn K (xt K) cy:=by
 intro H vs i t Q r e q;unfold cy at e;have g:=eW e;clear e;have(x,rfl,e):=g;have(v,rfl,f):=lS r;unfold Fx at e;split at e
 .unfold Fy at e;split at e
  .have(h,rfl):=aU e;rw[dA f];show .inr {_,Xr,h,q _ H (.sc rfl)}
  .cases e;have(p,a,rfl,d,c):=bG f;show .inl {p,a,Xr,.inr d,q _ H (.sc (by rw[c.length];rfl))}
  .cases e;have(p,a,rfl,d,c):=qH rfl f;show .inl {p,a,Xr,.inl d,q _ H (.sc (by rw[c.length];rfl))}
  .cases e
 .cases e;have(p,a,rfl,d,c):=bE f;show .inl {p,a,Xr,.inl (aK d),q _ H (.sc (by rw[c.length];rfl))}
 .cases e;have(p,a,F,rfl,d,c):=iW f;show .inl {p,a,Xr,.inl (aK d),q _ H (.sc (by rw[c.length];rfl))}
 .cases e;have(p,a,F,rfl,d,c):=sv f;show .inl {p,a,Xr,.inr d,q _ H (.sc (by rw[c.length];rfl))}
 .cases e
private def oM:!T->↑T:=l2 (i2 λa b=>TV (.im (.int (if b<a then b else a))))
def wM:gn K (λxs H Q=>∃i j,xs=[.int i,.int j]/\Q (.int (if j<i then j else i)) H) oM:=by
 intro H vs g t Q r e q;unfold oM at e;have c:=pX e;clear e;have(x,y,rfl,e):=c;have(a,b,rfl,rfl,e):=iQ e;cases e;have(v,w,rfl,d,f):=Ep r;rw[aH d,aH f];show{_,_,Xr,q _ H (.sc rfl)}
private def oJ:!T->↑T:=l2 (i2 λa b=>TV (.im (.int (if b>a then b else a))))
def wL:gn K (λxs H Q=>∃i j,xs=[.int i,.int j]/\Q (.int (if j>i then j else i)) H) oJ:=by
 intro H vs g t Q r e q;unfold oJ at e;have c:=pX e;clear e;have(x,y,rfl,e):=c;have(a,b,rfl,rfl,e):=iQ e;cases e;have(v,w,rfl,d,f):=Ep r;rw[aH d,aH f];show{_,_,Xr,q _ H (.sc rfl)}
abbrev Fp(t:T):↑T:=match t with
 | .im i=>(match i with
  | .int a=>TV (.im (.int a))
  | .bl b=>TV (.im (.int (if b then 1 else 0)))
  | _=>TU)
 | _=>TU
private def on:!T->↑T:=l1 Fp
def wC:gn K (λxs H Q=>(∃i,xs=[.int i]/\Q (.int i) H) \/ ∃k,xs=[.bl k]/\Q (.int (if k then 1 else 0)) H) on:=by
 intro H vs d t Q r e q;unfold on at e;have c:=eW e;clear e;have(x,rfl,e):=c;have(v,rfl,a):=lS r;unfold Fp at e;ext e;split at e
 .cases e;rw[aH a];show .inl {_,Xr,q _ H (.sc rfl)}
 .cases e;rw[su a];show .inr {_,Xr,q _ H (.sc rfl)}
 .cases e
abbrev AF(g:!I->T) (t:T):↑T:=match t with
 | .im i=>(match i with
  | .tup a=>TV (g a)
  | .ls a=>TV (g a)
  | _=>TU)
 | .li a=>TV (g a)
 | _=>TU
private def dg:!T->↑T:=l1 (AF λa=>.im (.tup a))
def wV:gn K (xw K) dg:=by
 intro H vs i t Q r e q;unfold dg at e;have h:=eW e;clear e;have(x,rfl,e):=h;have(v,rfl,f):=lS r;unfold AF at e;split at e
 .split at e
  .cases e;have(p,a,rfl,c,d):=bG f;show{p,a,Xr,.inr {c,q _ H (.im (cT f))}}
  .cases e;have(p,a,rfl,c,d):=ka f;show{p,a,Xr,.inl {aK c,λl g=>q _ _ (.tup g d)}}
  .cases e
 .cases e;have(p,a,rfl,c,d):=bE f;show{p,a,Xr,.inl {aK c,λl g=>q _ _ (.tup g d)}}
 .cases e
private def vL:!T->↑T:=l1 (AF λa=>.li a)
def wJ:gn K (xu K) vL:=by
 intro H vs i t Q r e q;unfold vL at e;have h:=eW e;clear e;have(x,rfl,e):=h;have(v,rfl,g):=lS r;unfold AF at e;split at e
 .split at e
  .cases e;have(p,a,rfl,f,d):=bG g;show{p,a,Xr,.inr f,λl c=>q _ _ (.li c d)}
  .cases e;have(p,a,rfl,f,d):=ka g;show{p,a,Xr,.inl (aK f),λl c=>q _ _ (.li c d)}
  .cases e
 .cases e;have(p,a,rfl,f,d):=bE g;show{p,a,Xr,.inl (aK f),λl c=>q _ _ (.li c d)}
 .cases e
abbrev bls:!I->Option !Bool
 | []=>TV []
 | .bl b::a=>(bls a).map (b :: ·)
 | _=>TU
def B7:∀{bs:!Bool},bls is*>bs->ek K H is xs->xs=bs.map V.bl:=by
 induction is generalizing xs with
 | nil=>intro bs h r;cases h;show r.nil_inv
 | cons i is c=>
  intro bs h r;cases i with
  | bl b=>
   dsimp[bls]at h;cases e:bls is with
   | none=>rw[e]at h;cases h
   | some g=>
    rw[e]at h;cases h;have(x,f,rfl,a,d):=r.cons_inv;rw[RpI]at a;rw[a,c e d];rfl
  | _=>simp[bls]at h
abbrev pC:!T->↑T
 | [.li c]=>(bls c).map λa=>.im (.bl (a.all id))
 | _=>TU
def wB:gn K (Gq K) pC:=by
 intro H vs i t Q r e q;unfold pC at e;ext e a;cases h:bls a with
 | none=>rw[h]at e;cases e
 | some c=>
  rw[h]at e;cases e;have(v,rfl,f):=lS r;have(p,j,rfl,g,d):=bE f;have:=B7 h d;subst this;show{p,c,Xr,aK g,q _ H (.sc rfl)}
abbrev ph:!I->Option !Str
 | []=>TV []
 | .str b::a=>(ph a).map (b :: ·)
 | _=>TU
def AK:∀{bs:!Str},ph is*>bs->ek K H is xs->xs=bs.map V.str:=by
 induction is generalizing xs with
 | nil=>intro bs h r;cases h;show r.nil_inv
 | cons i is c=>
  intro bs h r;cases i with
  | str b=>
   dsimp[ph]at h;cases e:ph is with
   | none=>rw[e]at h;cases h
   | some g=>
    rw[e]at h;cases h;have(x,f,rfl,a,d):=r.cons_inv;rw[RpI]at a;rw[a,c e d];rfl
  | _=>simp[ph]at h
abbrev l9:T->!T->↑T
 | .im (.str z),[.li c]=>match ph c with
  | some a=>if(a.map (·.length)).sum+a.length*z.length<=16777216 then TV (.im (.str (Pq z a)))else TU
  | none=>TU
 | _,_=>TU
def ua:uN K "str" (BI K) l9:=by
 intro H x vs l i t Q c r e q;unfold l9 at e;ext e z k;ext e f a;ext e;cases e;have(v,rfl,g):=lS r;have(p,j,rfl,h,d):=bE g;have:=AK a d;subst this;rw[dA c];show{z,p,f,Xr,Xr,aK h,by assumption,q _ H (.sc rfl)}
end
end
section
variable {Γ:Gm}{H H':Hp}{O O':Rho}{Z:St}{A A0:Fam}{F:Nat->!Addr}{v w:V}{r:R}{t s:T}{K:yF}{M ks:!Nat}{vs xs:!V}{rs:!R}{i b n m k:Nat}
def At.len:∀{ks:!Nat} {vs:!V} {rs:!R},At A ks vs rs->vs.length=rs.length/\ks.length=rs.length
 | [],[],[],_=>⟨Xr,Xr⟩
 | k::ks,v::vs,r::rs,h=>{congrArg (· + 1) h.2.len.1,congrArg (· + 1) h.2.len.2}
 | [],[],_::_,h=>h.elim
 | [],_::_,[],h=>h.elim
 | [],_::_,_::_,h=>h.elim
 | _::_,[],[],h=>h.elim
 | _::_,[],_::_,h=>h.elim
 | _::_,_::_,[],h=>h.elim
def At.mem:∀{ks:!Nat} {vs:!V} {rs:!R},At A ks vs rs->k∈ks->∃x,A k*>x
 | j::ks,v::vs,r::rs,h,a=>by
  rcases ycM a with rfl|a;show{_,h.1};show h.2.mem a
 | _::_,[],[],h,_=>h.elim
 | _::_,[],_::_,h,_=>h.elim
 | _::_,_::_,[],h,_=>h.elim
def At.range:∀{vs:!V} {rs:!R} {m:Nat},vs.length=rs.length->(∀(i:Nat) v r,vs[i]?*>v->rs[i]?*>r->A (m+i)*>(v,r))->At A (LZ m rs.length) vs rs
 | [],[],_,_,_=>trivial
 | v::vs,r::rs,m,a,h=>{h 0 v r rfl rfl,At.range (by exists a) λi v r d c=>by rw[K9,Mq 1 i];show h (i+1) v r (by exists d) (by exists c)}
 | [],_::_,_,h,_=>by cases h
 | _::_,[],_,h,_=>by cases h
def o6{a:Nat}:(LZ m a).Nodup/\∀k∈LZ m a,m<=k:={List.nodup_range',λk c=>(List.mem_range'_1.mp c).1}
def Sim.pushN(S:Sim Γ H O Z A b m)(g:SM Γ H A F):∀(L:!(V×R)),(∀x∈L,(∀j,x.2.k.root*>j->Rt Γ Z.length b j)/\∀A' F' n,SM Γ H A' F'->(∀j,j<m->A' j=A j/\F' j=F j)->A' n=TU->m<=n->∃G,SM Γ H (up A' n (TV x)) (up F' n G)) ->
  ∃A' F',Sim Γ H O Z A' b (m+L.length)/\SM Γ H A' F'/\(∀j,j<m->A' j=A j/\F' j=F j)/\∀(i:Nat) x,L.reverse[i]?*>x->A' (m+i)*>x
 | [],_=>{A,F,S,g,λ_ _=>⟨Xr,Xr⟩,by simp}
 | x::L,h=>by
  have(A',F',c,p,f,B):=S.pushN g L λy q=>h y (ymC _ q);have(z,u):=h x ymS;have(G,l):=u A' F' (m+L.length) p f (c.ub _ (Ig _)) (IX _ _);have le:=S.le;have C:=S.bn;show{_,_,{{_,l},λi a=>by rw[aY ⋯];show c.lo i a,c.al,c.len,c.le,by rw[Im];omega,λi y j e d=>?_,λi a=>?_},l,λj d=>{by rw[aY ⋯];show(f j d).1,by rw[aY ⋯];show(f j d).2},λi y e=>?_}
  .by_cases a:i=m+L.length;rw[a,aG]at e;cases e;show z j d;rw[aY a]at e;show c.rt i y j e d
  .rw[Im]at a;rw[aY ⋯];show c.ub i ⋯
  .rw[IG]at e;by_cases a:i<L.length
   .rw[Jb (by exists a)]at e;rw[aY ⋯];show B i y e
   .have:=(Ib.mp e).1;have o:i=L.length:=by simp at this;omega
    subst o;rw[aG,<-e];simp
abbrev wj(a:↑Nat):T->R
 | .im i=>{.ow,.im i}
 | t=>{.vw a TU,t}
abbrev parts:R->Option !R
 | ⟨_,.im (.tup c)⟩=>TV (c.map λi=>{.ow,.im i})
 | ⟨.ow,.tup a⟩=>TV (a.map λt=>{.ow,t})
 | ⟨.vw d _,.tup a⟩=>TV (a.map (wj d))
 | _=>TU
def Rps.parts:∀{ts:!T} {xs:!V} {X:!Addr},Rps K H ts xs X->X.Nodup->∃f:Nat->!Addr,(∀(i:Nat) t x,ts[i]?*>t->xs[i]?*>x->Rp K H t x (f i)/\(f i).Nodup/\∀a∈f i,a∈X)/\∀i j a,i<ts.length->j<ts.length->a∈f i->a∈f j->i=j
 | [],xs,X,r,_=>{λ_=>[],by simp,λi j a h=>absurd h (KM _)}
 | t::ts,xs,X,r,U=>by
  have(x,E,C,P,rfl,r1,o,rfl):=r.cons_inv;have(S,J,q):=Iv.mp U;have(f,p,Q):=o.parts J;have z:∀i,i<ts.length->∀a∈f i,a∈P:=λi d a c=>by
   have L:i<E.length:=by rw[o.length];show d
   show(p i _ _ (Ix d) (Ix L)).2.2 a c
  show{fun|0=>C|i+1=>f i,λi u y g l=>?_,λi j a d B c e=>?_}
  .cases i with
   | zero=>simp at g l;subst g l;show{r1,S,λa c=>yaL _ c}
   | succ i=>
    have(G,Y,N):=p i u y (by exists g) (by exists l);show{G,Y,λa c=>yaR _ (N a c)}
  .cases i with
   | zero=>
    cases j with
    | zero=>rfl
    | succ j=>show(q a c a (z j (by exists B) a e) rfl).elim
   | succ i=>
    cases j with
    | zero=>show(q a e a (z i (by exists d) a c) rfl).elim
    | succ j=>rw[Q i j a (by exists d) (by exists B) c e]
abbrev spl(A:Fam) (k m:Nat) (xs:!V) (ts:!T):Fam:=λi=>if m<=i/\i<m+ts.length then(match xs[i-m]?,ts[i-m]? with|some x,TV t=>TV (x,{.ow,t})|_,_=>TU)else rm A [k] i
abbrev uM(Γ:Gm)(H:Hp)(O:Rho)(Z:St)(A:Fam)(b m:Nat)(xs:!V)(rs:!R):Prop:=∃a ks c,Sim Γ H O Z a b c/\At a ks xs rs/\ks.Nodup/\(∀k∈ks,m<=k)/\vx Z.length [] m A c a
def Sim.parts(S:Sim Γ H O Z A b m)(hb:b<=k)(U:A k*>(v,r))(h:L2.parts r*>rs):∃a xs,v=.ref a/\SqT Γ.K H a xs/\xs.length=rs.length/\uM Γ H O Z (rm A [k]) b m xs rs:=by
 have(F,g):=S.sm;have rp:=g.rp U;have km:=S.lt U;have le:=S.le;have fin:∀{u m' xs},Sim Γ H O Z u b m'->m<=m'->xs.length=rs.length->(∀j,j<m->j≠k->u j=A j)->(∀(i:Nat) v r,xs[i]?*>v->rs[i]?*>r->u (m+i)*>(v,r))->uM Γ H O Z (rm A [k]) b m xs rs:=λ{u m' xs} S' hm E B d=>
  ⟨u,_,m',S',At.range E d,o6.1,o6.2,hm,λi x l e _=>by
   unfold rm at e;split at e;cases e;delta o;rw[B i (S.lt e) (by exists o)];show e⟩
 have push:∀{xs:!V} {ys:!(V×R)},ys.length=rs.length->xs.length=rs.length->(∀(i:Nat) x s,xs[i]?*>x->rs[i]?*>s->ys.reverse[i]?*>(x,s))->(∀x∈ys,(∀j,x.2.k.root*>j->Rt Γ Z.length b j)/\∀u L n,SM Γ H u L->(∀j,j<m->u j=A j/\L j=F j)->u n=TU->m<=n->∃G,SM Γ H (up u n (TV x)) (up L n G))->uM Γ H O Z (rm A [k]) b m xs rs:=λhy E B d=>by
  have(u,L,S',_,q1,q2):=S.pushN g _ d;show fin S' (IX _ _) E (λj C _=>(q1 j C).1) λi v r a c=>q2 i _ (B i v r a c)
 have zip:∀{xs:!V},xs.length=rs.length->∀(i:Nat) x s,xs[i]?*>x->rs[i]?*>s->(xs.zip rs).reverse.reverse[i]?*>(x,s):=λE i x s B d=>by
  rw[Ls,IN];show⟨B,d⟩
 have zmem:∀{xs:!V} {x},x∈(xs.zip rs).reverse->∃i:Nat,xs[i]?*>x.1/\rs[i]?*>x.2:=λ{xs x} hx=>by
  have(i,o):=JY.mp (LV.mp hx);show{i,(IN.mp o)}
 have zlen:∀{xs:!V},xs.length=rs.length->(xs.zip rs).reverse.length=rs.length:=λE=>by rw[Jz,JF,E,LH]
 unfold L2.parts at h;split at h
 .delta q is;cases h;have(a,xs,e,hq,hr):=bG {_,rp};have E:xs.length=(is.map λi:I=>({.ow,.im i}:R)).length:=by rw[hr.length,Ia]
  show{a,xs,e,hq,E,push (zlen E) E (zip E) λx hx=>?_};have(i,B,d):=zmem hx;have(v,r):=x;rw[Io]at d;cases e2:is[i]? with
  | none=>rw[e2]at d;cases d
  | some c=>
   rw[e2]at d;cases d;have(y,h3,h4):=hr.get e2;rw[B]at h3;cases h3;show⟨λj C=>(nomatch C),λu L n g' _ hn _=>⟨[],g'.push hn (j9 h4) (.inr rfl) λL e1 _ _=>by
    show∀a∈L n,_;rw[e1];simp⟩⟩
 .delta J;cases h;rw[Rp]at rp;have(a,xs,e,hq,P):=rp;have E:xs.length=J.length:=P.length;have(f,f1,f2):=P.parts (g.nd U rfl);have k0:=g.kd U;have inN:∀{i:Nat} {x},spl A k m xs J i*>x->(m<=i/\i<m+J.length)->∃y t,xs[i-m]?*>y/\J[i-m]?*>t/\x=(y,{.ow,t}):=λ{i x} h o=>by
   unfold spl at h;rw[if_pos o]at h;split at h;delta B d;cases h;show{_,_,B,d,Xr};cases h
  have z:∀{i:Nat},¬ (m<=i/\i<m+J.length)->spl A k m xs J i=rm A [k] i:=λo=>if_neg o;have Q:∀{i:Nat} {x},rm A [k] i*>x->A i*>x/\i≠k:=λ{i x} h=>by
   unfold rm at h;split at h;cases h;delta hk';show{h,by simpa using hk'}
  have rmk:∀{i},i≠k->rm A [k] i=A i:=λh=>if_neg (by exists h);have bn:=S.bn;show{a,xs,e,.inl hq,by rw[E,Ia],fin (show Sim Γ H O Z (spl A k m xs J) b (m+J.length)from{{λi=>if m<=i then f (i-m)else F i,g.step [k] (λi=>m<=i/\i<m+J.length) (λj C=>by rw[ysM C];show{_,_,U,Xr}) (MQ.refl _ _) (λa N=>(g.rp U).dom a (by exists N)) (λi y s h o=>?_) (λi y s h o=>?_) (λi j a o C N hc=>?_)},λi o=>?_,S.al,S.len,S.le,by omega,λi x j h C=>?_,λi o=>?_}) (IX _ _) (by rw[E,Ia]) (λj C hjk=>?_) λi y s B d=>?_}
  .rw[z o]at h;have(B,d):=Q h;have im:=S.lt B;show{B,if_neg ⋯,by simpa using d,λj C=>?_};have hjb:=(S.rt i _ j B C).1;show{by omega,by rw[z ⋯,rmk ⋯]}
  .have(y,t,B,d,e):=inN h o;cases e;have(q1,q2,q3):=f1 _ _ _ d B;rw[if_pos o.1];show{Xr,q1,q2,λa N=>{.inr (by simpa using q3 a N),(g.ad {k,_,_,U,Xr,q3 a N}).1},λa N=>?_};dsimp only at N;rw[if_pos o.1]at N;show k0 a (q3 a N)
  .rw[if_pos o.1]at N;rw[if_pos C.1]at hc;have:=f2 _ _ a ⋯ ⋯ N hc;omega
  .rw[z ⋯,rmk ⋯];show S.lo i o
  .by_cases o:m<=i/\i<m+J.length;have(y,t,B,d,e):=inN h o;cases e;cases C;rw[z o]at h;show S.rt i x j (Q h).1 C
  .rw[z ⋯];cases e:rm A [k] i with
   | none=>rfl
   | some x=>have:=(Q e).1;rw[S.ub i ⋯]at this;cases this
  .rw[z ⋯,rmk hjk]
  .rw[Io]at d;cases e2:J[i]? with
   | none=>rw[e2]at d;cases d
   | some c=>
    rw[e2]at d;cases d;have:=(Ib.mp e2).1;unfold spl;rw[if_pos ⋯,Nat.add_sub_cancel_left,B,e2]
 .delta ro p J;cases h;rw[Rp]at rp;have(a,xs,e,hq,P):=rp;have E:xs.length=(J.map (wj ro)).length:=by rw[P.length,Ia]
  show{a,xs,e,.inl hq,E,push (zlen E) E (zip E) λx hx=>?_};have(i,B,d):=zmem hx;have(v,r):=x;rw[Io]at d;cases e2:J[i]? with
  | none=>rw[e2]at d;cases d
  | some c=>
   rw[e2]at d;cases (d);have(y,X,G,Y,h3,h4,h5,_):=P.at e2;rw[B]at h3;cases (h3);have hG:∀a∈G,a∈F k:=λa N=>by rw[h5];show yaL _ (yaR _ N)
   have vw:(∀j,ro*>j->Rt Γ Z.length b j)/\∀u L n,SM Γ H u L->(∀j,j<m->u j=A j/\L j=F j)->u n=TU->m<=n->∃G,SM Γ H (up u n (TV (v,{.vw ro TU,c}))) (up L n G):=⟨λj C=>S.rt k _ j U C,λu L n g' ext hn hmn=>by
    have(x1,x2):=ext k km;have hk':u k*>(.ref a,{.vw ro p,.tup J}):=by rw[x1,U,e]
    show{G,g'.part (MY.refl H) hk' rfl hn h4 λa N=>.inl (by rw[x2];show hG a N)}⟩
   cases c with
   | im c=>
    show⟨λj C=>(nomatch C),λu L n g' _ hn _=>⟨[],g'.push hn (j9 (bq h4).1) (.inr rfl) λL e1 _ _=>by
     show∀a∈L n,_;rw[e1];simp⟩⟩
   | _=>show{λj C=>vw.1 j C,vw.2}
 .cases h
private def bI:MGs:={λrs O Q=>rs=[]/\Q O,[]}
private def au(g:MG)(a:MGs):MGs:={λrs O Q=>match rs with
 | r::rs=>Gu (rs.all (ay g.mu)) (WG g r O λc=>WGs a rs c Q)
 | []=>False,g.mu++a.mu}
private def bJ(n:Nat)(a:MGs):MG:={λr O Q=>∃rs,L2.parts r*>rs/\rs.length=n/\WGs a rs O Q,a.mu}
def xE:Ni K Cn bI:=by unhygienic
 intro Γ H O Z A b n ks Q vs rs P c w S a e d q;obtain⟨rfl,w⟩:rs=[]/\P O:=w;have:=a.len;obtain rfl:=Jv.mp this.1;obtain rfl:=Jv.mp this.2;show{Xr,q _ w Z H A n rfl S nO}
def uo{g:TG}{G:TGs}{m:MG}{o:MGs}(X:Nc K g m)(h2:Ni K G o):Ni K (vq g G) (au m o):=by unhygienic
 intro Γ H O Z A b n ks Q vs rs P E w S a nd C q;cases rs with
 | nil=>show w.elim
 | cons r rs=>
  obtain⟨N,w⟩:Gu (rs.all (ay m.mu)) (WG m r O λJ=>WGs o rs J P):=w;cases ks with
  | nil=>cases vs<;>cases a
  | cons k ks=>
   cases vs with
   | nil=>cases a
   | cons v vs=>
    have(n1,Y):=IM.mp nd;have le:=S.le;show{v,vs,Xr,X.w E w S (C k ymS) a.1 λJ w Z1 H1 A1 m1 hl U c=>?_};have d:∀k∈ks,b<=k:=λj y=>C j (ymC _ y);have f:At (rm A [k]) ks vs rs:=by
     have:∀{ks vs rs},At A ks vs rs->k∉ks->At (rm A [k]) ks vs rs:=λ{ks}=>by
      induction ks with
      | nil=>intro vs rs h _;cases vs<;>cases rs<;>first|show h|cases h
      | cons j ks L=>
       intro vs rs h B;rw[IH,not_or]at B;cases vs with
       | nil=>cases rs<;>cases h
       | cons v vs=>
        cases rs with
        | nil=>cases h
        | cons r rs=>show{by unfold rm;rw[if_neg (by simpa using NS B.1)];show h.1,L h.2 B.2}
     show this a.2 n1
    show h2.w E w U (f.kept c (λj y=>Ik le (d j y)) N) Y d λO2 p=>?_;rw[hl];show Af.tr (q O2 p) {c.1,λi x l e z=>?_};unfold rm at e;split at e;cases e
    .delta u;rw[IH,not_or]at u;unfold rm;rw[if_neg u.2];show c.2 i x l (by unfold rm;rw[if_neg (by exists u.1)];show e) z
def xF{o:TGs}{c:MGs}{l:Nat}(h:Ni K o c):Nc K (y8 K l o) (bJ l c):=by unhygienic
 intro Γ H O Z A b n k Q v r P g w S z B q;obtain⟨rs,C,y,w⟩:∃rs,L2.parts r*>rs/\rs.length=l/\WGs c rs O P:=w;obtain⟨a,xs,e,f,J,Y,ks,X,x,d,U,u,E⟩:=S.parts z B C;rw[g]at f;show{a,xs,e,f,J.trans y,h.w g w x d U (λj L=>Ik S.bn (u j L)) λO' p=>Af.tr (M:=[]) (N:=c.mu) (q O' p) (E.rm (λi G=>by unfold rm;rw[S.ub i G];simp) u)}
abbrev consL(mv:!Nat):!R->Rho->↑(!T×Rho)
 | [],O=>TV ([],O)
 | ⟨.ow,t⟩::rs,O=>match consL mv rs O with
  | some (a,O')=>TV (t::a,O')
  | none=>TU
 | ⟨.vw (TV i) (TV []),t⟩::rs,O=>if(mv.contains i&&rs.all (ay [i]))=T1 then(match O[i]? with
  | some (⇑_)=>(match consL mv rs ((aB [i] O).set i TU)with
   | some (a,O')=>TV (t::a,O')
   | none=>TU)
  | _=>TU)else TU
 | _,_=>TU
abbrev ims:!T->Option !I
 | []=>TV []
 | .im i::a=>(ims a).map (i :: ·)
 | _=>TU
def pR:∀{ts:!T} {is:!I},ims ts*>is->ts=is.map T.im
 | [],is,h=>by cases h;rfl
 | .im i::ts,is,h=>by
  dsimp[ims]at h;cases e:ims ts with
  | none=>rw[e]at h;cases h
  | some a=>rw[e]at h;cases h;rw[Ir,<-pR e]
 | .tup _::_,_,h=>by cases h
 | .li _::_,_,h=>by cases h
 | .lst _::_,_,h=>by cases h
 | .di _::_,_,h=>by cases h
 | .dc _::_,_,h=>by cases h
 | .dq _::_,_,h=>by cases h
 | .ins _ _::_,_,h=>by cases h
abbrev oN(ts:!T):T:=match ims ts with
 | some a=>.im (.tup a)
 | none=>.tup ts
abbrev de(ts:!T):T:=match ims ts with
 | some a=>.li a
 | none=>.lst ts
def Sim.consL{mv:!Nat}:∀{ks:!Nat} {vs:!V} {rs:!R} {ts:!T} {O O':Rho} {A:Fam} {m:Nat},Sim Γ H O Z A b m->At A ks vs rs->ks.Nodup->(∀k∈ks,b<=k)->L2.consL mv rs O*>(ts,O')->∃A' a o,Sim Γ H O' Z A' b o/\At A' a vs (ts.map λt=>{.ow,t})/\a.Nodup/\(∀k∈a,k∈ks\/m<=k)/\vx Z.length mv m A o A'
 | [],[],[],ts,O,O',A,m,S,_,_,_,h=>by cases h;show{A,[],m,S,trivial,IP,by simp,S.kept.sub ∅}
 | k::ks,v::vs,r::rs,ts,O,O',A,m,S,c,nd,N,h=>by
  have(Y,Q):=IM.mp nd;have g:∀k∈ks,b<=k:=λj d=>N j (ymC _ d);have le:=S.le;have km:=S.lt c.1;unfold L2.consL at h;split at h;delta e;cases e
  .delta t J e;have(rfl,rfl):=KS.inj e;ext h B O1 E;cases h;have(A',a,o,x,L,G,p,u):=Sim.consL S c.2 Q g E;show{A',k::a,o,x,{u.2 k _ (Ik le (N k ymS)) c.1 (bO rfl),L},IM.mpr {λz=>?_,G},λj d=>?_,u}
   .rcases p k z with q|q;show Y q;omega
   .rcases ycM d with rfl|d;show .inl ymS;show(p j d).imp (ymC _) id
  .delta i t J e;have(rfl,rfl):=KS.inj e;ext h C;rw[Ie]at C;ext h t1 X;ext h B O1 E;cases h;have(A1,l,m1,P,l1,U,f):=S.move S.kept c.1 X;rw[Ki]at f;have(A',a,o,x,L,G,p,u):=Sim.consL P (c.2.kept f (λj d=>Ik le (g j d)) C.2) Q g E;show{A',l::a,o,x,{u.2 l _ (Ik le (Ik S.bn l1)) U (bO rfl),L},IM.mpr {λz=>?_,G},λj d=>?_,(f.tr u).sub λj d=>?_}
   .rcases p l z with q|q;have(y,q):=c.2.mem q;have:=S.lt q;omega;have:=P.lt U;omega
   .rcases ycM d with rfl|d;show .inr l1;show(p j d).imp (ymC _) λz=>Ik f.1 z
   .rcases yaM d with z|z;rw[ysM z];exists C.1;show z
  .cases h
 | [],[],_::_,_,_,_,_,_,_,h,_,_,_=>h.elim
 | [],_::_,[],_,_,_,_,_,_,h,_,_,_=>h.elim
 | [],_::_,_::_,_,_,_,_,_,_,h,_,_,_=>h.elim
 | _::_,[],[],_,_,_,_,_,_,h,_,_,_=>h.elim
 | _::_,[],_::_,_,_,_,_,_,_,h,_,_,_=>h.elim
 | _::_,_::_,[],_,_,_,_,_,_,h,_,_,_=>h.elim
private def aq(mv:!Nat)(a:MA):ME:={λO Q=>WA a O λrs e=>Gu (decide (rs.length<=1000)) (W2 (L2.consL mv rs e) λd c=>Q {.ow,oN d} c),a.mu++mv}
private def aR(mv:!Nat)(a:MA):ME:={λO Q=>WA a O λrs e=>Gu (decide (rs.length<=1000)) (W2 (L2.consL mv rs e) λd c=>Q {.ow,de d} c),a.mu++mv}
def yd{n:Nat}(h:decide (n<=1000)=T1):n<=sizeLine:=by have:=of_decide_eq_true h;rw[NE];omega
def Sim.mkL{l:Addr}{ts:!T}(S:Sim Γ H O Z A b m)(j:vx Z.length M n A0 m A)(h:At A ks vs (ts.map λt=>{.ow,t}))(B:ks.Nodup)(y:∀k∈ks,b<=k/\A0 k=TU)(hp:H l=TU):Got Γ (upd H l (.lst vs)) O Z A0 b n M (.ref l) {.ow,de ts}:=by
 have(X,g,x,f,u):=S.use j h B y;have d:=MY.laid (o:=.lst vs) hp;have p:l∉X:=λz=>by have(o,e,_):=f l z;rw[hp]at e;cases e
 show u.2 _ (.ref l) (de ts) (l::X) (d.offM _) (λa c=>let ⟨o,e,_⟩:=f a c;{o,d a o e}) (IM.mpr ⟨p,x⟩) (λa c=>?_) ?_
 .rcases ycM c with rfl|c;show{.inr hp,_,aE,Xr};show{.inl c,let ⟨o,e,m⟩:=f a c;{o,d a o e,m}}
 .unfold de;split
  .delta E q;rw[pR q]at g;have(C,rfl):=Rps.ims.mp g;rw[Rp];show{l,vs,Xr,.inl aE,C.same d,Xr}
  .rw[Rp];show{l,vs,X,Xr,.inl aE,g.same d,Xr}
def xQ{B:TA}{a:MA}{mv:!Nat}(c:M2 K B a):MN K (GR B) (aq mv a):=by unhygienic
 intro Γ H O Z A b n Q P Y w S q;show c.w Y w S λrs O1 vs H1 ⟨G,C,O2,E,p⟩ ⟨A1,ks,m1,N,at1,nd,z,f⟩=>{by rw[at1.len.1];show yd G,λl hl=>?_};have(A2,ks2,m2,J,g,x,hk2,j):=N.consL at1 nd (λk h=>Ik S.bn (z k h)) E;have(X,u,h2,y,L):=J.use (f.tr j) g x λk h=>S.fr ((hk2 k h).elim (z k) (Ik f.1));have d:=MY.laid (o:=.tup vs) hl;show q _ _ _ _ p (L.2 _ (.ref l) (oN C) X (d.offM _) (λa c=>let ⟨o,e,_⟩:=y a c;{o,d a o e}) h2 (λa c=>{.inl c,let ⟨o,e,m⟩:=y a c;{o,d a o e,m}}) ?_);unfold oN;split
 .delta is hi;rw[pR hi]at u;have(U,rfl):=Rps.ims.mp u;show j9 ?_;rw[RpI];show{l,vs,Xr,SqT.of aE,U.same d}
 .rw[Rp];show{l,vs,Xr,Rd.of aE,u.same d}
def xG{j:TA}{a:MA}{mv:!Nat}(o:M2 K j a):MN K (GM j) (aR mv a):=by unhygienic
 intro Γ H O Z A b n Q P B w S q;show o.w B w S λrs O1 vs N ⟨x,J,O2,u,p⟩ ⟨L,ks,X,z,at1,G,g,c⟩=>{by rw[at1.len.1];show yd x,λl C=>?_};have(U,E,Y,y,d,f,hk2,e):=z.consL at1 G (λk h=>Ik S.bn (g k h)) u;show q _ _ _ _ p (y.mkL (c.tr e) d f (λk h=>S.fr ((hk2 k h).elim (g k) (Ik c.1))) C)
end
section
variable {Γ:Gm}{H H':Hp}{O O' O1:Rho}{Z:St}{A A0:Fam}{v x y:V}{t:T}{K:yF}{Q:VK}{b n m k:Nat}{M ks:!Nat}
abbrev ixK:Kd->↑Ac->↑Kd
 | .ow,_=>TV .ow
 | .io _,_=>TU
 | .vw (TV r) (TV p),TV a=>TV (.vw (TV r) (TV (p++[a])))
 | .vw c _,_=>TV (.vw c TU)
abbrev ixP(k:Kd) (a:↑Ac):T->↑R
 | .im i=>↥i
 | t=>match ixK k a with
  | some c=>TV ⟨c,t⟩
  | none=>TU
abbrev ixI(i:I) (n:Int):↑R:=match i with
 | .tup a=>(atI a n).map λi=>{.ow,.im i}
 | .ls a=>(atI a n).map λi=>{.ow,.im i}
 | .str z=>if z.length<=sizeLine then(atI (sL z) n).map λc=>{.ow,.im (.str {#[c]})}else TU
 | _=>TU
abbrev ixX(k:Kd) (t:T) (n:Int):↑R:=match t with
 | .im i=>ixI i n
 | .li c=>(atI c n).map λi=>{.ow,.im i}
 | .lst a=>(match ixN a.length n with
  | some j=>(a[j]?).bind (ixP k (TV (.ix j)))
  | none=>TU)
 | .tup a=>(match ixN a.length n with
  | some j=>(a[j]?).bind (ixP k (TV (.tp j)))
  | none=>TU)
 | _=>TU
private def ixR(r:R)(t:T):↑R:=match isI t with
 | some n=>ixX r.k r.t n
 | none=>TU
private def mIx(a c:ME):ME:={λO Q=>WE a O λd O1=>WE c O1 λe f=>Gu (ay c.mu d) (W1 (ixR d e.t) λr=>Q r f),a.mu++c.mu}
def kK{n:Int}{is:!I}{xs:!V}{i:I}(r:ek K H is xs)(e:atI is n*>i):∃w,atI xs n*>w/\RpI K H i w:=by
 unfold atI at e|-;rw[r.length];cases h:ixN is.length n with
 | none=>rw[h]at e;cases e
 | some j=>rw[h]at e;show r.get e
def Sim.takeO{s:T}(S:Sim Γ H O Z A b m)(l:vx Z.length M n A0 m A)(r:b<=k/\A0 k=TU)(j:A k*>(x,{.ow,t})){P:V->Prop}(hp:∀F,Rp Γ.K H t x F->∃w X G Y,P w/\Rp Γ.K H s w G/\F=X++G++Y):∃w,P w/\Got Γ H O Z A0 b n M w {.ow,s}:=by
 have(F,u,h,f,g):=S.use (ks:=[k]) (vs:=[x]) (ts:=[t]) l ⟨j,trivial⟩ ∅ (by exists r);have(y,C,i,E,e,z,B,rfl):=u.cons_inv;cases e;obtain rfl:=B.nil_inv.2;rw[Iw]at h f g;have(w,X,G,Y,p,q,rfl):=hp i z;have d:∀a∈G,a∈X++G++Y:=λa c=>yaL _ (yaR _ c);show{w,p,g.2 H w s G (MQ.refl _ _) (λa c=>let ⟨o,e,_⟩:=f a c;⟨o,e⟩) (Iv.mp (Iv.mp h).1).2.1 (λa c=>{.inl (d a c),f a (d a c)}) q}
def mU{a:Type}{xs:!a}{n:Int}{j m:Nat}{w : a}(h:ixN m n*>j)(c:xs.length=m)(d:xs[j]?*>w):atI xs n*>w:=by
 unfold atI;rw[c,h];show d
def Sim.ixP{kd:Kd}{s:T}{a:↑Ac}{r:R}(S:Sim Γ H O Z A b m)(J:vx Z.length M n A0 m A)(E:b<=k/\A0 k=TU)(u:A k*>(x,⟨kd,t⟩)){P:V->Prop}(z:L2.ixP kd a s*>r)
  (l:∀F,Rp Γ.K H t x F->∃w X G Y,P w/\Rp Γ.K H s w G/\F=X++G++Y) (pl:∀c,a*>c->jU t c*>s/\∀w,at1 Γ.K H x c w->P w):∃w,P w/\Got Γ H O Z A0 b n M w r:=by
 have q:∀h p,kd=.vw h p->∃w,P w/\Got Γ H O Z A0 b n M w {.vw h TU,s}:=λh p E=>by
  have(F,g):=S.sm;have(w,X,G,Y,B,L,U):=l _ (g.rp u);show{w,B,S.got J (λj hj=>S.rt _ _ j u (by rw[E];show hj)) {_,g.part (MY.refl H) u E (S.ub m (Ig _)) L λa N=>.inl ?_}};rw[U];show yaL _ (yaR _ N)
 have C:∀o,ixK kd a*>o->∃w,P w/\Got Γ H O Z A0 b n M w ⟨o,s⟩:=λo d=>by
  cases kd with
  | ow=>cases d;show S.takeO J E u l
  | io _=>cases d
  | vw h p=>
   have f:o=.vw h TU->∃w,P w/\Got Γ H O Z A0 b n M w ⟨o,s⟩:=λe=>by rw[e];show q h p rfl
   cases h with
   | none=>show f (by cases d;rfl)
   | some i=>
    cases p with
    | none=>show f (by cases d;rfl)
    | some p=>
     cases a with
     | none=>show f (by cases d;rfl)
     | some c=>
      cases d;have(q1,q2):=pl c rfl;have(w,B,g):=S.partP (a:=c) (s:=s) J u rfl q1;show{w,q2 w B,g}
 cases s with
 | im i=>
  cases z;have(F,rp):=S.rd u;have(w,X,G,Y,B,L,_):=l F rp;show{w,B,S.imm J (bq L).1}
 | _=>
  dsimp[L2.ixP]at z;split at z;delta o e;cases z;show C o e;cases z
def Sim.ixR{ra r:R}{tb:T}(h:L2.ixR ra tb*>r)(S:Sim Γ H O Z A b m)(P:vx Z.length M n A0 m A)(hk:b<=k/\A0 k=TU)(hx:A k*>(x,ra))(ry:Rpx Γ.K H tb y):∃w,(∀Q:VK,Q w H->rIx Γ.K x y H Q)/\Got Γ H O Z A0 b n M w r:=by
 have N:Rpx Γ.K H ra.t x:=S.rd hx;unfold L2.ixR at h;ext h n en;cases fL en;have(k0,t0):=ra;replace N:Rpx Γ.K H t0 x:=N;rw[aH ry];unfold ixX at h;dsimp only at h;split at h
 .unfold ixI at h;split at h
  .have(i,l,e):=IB.mp h;subst e;have(p,d,g,C,J):=bG N;have(w,f,E):=kK J l;show{w,λQ q=>.inr (.inl ⟨p,d,n,w,g,Xr,C,f,q⟩),S.imm P E}
  .have(i,l,e):=IB.mp h;subst e;have(p,d,g,C,J):=ka N;have(w,f,E):=kK J l;show{w,λQ q=>.inl {p,d,n,w,g,Xr,aK C,f,q},S.imm P E}
  .delta z;ext h hz;have(c,l,e):=IB.mp h;subst e;show{_,λQ q=>.inr (.inr {z,n,c,dA N,Xr,hz,l,q}),S.imm P (ju rfl)}
  .cases h
 .have(i,l,e):=IB.mp h;subst e;have(p,d,g,C,J):=bE N;have(w,f,E):=kK J l;show{w,λQ q=>.inl {p,d,n,w,g,Xr,aK C,f,q},S.imm P E}
 .delta ts;ext h j hj;have(s,l,h):=JO.mp h;have(a,d,G,g,u,f):=iW N;show S.ixP P hk hx h (λF L=>?_) λc hc=>?_
  .rw[Rp]at L;have(a,d,F',rfl,u,f,rfl):=L;have(w,X,G,Y,E,h5,h6,_,_):=f.at l;show{w,a::X,G,Y,λQ q=>.inl {a,d,n,w,Xr,Xr,aK u,mU hj f.length E,q},h5,by rw[h6];simp}
  .cases hc;show{l,λw ⟨a',B,U,C,J⟩ Q q=>?_};rw[g]at U;cases U;have e3:B=d:=by
    rcases u with u|⟨o,u⟩<;>rw[u]at C<;>cases C;rfl
   subst e3;show .inl {a,B,n,w,g,Xr,SqL.of C,mU hj f.length J,q}
 .delta ts;ext h j hj;have(s,l,h):=JO.mp h;have r2:∃a d,x=.ref a/\Rd H a (.tup d)/\d.length=ts.length:=by
   have(F,L):=N;rw[Rp]at L;have(a,d,g,u,f):=L;show⟨a,d,g,u,f.length⟩
  have(a,d,g,u,hl):=r2;show S.ixP P hk hx h (λF L=>?_) λc hc=>?_
  .rw[Rp]at L;have(a,d,rfl,u,f):=L;have(w,X,G,Y,E,h5,h6,_,_):=f.at l;show{w,X,G,Y,λQ q=>.inr (.inl {a,d,n,w,Xr,Xr,.inl u,mU hj f.length E,q}),h5,h6}
  .cases hc;show{l,λw ⟨a',B,U,C,J⟩ Q q=>?_};rw[g]at U;cases U;have e3:B=d:=sE C u;subst e3;show .inr (.inl {a,B,n,w,g,Xr,.inl u,mU hj hl J,q})
 .cases h
def Eg{i f:TE}{a c:ME}(j:MN K i a)(o:MN K f c):MN K (tOp (rIx K) i f) (mIx a c):=by unhygienic
 intro Γ H O Z A b n Q P h w S q;show j.two o h w S λJ E N x y G L k l m ⟨r,e,p⟩ d s C u _ z=>?_;subst h;have(w,B,g):=Sim.ixR e d z (S.fr u) s (d.rd C);show B Q (q _ _ w _ p g)
structure MO where
 run:Rho->(↑Int->Rho->Prop)->Prop
 mu:!Nat
abbrev WO(m:MO)(O:Rho)(Q:↑Int->Rho->Prop):Prop:=C2 (m.run O) Q
abbrev Nr(K:yF)(d:TO)(m:MO):Prop:=∀{Γ:Gm} {H:Hp} {O:Rho} {Z:St} {A:Fam} {b n:Nat} {Q:↑Int->Hp->Prop} {P:↑Int->Rho->Prop},Γ.K=K->m.run O P->Sim Γ H O Z A b n->(∀o O' H' c a,P o O'->Sim Γ H' O' Z c b a->vx Z.length m.mu n A a c->Q o H')->d Z H Q
def Nr.w{e:TO}{d:MO}{Q:↑Int->Hp->Prop}{P:↑Int->Rho->Prop}(h:Nr K e d)(f : Γ.K=K)(w:WO d O P)(S:Sim Γ H O Z A b n)(q:∀o O' H' A' a,P o O'->Sim Γ H' O' Z A' b a->vx Z.length d.mu n A a A'->Q o H'):e Z H Q:=let ⟨_,w,k⟩:=w;h f w S λc O' H' A' a p g=>q c O' H' A' a (k _ _ p) g
abbrev IsN(t:T)(P:Int->Prop):Prop:=∃i,t=.im (.int i)/\P i
private def bF:MO:={λO Q=>Q TU O,[]}
private def dU(a:ME):MO:={λO Q=>WE a O λr O1=>IsN r.t λi=>Q (TV i) O1,a.mu}
def qD:Nr K sA bF:=by unhygienic
 intro Γ H O Z A b n Q P a w S q;show q TU _ H A n w S S.kept
def Sim.int{i:Nat}{c:Int}{r:R}(S:Sim Γ H O Z A b n)(h:A i*>(v,r))(e:r.t=.im (.int c)):v=.int c:=by
 have:=S.rd h;rw[e]at this;show aH this
def xL{f:TE}{a:ME}(g:MN K f a):Nr K (sB f) (dU a):=by unhygienic
 intro Γ H O Z A b n Q P h w S q;show g.w h w S λr O1 x l ⟨i,e,p⟩ ⟨s,k,o,d,u,j,c⟩=>{i,d.int j e,q _ O1 l s o p d c}
def ek.cut(r:ek K H is xs)(lo hi:↑Int):ek K H (bS is lo hi) (lP xs lo hi):=by
 unfold bS lP;rw[r.length];show(r.drop _).take _
def Rps.cut(r:Rps K H ts xs F)(lo hi:↑Int):∃A G B,Rps K H (bS ts lo hi) (lP xs lo hi) G/\F=A++G++B:=by
 unfold bS lP;rw[r.length];have(A,e,f,c,rfl):=r.take (HT.sIx ts.length 0 lo);have(G,B,a,d,rfl):=c.take (HT.sIx ts.length ts.length hi-HT.sIx ts.length 0 lo);show{A,G,B,a,by simp}
abbrev slI(i:I) (lo hi:↑Int):↑R:=match i with
 | .tup a=>if HT.sIx a.length 0 lo=0/\HT.sIx a.length a.length hi=a.length then TU else ↥(.tup (bS a lo hi))
 | .str z=>if z.length<=sizeLine then ↥(.str (oL (bS (sL z) lo hi)))else TU
 | _=>TU
abbrev slX(k:Kd) (t:T) (lo hi:↑Int):↑R:=match t with
 | .li a=>⇑(.li (bS a lo hi))
 | .im i=>slI i lo hi
 | .lst d=>(match k with
  | .vw c _=>TV {.vw c TU,.lst (bS d lo hi)}
  | _=>TU)
 | _=>TU
private def slR(r:R)(lo hi:↑Int):↑R:=slX r.k r.t lo hi
private def mSl(a:ME)(lo hi:MO):ME:={λO Q=>WE a O λc O1=>WO lo O1 λl d=>WO hi d λu e=>Gu (ay (lo.mu++hi.mu) c) (W1 (slR c l u) λr=>Q r e),a.mu++(lo.mu++hi.mu)}
def Ej{ta:TE}{tl th:TO}{a:ME}{lo hi:MO}(ha:MN K ta a)(hl:Nr K tl lo)(hh:Nr K th hi):MN K (tSl (rSl K) ta tl th) (mSl a lo hi):=by unhygienic
 intro Γ H O Z A b n Q P hK w S q;subst hK;show ha.w rfl w S λra O1 x H1 w ⟨A1,k,m1,S1,k1,x1,U⟩=>?_;show hl.w rfl w S1 λl O2 H2 A2 m2 w S2 s=>?_;show hh.w rfl w S2 λh O3 H3 A3 m3 ⟨al,r,d,p⟩ e u=>?_;have L:=U.tr (s.tr u);have J:=(s.tr u).2 k _ (Ik S.le (Ik S.bn k1)) x1 al;have z:=e.rd J;have(k0,t0):=ra;replace z:Rpx Γ.K H3 t0 x:=z;unfold slR slX at d;dsimp only at d;split at d
 .cases d;have(i,B,C,E,o):=bE z;show .inr (.inl {i,B,C,aK E,λa f=>q _ _ _ _ p (e.new L (.li f (o.cut l h)))})
 .unfold slI at d;split at d
  .split at d;cases d
   .delta hw;cases d;have(i,B,C,E,o):=bG z;show .inl {i,B,C,E,by rw[o.length];show hw,λa f=>q _ _ _ _ p (e.new L (.tup f (o.cut l h)))}
  .ext d hz;cases d;show .inr (.inr {_,dA z,hz,q _ _ _ _ p (e.imm L (ju rfl))})
  .cases d
 .delta ts;ext d ro p0;cases d;have(F,g):=e.sm;have rp:=g.rp J;rw[Rp]at rp;have(a,B,F',C,E,o,g3):=rp;show .inr (.inl {a,B,C,aK E,λi f=>q _ _ _ _ p (e.got L (λj hj=>e.rt _ _ j J hj) ?_)});have(X,G,Y,g4,g5):=o.cut l h;show{_,g.part (MY.laid f) J rfl (e.ub m3 (Ig _)) (G:=i::G) (by rw[Rp];show{i,_,G,Xr,.inl aE,g4.same (MY.laid f),Xr}) λc N=>?_};rcases ycM N with rfl|N;show .inr f;rw[g3,g5];show .inl (ymC _ (yaL _ (yaR _ N)))
 .cases d
private def xS:T->↑T
 | .im (.tup a)=>TV (.im (.tup a.reverse))
 | _=>TU
def Aw{c:TE}{a:ME}(h:MN K c a):MN K (yl K c) (mUn xS a):=by unhygienic
 intro Γ H O Z A b n Q P z w S q;subst z;show h.w rfl w S λr O1 x N ⟨t,d,p⟩ ⟨L,k,U,g,J,C,e⟩=>?_;have G:=g.rd C;have(k,c):=r;unfold xS at d;ext d E o;cases d;have f:c=.im (.tup E):=o;subst f;have(j,l,s,u,B):=bG G;show{j,l,s,u,λa i=>q _ _ _ _ p (g.new e (.tup i B.reverse))}
abbrev cY(K:yF)(red:V->!V->Hp->VK->Prop)(f:T->!T->↑(T×I)):Prop:=∀(H:Hp) (w:V) (vs:!V) (s:T) (d:!T) (e:T) (i:I) (G F:!Addr) (Q:VK),Rp K H s w G->Rps K H d vs F->(G++F).Nodup->(∀a∈G++F,Mu H a)->f s d*>(e,i) ->
 (∀v H' c,MQ G H H'->(∀a∈G,∃o,H' a*>o)->c.Nodup->(∀a∈c,(a∈G++F\/H a=TU)/\Mu H' a)->Rp K H' e w c->RpI K H' i v->Q v H')->red w vs H Q
private def mutR(i:Nat)(mv:!Nat)(f:T->!T->↑(T×I))(r0:R)(rs:!R)(O1:Rho):↑(R×Rho):=match r0 with
 | ⟨.vw (TV j) (TV p),s⟩=>if(decide (j=i) &&  ~~~mv.contains i)=T1 then(match consL mv rs O1 with
  | some (d,c)=>(match f s d with
   | some (e,a)=>(match c[i]? with
    | some (TV ⟨k,t⟩)=>if k.isOw=T1 then TV ({.ow,.im a},(aB [i] c).set i (TV {k,t.put p e}))else TU
    | _=>TU)
   | none=>TU)
  | none=>TU)else TU
 | _=>TU
def Sim.mutR{red:V->!V->Hp->VK->Prop}{f:T->!T->↑(T×I)}{i:Nat}{mv:!Nat}{r0 r:R}{rs:!R}{vs:!V}(hK : Γ.K=K)(hp:cY K red f)(h:L2.mutR i mv f r0 rs O1*>(r,O'))(S:Sim Γ H O1 Z A b m)(kp:vx Z.length M n A0 m A)(hx:A k*>(x,r0))(hk:b<=k)(u:At A ks vs rs)(nd:ks.Nodup)(c:∀j∈ks,b<=j/\A0 j=TU)(h0:∀j,m<=j->A0 j=TU)
  (q:∀v H',Got Γ H' O' Z A0 b n (M++(mv++[i])) v r->Q v H'):red x vs H Q:=by
 unfold L2.mutR at h;ext h j p s;ext h z;rw[Ie,decide_eq_true_eq,Ji]at z;have(rfl,w):=z;ext h J O2 e1;ext h B o L;ext h kd t C;ext h ho;cases h;have(A2,ks2,m2,N,d,l,hk2,a):=S.consL u nd (λj h=>(c j h).1) e1;have x2:=a.2 k _ (Ik S.le hk) hx (by unfold aL;dsimp[Kd.root];rw[w];rfl);have(G,F,h1,h2,Y,X,h5):=N.mut (kp.tr a) x2 d l (λj h=>(hk2 j h).elim (c j) λq=>{Ik S.bn q,h0 j q}) C ho;subst hK;show hp H x vs s J B o G F Q h1 h2 Y X L λv H' E a1 a2 a3 a4 U g=>q v H' ?_;have(A3,P,e,_):=h5.2 H' B E a1 a2 a3 a4 U;show(P.imm e g).sub λj hj=>by rwa [Iy]at hj
private def db(g:String)(i:Nat)(mv:!Nat)(f:T->!T->↑(T×I))(o:ME)(a:MA):ME:={λO Q=>WE o O λc O1=>Gu (tyT g c.t) (WA a O1 λd e=>Gu (ay a.mu c) (W2 (L2.mutR i mv f c d e) Q)),(o.mu++a.mu)++(mv++[i])}
def Aq{E:String}{red:V->!V->Hp->VK->Prop}{J:TE}{B:TA}{o:ME}{a:MA}{f:T->!T->↑(T×I)}{i:Nat}{mv:!Nat}(hp:cY K red f)(ho:MN K J o)(L:M2 K B a):MN K (tBM K E red J B) (db E i mv f o a):=by unhygienic
 intro Γ H O Z A b n Q P l w S q;show ho.w l w S λr0 O0 x H1 ⟨Y,w⟩ ⟨A1,k,m1,C,z,G,d⟩=>{by rw[<-l];show nX Y (C.rd G),?_};show L.w l w C λrs O1 vs H2 ⟨U,r,O2,e,p⟩ ⟨A2,ks,m2,N,s,X,u,c⟩=>?_;show Sim.mutR l hp e N (d.tr c) (c.2 k _ (Ik S.le (Ik S.bn z)) G U) (Ik S.bn z) s X (λj h=>S.fr (Ik d.1 (u j h))) (λj h=>S.ub j (Ik (d.tr c).1 h)) λv H' g=>q _ _ v H' p g
private def jf(c:String)(i:Nat)(f:T->!T->↑(T×I))(o:ME):ME:={λO Q=>WE o O λa O1=>Gu (tyT c a.t) (W2 (L2.mutR i [] f a [] O1) Q),o.mu++[i]}
def xH{l:String}{red:V->!V->Hp->VK->Prop}{u:TE}{o:ME}{f:T->!T->↑(T×I)}{i:Nat}(hp:cY K red f)(ho:MN K u o):MN K (Ev K l red u) (jf l i f o):=by unhygienic
 intro Γ H O Z A b n Q P c w S q;show ho.w c w S λJ C x G ⟨B,r,N,e,p⟩ ⟨E,k,L,d,z,s,a⟩=>{by rw[<-c];show nX B (d.rd s),?_};show Sim.mutR (ks:=[]) (vs:=[]) c hp e d a s (Ik S.bn z) trivial IP ∅ (λj h=>S.ub j (Ik a.1 h)) λv H' g=>q _ _ v H' p g
def j4(h:Rp K H (.li is) w G)(c:∀a∈G,Mu H a):∃a xs,w=.ref a/\H a*>(.lst xs)/\ek K H is xs/\G=[a]:=by
 rw[Rp]at h;have(a,xs,e,f,d,rfl):=h;show{a,xs,e,(c a ymS).lst f,d,Xr}
def CH(h:Rp K H (.lst ts) w G)(c:∀a∈G,Mu H a):∃a xs F,w=.ref a/\H a*>(.lst xs)/\Rps K H ts xs F/\G=a::F:=by
 rw[Rp]at h;have(a,xs,F,f,e,d,rfl):=h;show{a,xs,F,f,(c a ymS).lst e,d,Xr}
def gW(f:H a*>(.lst xs))(g:ek K H is' xs')(hi:RpI K H i v)
  (q:∀v H' d,MQ [a] H H'->(∀b∈[a],∃o,H' b*>o)->d.Nodup->(∀b∈d,(b∈[a]++F\/H b=TU)/\Mu H' b)->Rp K H' (.li is') (.ref a) d->RpI K H' i v->Q v H'):Q v (upd H a (.lst xs')):=by
 have e:∀b∈[a],Mu H b:=λb c=>by rw[ysM c];show{_,f,Xr}
 show q v _ [a] MQ.upd (λb c=>by rw[ysM c];show{_,aE}) ∅ (λb c=>?_) ?_ (hi.off MQ.upd e);rw[ysM c];show{.inl ∅,_,aE,Xr};rw[Rp];show{a,xs',Xr,.inl aE,g.off MQ.upd e,Xr}
def sF(p:H a*>(.lst xs))(g:(a::F').Nodup)(l:∀b∈F',Mu H b)(s:∀b∈F',b∈(a::G)++F)(u:Rps K H ts' xs' F')(hi:RpI K H i v)
  (q:∀v H' d,MQ (a::G) H H'->(∀b∈a::G,∃o,H' b*>o)->d.Nodup->(∀b∈d,(b∈(a::G)++F\/H b=TU)/\Mu H' b)->Rp K H' (.lst ts') (.ref a) d->RpI K H' i v->Q v H') (r:∀b∈G,∃o,H b*>o):Q v (upd H a (.lst xs')):=by
 have j:∀b∈[a],Mu H b:=λb c=>by rw[ysM c];show{_,p,Xr}
 have f:∀b∈F',b≠a:=λb c z=>(IM.mp g).1 (z▸c);show q v _ (a::F') (MQ.upd.mono λb c=>by rw[ysM c];show ymS) (λb c=>?_) g (λb c=>?_) ?_ (hi.off MQ.upd j)
 .by_cases e:b=a;subst e;show{_,aE}
  .rcases ycM c with z|z;show absurd z e;have(o,h):=r b z;show{o,by rw[upd_ne e];show h}
 .rcases ycM c with rfl|c;show{.inl ∅,_,aE,Xr}
  .show{.inl (s b c),?_};have(o,h,m):=l b c;show{o,by rw[upd_ne (f b c)];show h,m}
 .rw[Rp];show{a,xs',F',Xr,.inl aE,u.off MQ.upd j (λb c z=>f b c (ysM z)),Xr}
abbrev ap1(s t:T):↑(T×I):=match s with
 | .li a=>(match t with
  | .im i=>if a.length<sizeLine then TV (.li (a++[i]),.non)else TU
  | _=>if a.length<sizeLine then TV (.lst (a.map .im++[t]),.non)else TU)
 | .lst c=>if c.length<sizeLine then TV (.lst (c++[t]),.non)else TU
 | _=>TU
private def apT(s:T)(ts:!T):↑(T×I):=l1 (ap1 s) ts
def uv(h:Rps K H [t] vs F):∃v,vs=[v]/\Rp K H t v F:=by
 have(v,r,e,d,rfl,a,c,rfl):=h.cons_inv;have(rfl,rfl):=c.nil_inv;show{v,Xr,by rw[Iw];show a}
def HN(h:Rps K H [t,u] vs F):∃v w c a,vs=[v,w]/\Rp K H t v c/\Rp K H u w a/\F=c++a:=by
 have(v,r,c,a,rfl,f,e,rfl):=h.cons_inv;have(w,rfl,d):=uv e;show⟨v,w,c,a,Xr,f,d,Xr⟩
def cw:RpI K H .non .non:=by rw[RpI]
def oV:cY K nI apT:=by
 intro H w vs s J P i G F Q h E B j e q;unfold apT at e;have C:=eW e;clear e;have(L,rfl,e):=C;have(y,rfl,r):=uv E;unfold ap1 at e;split at e
 .delta N;have(a,o,rfl,f,d,rfl):=j4 h λa p=>j a (yaL _ p);split at e
  .have(g,e):=aU e;cases e;show{a,o,y,Xr,Xr,f,by rw[d.length];show g,gW f (d.append (.one (bq r).1)) cw q}
  .have(g,e):=aU e;cases e;show{a,o,y,Xr,Xr,f,by rw[d.length];show g,sF (G:=[]) (F:=F) (F':=F) f B (λb c=>j b (yaR _ c)) (λb c=>yaR _ c) ?_ cw q ∅};have:=Rps.append (Rps.ims.mpr ⟨d,Xr⟩) (Rps.cons r Rps.nil);exists this
 .have(g,e):=aU e;cases e;have(a,o,l,rfl,f,d,rfl):=CH h λa p=>j a (yaL _ p);have u:∀b∈l++F,b∈(a::l)++F:=λb c=>(yaM c).elim (λz=>yaL _ (ymC _ z)) λz=>yaR _ z;show{a,o,y,Xr,Xr,f,by rw[d.length];show g,sF (G:=l) (F:=F) (F':=l++F) f (by exists B) (λb c=>j b (u b c)) u ?_ cw q (λb c=>d.dom b c)};have:=Rps.append d (Rps.cons r Rps.nil);exists this
 .cases e
abbrev Ff(s t:T):↑(T×I):=match vC s with
 | some c=>(match vC t with
  | some a=>if c.length+a.length<=sizeLine then TV (.li (c++a),.non)else TU
  | none=>(match vD t with
   | some a=>if c.length+a.length<=sizeLine then TV (.li (c++a),.non)else TU
   | none=>TU))
 | none=>TU
private def vn(s:T)(ts:!T):↑(T×I):=l1 (Ff s) ts
def oW:cY K (xq K) vn:=by
 intro H w vs s N U i G F Q l J X z e q;unfold vn at e;have C:=eW e;clear e;have(P,rfl,e):=C;have(y,rfl,j):=uv J;unfold Ff at e;ext e S L;cases jb L;have(a,r,rfl,d,f,rfl):=j4 l λa B=>z a (yaL _ B);split at e
 .delta E o;cases jb o;have(g,e):=aU e;cases e;rw[Rp]at j;have(b,h,rfl,p,c,rfl):=j;show .inl {a,b,r,h,Xr,Xr,d,p,by rw[f.length,c.length];show g,gW d (f.append c) cw q}
 .ext e E o;cases jc o;have(g,e):=aU e;cases e;have u:=(bq j).1;rw[RpI]at u;have(b,h,rfl,p,c):=u;show .inr {a,b,r,h,Xr,Xr,d,p,by rw[f.length,c.length];show g,gW d (f.append c) cw q}
private def lf:T->!T->↑(T×I)
 | .li a,[]=>match a[a.length-1]? with
  | some i=>TV (.li a.dropLast,i)
  | none=>TU
 | _,_=>TU
def ek.dropLast(h:ek K H is xs):ek K H is.dropLast xs.dropLast:=by
 rw[Lp,Lp,h.length];show h.take _
def wR:cY K Ea lf:=by
 intro H w vs s z C i G F Q c p E h e q;unfold lf at e;ext e B;ext e j u;cases e;have(a,o,rfl,g,d,rfl):=j4 c λa l=>h a (yaL _ l);have(rfl,rfl):=p.nil_inv;have(y,f,r):=d.get u;rw[<-d.length]at f;show{a,o,y,Xr,Xr,g,f,gW g d.dropLast r q}
abbrev Fo(s n t:T):↑(T×I):=match vC s with
 | some a=>(match isI n with
  | some n=>(match t with
   | .im i=>if 0<=n/\n<=a.length/\a.length<sizeLine then TV (.li (a.take n.toNat++i::a.drop n.toNat),.non)else TU
   | _=>TU)
  | none=>TU)
 | none=>TU
private def pS(s:T)(ts:!T):↑(T×I):=l2 (Fo s) ts
def oX:cY K nJ pS:=by
 intro H w vs s L X i G F Q f C Y h e q;unfold pS at e;have p:=pX e;clear e;have(N,P,rfl,e):=p;have(y,z,l,S,rfl,u,B,rfl):=HN C;unfold Fo at e;ext e U J;cases jb J;have(a,o,rfl,g,c,rfl):=j4 f λa j=>h a (yaL _ j);ext e n E;cases fL E;ext e;have(d,e):=aU e;cases e;have r:=aH ⟨l,u⟩;subst r;show{a,o,n,z,Xr,Xr,g,d.1,by rw[c.length];show d.2.1,by rw[c.length];show d.2.2,gW g ((c.take _).append (.cons (bq B).1 (c.drop _))) cw q}
private def AG(s:T)(n:T)(v:T):↑T:=match s,n,v with
 | .li a,.im (.int n),.im i=>match ixN a.length n with
  | some j=>TV (.li (a.set j i))
  | none=>TU
 | _,_,_=>TU
abbrev AtS(j:Nat)(r:R)(P:!Ac->T->Prop):Prop:=∃p s,r={.vw (TV j) (TV p),s}/\P p s
abbrev AtM(j:Nat)(O:Rho)(P:Kd->T->Prop):Prop:=∃k t,O[j]?*>(TV ⟨k,t⟩)/\k.isOw=T1/\P k t
private def vP(f:T->T->T->↑T)(j:Nat)(o i:ME):MG:={λr O Q=>∃c,r={.ow,c}/\WE o O λg O1=>WE i O1 λd a=>AtS j g λp s=>Gu (~~~i.mu.contains j) (AtM j a λk t=>W1 (f s d.t c) λe=>Q ((aB [j] a).set j (TV {k,t.put p e}))),(o.mu++i.mu)++[j]}
noncomputable abbrev vO:=vP AG
def ek.set'{i:I}{w:V}{is:!I}{xs:!V}(a:RpI K H i w)(n:Nat)(h:ek K H is xs):ek K H (is.set n i) (xs.set n w):=ek.set a n h
def xP{to U:TE}{o i:ME}{j:Nat}{f:T->T->T->↑T}{red:V->V->V->Hp->(Hp->Prop)->Prop}(ho:MN K to o)(hi:MN K U i)
  (hp:∀(H:Hp) (x y v:V) (s Y d B:T) (G F:!Addr) (Q:Hp->Prop),Rp K H s x G->Rpx K H Y y->Rp K H d v F->(G++F).Nodup->(∀a∈G++F,Mu H a)->f s Y d*>B->(∀H' u,MQ G H H'->(∀a∈G,∃o,H' a*>o)->u.Nodup->(∀a∈u,(a∈G++F\/H a=TU)/\Mu H' a)->Rp K H' B x u->Q H')->red x y v H Q):Nc K (Co to U red) (vP f j o i):=by unhygienic
 intro Γ H O Z A b n k Q v r P E w S N hk q;obtain⟨d,rfl,w⟩:∃d,r=⟨.ow,d⟩/\WE o O _:=w;show ho.w E w S λra O1 x H1 w ⟨A1,l,m1,S1,l1,x1,g⟩=>?_;show hi.w E w S1 λrb O2 y H2 w ⟨A2,l2,X,L,l2',y2,c⟩=>?_;obtain⟨p,s,rfl,al,kd,t,e4,hw,B,e3,p'⟩:=w;have le:=Ik S.le S.bn;have kL:=Ik S.le N;have x2:=c.2 l _ (Ik le l1) x1 (by unfold aL;dsimp[Kd.root];show al);have v2:=(g.tr c).2 k _ kL hk (bO rfl);subst E;have J:vx Z.length (o.mu++i.mu) n (rm A [k]) X A2:={(g.tr c).1,λi x l e z=>(g.tr c).2 i x l (by unfold rm at e;split at e;cases e;show e) z};have(G,F,h1,h2,h3,h4,h5):=L.mut (ks:=[k]) (vs:=[v]) (ts:=[d]) J x2 ⟨v2,trivial⟩ ∅ (λj h=>by rw[ysM h];show{N,by unfold rm;simp}) e4 hw;have(z,ez,g3):=uv h2;cases ez;show hp H2 x y v s rb.t d B G F _ h1 (L.rd y2) g3 h3 h4 e3 λH' u a1 a2 a3 a4 a5=>?_;have(A3,S3,C,_):=h5.2 H' B u a1 a2 a3 a4 a5;show q _ p' Z H' A3 X rfl S3 C
def Ax{h c:TE}{o i:ME}{j:Nat}(ho:MN K h o)(hi:MN K c i):Nc K (Co h c BM) (vO j o i):=by
 show xP ho hi λH x y v s Y tv s' G F Q J P z h4 C e q=>?_;unfold AG at e;ext e;ext e g l;cases e;have(a,w,rfl,d,f,rfl):=j4 J λa p=>C a (yaL _ p);have(N,rfl):=bq z;have B:=aH P;subst B;show{a,w,_,g,Xr,Xr,d,by rw[f.length];show l,gW (Q:=λ_ H'=>Q H') (F:=[]) (v:=.non) (i:=.non) d (f.set' N g) cw λX H' r S L E U u _=>q H' r S L E U u}
end
abbrev Fk(K:yF)(e:TE):TI:=λZ H R=>e Z H λx c=>(∃a d,x=.ref a/\SqL K c a d/\R (Itl K a) c)\/(∃a d,x=.ref a/\SqT K c a d/\R (Itt K a) c) \/ ∃z,x=.str z/\R (Its z) c
def Dz{X:Cx}{tg e:Expr}{te:TE}{K:yF}(hK:X.K=K)(he:PE X e te):PI X tg e (Fk K te):=by
 subst hK;intro OK s Z H R I h;show thn (he OK s Z H _ I h) λv f z9=>?_;have(x,H1,C,r1,q1):=z9;have fp:∀b∈[f.heap.objs.size],eK X OK H1 b:=λb j=>by
  rw[ysM j];show C.fpOk (Ig _) (C.hok.fresh (Ig _))
 rcases q1 with⟨a,xs,rfl,hq,q⟩|⟨a,xs,rfl,hq,q⟩|⟨z,rfl,q⟩
 .cases r1;have(N,rv,p,hz):=C.list hq;show Ps p.isList ?_;show{f.heap.objs.size,[f.heap.objs.size],_,_,H1,Xr,C.kept (t':=f.toks) λb o e=>NB _ e,uD a _,{_,NI _ rfl,Xr,Xr},fp,q}
 .cases r1;have(N,rv,p,hz):=C.tuple hq;show OU (show f.heap.IsTuple a N.toArray from p) ?_;show{f.heap.objs.size,[f.heap.objs.size],_,_,H1,Xr,C.kept (t':=f.toks) λb o e=>NB _ e,qP a _,{_,NI _ rfl,Xr,Xr},fp,q}
 .have(t,rfl):=r1;have l:∀(n:String) (o:Obj),(["enumerate","zip","dict_itemiterator","dict_reverseitemiterator","odict_iterator","itertools.zip_longest","itertools.pairwise"].contains n=TZ) ->
    o={cls:=.type n,data:=.fields #[.str z t,.int 0 0]}->(∀S:NU,S.handled=TU->Tq X.prog X.w S f.heap.objs.size [f.heap.objs.size] [f.heap.objs.size] z.cps.size (SignAt z) (λi h=>h.IsStrIter f.heap.objs.size n z t i)) ->
    (∀(A:NU) (i:Nat) (s:NC) (Q:Nz->NC->Prop) (E:Nz->NC->Prop),s.heap.IsStrIter f.heap.objs.size n z t i->Q (.ref f.heap.objs.size) s->NF (NK X.prog X.w) A (SD (.ref f.heap.objs.size)) Q E s) ->
    PIE X OK Z tg R (.ref f.heap.objs.size) {f with heap:=f.heap.push o}:=by
   intro n o hn ho W G;subst ho;show{f.heap.objs.size,[f.heap.objs.size],λi h=>h.IsStrIter f.heap.objs.size n z t i/\i<=z.cps.size,_,H1,Xr,C.kept (t':=f.toks) λb o e=>NB _ e,?_,{{_,NI _ rfl,Xr,Xr},Kn _},fp,q};show{by simp,λi h st b j=>?_,λi h h' st k=>{?_,st.2},?_,?_,λA i s Q E st h=>?_}
   .have e:b=f.heap.objs.size:=by exists j
    subst e;have(o,e,c,d):=st.1;show{o,e,λv z=>by rw[d]at z;cases z}
   .have(o,ho,r):=st.1;show{o,k _ ∅ o ho,r}
   .intro Y hP hw hK hc i g P Z' H' E L U st hg;have(f0,f1,f2,f3,f4,f5):=U f.heap.objs.size ∅;show(W Y.A (L.ok.hd hc)).item i P _ _ hg st.1 λv h' tk hv J kk=>?_;have(c,u,hc',rfl):=hv;have I1':Inv Y g Z' H' {P with heap:=h',toks:=tk}:=L.turned (λb o j e=>kk b o (by exists j) e) f0 f1 f3 f4 f5;have(o,e,cl,d):=id J;show{_,Xr,ol (s:={P with heap:=h',toks:=tk}) e cl d hn {.str {#[c]},H',I1',⟨u,Xr⟩,⟨Xr,c,hc',Xr⟩,⟨J,hg⟩,λb j=>(U b j).1}}
   .intro Y hP hw hK hc i g P Z' H' E L U st hg;have(f0,f1,f2,f3,f4,f5):=U f.heap.objs.size ∅;have hi:i=z.cps.size:=L8 st.2 hg;show(W Y.A (L.ok.hd hc)).done P _ _ (hi▸st.1) λh' tk kk=>{Xr,?_};show L.turned (λb o j e=>kk b o (by exists j) e) f0 f1 f3 f4 f5
   .show G A i s Q E st.1 h
  cases ha:z.cps.all (· < 128);show wpAny_pyIter_wide ha (l "str_iterator" _ (by decide) rfl (λS hA=>Tq.strWide hA _ z t) λA i s Q E st h=>wpAny_pyIter_striter_wide st h);show wpAny_pyIter_ascii ha (l "str_ascii_iterator" _ (by decide) rfl (λS hA=>Tq.strAscii hA _ z t) λA i s Q E st h=>wpAny_pyIter_striter_ascii st h)
section
variable {Γ:Gm}{H H':Hp}{O:Rho}{Z:St}{A A':Fam}{b n m k L:Nat}{M N ks:!Nat}{r:R}{v:V}{vs:!V}{rs:!R}{K:yF}
abbrev Ci(J:Rho->Prop)(Q:Fl->Rho->Prop):Fl->Rho->Prop
 | .nx,O=>J O
 | .ct,O=>J O
 | .bk,O=>Q .nx O
 | .rt t,O=>Q (.rt t) O
private def jF(c:MT)(s:MS):MS:={λO Q=>∃(Inv:Nat->Rho->Prop) (n:Nat),Inv n O/\∀n O,Inv n O->WT c O λa O1=>(a=TZ->Q .nx O1)/\(a=T1->WS s O1 (Ci (λd=>∃m,m<n/\Inv m d) Q)),c.mu++s.mu}
def vx.rm1(d:vx L M n A0 m A)(c:∀i,n<=i->A0 i=TU)(a:n<=k):vx L M n A0 m (L2.rm A [k]):=d.rm c (by exists a)
def ur{tc:TT}{U:TS}{c:MT}{s:MS}(hc:M5 K tc c)(hb:MX K U s):MX K (yo tc U) (jF c s):=by unhygienic
 intro Γ H O Z A b n D P X w S q;obtain⟨Inv,n0,h0,hs⟩:∃(Inv:Nat->Rho->Prop) (n:Nat),Inv n O/\∀n O,Inv n O->WT c O _:=w;have ss:∀j∈(c.mu++s.mu)++(c.mu++s.mu),j∈c.mu++s.mu:=λj h=>(yaM h).elim id id;show{λm a H=>∃O' A' l,Inv m O'/\a.length=Z.length/\Sim Γ H O' a A' b l/\vx Z.length (c.mu++s.mu) n A l A',{n0,O,A,n,h0,Xr,S,S.kept.sub ∅},?_};rintro i E H1 ⟨O1,A1,m1,hI,u,S1,g⟩;show hc.w X (hs i O1 hI) S1 λbb O2 H2 C G w J d=>?_;rw[u]at d;cases bb with
 | false=>show pU (q .nx O2 (w.1 rfl) E H2 C G u J ((g.tr (d.sub inl)).sub ss))
 | true=>
  show pV {λa H'=>∃m,m<i/\∃O' A' l,Inv m O'/\a.length=Z.length/\Sim Γ H' O' a A' b l/\vx Z.length (c.mu++s.mu) n A l A',λa H' h=>h,hb.w X (w.2 rfl) J λf o p=>?_};have Y:∀{A' l},vx E.length s.mu G C l A'->vx Z.length (c.mu++s.mu) n A l A':=λk=>(g.tr (d.tr (u▸k))).sub ss;have nx:(∃m,m<i/\Inv m o)->Af Γ o C b G E.length s.mu λa H'=>∃m,m<i/\∃O' A' l,Inv m O'/\a.length=Z.length/\Sim Γ H' O' a A' b l/\vx Z.length (c.mu++s.mu) n A l A':=fun⟨m,h1,h2⟩ a H' A' l e z B=>{m,h1,o,A',l,h2,e.trans u,z,Y B};cases f with
  | nx=>show nx p
  | ct=>show nx p
  | bk=>show λa H' A' l e z B=>q .nx o p a H' A' l (e.trans u) z (Y B)
  | rt t=>show q (.rt t) o p
structure MI where
 run:Rho->(!R->!R->Rho->Prop)->Prop
 mu:!Nat
abbrev WI(m:MI)(O:Rho)(Q:!R->!R->Rho->Prop):Prop:=∃P,m.run O P/\∀a b c,P a b c->Q a b c
def WI.of{m:MI}{Q:!R->!R->Rho->Prop}(h:m.run O Q):WI m O Q:={Q,h,λ_ _ _=>id}
abbrev gy(Γ:Gm)(b:Nat)(J:It)(ks:!Nat)(vs:!V)(a items:!R):Prop:=∀{H:Hp} {O:Rho} {Z:St} {A:Fam} {n:Nat},Sim Γ H O Z A b n->At A ks vs a->(∀i,items.length<=i->J.stop i H)/\∀i r,items[i]?*>r->J.go i H/\∀x H',J.yld i H x H'->Got Γ H' O Z A b n [] x r
abbrev Nk(K:yF)(g:TI)(m:MI):Prop:=∀{Γ:Gm} {H:Hp} {O:Rho} {Z:St} {A:Fam} {b n:Nat} {e:It->Hp->Prop} {P:!R->!R->Rho->Prop},Γ.K=K->m.run O P->Sim Γ H O Z A b n->(∀c a O' d J ks vs H' A' f,P c a O'->d.K=Γ.K->(∀{H O Z A n},Sim d H O Z A b n->Sim Γ H O Z A b n)->Sim d H' O' Z A' b f->At A' ks vs c->(∀k∈ks,n<=k)->vx Z.length m.mu n A f A'->gy d b J ks vs c a->e J H')->g Z H e
def Nk.w{g:TI}{it:MI}{i:It->Hp->Prop}{P:!R->!R->Rho->Prop}(h:Nk K g it)(j : Γ.K=K)(w:WI it O P)(S:Sim Γ H O Z A b n)(q:∀e items O' d J ks vs H' A' f,P e items O'->d.K=Γ.K->(∀{H O Z A n},Sim d H O Z A b n->Sim Γ H O Z A b n)->Sim d H' O' Z A' b f->At A' ks vs e->(∀k∈ks,n<=k)->vx Z.length it.mu n A f A'->gy d b J ks vs e items->i J H'):g Z H i:=let ⟨_,w,k⟩:=w;h j w S λa b c d J ks vs H' A' f p=>q a b c d J ks vs H' A' f (k _ _ _ p)
abbrev ll(n:Int):R:={.ow,.im (.int n)}
abbrev Ah:R:={.ow,.im .non}
abbrev kg(lo:Int) (n:Nat):!R:=(Ip n).map λi:Nat=>ll (lo+(i:Int))
def ar{c d:Type}{f : c->d}{l:!c}{i:Nat}{b : d}(h:(l.map f)[i]?*>b):∃a,l[i]?*>a/\f a=b:=by
 rw[Io]at h;cases e:l[i]? with
 | none=>rw[e]at h;cases h
 | some a=>rw[e]at h;show{a,Xr,IC.inj h}
def pv{lo:Int}{N:Nat}{a:!R}:gy Γ b (Itr lo N) ks vs a (kg lo N):=λS f=>by
 show{λi h=>(show N<=i by simpa[kg]using h),λi r g=>?_};have(m,e,rfl):=ar g;have(d,c):=Ib.mp e;simp at d c;subst c;show{d,λx H' y=>?_};have(rfl,rfl):=y;show S.imm S.kept (ju rfl)
private def aS(a:MA):MI:={λO Q=>WA a O λrs O1=>∃n:Int,rs.map (·.t)=[.im (.int n)]/\(-(2^62)<=n/\n<2^62)/\Q [Ah] (kg 0 n.toNat) O1,a.mu}
private def jg(a:MA):MI:={λO Q=>WA a O λrs O1=>∃m n:Int,rs.map (·.t)=[.im (.int m),.im (.int n)]/\(-(2^62)<=m/\m<2^62/\-(2^62)<=n/\n<2^62)/\Q [Ah] (kg m (n-m).toNat) O1,a.mu}
def xN{f:TA}{a:MA}(o:M2 K f a):Nk K (Bl f) (aS a):=by unhygienic
 intro Γ H O Z A b n Y P B w S q;show o.w B w S λrs O1 vs C ⟨j,e,h,p⟩ ⟨U,ks,m1,g,at1,nd,X,d⟩=>?_;have i:=g.rds at1;rw[e]at i;have(w,rfl,z):=lS i;have(E,l,G,s,J,u,c):=g.imm d cw;show{j,by rw[aH z],h.1,h.2,q _ _ O1 Γ _ [l] [.non] C E G p rfl id s ⟨u,trivial⟩ (by exists J) c pv}
def xO{f:TA}{a:MA}(o:M2 K f a):Nk K (Bm f) (jg a):=by unhygienic
 intro Γ H O Z A b n Rr P C w S q;show o.w C w S λrs O1 vs E ⟨i,j,e,X,p⟩ ⟨A1,ks,m1,g,at1,nd,hk,d⟩=>?_;have h:=g.rds at1;rw[e]at h;have(w,Y,rfl,B,s):=Ep h;have(G,l,J,u,U,z,c):=g.imm d cw;show{i,j,by rw[aH B,aH s],X,q _ _ O1 Γ _ [l] [.non] E G J p rfl id u ⟨z,trivial⟩ (by exists U) c pv}
def Rd.det(h:Rd H a (.lst xs))(g:Rd H a (.lst ys)):xs=ys:=by
 rcases h with h|⟨o,h⟩<;>rcases g with g|⟨c,g⟩<;>rw[h]at g<;>cases g<;>rfl
abbrev fN:R->Option !R
 | ⟨_,.li a⟩=>TV (a.map λi=>{.ow,.im i})
 | ⟨.vw d _,.lst e⟩=>TV (e.map (wj d))
 | ⟨_,.im (.tup a)⟩=>TV (a.map λi=>{.ow,.im i})
 | ⟨_,.im (.str z)⟩=>TV ((sL z).map λc=>{.ow,.im (.str {#[c]})})
 | ⟨_,.im (.ls a)⟩=>TV (a.map λi=>{.ow,.im i})
 | _=>TU
def kH{J:It}{is:!I}{r:R}{k:Nat}(h:∀{H:Hp},Rpx Γ.K H r.t v->∃xs,ek Γ.K H is xs/\(∀i,xs.length<=i->J.stop i H)/\∀(i:Nat) x,xs[i]?*>x->J.go i H/\∀y H',J.yld i H y H'->H'=H/\y=x):gy Γ b J [k] [v] [r] (is.map λi=>{.ow,.im i}):=λS c=>by
 have(xs,d,p,l):=h (S.rd c.1);show{λi f=>p i (by rw[d.length];exists f),λi r q=>?_};have(j,o,rfl):=ar q;have(w,s,a):=d.get o;have(g,e):=l i w s;show{g,λy H' z=>?_};have(rfl,rfl):=e y H' z;show S.imm S.kept a
def pW{a:Addr}{xs:!V}(h:SqL K H a xs):(∀i,xs.length<=i->(Itl K a).stop i H)/\∀(i:Nat) x,xs[i]?*>x->(Itl K a).go i H/\∀y H',(Itl K a).yld i H y H'->H'=H/\y=x:=
 {λi d=>⟨xs,h,d⟩,λi x c=>{⟨xs,x,h,c⟩,λy H' ⟨e,z⟩=>{e,by have:=z xs h;rw[c]at this;cases this;rfl}}}
private def mIt(a:ME):MI:={λO Q=>WE a O λr O1=>W1 (fN r) λrs=>Q [r] rs O1,a.mu}
def Ef{ta:TE}{a:ME}(ha:MN K ta a):Nk K (Fk K ta) (mIt a):=by unhygienic
 intro Γ H O Z A b n Rr P hK w S q;show ha.w hK w S λr O1 x H1 ⟨rs,e,p⟩ ⟨A1,k,m1,S1,Y,x1,kp1⟩=>?_;have U:=S1.rd x1;subst hK;have f:∀{J},gy Γ b J [k] [x] [r] rs->Rr J H1:=λwk=>q _ _ O1 Γ _ [k] [x] H1 A1 m1 p rfl id S1 ⟨x1,trivial⟩ (by exists Y) kp1 wk;unfold fN at e;split at e
 .cases e;have(a,s,rfl,u,g2):=bE U;show .inl {a,s,Xr,aK u,f (kH λr=>let ⟨a',g,e,d,l⟩:=bE r;by cases e;show{g,l,pW (aK d)})}
 .rename_i ro p0 ts _ _;cases e;have(a,s,F,rfl,u,g2):=iW U;show .inl {a,s,Xr,aK u,f λ{H2 O2 Z2 A2 n2} h o=>?_};have(a',g,F',e,d,l):=iW (h.rd o.1);cases e;have(q1,q2):=pW (K:=Γ.K) (aK d);show{λi C=>q1 i (by rw[l.length];exists C),λi r hr=>?_};have(j,hj,rfl):=ar hr;have(w,A,G,B,hw,rw0,_):=l.at hj;have(q3,q4):=q2 i w hw;show{q3,λy H' z=>?_};have(rfl,rfl):=q4 y H' z;have pp:Got Γ H' O2 Z2 A2 b n2 [] y {.vw ro TU,j}:=h.part h.kept (MY.refl _) o.1 rfl λF rp=>by
   rw[Rp]at rp;have(a'',xs',F',ea,Y,k2,rfl):=rp;cases ea;have:=Y.det d;subst this;have(w',A',G',B',E,rw',e',_):=k2.at hj;rw[hw]at E;cases E;show{G',rw',λb hb=>.inl (by rw[e'];show ymC _ (yaL _ (yaR _ hb)))}
  cases j with
  | im i=>show h.imm h.kept (bq rw0).1
  | _=>show pp
 .cases e;have(a,s,rfl,u,g2):=bG U;show .inr (.inl {a,s,Xr,u,f (kH λr=>let ⟨a',g,e,d,l⟩:=bG r;by cases e;show{g,l,λi C=>⟨g,d,C⟩,λi x hx=>{⟨g,x,d,hx⟩,λy H' ⟨e,z⟩=>{e,by have:=z g d;rw[hx]at this;cases this;rfl}}})})
 .rename_i z _ _;cases e;show .inr (.inr {z,dA U,f λ{H2 O2 Z2 A2 n2} h o=>{λi C=>(show z.cps.size<=i by simpa[sL]using C),λi r hr=>?_}});have(c,hc,rfl):=ar hr;have X:z.cps[i]?*>c:=by simpa[sL]using hc
  show{(Jj.mp X).1,λx H' y=>?_};have(rfl,c',d,rfl):=y;rw[X]at d;cases d;show h.imm h.kept (ju rfl)
 .cases e;have(a,s,rfl,u,g2):=ka U;show .inl {a,s,Xr,aK u,f (kH λr=>let ⟨a',g,e,d,l⟩:=ka r;by cases e;show{g,l,pW (aK d)})}
 .cases e
private def vN(a:MA):MI:={λO Q=>WA a O λrs O1=>∃k c,rs=[{k,.li c}]/\Q [{k,.li c}] (c.reverse.map λi=>{.ow,.im i}) O1,a.mu}
def Nw.one(g:Nw Γ H O Z A b n M vs [r]):∃v,vs=[v]/\Got Γ H O Z A b n M v r:=by
 have(d,ks,c,f,at1,h,e,a):=g;cases ks with
 | nil=>cases vs<;>cases at1
 | cons k ks=>
  cases vs with
  | nil=>cases at1
  | cons v vs=>
   have(x,y):=at1;cases ks<;>cases vs<;>first|show⟨v,rfl,d,k,c,f,e k ymS,x,a⟩|cases y
def Ap{J:TA}{a:MA}(U:M2 K J a):Nk K (Cr K J) (vN a):=by unhygienic
 intro Γ H O Z A b n Rr P C w S q;show U.w C w S λrs O1 vs H1 ⟨k,is,e,p⟩ g=>?_;subst e C;have(w,rfl,Y,l,m1,s,X,E,j):=g.one;have(o,f,rfl,g1,g2):=bE (s.rd E);show{o,f,Xr,aK g1,q _ _ O1 Γ _ [l] [.ref o] H1 Y m1 p rfl id s ⟨E,trivial⟩ (by exists X) j (kH λr=>?_)};have(a',c,e,u,G):=bE r;cases e;have d:c.length=f.length:=by rw[g2.length,G.length]
 show{_,G.reverse,λi hi=>(show f.length<=i by simpa[d]using hi),λi x B=>?_};have h:i<c.length:=by
  have:=(Ib.mp B).1;exists this
 show{{by omega,c,aK u,d},λy H' ⟨e,z⟩=>{e,?_}};have:=z c (aK u) d;rw[<-d,<-Lm h,B]at this;cases this;rfl
abbrev tq(Inv:Nat->Rho->Prop)(i:Nat)(Q:Fl->Rho->Prop):Fl->Rho->Prop:=Ci (Inv (i+1)) Q
private def cQ(it:MI)(g:MG)(s:MS):MS:={λO Q=>WI it O λc a O1=>Gu (c.all (ay (g.mu++s.mu))&&a.all (ay (g.mu++s.mu))) (∃Inv:Nat->Rho->Prop,Inv 0 O1/\(∀i r O,a[i]?*>r->Inv i O->WG g r O λO1=>WS s O1 (tq Inv i Q))/\∀O,Inv a.length O->Q .nx O),it.mu++(g.mu++s.mu)}
def An{wi:TI}{it:MI}{g:TG}{d:MG}{tb:TS}{s:MS}(hi:Nk K wi it)(hg:Nc K g d)(hb:MX K tb s):MX K (GK wi g tb) (cQ it d s):=by unhygienic
 intro Γ0 H O Z A b n D P E w S q;show hi.w E w S λsrcs a O1 Γ J ks vs H1 A1 G ⟨al,Inv,h0,hs,he⟩ hK2 bk S1 at1 hk kp1 wk=>?_;rw[Ie]at al;have le:=Ik S.le S.bn;replace E:=hK2.trans E;have ss:∀j∈(it.mu++(d.mu++s.mu))++(d.mu++s.mu),j∈it.mu++(d.mu++s.mu):=λj h=>(yaM h).elim id (inr j);show{λi m c H=>m=a.length-i/\i<=a.length/\∃O' A' l,Inv i O'/\c.length=Z.length/\Sim Γ H O' c A' b l/\vx Z.length (d.mu++s.mu) G A1 l A',{a.length,by simp,Kn _,O1,A1,G,h0,Xr,S1,S1.kept.sub ∅},?_};rintro i m Z1 H2 ⟨rfl,hil,O2,A2,m2,hI,hl,S2,u⟩;have at2:=at1.kept u (λk h=>Ik le (hk k h)) al.1;have(w1,w2):=wk S2 at2;by_cases Y:i<a.length
 .have hx:a[i]?=TV a[i]:=by simp[Y]
  have(w3,w4):=w2 i _ hx;show .inr {w3,λc H'=>∃O' A' l,Inv (i+1) O'/\c.length=Z.length/\Sim Γ H' O' c A' b l/\vx Z.length (d.mu++s.mu) G A1 l A',λc H' h=>{a.length-(i+1),by omega,Xr,Y,h},λx H3 y=>?_};have(A3,k3,m3,S3,U,x3,B):=w4 x H3 y;show hg.w E (hs i _ O2 hx hI) S3 (Ik S2.bn U) x3 λO3 w Z2 H4 A4 m4 o S4 C=>?_;rw[hl]at B C o;have kpA:=u.tr (vx.tr (B.rm1 S2.ub U) C);show hb.w E w S4 λf O4 p=>?_;have kk:∀{A' l},vx Z2.length s.mu m4 A4 l A'->vx Z.length (d.mu++s.mu) G A1 l A':=λk=>(kpA.tr (o▸k)).sub (by grind);have nx:Inv (i+1) O4->Af Γ O4 A4 b m4 Z2.length s.mu λc H'=>∃O' A' l,Inv (i+1) O'/\c.length=Z.length/\Sim Γ H' O' c A' b l/\vx Z.length (d.mu++s.mu) G A1 l A':=λp c H' A' l z X k'=>{O4,A',l,p,z.trans o,X,kk k'};cases f with
  | nx=>show nx p
  | ct=>show nx p
  | bk=>show λc H' A' l z X k'=>q .nx O4 p c H' A' l (z.trans o) (bk X) (kp1.tr (kk k'))
  | rt t=>show λv c H' A' l k X y=>q (.rt t) O4 p v c H' A' l k (bk X) y
 .have e:i=a.length:=by omega
  subst e;show .inl {w1 _ (Ig _),q .nx O2 (he O2 hI) Z1 H2 A2 m2 hl (bk S2) (kp1.tr u)}
end
abbrev xR(a:Nat->Nat):Kd->Kd
 | .vw (TV j) p=>.vw (TV (a j)) p
 | k=>k
abbrev dz(a:Nat->Nat) (r:R):R:={xR a r.k,r.t}
section
variable {Γ:Gm}{H H':Hp}{O:Rho}{Z:St}{A Ai:Fam}{F:Nat->!Addr}{v:V}{r:R}{π:Nat->Nat}{b n m:Nat}{M:!Nat}
def iC(k:Kd):(xR π k).root=k.root.map π:=by
 cases k with
 | vw a b=>cases a<;>rfl
 | _=>rfl
abbrev bR(fr:! ↑Nat) (j:Nat):Bool:=match fr[j]? with
 | some (TV i)=>i==j
 | _=>TZ
abbrev piF(fr:! ↑Nat) (j:Nat):Nat:=if bR fr j=T1 then j else fr.length+j
abbrev psF(fr:! ↑Nat) (k:Nat):Nat:=if k<fr.length then k else k-fr.length
abbrev kf(π:Nat->Nat):Nat->! ↑Nat->Rho->Rho
 | _,[],_=>[]
 | k,o::a,r::O=>(if o*>k then r.map (dz π)else TU)::kf π (k+1) a O
 | k,o::a,[]=>TU::kf π (k+1) a []
abbrev inR(fr:! ↑Nat) (O:Rho):Rho:=kf (piF fr) 0 fr O
abbrev iN(d : Nat->Nat) (c a:!Nat):Nat->! ↑Nat->Rho->Rho->Rho
 | k,o::g,f::e,r::O=>(if o*>k then(gq c f).map (dz d)else gq a r)::iN d c a (k+1) g e O
 | _,[],_,O=>O.map (gq a)
 | _,_::_,[],O=>O.map (gq a)
 | _,_::_,_::_,[]=>[]
abbrev tgF(fr:! ↑Nat):!Nat:=(Ip fr.length).filter λi=> ~~~bR fr i
abbrev muF(fr:! ↑Nat) (a:!Nat):!Nat:=a.filter (bR fr)
abbrev fe(fr:! ↑Nat) (a:!Nat) (c O:Rho):Rho:=iN (psF fr) (tgF fr) (muF fr a) 0 fr c O
def capB_iff:bR fr j=T1↔fr[j]?*>(TV j):=by
 unfold bR;split;delta i h;rw[h];simp
 .delta h;constructor;intro z;cases z;intro z;show absurd z (h j)
def kP:∀{k:Nat} {fr:! ↑Nat} {O:Rho} {i:Nat} {a:R},(kf π k fr O)[i]?*>(TV a)↔fr[i]?*>(TV (k+i))/\∃r,O[i]?*>(TV r)/\a=dz π r
 | k,[],O,i,a=>by simp[kf]
 | k,o::fr,[],0,a=>by simp[kf]
 | k,o::fr,[],i+1,a=>by
  rw[kf,IY,kP (k:=k+1) (fr:=fr) (O:=[]) (i:=i)];simp
 | k,o::fr,r::O,0,a=>by
  rw[kf,Jw,Jw,Jw];by_cases h:o*>k
  .subst h;rw[if_pos rfl];cases r with
   | none=>simp
   | some r=>simp[eq_comm]
  .rw[if_neg h];constructor;intro z;cases z;rintro⟨c,_⟩;show absurd (by exists c) h
 | k,o::fr,r::O,i+1,a=>by
  rw[kf,IY,IY,IY,kP (k:=k+1) (fr:=fr) (O:=O) (i:=i),show k+1+i=k+(i+1) by lia]
def kR:∀{k:Nat} {fr:! ↑Nat} {O:Rho},(kf π k fr O).length=fr.length
 | k,[],O=>rfl
 | k,o::fr,[]=>by rw[kf,Im,kR,Im]
 | k,o::fr,r::O=>by rw[kf,Im,kR,Im]
def inR_get:(inR fr O)[i]?*>(TV r')↔bR fr i=T1/\∃r,O[i]?*>(TV r)/\r'=dz (piF fr) r:=by
 unfold inR;rw[kP,JS,capB_iff]
def i9(h:bR fr i=T1):(cb fr Z)[i]?*>(Z.getD i TU):=by
 unfold cb;rw[Io,capB_iff.mp h];rfl
def getD_some:Z.getD i TU*>v↔Z[i]?*>(TV v):=by
 rw[IE];cases h:Z[i]? with
 | none=>simp
 | some o=>simp
def bX(h:bR fr j=T1):piF fr j=j:=by unfold piF;rw[if_pos h]
def bz(h:bR fr j=TZ):piF fr j=fr.length+j:=by unfold piF;rw[if_neg (by rw[h];simp)]
def cZ(h:bR fr j=T1):j<fr.length:=(Ib.mp (capB_iff.mp h)).1
def zL(h:piF fr a=piF fr b):a=b:=by
 cases ha:bR fr a<;>cases hb:bR fr b;rw[bz ha,bz hb]at h;lia;rw[bz ha,bX hb]at h;have:=cZ hb;lia;rw[bX ha,bz hb]at h;have:=cZ ha;lia;rw[bX ha,bX hb]at h;show h
def jJ(a:Nat):psF fr (piF fr a)=a:=by
 cases ha:bR fr a;rw[bz ha];unfold psF;rw[if_neg (by lia)];lia;rw[bX ha];unfold psF;rw[if_pos (cZ ha)]
def sf(r:R):dz (psF fr) (dz (piF fr) r)=r:=by
 have(k,t):=r;cases k with
 | vw a p=>cases a<;>simp[dz,xR,jJ]
 | _=>rfl
abbrev eV(fr:! ↑Nat) (n:Nat):Bool:=decide (n<=fr.length)&&(Ip fr.length).all λi=> ~~~bR fr i||decide (i<n)
def i7(h:eV fr n=T1)(a:bR fr j=T1):j<n:=by
 unfold eV at h;rw[Ie]at h;have:=IQ.mp h.2 j (JM.mpr (cZ a));rw[a]at this;exists this
def mG:∀{k:Nat} {fr:! ↑Nat} {a O:Rho} {i:Nat},i < O.length->O.length<=fr.length->fr.length=a.length->(iN ψ tg mu k fr a O)[i]?*>(if fr[i]?*>(TV (k+i))then(gq tg (a.getD i TU)).map (dz ψ)else gq mu (O.getD i TU))
 | k,fr,a,[],i,h,_,_=>by cases h
 | k,[],a,r::O,i,_,h,_=>by simp at h
 | k,o::fr,[],r::O,i,_,_,h=>by cases h
 | k,o::fr,e::a,r::O,0,h,d,c=>by
  rw[iN,Jw,Jw];simp
 | k,o::fr,e::a,r::O,i+1,h,d,c=>by
  rw[iN,IY,mG (k:=k+1) (by exists h) (by exists d) (by exists c),IY,show k+1+i=k+(i+1) by lia];simp
def mH:∀{k:Nat} {fr:! ↑Nat} {a O:Rho},(iN ψ tg mu k fr a O).length=O.length
 | k,[],a,O=>by cases a<;>simp[iN]
 | k,o::fr,[],O=>by simp[iN]
 | k,o::fr,c::a,[]=>by simp[iN]
 | k,o::fr,c::a,r::O=>by rw[iN,Im,mH,Im]
def sC:i∈tgF fr↔i<fr.length/\bR fr i=TZ:=by
 unfold tgF;rw[Kg,JM];simp
def jn:(fe fr M Oi O).length=O.length:=mH
def vE{fr:! ↑Nat}(a:∀j∈M,j<fr.length):aL M (dz (piF fr) r)=aL (muF fr M) r:=by
 unfold aL dz;rw[iC];cases r.k.root with
 | none=>rfl
 | some j=>
  change(~~~M.contains (piF fr j)) =  ~~~(muF fr M).contains j;congr 1;rw[Jl];dsimp[KC,decide_eq_true_eq,muF,Kg];cases hc:bR fr j
  .rw[bz hc];show{λz=>by have:=a _ z;lia,λz=>nomatch z.2}
  .rw[bX hc];simp
def rC:aL (tgF fr) (dz (piF fr) r)=T1:=by
 unfold aL dz;rw[iC];cases r.k.root with
 | none=>rfl
 | some j=>
  change(~~~(tgF fr).contains (piF fr j))=T1;dsimp[KC,Ji,decide_eq_false_iff_not,sC];rintro⟨c,a⟩;cases hc:bR fr j;rw[bz hc]at c;lia;rw[bX hc,hc]at a;cases a
abbrev inA(fr:! ↑Nat) (A:Fam):Fam:=λk=>if piF fr (psF fr k)=k then(A (psF fr k)).map λx=>(x.1,dz (piF fr) x.2)else TU
def M0{k:Nat}:inA fr A k*>(v,r) ↔ ∃j,k=piF fr j/\∃r0,A j*>(v,r0)/\r=dz (piF fr) r0:=by
 unfold inA;constructor
 .intro h;ext h e;obtain⟨⟨w,s⟩,a,c⟩:=IB.mp h;cases c;show{_,e.symm,s,a,Xr}
 .rintro⟨j,rfl,r0,a,rfl⟩;rw[jJ,if_pos rfl,a];rfl
abbrev Gm.inn(Γ:Gm) (fr:! ↑Nat) (O:Rho):Gm:={Γ with ok:=λk=>∃j,k=fr.length+j/\bR fr j=TZ/\(O.length<=j->Γ.ok j)/\(j < O.length->∃r,O[j]?*>(TV r)/\r.k.isOw=T1)}
def SM.to{f:Nat->Prop}(g:SM Γ H A F):SM {Γ with ok:=f} H A F:=⟨g.rp,g.nd,g.ad,g.dj,g.kd,g.fr,g.iol⟩
def SM.root(g:SM Γ H A F)(h:A i*>(v,r)){j:Nat}(e:r.k.root*>j):∃w s,A j*>(w,s)/\s.k.isOw=T1:=by
 have c:=g.kd h;unfold fH at c;cases er:r.k with
 | vw a p=>
  rw[er]at c e;cases e;have(w,s,f,d,_):=c;show⟨w,s,f,d⟩
 | ow=>rw[er]at e;cases e
 | io _=>rw[er]at e;cases e
def BN{A':Fam}{c π:Nat->Nat}{r0:R}(h:∀j,r0.k.root*>j->c (π j)=j/\∃x,A' (π j)*>x):Mv A' c r0 (dz π r0):=by
 have(k,t):=r0;show{Xr,?_};cases k with
 | vw a p=>
  cases a with
  | none=>rfl
  | some j=>
   have(e,x,d):=h j rfl;show{π j,x,Xr,e,d}
 | _=>rfl
def Sim.inn{fr:! ↑Nat}(S:Sim Γ H O Z A b n)(J:eV fr O.length=T1):Sim (Γ.inn fr O) H (inR fr O) (cb fr Z) (inA fr A) (fr.length+b) (fr.length+n):=by
 have(F,g):=S.sm;have le:=S.le;have bn:=S.bn;have p:=S.len;show{{_,(g.mv (psF fr) (A':=inA fr A) (λi v r h=>?_) λi j v r y f C _ e=>?_).to},λi u=>?_,λi r h=>?_,by rw[dS];unfold inR;rw[kR],by rw[dS];omega,by omega,λi x j h G=>?_,λi u=>?_}
 .have(j,rfl,o,f,rfl):=M0.mp h;show{o,by rw[jJ];show f,BN λl B=>{jJ _,?_}};have(w,s,E,_):=g.root f B;show{_,M0.mpr {l,Xr,_,E,Xr}}
 .have(a,rfl,_):=M0.mp f;have(c,rfl,_):=M0.mp (show inA fr A j*>(y.1,y.2)from C);rw[jJ,jJ]at e;rw[e]
 .rw[dS]at u;show Mh fun⟨v,r⟩=>?_;rw[M0,MP,inR_get];constructor
  .rintro⟨j,rfl,o,f,rfl⟩;cases d:bR fr j;rw[bz d]at u;omega
   .rw[bX d];have(L,N):=S.nm (by rw[p];show i7 J d) f;show{⟨d,o,L,Xr⟩,by rw[i9 d,getD_some.mpr N]}
  .rintro⟨⟨d,o,f,rfl⟩,C⟩;rw[i9 d]at C;show{i,(bX d).symm,o,by rw[S.lo i (by rw[p];show i7 J d)];show MP.mpr {f,getD_some.mp (IC.inj C)},Xr}
 .have(d,o,f,_):=inR_get.mp h;have(v,U):=S.al i o f;show{v,by rw[i9 d,getD_some.mpr U]}
 .have(a,rfl,o,f,e):=M0.mp (show inA fr A i*>(x.1,x.2)from h);rw[e]at G;have q:(xR (piF fr) o.k).root*>j:=G;rw[iC]at q;have(l,B,rfl):=IB.mp q;have(Y,X):=S.rt _ _ l f B;rw[dS];cases d:bR fr l
  .rw[bz d];show{by omega,λ_=>{l,Xr,d,λz=>X ⋯,λz=>?_}};have(w,s,E,P):=g.root f B;show{s,(S.nm ⋯ E).1,P}
  .have:=cZ d;rw[bX d];show{by omega,λz=>by omega}
 .cases e:inA fr A i with
  | none=>rfl
  | some x=>
   have(j,rfl,o,f,_):=M0.mp (show inA fr A i*>(x.1,x.2)from e);have:=S.lt f;cases d:bR fr j;rw[bz d]at u;omega;rw[bX d]at u;have:=cZ d;omega
def jm{fr:! ↑Nat}{f:Rho}{i:Nat}(d:eV fr O.length=T1)(l : f.length=fr.length):(fe fr M f O)[i]?*>(TV r)↔i < O.length/\((bR fr i=T1/\∃r0,f[i]?*>(TV r0)/\aL (tgF fr) r0=T1/\r=dz (psF fr) r0)\/(bR fr i=TZ/\O[i]?*>(TV r)/\aL (muF fr M) r=T1)):=by
 have o : O.length<=fr.length:=by unfold eV at d;rw[Ie,decide_eq_true_eq]at d;show d.1
 have g:∀{O:Rho} {r},O.getD i TU*>r↔O[i]?*>(TV r):=λ{O r}=>by
  rw[IE];cases O[i]?<;>simp
 by_cases a:i < O.length
 .unfold fe;rw[mG a o l.symm,JS];cases hc:bR fr i
  .rw[if_neg (λz=>by rw[capB_iff.mpr z]at hc;cases hc),IC.injEq,killO_iff,g];simp[a]
  .rw[if_pos (capB_iff.mp hc),IC.injEq,IB];constructor
   .rintro⟨r0,h,e⟩;have(c,j):=killO_iff.mp h;show{a,.inl {Xr,r0,g.mp c,j,e.symm}}
   .rintro⟨_,⟨_,r0,h,e,c⟩|⟨z,_⟩⟩;show{r0,killO_iff.mpr {g.mpr h,e},c.symm};cases z
 .show{λz=>absurd (by have:=(Ib.mp z).1;rwa [jn]at this) a,λz=>absurd z.1 a}
def Sim.outt{fr:! ↑Nat}{Y:Rho}{Z2:St}(S:Sim Γ H O Z A b n)(u:Sim (Γ.inn fr O) H' Y Z2 Ai (fr.length+b) m)(P:vx fr.length M (fr.length+n) (inA fr A) m Ai)(kp:Kp fr (cb fr Z) Z2)(L:eV fr O.length=T1)(hmu:∀j∈M,j<fr.length) :
  ∃A',Sim Γ H' (fe fr M Y O) Z A' b (m-fr.length)/\vx Z.length (muF fr M) n A (m-fr.length) A'/\∀k x,Z.length<=k->Ai (fr.length+k)*>x->x.2.k=.ow->A' k*>x:=by
 have(F,g):=u.sm;have le:=S.le;have bn:=S.bn;have bn':=u.bn;have X:=S.len;have l2:Z2.length=fr.length:=by rw[kp.1,dS]
 have hl : Y.length=fr.length:=by rw[<-u.len,l2]
 have G:∀{i:Nat} {w:V},bR fr i=T1->Z2[i]?*>(TV w)->Z[i]?*>(TV w):=λ{i w} a h=>by
  rw[kp.2 i i (capB_iff.mp a),i9 a]at h;show getD_some.mp (IC.inj h)
 let A':Fam:=λj=>if j<Z.length then loc (fe fr M Y O) Z j else((Ai (piF fr j)).filter λx=>aL (tgF fr) x.2).map λx=>(x.1,dz (psF fr) x.2)
 have nc:∀{j},Z.length<=j->bR fr j=TZ:=λ{j} h=>by
  cases a:bR fr j with
  | false=>rfl
  | true=>have:=i7 L a;omega
 have N:∀{j x},A j*>x->aL (muF fr M) x.2=T1->bR fr j=TZ->Ai (fr.length+j)*>(x.1,dz (piF fr) x.2):=λ{j x} h k a=>by
  rw[<-bz a];show P.2 _ _ (by rw[bz a];omega) (M0.mpr ⟨j,Xr,x.2,h,Xr⟩) ?_;rw[vE hmu];show k
 have q:∀{j v r},A' j*>(v,r)->∃p,Ai (piF fr j)*>(v,p)/\aL (tgF fr) p=T1/\r=dz (psF fr) p:=λ{j v r} h=>by
  by_cases E:j<Z.length
  .have h':loc (fe fr M Y O) Z j*>(v,r):=by rw[<-h];show(if_pos E).symm
   have(c,d):=MP.mp h';obtain⟨_,⟨a,p,o,C,q3⟩|⟨a,o,C⟩⟩:=(jm L hl).mp c
   .have(w,hw):=u.al j p o;have:=G a hw;rw[d]at this;cases this;show{p,by rw[bX a,u.lo j (by rw[l2];show cZ a)];show MP.mpr ⟨o,hw⟩,C,q3}
   .show{dz (piF fr) r,?_,rC,(sf r).symm};rw[bz a];show N (x:=(v,r)) (by rw[S.lo j E];show MP.mpr ⟨o,d⟩) C a
  .have h':(((Ai (piF fr j)).filter λx=>aL (tgF fr) x.2).map λx=>(x.1,dz (psF fr) x.2))*>(v,r):=by rw[<-h];show(if_neg E).symm
   obtain⟨⟨w,s⟩,c,d⟩:=IB.mp h';have(B,h4):=K2.mp c;cases d;show⟨s,B,h4,Xr⟩
 have new:∀{k x},Z.length<=k->Ai (fr.length+k)*>x->aL (tgF fr) x.2=T1->A' k*>(x.1,dz (psF fr) x.2):=λ{k x} c d B=>by
  change(if k<Z.length then _ else _)=_;rw[if_neg ⋯,bz (nc c),d,Option.filter_some,if_pos B];rfl
 have rt:∀{i x k},Ai i*>x->aL (tgF fr) x.2=T1->x.2.k.root*>k->(bR fr k=T1/\k<Z.length) \/ ∃j,k=fr.length+j/\bR fr j=TZ/\j<b/\(O.length<=j->Γ.ok j)/\(j < O.length->∃r,O[j]?*>(TV r)/\r.k.isOw=T1):=λ{i x k} c d B=>by
  have(o,C):=u.rt i x k c B;by_cases J:k<fr.length
  .have:=fO d B;rw[sC]at this;have a:bR fr k=T1:=by
    cases a:bR fr k with
    | true=>rfl
    | false=>show absurd ⟨J,a⟩ this
   show .inl {a,by rw[X];show i7 L a}
  .have(j,rfl,h):=C ⋯;show .inr {j,Xr,h.1,by omega,h.2}
 show{A',{{_,(g.mv (piF fr) (A':=A') (λi v r h=>?_) λi j v r y c d _ e=>zL e).to (f:=Γ.ok)},λi hi=>if_pos hi,λi r h=>?_,by rw[jn];show X,le,by omega,λi x j h E=>?_,λi hi=>?_},{by have:=P.1;omega,λi x l e k=>?_},λk x c d B=>?_}
 .have(p,c,d,rfl):=q h;show{p,c,BN λk J=>?_};have(w,s,k1,k2):=g.root c J;rcases rt c d J with⟨a,U⟩|⟨j,rfl,a,hb,o,C⟩
  .rw[show psF fr k=k by unfold psF;rw[if_pos (cZ a)]];have(z1,z2):=u.nm (by rw[l2];show cZ a) k1;show{bX a,_,(if_pos U).trans (MP.mpr {(jm L hl).mpr {by omega,.inl {a,s,z1,bO k2,Xr}},G a z2})}
  .rw[show psF fr (fr.length+j)=j by unfold psF;rw[if_neg ⋯];omega];show{bz a,?_};by_cases E:j<Z.length
   .have(r',z1,z2):=C ⋯;have(w',z3):=S.al j r' z1;show{_,(if_pos E).trans (MP.mpr {(jm L hl).mpr {by omega,.inr {a,z1,bO z2}},z3})}
   .show{_,new ⋯ k1 (bO k2)}
 .obtain⟨_,⟨a,p,o,_⟩|⟨a,o,_⟩⟩:=(jm L hl).mp h
  .have(w,hw):=u.al i p o;show{w,G a hw}
  .show S.al i r o
 .have(p,c,d,e):=q (show A' i*>(x.1,x.2)from h);rw[e]at E;have hj':(xR (psF fr) p.k).root*>j:=E;rw[iC]at hj';have(k,J,rfl):=IB.mp hj';rcases rt c d J with⟨a,U⟩|⟨j,rfl,a,hb,o,C⟩
  .rw[show psF fr k=k by unfold psF;rw[if_pos (cZ a)]];show{by omega,λz=>by omega}
  .rw[show psF fr (fr.length+j)=j by unfold psF;rw[if_neg ⋯];omega];show{hb,λz=>o ⋯}
 .change(if i<Z.length then _ else _)=_;rw[if_neg ⋯,bz (nc ⋯),u.ub _ ⋯];rfl
 .have:=N e k (nc l);have:=new l this rC;rw[sf]at this;show this
 .have:=new c d (bO (by rw[B];rfl));rw[this];obtain⟨w,⟨k,t⟩⟩:=x;cases B;rfl
end
section
variable {Γ:Gm}{H H' H1 H2:Hp}{O O1:Rho}{Z:St}{A A' A1 A2:Fam}{v x:V}{r:R}{t:T}{K:yF}{a b k l l2 n m L:Nat}{M ks:!Nat}{vs acc:!V}{rs:!R}{ts:!T}{fr:! ↑Nat}
abbrev Nb(A:Fam)(a:Nat)(acc:!V)(ts:!T):Prop:=∃ks,At A ks acc (ts.map λt=>{.ow,t})/\ks.Nodup/\∀k∈ks,a<=k
def rN:(ts.map λt=>({.ow,t}:R)).all (ay M)=T1:=IQ.mpr λr c=>by have(t,_,rfl):=ID.mp c;rfl
def At.snoc:∀{ks:!Nat} {vs:!V} {rs:!R},At A ks vs rs->A k*>(v,r)->At A (ks++[k]) (vs++[v]) (rs++[r])
 | [],[],[],_,q=>⟨q,trivial⟩
 | _::_,_::_,_::_,h,q=>{h.1,h.2.snoc q}
 | [],[],_::_,h,_=>h.elim
 | [],_::_,[],h,_=>h.elim
 | [],_::_,_::_,h,_=>h.elim
 | _::_,[],[],h,_=>h.elim
 | _::_,[],_::_,h,_=>h.elim
 | _::_,_::_,[],h,_=>h.elim
def Nb.kept(h:Nb A a acc ts)(d:vx L M n A m A')(e:L<=a):Nb A' a acc ts:=let ⟨ks,g,f,c⟩:=h;{ks,g.kept d (λk h=>Ik e (c k h)) rN,f,c}
def Nb.next(h:Nb A1 a acc ts)(B:Sim Γ H1 O Z A1 b l)(i:vx Z.length M l A1 l2 A')(o:Z.length<=a)(d:a<=l)(w:A' k*>(v,{.ow,t}))(C:l<=k):Nb A' a (acc++[v]) (ts++[t]):=by
 have(ks,g,u,f):=h;show{ks++[k],?_,?_,λj s=>?_}
 .rw[Ii];show(g.kept i (λk h=>Ik o (f k h)) rN).snoc w
 .show Iv.mpr {u,by simp,λa d c p e=>?_};have(x,q):=g.mem d;have:=B.lt q;rw[KT]at p;omega
 .rcases yaM s with z|z;show f j z;rw[ysM z];omega
def Nb.map{f:Nat->Nat}{o:Nat}(h:Nb A a acc ts)(G:∀k x,a<=k->A k*>x->x.2.k=.ow->A' (f k)*>x/\o<=f k)(s:∀i j,a<=i->a<=j->f i=f j->i=j):Nb A' o acc ts:=by
 have(ks,N,E,g):=h;have q:∀{ks:!Nat} {acc:!V} {ts:!T},At A ks acc (ts.map λt=>{.ow,t})->(∀k∈ks,a<=k)->At A' (ks.map f) acc (ts.map λt=>{.ow,t})/\∀k∈ks.map f,o<=k:=λ{ks}=>by
  induction ks with
  | nil=>show λ{acc ts} h _=>by cases acc<;>cases ts<;>first|show⟨trivial,by simp⟩|cases h
  | cons k ks w=>
   intro acc ts h u;cases acc with
   | nil=>cases ts<;>cases h
   | cons v acc=>
    cases ts with
    | nil=>cases h
    | cons t ts=>
     have(c,d):=w h.2 λj p=>u j (ymC _ p);have(C,J):=G k _ (u k ymS) h.1 rfl;show{⟨C,c⟩,λj p=>(ycM p).elim (λe=>e▸J) (d j)}
 have(c,d):=q N g;show{_,c,List.pairwise_map.mpr (E.imp_of_mem λz B n e=>n (s _ _ (g _ z) (g _ B) e)),d}
def vx.inn(c:vx Z.length [] l A1 l2 A2)(p:Sim Γ H1 O Z A1 b l)(o:Sim Γ H2 O Z A2 b l2):vx fr.length [] (fr.length+l) (inA fr A1) (fr.length+l2) (inA fr A2):=⟨by have:=c.1;omega,λi x q e z=>by
 have(j,rfl,g,f,h):=M0.mp (show inA fr A1 i*>(x.1,x.2)from e);show M0.mpr {j,Xr,g,?_,h};by_cases d:j<Z.length;rw[o.lo j d,<-p.lo j d];show f;show c.2 j _ ⋯ f hU⟩
def Sim.nc(S:Sim Γ H O Z A b n)(c:eV fr O.length=T1)(h:Z.length<=k):fr.length+k=piF fr k:=by
 show(bz ?_).symm;cases hc:bR fr k with
 | false=>rfl
 | true=>have:=i7 c hc;have:=S.len;omega
def Sim.enter{g:TG}{o:MG}{P:Rho->Prop}{Q:St->Hp->Prop}(f:Sim Γ H1 O Z A1 b l)(J : Γ.K=K)(u:gw fr g)(X:Nc K g o)(U:Got Γ H2 O Z A1 b l [] x r)(B:eV fr O.length=T1)(w:WG o (dz (piF fr) r) (inR fr O) P)
  (q:∀j c d h i,P j->Kp fr (cb fr Z) c->c.length=fr.length->Sim (Γ.inn fr O) d j c h (fr.length+b) i->vx fr.length o.mu (fr.length+l) (inA fr A1) i h->Q c d):g x (cb fr Z) H2 Q:=by
 have(A2,k,l2,E,hk,S,s):=U;have Y:=f.bn;have l1:=f.le;show u x (cb fr Z) H2 (λc d=>Kp fr (cb fr Z) c->Q c d) _ (λc d z C=>z C) ?_;show X.w (Γ:=Γ.inn fr O) (k:=fr.length+k) J w (E.inn B) ⋯ (M0.mpr {k,f.nc B ⋯,r,S,Xr}) λj p c d h i G N e C=>?_;rw[dS]at G e;show q j c d h i p C G N (vx.tr ((s.inn f E).rm1 (f.inn B).ub ⋯) e)
abbrev CoR(fr:! ↑Nat)(M:!Nat)(g:MG)(c:MT)(e:ME)(items:!R)(O:Rho)(acc:!T)(Q:!T->Rho->Prop):Prop:=∃Inv:Nat->!T->Rho->Prop,Inv 0 acc O /\
 (∀i r acc O,items[i]?*>r->Inv i acc O->WG g (dz (piF fr) r) (inR fr O) λO1=>WT c O1 λd f=>(d=T1->WE e f λr h=>∃t,r={.ow,t}/\Inv (i+1) (acc++[t]) (fe fr M h O))/\(d=TZ->Inv (i+1) acc (fe fr M f O))) /\
 ∀acc O,Inv items.length acc O->Q acc O
abbrev fB(M:!Nat) (n:Nat):Bool:=M.all λj=>decide (j<n)
def oz(h:fB M n=T1):∀j∈M,j<n:=λj c=>by
 have:=IQ.mp h j c;exists this
def sY{J:It}{g:TG}{u:MG}{tc:TT}{c:MT}{te:TE}{e:ME}{o items:!R}{QC:!T->Rho->Prop}{N:!V->Hp->Prop}{ts0:!T}{acc0:!V}(hK : Γ.K=K)(wk:gy Γ b J ks vs o items)(hgk:gw fr g)(hg:Nc K g u)(hc:M5 K tc c)(he:MN K te e)
  (X:fB (u.mu++(c.mu++e.mu)) fr.length=T1) (al:o.all (ay (muF fr (u.mu++(c.mu++e.mu))))=T1) (hf:eV fr O.length=T1) (hz:acc0.length+items.length<sizeLine) (S:Sim Γ H O Z A b n) (at0:At A ks vs o) (hk:∀k∈ks,b<=k) (ac:Nb A a acc0 ts0) (ha:Z.length<=a) (han:a<=n) (w:CoR fr (u.mu++(c.mu++e.mu)) u c e items O ts0 QC)
  (q:∀acc ts H' O' A' l,QC ts O'->O'.length=O.length->Sim Γ H' O' Z A' b l->vx Z.length (muF fr (u.mu++(c.mu++e.mu))) n A l A'->Nb A' a acc ts->N acc H'):E2 J (cb fr Z) g tc te acc0 H N:=by
 have(Inv,h0,hs,hN):=w;have le:=S.le;show{λi m acc H=>m=items.length-i/\i<=items.length/\acc.length<=acc0.length+i/\∃O1 ts A1 l,Inv i ts O1/\O1.length=O.length/\Sim Γ H O1 Z A1 b l/\vx Z.length (muF fr (u.mu++(c.mu++e.mu))) n A l A1/\Nb A1 a acc ts,{items.length,by simp,Kn _,by omega,O,ts0,A,n,h0,Xr,S,S.kept.sub ∅,ac},?_};rintro i m acc H1 ⟨rfl,hil,hal,O1,ts,A1,l,hI,Y,E,z,C⟩;show{by omega,?_};have(w1,w2):=wk E (at0.kept z (λk h=>Ik le (hk k h)) al);by_cases U:i<items.length
 .have hx:items[i]?=TV items[i]:=by simp[U]
  have(w3,w4):=w2 i _ hx;show .inr {w3,λs H'=>s.length<=acc0.length+(i+1)/\∃O1 ts A1 l,Inv (i+1) ts O1/\O1.length=O.length/\Sim Γ H' O1 Z A1 b l/\vx Z.length (muF fr (u.mu++(c.mu++e.mu))) n A l A1/\Nb A1 a s ts,λs H' h=>{items.length-(i+1),by omega,Xr,U,h},λx H2 y=>?_};have G:eV fr O1.length=T1:=by rw[Y];show hf
  have hal':=z.1;show E.enter hK hgk hg (w4 x H2 y) G (hs i _ ts O1 hx hI) λO2 Z2 H3 A4 m4 w kp hl S4 B=>?_;show hc.w (Γ:=Γ.inn fr O1) hK w S4 λbb O3 H4 A5 m5 w S5 f=>?_;rw[hl]at f;have kk:∀{N A'} {m':Nat},(∀j∈N,j∈muF fr (u.mu++(c.mu++e.mu)))->vx Z.length N l A1 m' A'->vx Z.length (muF fr (u.mu++(c.mu++e.mu))) n A m' A':=λh k=>(z.tr k).sub λj hj=>(yaM hj).elim id (h j);cases bb with
  | true=>
   show pV (he.w (Γ:=Γ.inn fr O1) hK (w.1 rfl) S5 λr O4 v H5 ⟨t,et,p⟩ ⟨A6,k6,m6,S6,hk6,x6,P⟩=>?_);subst et;rw[hl]at P;have h5:=f.1;have h4:=B.1;have(A7,S7,d,h7):=E.outt S6 (B.tr (f.tr P)) kp G (oz X);have hb:=E.bn;have y7:=h7 (k6-fr.length) (v,{.ow,t}) ⋯ (by rw[show fr.length+(k6-fr.length)=k6 by omega];show x6) rfl;show{by simp;omega,_,_,A7,_,p,by rw[jn,Y],S7,kk (λj h=>h) d,C.next E d ha ⋯ y7 ⋯}
  | false=>
   have h5:=f.1;have(A7,S7,d,_):=E.outt S5 (B.tr (f.sub inl)) kp G (oz X);show pU {by omega,_,ts,A7,_,w.2 rfl,by rw[jn,Y],S7,kk (λj h=>h) d,C.kept d ha}
 .have ei:i=items.length:=by omega
  subst ei;show .inl {w1 _ (Ig _),q acc ts H1 O1 A1 l (hN ts O1 hI) Y E z C}
private def aC(fr:! ↑Nat)(it:MI)(g:MG)(c:MT)(e:ME):ME:={λO Q=>WI it O λf d O1=>Gu (eV fr O1.length&&fB (g.mu++(c.mu++e.mu)) fr.length&&f.all (ay (muF fr (g.mu++(c.mu++e.mu))))) (d.length<sizeLine/\CoR fr (g.mu++(c.mu++e.mu)) g c e d O1 [] λacc O=>Q {.ow,de acc} O),it.mu++muF fr (g.mu++(c.mu++e.mu))}
def Sim.accL(S:Sim Γ H O Z A' b l)(e:vx Z.length M n A l A')(j:Nb A' n acc ts)(u:∀i,n<=i->A i=TU)(o:b<=n)(f:H d=TU):Got Γ (upd H d (.lst acc)) O Z A b n M (.ref d) {.ow,de ts}:=by
 have(ks,p,g,c):=j;show S.mkL e p g (λk h=>{Ik o (c k h),u k (c k h)}) f
def Got.back{c:Gm}(d:∀{H O Z A n},Sim c H O Z A b n->Sim Γ H O Z A b n)(g:Got c H O Z A b n M v r):Got Γ H O Z A b n M v r:=let ⟨A',k,m,S,h⟩:=g;{A',k,m,d S,h}
def E7:Nb A a [] []:={[],trivial,IP,by simp}
def o8{z:TI}{it:MI}{g:TG}{E:MG}{N:TT}{c:MT}{U:TE}{e:ME}(hi:Nk K z it)(s:gw fr g)(hg:Nc K g E)(hc:M5 K N c)(he:MN K U e):MN K (ye z fr g N U) (aC fr it E c e):=by unhygienic
 intro Γ0 H O Z A b n Q P G w S q;show hi.w G w S λB u O1 Γ J ks vs H1 A1 m1 ⟨i,X,w⟩ j bk S1 at1 hk f wk=>?_;dsimp[Ie]at i;have C:=S.bn;have le:=S.le;show sY (a:=n) (ts0:=[]) (acc0:=[]) (j.trans G) wk s hg hc he i.1.2 i.2 i.1.1 (by exists X) S1 at1 (λk h=>Ik C (hk k h)) E7 ⋯ f.1 w λacc ts H' O' A' l p _ Y o ac d hd=>?_;show q _ O' _ _ p (Got.back bk (Y.accL (f.tr o) ac S.ub C hd))
end
section
variable {Γ:Gm}{H H':Hp}{O O':Rho}{Z:St}{A:Fam}{v w:V}{t s:T}{K:yF}{Q:VK}{b n m k:Nat}{r:R}
abbrev spP(K:yF)(run:!T->(T->Prop)->Prop):Sp:=λvs H Q _=>∃a P,M9 K H a vs/\run a P/\∀t v H',P t->New K H H' t v->Q v H'
abbrev spI(K:yF)(k:Nat)(run:!T->(T->T->Prop)->Prop):Sp:=λvs H Q _=>∃c s w G P,vs.length=c.length/\vs[k]?*>w/\c[k]?*>s/\Rp K H s w G/\G.Nodup/\(∀a∈G,Mu H a)/\(∀(m:Nat) x u,m≠k->vs[m]?*>x->c[m]?*>u->∃F,Rp K H u x F/\∀a∈F,a∉G)/\run c P /\
 ∀v H' t e F d,P t e->MQ G H H'->(∀a∈G,∃o,H' a*>o)->(F++d).Nodup->(∀a∈F,H a=TU/\Mu H' a)->(∀a∈d,(a∈G\/H a=TU)/\Mu H' a)->Rp K H' e w d->Rp K H' t v F->Q v H'
private def mF(run:!T->(T->Prop)->Prop)(a:MA):ME:={λO Q=>WA a O λc O1=>C1 (run (c.map (·.t))) λt=>Q {.ow,t} O1,a.mu}
def uk{run:!T->(T->Prop)->Prop}{g:TA}{a:MA}(j:M2 K g a):MN K (lx (spP K run) [] E0 g) (mF run a):=by unhygienic
 intro Γ H O Z A b n Q P f w S q;show j.w f w S λB O1 vs u ⟨l,e,p⟩ ⟨o,ks,z,d,at1,_,_,c⟩=>?_;subst f;show{_,l,?_,e,λt v H' h i=>q _ O1 v H' (p t h) (d.new c i)};rw[Iw];show d.rds at1
abbrev AtC(k j:Nat)(rs:!R)(O:Rho)(P:!Ac->Kd->T->Prop):Prop:=∃p t a c,rs[k]?*>{.vw (TV j) (TV p),t}/\((Ip rs.length).all λm=>decide (m=k)||ay [j] (rs.getD m ⟨.ow,.im .non⟩))=T1/\O[j]?*>(TV ⟨a,c⟩)/\a.isOw=T1/\P p a c
private def ak(k j:Nat)(run:!T->(T->T->Prop)->Prop)(a:MA):ME:={λO Q=>WA a O λc O1=>AtC k j c O1 λp d f=>C2 (run (c.map (·.t))) λt e=>Q {.ow,t} ((aB [j] O1).set j (TV {d,f.put p e})),a.mu++[j]}
def At.get:∀{ks:!Nat} {vs:!V} {rs:!R} {m:Nat},At A ks vs rs->rs[m]?*>r->∃k v,vs[m]?*>v/\ks[m]?*>k/\A k*>(v,r)
 | k::ks,v::vs,s::rs,0,h,e=>by cases e;show⟨k,v,Xr,Xr,h.1⟩
 | k::ks,v::vs,s::rs,m+1,h,e=>by
  show At.get (m:=m) h.2 e
 | _,_,[],_,_,e=>by simp at e
 | [],[],_::_,_,h,_=>h.elim
 | [],_::_,_::_,_,h,_=>h.elim
 | _::_,[],_::_,_,h,_=>h.elim
def uj{k j:Nat}{run:!T->(T->T->Prop)->Prop}{ta:TA}{a:MA}(c:M2 K ta a):MN K (lx (spI K k run) [] E0 ta) (ak k j run a):=by unhygienic
 intro Γ H O Z A b n Q P J w S q;show c.w J w S λrs O1 vs H1 ⟨p,s,kd,t0,B,f,e4,ho,P1,e3,h⟩ ⟨A1,ks,m1,S1,at1,nd,hk,i⟩=>?_;subst J;rw[Iw];have(l,w,hw,hl,x1):=at1.get B;have(G,X,g1,g2,U,L,C):=S1.mut (ks:=[]) (vs:=[]) (ts:=[]) i x1 trivial IP ∅ e4 ho;have eX:X=[]:=g2.nil_inv.2;subst eX;rw[Iw]at U L;show{rs.map (·.t),s,w,G,P1,by rw[Ia,at1.len.1],hw,by rw[Io,B];rfl,g1,U,L,λm x u hm hx hu=>?_,e3,λv H' t Y F G' hp a1 a2 a3 a4 E a6 a7=>?_}
 .rw[Io]at hu;have(r,e,rfl):=IB.mp hu;have(N,x',d,o,x2):=at1.get e;rw[hx]at d;cases d;have al:ay [j] r=T1:=by
   have:=IQ.mp f m (JM.mpr (Ib.mp e).1);rw[IE,e]at this;simpa[hm]using this
  show C.1 N _ _ (Ik S.le (Ik S.bn (hk N (ymG o)))) x2 al
 .have g:=Iv.mp a3;have(_,_,_,k5):=C.2 H' Y G' a1 a2 g.2.1 (λa c=>{by rw[Iw];show(E a c).1,(E a c).2}) a6;show q _ _ v H' (h t Y hp) (k5 v t F g.1 (λa c=>{(a4 a c).1,λz=>g.2.2 a c a z rfl,(a4 a c).2}) a7)
abbrev roR:T->R
 | .im i=>{.ow,.im i}
 | t=>{.vw TU TU,t}
abbrev dm(ts:!T) (n:Nat):Rho:=(ts.map λt=>TV (roR t))++Ih (n-ts.length) TU
def M9.length:∀{ts:!T} {vs:!V},M9 K H ts vs->vs.length=ts.length
 | [],vs,r=>by rw[M9]at r;subst r;rfl
 | t::ts,vs,r=>by have(v,vr,rfl,_,a):=r;rw[Im,Im,M9.length a]
def M9.get:∀{ts:!T} {vs:!V} {i:Nat},M9 K H ts vs->ts[i]?*>t->∃v,vs[i]?*>v/\Rpx K H t v
 | t::ts,vs,0,r,e=>by have(v,vr,rfl,c,a):=r;cases e;show⟨v,Xr,c⟩
 | t::ts,vs,i+1,r,e=>by have(v,vr,rfl,c,a):=r;show M9.get (vs:=vr) a e
 | [],_,_,_,e=>by simp at e
def lm{ts:!T}{i:Nat}(h:(dm ts n)[i]?*>(TV r)):∃t,ts[i]?*>t/\r=roR t:=by
 unfold dm at h;rw[KD,Ia]at h;split at h
 .rw[Io]at h;have(t,a,c):=IB.mp h;show{t,a,(IC.inj c).symm}
 .rw[Ld]at h;split at h<;>cases h
def iF{vs:!V}{N:!Str}{i:Nat}(h:vs[i]?*>v):(bL N vs)[i]?*>(TV v):=by
 unfold bL;rw[Jb (by have:=(Ib.mp h).1;exists this),Io,h];rfl
def xU{F:!Addr}(h:Rp K H t v F):∃F',Rp K H (roR t).t v F'/\(((roR t).k=.ow/\F'=[])\/((roR t).k=.vw TU TU/\F'=F)):=by
 cases t with
 | im i=>show{[],j9 (bq h).1,.inl ⟨Xr,Xr⟩}
 | _=>show{F,h,.inr ⟨Xr,Xr⟩}
def sx{G:!Addr}{u:!V}(nd:G.Nodup)(J:∀a∈G,Mu H a)(Y:Z.length=O.length)(h:∀(i:Nat) r,O[i]?*>(TV r)->∃v F,Z[i]?*>(TV v)/\Rp K H r.t v F/\((r.k=.ow/\F=[])\/(r.k=.vw TU TU/\∀a∈F,a∉G)\/(i=k/\r.k=.io 0/\F=G/\u[0]?*>v))) :
  Sim {K,H,G,u,λ_=>False} H O Z (loc O Z) Z.length Z.length:=by
 have:∀i,∃F,∀v r,loc O Z i*>(v,r)->Rp K H r.t v F/\((r.k=.ow/\F=[])\/(r.k=.vw TU TU/\∀a∈F,a∉G)\/(i=k/\r.k=.io 0/\F=G/\u[0]?*>v)):=λi=>by
  cases e:loc O Z i with
  | none=>show{[],λ_ _ z=>nomatch z}
  | some x=>
   have(c,d):=MP.mp (show loc O Z i*>(x.1,x.2)from e);have(v,F,g,E):=h i _ c;rw[d]at g;cases g;show{F,λv r z=>by cases z;show E}
 have(F,B):=Classical.axiomOfChoice this;have f:∀{i v r a},loc O Z i*>(v,r)->r.k.isOw=T1->a∈F i->i=k/\a∈G:=λc d g=>by
  rcases(B _ _ _ c).2 with⟨_,e⟩|⟨e,_⟩|⟨e,_,p,_⟩;rw[e]at g;cases g;rw[e]at d;cases d;show{e,p▸g}
 show{{F,λc=>(B _ _ _ c).1,λc d=>?_,fun⟨i,v,r,c,d,g⟩=>{J _ (f c d g).2,.inr (f c d g).2},λc d g E S N=>(f c g S).1.trans (f d E N).1.symm,λ{i v r} c=>?_,λb o e _=>e,λa C=>let ⟨o,e,_⟩:=J a C;⟨o,e⟩},λi X=>rfl,λi r e=>let ⟨v,_,q,_⟩:=h i r e;⟨v,q⟩,Y,Ig _,Ig _,λi x j e L=>?_,λi X=>?_}
 .rcases(B _ _ _ c).2 with⟨_,e⟩|⟨e,_⟩|⟨_,_,e,_⟩;rw[e];show IP;rw[e]at d;cases d;rw[e];show nd
 .unfold fH;rcases(B _ _ _ c).2 with⟨e,p⟩|⟨e,p⟩|⟨_,e,_,p⟩;rw[e,p];simp;rw[e];show λa C ⟨l,w,s,P,q2,U⟩=>p a C (f P q2 U).2;rw[e];show p
 .rcases(B i x.1 x.2 e).2 with⟨e,_⟩|⟨e,_⟩|⟨_,e,_⟩<;>rw[e]at L<;>cases L
 .cases e:loc O Z i with
  | none=>rfl
  | some x=>have:=(Ib.mp (MP.mp (show loc O Z i*>(x.1,x.2)from e)).2).1;omega
def sw{ts:!T}{vs:!V}{N:!Str}(r:M9 K H ts vs):Sim {K,H,[],[],λ_=>False} H (dm ts N.length) (bL N vs) (loc (dm ts N.length) (bL N vs)) (bL N vs).length (bL N vs).length:=by
 show sx (k:=0) IP ∅ (by simp[bL,dm,r.length]) λi j h=>?_;have(t,g,rfl):=lm h;have(v,f,F,d):=r.get g;have(e,a,c):=xU d;show{v,e,iF f,a,c.imp id λq=>.inl {q.1,by simp}}
@[irreducible] def fP(Q:T->Prop):Fl->Rho->Prop
 | .rt t,_=>Q t
 | .nx,_=>Q (.im .non)
 | _,_=>False
abbrev ce(m:MS)(n:Nat)(ts:!T)(Q:T->Prop):Prop:=WS m (dm ts n) (fP Q)
def u9{d:Hp}{f:Nat->Prop}(S:Sim {K,d,[],[],f} H' O Z A b m)(h:A k*>(v,{.ow,t})):New K d H' t v:=by
 have(F,g):=S.sm;show{λb o h=>g.fr b o h ∅,F k,g.rp h,g.nd h rfl,λa c=>{g.kd h a c,(g.ad {k,v,_,h,Xr,c}).1}}
abbrev E5(X:Cx)(a:!Stmt)(m:MS):Prop:=∃t,PSs X a t/\MX X.K t m
def yb{d:TS}{m:MS}{N:!Str}{l:Nat}{run:!T->(T->Prop)->Prop}{vs:!V}{E:XK}(z:MX K d m)(a:∀ts Q,run ts Q->ts.length=l/\ce m N.length ts Q)(h:spP K run vs H Q E):d {nx:=λ_ H'=>Q .non H',rt:=Q} (bL N vs) H:=by unhygienic
 have(ts,o,r,e,q):=h;show z.w rfl (a ts o e).2 (sw (N:=N) r) λf O' h=>?_;cases f with
 | rt t=>show λv i H' p m k c j=>q t v H' h (u9 c j)
 | nx=>show λi H' p m B c _=>let ⟨_,_,_,g,_,u,_⟩:=c.imm c.kept cw;q _ .non H' h (u9 g u)
 | bk=>show h.elim
 | ct=>show h.elim
def AI{N:!Str}{m:MS}{l:Nat}{run:!T->(T->Prop)->Prop}{vs:!V}{E:XK}(a:∀ts Q,run ts Q->ts.length=l/\ce m N.length ts Q)(h:spP K run vs H Q E):vs.length=l:=by
 have(ts,c,r,e,q):=h;rw[r.length,(a ts c e).1]
def Def.mp{P:NM}{W:NP}{g:Str->↑Nz}{base:Heap}{k:Nat}{name:Str}{st:Stmt}{N ps:!Str}(d:Def K g name st ps)(S:td N ps (ai st)){m:MS}
  (e:∀(f:Addr) (a:Nz) (A:NU) (outer:!Env) (s:NC) (H:Hp) (E:XK),MW k (A.deeper (Pv name (ai st) s.heap.objs.size f a))->E5 (iJ CX0 P W K g base N name (ai st) f a A outer s H E).nox (aP st) m)
  {run:!T->(T->Prop)->Prop} (c:∀ts Q,run ts Q->ts.length=ps.length/\ce m N.length ts Q):Has P W K g base (k+1) name ps (spP K run):=
 d.has S (λvs H Q E h=>AI c h) λf a A outer s H vs Q E l h=>let ⟨i,o,j⟩:=e f a A outer s H E l;{i,o,yb j c h}
abbrev f6(k:Nat) (ts:!T) (n:Nat):Rho:=(dm ts n).set k (TV {.io 0,ts.getD k (.im .non)})
@[irreducible] def fI(k:Nat)(Q:T->T->Prop):Fl->Rho->Prop
 | .rt t,O=>∃s,O[k]?*>(TV {.io 0,s})/\Q t s
 | .nx,O=>∃s,O[k]?*>(TV {.io 0,s})/\Q (.im .non) s
 | _,_=>False
abbrev fh(m:MS)(k n:Nat)(ts:!T)(Q:T->T->Prop):Prop:=WS m (f6 k ts n) (fI k Q)
def AJ{ts:!T}{vs:!V}{N:!Str}{k:Nat}{G:!Addr}(d:vs.length=ts.length)(z:vs[k]?*>w)(hs:ts[k]?*>s)(B:Rp K H s w G)(L:G.Nodup)(l:∀a∈G,Mu H a)(o:∀(m:Nat) x u,m≠k->vs[m]?*>x->ts[m]?*>u->∃F,Rp K H u x F/\∀a∈F,a∉G) :
  Sim {K,H,G,[w],λ_=>False} H (f6 k ts N.length) (bL N vs) (loc (f6 k ts N.length) (bL N vs)) (bL N vs).length (bL N vs).length:=by
 show sx (k:=k) L l (by simp[bL,f6,dm,d]) λi S h=>?_;unfold f6 at h;by_cases e:i=k
 .subst e;have c:i<(dm ts N.length).length:=by
   have:=(Ib.mp h).1;exists this
  rw[Ja c,IE,hs]at h;cases h;show{w,G,iF z,B,.inr (.inr ⟨Xr,Xr,Xr,Xr⟩)}
 .rw[Iz (NS e)]at h;have(t,j,rfl):=lm h;have c:=(Ib.mp j).1;have(F,E,C):=o i vs[i] t e (by simp[d,c]) j;have(g,f,p):=xU E;rcases p with q|⟨J,P⟩;show{vs[i],g,iF (by simp[d,c]),f,.inl q};show{vs[i],g,iF (by simp[d,c]),f,.inr (.inl {J,P▸C})}
def Fe{p:Hp}{G:!Addr}{u:V}{l:Nat}{z:T}{f:Nat->Prop}(S:Sim {K,p,G,[u],f} H' O Z A b m)(j:A k*>(v,{.ow,t}))(h : O[l]?*>(TV {.io 0,z})):∃F q,MQ G p H'/\(∀a∈G,∃o,H' a*>o)/\(F++q).Nodup/\(∀a∈F,p a=TU/\Mu H' a)/\(∀a∈q,(a∈G\/p a=TU)/\Mu H' a)/\Rp K H' z u q/\Rp K H' t v F:=by
 have(w,L,d):=S.slot h;have(F,g):=S.sm;have B:=g.kd d;have J:u=w:=IC.inj B;subst J;show{F k,F l,λb o E n=>g.fr b o E n,g.iol,Iv.mpr {g.nd j rfl,g.nd d rfl,λa i c C e=>?_},λa i=>{g.kd j a i,(g.ad {k,_,_,j,Xr,i}).1},λa i=>?_,g.rp d,g.rp j}
 .subst e;have:=g.dj j d rfl rfl i C;subst this;rw[j]at d;cases d
 .have:=g.ad {l,_,_,d,Xr,i};show⟨this.2.symm,this.1⟩
def AH{N:!Str}{m:MS}{l j:Nat}{run:!T->(T->T->Prop)->Prop}{vs:!V}{E:XK}(a:∀ts Q,run ts Q->ts.length=l/\fh m j N.length ts Q)(h:spI K j run vs H Q E):vs.length=l:=by
 obtain⟨ts,f,w,G,d,c,_,_,_,_,_,_,e,_⟩:=h;rw[c,(a ts d e).1]
def x9{u:TS}{m:MS}{N:!Str}{l j:Nat}{run:!T->(T->T->Prop)->Prop}{vs:!V}{E:XK}(p2:MX K u m)(c:∀ts Q,run ts Q->ts.length=l/\fh m j N.length ts Q)(h:spI K j run vs H Q E):u {nx:=λ_ H'=>Q .non H',rt:=Q} (bL N vs) H:=by unhygienic
 obtain⟨ts,s0,w,G,p,z,X,hs,rp,nd,B,C,e,q⟩:=h;show p2.w rfl (c ts p e).2 (AJ (N:=N) z X hs rp nd B C) λf O' h=>?_;have d:∀{t v i H' g b' m k},(∃s,O'[j]?*>(TV {.io 0,s})/\p t s)->Sim {K,H,G,[w],λ_=>False} H' O' i g b' m->g k*>(v,{.ow,t})->Q v H':=fun⟨s1,L,h⟩ a o=>by
  have(F,J,a1,a2,Y,a4,S,a6,a7):=Fe a o L;show q _ _ _ _ F J h a1 a2 Y a4 S a6 a7
 cases f with
 | rt t=>show λv i H' g m k a o=>d h a o
 | nx=>show λi H' g m z a _=>let ⟨_,_,_,P,_,U,_⟩:=a.imm a.kept cw;d h P U
 | bk=>show h.elim
 | ct=>show h.elim
def Def.mi{P:NM}{W:NP}{g:Str->↑Nz}{base:Heap}{k:Nat}{name:Str}{st:Stmt}{N ps:!Str}{j:Nat}(d:Def K g name st ps)(S:td N ps (ai st)){m:MS}
  (e:∀(f:Addr) (a:Nz) (A:NU) (outer:!Env) (s:NC) (H:Hp) (E:XK),MW k (A.deeper (Pv name (ai st) s.heap.objs.size f a))->E5 (iJ CX0 P W K g base N name (ai st) f a A outer s H E).nox (aP st) m)
  {run:!T->(T->T->Prop)->Prop} (c:∀ts Q,run ts Q->ts.length=ps.length/\fh m j N.length ts Q):Has P W K g base (k+1) name ps (spI K j run):=
 d.has S (λvs H Q E h=>AH c h) λf a A outer s H vs Q E o h=>let ⟨i,p,l⟩:=e f a A outer s H E o;{i,p,x9 l c h}
end
structure CK{ι : Type}(C:ι->Cx)(P:NM)(W:NP)(K:yF)(mg:Str->↑Nz)(base:Heap)(k:Nat):Prop where
 prog:∀i,(C i).prog=P
 w:∀i,(C i).w=W
 kk:∀i,(C i).K=K
 mg:∀i,(C i).mg=mg
 base:∀i,(C i).base=base
 calm:∀i,(C i).calm=T1
 room:∀i,MW k (C i).A
section
variable {ι : Type}{C:ι->Cx}{P:NM}{W:NP}{K:yF}{mg:Str->↑Nz}{base:Heap}{k:Nat}
noncomputable abbrev pF(C:ι->Cx) (scope:Pn) (N':!Str):ι×Bk->Cx:=λp=>cxB (C p.1) scope N' p.2
def CK.blk(a:CK C P W K mg base k)  : CK (pF C scope N') P W K mg base k:=
 {λp=>a.prog p.1,λp=>a.w p.1,λp=>a.kk p.1,λp=>a.mg p.1,λp=>a.base p.1,λp=>a.calm p.1,λp=>a.room p.1}
structure QE(C:ι->Cx)(K:yF)(e:Expr)(m:ME):Prop where
 ex:∃te,(∀i,PE (C i) e te)/\MN K te m
structure QT(C:ι->Cx)(K:yF)(e:Expr)(m:MT):Prop where
 ex:∃te,(∀i,PT (C i) e te)/\M5 K te m
structure QW(C:ι->Cx)(K:yF)(e:Expr)(m:MT):Prop where
 ex:∃te,(∀i,PW (C i) e te)/\M5 K te m
structure QTs(C:ι->Cx)(K:yF)(e:!Expr)(m:MT):Prop where
 ex:∃te,(∀i,PTs (C i) e te)/\M5 K te m
structure QA(C:ι->Cx)(K:yF)(es:!Expr)(m:MA):Prop where
 ex:∃ta,(∀i,PA (C i) es ta)/\aX es=T1/\M2 K ta m
structure QS(C:ι->Cx)(K:yF)(st:Stmt)(m:MS):Prop where
 ex:∃ts,(∀i,PS (C i) st ts)/\MX K ts m
structure QSs(C:ι->Cx)(K:yF)(st:!Stmt)(m:MS):Prop where
 ex:∃ts,(∀i,PSs (C i) st ts)/\MX K ts m
structure QG(C:ι->Cx)(K:yF)(fr:Option ! ↑Nat)(e:Expr)(m:MG):Prop where
 ex:∃g,(∀i,PG (C i) e g)/\Nc K g m/\∀f,fr*>f->gw f g
structure QGs(C:ι->Cx)(K:yF)(fr:Option ! ↑Nat)(es:!Expr)(m:MGs):Prop where
 ex:∃g,(∀i,PGs (C i) es g)/\Ni K g m/\∀f,fr*>f->kI f g
structure QI(C:ι->Cx)(K:yF)(tg e:Expr)(m:MI):Prop where
 ex:∃wi,(∀i,PI (C i) tg e wi)/\Nk K wi m
structure QO(C:ι->Cx)(K:yF)(e:↑Expr)(m:MO):Prop where
 ex:∃t,(∀i,PO (C i) e t)/\Nr K t m
section
variable {a b c e o:Expr}{es:!Expr}{ma mb mc m:ME}{ms:MA}{pos:Pos}{mt mt':MT}
def gt:QE C K (.Constant (.int i) j pos) (mC (.int i)):={_,λ_=>qu,r9 rfl}
def DM:QE C K (.Constant (.bool x) j pos) (mC (.bl x)):={_,λ_=>F5,r9 rfl}
def BC:QE C K (.Constant .none j pos) (mC .non):={_,λ_=>Ds,r9 rfl}
def Gn:QE C K (.Constant (.str x) j pos) (mC (.str x)):={_,λ_=>Dv,r9 rfl}
def bt(n:Nat)(h:∀i,(C i).N[n]?*>x:=by intro _;rfl)(f:∀i,Vis (C i).env.scope x:=by first|show λ_=>PR rfl|show λ_=>O7 (PR rfl)|show λ_=>O7 (O7 rfl))(g:(x==("__debug__" : Str))=TZ:=by decide)(d:(x==("__classdict__" : Str))=TZ:=by decide):QE C K (.Name x pos) (ag n):={_,λi=>lc (h i) (f i) g d,AB}
def cz:QA C K [] af:={_,λ_=>fY,Xr,Ar}
def bA(g:QE C K e m)(f:QA C K es ms)(hs:bh e=TZ:=by rfl):QA C K (e::es) (aa m ms):=by
 have(j,a,b):=g;have(h,c,n,d):=f;show{_,λi=>bD (a i) (c i) hs,by rw[aX,hs,n];rfl,xB b d}
def ue{op:SC}{red:yF->R2}{f:T->T->↑T}(g:CK C P W K mg base k)(ho:∀X:Cx,OpR X (Og op) (red X.K))(hp:dR K (red K) f)(d:QE C K a ma)(j:QE C K b mb):QE C K (.BinOp a op b pos) (mOp f ma mb):=by
 have(s,p,r):=d;have(q,l,h):=j;show{_,λi=>F9 (r:=red K) (by have:=ho (C i);rw[g.kk i]at this;show this) (p i) (l i),qE hp r h}
def j8(g:CK C P W K mg base k)(d:QE C K a ma)(f:QE C K b mb):QE C K (.BinOp a .Add b pos) (mOp aW ma mb):=ue g (red:=xo) (λ_=>zw) wA d f
def Go(g:CK C P W K mg base k)(d:QE C K a ma)(f:QE C K b mb):QE C K (.BinOp a .Sub b pos) (mOp bH ma mb):=ue g (red:=λ_=>rI0 λi j=>.int (i-j)) (λ_=>C5) wT d f
def BB(g:CK C P W K mg base k)(d:QE C K a ma)(f:QE C K b mb):QE C K (.BinOp a .Mult b pos) (mOp bW ma mb):=ue g (red:=xv) (λ_=>zy) wO d f
def DN(g:CK C P W K mg base k)(d:QE C K a ma)(f:QE C K b mb):QE C K (.BinOp a .FloorDiv b pos) (mOp iM ma mb):=ue g (red:=λ_=>rI pA λi j=>.int (i / j)) (λ_=>tU) t9 d f
def BA(g:CK C P W K mg base k)(d:QE C K a ma)(f:QE C K b mb):QE C K (.BinOp a .Mod b pos) (mOp fD ma mb):=ue g (red:=λ_=>rI (λ_ j=>0<j) λi j=>.int (i % j)) (λ_=>CY) wN d f
def Gj(g:CK C P W K mg base k)(d:QE C K a ma)(f:QE C K b mb):QE C K (.BinOp a .Pow b pos) (mOp t7 ma mb):=ue g (red:=λ_=>rI BZ λi j=>.int (i^j.toNat)) (λ_=>C4) wS d f
def rT(d:QE C K a ma):QE C K (.UnaryOp .USub a pos) (mUn qg ma):=by
 have(f,p,r):=d;show{_,λi=>wt qR (p i),lq wP r}
def Gi(d:QE C K a ma):QE C K (.UnaryOp .Not a pos) (rH ma):=by
 have(f,p,r):=d;show{_,λi=>Dt (p i),xJ r}
abbrev gm(op:SA)(f:T->T->↑T):Prop:=∃d:yF->R2,(∀X:Cx,X.A.units+64<Ox->OpR X (N1 op) (d X.K))/\∀K,dR K (d K) f
def Hv:gm .Lt (gA λi j=>decide (i<j)):={λ_=>_,λ_ _=>FI,λ_=>lg}
def Ht:gm .Gt (gA λi j=>decide (j<i)):={λ_=>_,λ_ _=>FG,λ_=>lg}
def Hs:gm .GtE (gA λi j=>decide (j<=i)):={λ_=>_,λ_ _=>FF,λ_=>lg}
def Fa:gm .Eq eqT:={D4,λ_ d=>CS d,λ_=>zP}
def Hw:gm .NotEq neT:={D9,λ_ d=>C3 d,λ_=>zR}
def Hu:gm .In inT:={D5,λ_ d=>CV d,λ_=>zQ}
def uR:gm .NotIn oP:={nK,λ_ d=>tW d,λ_=>wQ}
def Gb(g:CK C P W K mg base k)(s:gm op f)(j:QE C K a ma)(w:QE C K b mb)(h:OX op b=TZ):QE C K (.Compare a [op] [b] pos) (mOp f ma mb):=by
 have(d,l,u):=s;have(E,p,r):=j;have(B,z,q):=w;show{_,λi=>zE (r:=d K) (by have:=l (C i) (g.room i).units;rw[g.kk i]at this;show this) (p i) (z i) h,qE (u K) r q}
def lj(g:CK C P W K mg base k)(s:gm op f)(j:QE C K a ma)(w:QE C K b mb)(h:OX op b=TZ):QT C K (.Compare a [op] [b] pos) (aA (mOp f ma mb)):=by
 have(d,l,u):=s;have(E,p,r):=j;have(B,z,q):=w;show{_,λi=>zU (r:=d K) (by have:=l (C i) (g.room i).units;rw[g.kk i]at this;show this) (p i) (z i) h,pb (qE (u K) r q)}
def xk(f:QE C K e m)(g:∀i d,RC e (C i).env d=(do let v <-d;Pj e.pos;Ov [v] (SB v)):=by intro _ _;rfl):QT C K e (aA m):=by
 have(h,p,r):=f;show{_,λi=>DJ (p i) (g i),Ek r}
def xj(h:CK C P W K mg base k)(f:QE C K e m)(g:∀i d,RC e (C i).env d=(do let v <-d;Pj e.pos;Ov [v] (SB v)):=by intro _ _;rfl):QT C K e (vQ m):=by
 have(j,p,r):=f;show{_,λi=>HQ (h.kk i) (p i) (g i),Ay r}
def xi(d:QT C K a mt):QT C K (.UnaryOp .Not a pos) (pY mt):=by
 have(f,p,r):=d;show{_,λi=>DH (p i),As r}
def z8(d:QT C K a mt):QW C K (.BoolOp .And [a] pos) mt:=by
 have(f,p,r):=d;show{_,λi=>zX (p i),r}
def xl(d:QT C K a mt):QW C K (.BoolOp .Or [a] pos) mt:=by
 have(f,p,r):=d;show{_,λi=>DL (p i),r}
def D3{rest:!Expr}(d:QT C K a mt)(g:QW C K (.BoolOp .And (b::rest) pos) mt'):QW C K (.BoolOp .And (a::b::rest) pos) (oA mt mt'):=by
 have(l,p,r):=d;have(j,h,f):=g;show{_,λi=>DK (p i) (h i),Ak r f}
def BE{rest:!Expr}(d:QT C K a mt)(g:QW C K (.BoolOp .Or (b::rest) pos) mt'):QW C K (.BoolOp .Or (a::b::rest) pos) (mOr mt mt'):=by
 have(l,p,r):=d;have(j,h,f):=g;show{_,λi=>Ga (p i) (h i),Eh r f}
def QW.t(h:QW C K e mt):QT C K e mt:=by
 have(d,p,r):=h;show{_,λi=>(p i).pt,r}
def BD(h:QE C K a m):QE C K (.BoolOp op [a] pos) m:=by
 have(d,p,r):=h;show{_,λi=>Du (p i),r}
def Bx{rest:!Expr}(d:QE C K a ma)(g:QE C K (.BoolOp .And (b::rest) pos) mb):QE C K (.BoolOp .And (a::b::rest) pos) (mz ma mb):=by
 have(l,p,r):=d;have(j,h,f):=g;show{_,λi=>Dp (p i) (h i),xA r f}
def Bz(j:QT C K c mt)(f:QE C K a ma)(g:QE C K b mb):QE C K (.IfExp c a b pos) (zm mt ma mb):=by
 have(s,l,d):=j;have(w,p,r):=f;have(u,q,h):=g;show{_,λi=>wp (l i) (p i) (q i),Ao d r h}
def rS(mv:!Nat)(h:QA C K es ms):QE C K (.List es pos) (aR mv ms):=by
 have(d,p,_,r):=h;show{_,λi=>Dr (p i),xG r}
def xb(mv:!Nat)(h:QA C K es ms):QE C K (.Tuple es x1 pos) (aq mv ms):=by
 have(d,p,_,r):=h;show{_,λi=>wr (p i),xQ r}
def Gg(f:CK C P W K mg base k)(d:QE C K a ma)(h:QE C K b mb)(hs:qX b:=by show λ_ _=>rfl):QE C K (.Subscript a b pos) (mIx ma mb):=by
 have(q,p,r):=d;have(l,j,g):=h;show{_,λi=>F8 (HG (f.kk i)) (p i) (j i) hs,Eg r g}
def jo:QO C K TU bF:={_,λ_=>zN,qD}
def jp(h:QE C K e m):QO C K (TV e) (dU m):=by
 have(d,p,r):=h;show{_,λi=>nC (p i),xL r}
def xa{lo hi:↑Expr}{g h:MO}{z:Pos}(l:CK C P W K mg base k)(j:QE C K a ma)(w:QO C K lo g)(s:QO C K hi h):QE C K (.Subscript a (.Slice lo hi TU z) pos) (mSl ma g h):=by
 have(E,p,r):=j;have(G,u,q):=w;have(B,d,f):=s;show{_,λi=>wq (r:=rSl K) (by have:=HP (X:=C i);rw[l.kk i]at this;show this) (p i) (u i) (d i),Ej r q f}
def Gk(f:CK C P W K mg base k)(d:QE C K a ma):QE C K (.Subscript a (.Slice TU TU (TV (.UnaryOp .USub (.Constant (.int 1) j p1) p2)) p3) pos) (mUn xS ma):=by
 have(g,p,r):=d;show{_,λi=>HL (f.kk i) (p i),Aw r}
def mK{x:Str}{p:Pos}{j:Nat}{ps:!Str}{run:!T->(T->Prop)->Prop}(d:CK C P W K mg base k)(h:Has P W K mg base j x ps (spP K run))(g:QA C K (e::es) ms)(l:j<=k:=by first|decide|omega)(s:∀i,Gl (C i) x:=by intro _;rfl)(f:(x==("__debug__" : Str))=TZ:=by decide):QE C K (.Call (.Name x p) (e::es) [] pos) (mF run ms):=by
 have(u,q,n,r):=g;show{_,λi=>wo (by rw[d.prog i,d.w i,d.kk i,d.mg i,d.base i];show h) ((d.room i).mono l) (s i) (q i) n f,uk r}
def Gc(l:Nat){x:Str}{p:Pos}{j g:Nat}{ps:!Str}{run:!T->(T->T->Prop)->Prop}(d:CK C P W K mg base k)(h:Has P W K mg base j x ps (spI K g run))(s:QA C K (e::es) ms)(u:j<=k:=by first|decide|omega)(z:∀i,Gl (C i) x:=by intro _;rfl)(f:(x==("__debug__" : Str))=TZ:=by decide):QE C K (.Call (.Name x p) (e::es) [] pos) (ak g l run ms):=by
 have(B,q,n,r):=s;show{_,λi=>wo (by rw[d.prog i,d.w i,d.kk i,d.mg i,d.base i];show h) ((d.room i).mono u) (z i) (q i) n f,uj r}
abbrev lW(x:Str)(f:!T->↑T):Prop:=∃(id:String) (d:yF->!V->Hp->VK->Prop),Oo x*>(.builtin id)/\(∀X:Cx,X.calm=T1->MU X (.builtin id) (d X.K))/\∀K,gn K (d K) f
abbrev yP(x:Str)(f:!T->↑T):Prop:=∃(id:String) (d:yF->!V->Hp->VK->Prop),Oo x*>(.type id)/\(∀X:Cx,X.calm=T1->MU X (.type id) (d X.K))/\∀K,gn K (d K) f
def By(d:CK C P W K mg base k)(E:lW x f)(j:mg x=TU)(w:QA C K (e::es) ms)(u:∀i,Gl (C i) x:=by intro _;rfl)(z:x≠("__name__" : Str):=by decide)(g:(x==("__debug__" : Str))=TZ:=by decide):QE C K (.Call (.Name x p) (e::es) [] pos) (mB f ms):=by
 have(id,h,B,l,s):=E;have(G,q,n,r):=w;show{_,λi=>fE (r:=h K) (by have:=l (C i) (d.calm i);rw[d.kk i]at this;show this) (u i) (by rw[d.mg i];show j) B (q i) n z g,xz (s K) r}
def HK(d:CK C P W K mg base k)(E:yP x f)(j:mg x=TU)(w:QA C K (e::es) ms)(u:∀i,Gl (C i) x:=by intro _;rfl)(z:x≠("__name__" : Str):=by decide)(g:(x==("__debug__" : Str))=TZ:=by decide):QE C K (.Call (.Name x p) (e::es) [] pos) (mB f ms):=by
 have(id,h,B,l,s):=E;have(G,q,n,r):=w;show{_,λi=>iU (r:=h K) (by have:=l (C i) (d.calm i);rw[d.kk i]at this;show this) (u i) (by rw[d.mg i];show j) B (q i) n z g,xz (s K) r}
def b_len:lW "len" cy:={_,xt,PySem.boot_len,λ_ _=>sS,λ_=>wI}
def b_min:lW "min" oM:={_,λ_=>_,MB,λ_ h=>sV h,λ_=>wM}
def b_max:lW "max" oJ:={_,λ_=>_,MC,λ_ h=>sU h,λ_=>wL}
def b_all:lW "all" pC:={_,Gq,MD,λ_ h=>uS h,λ_=>wB}
def b_int:yP "int" on:={_,λ_=>_,MF,λ_ _=>sR,λ_=>wC}
def b_tuple:yP "tuple" dg:={_,xw,JP,λ_ _=>lM,λ_=>wV}
def b_list:yP "list" vL:={_,xu,JA,λ_ _=>mX,λ_=>wJ}
abbrev uL(g:String)(name:Str)(f:T->!T->↑T):Prop:=∃(id:String) (d:yF->V->!V->Hp->VK->Prop),Py g/\Slot g name id/\P9 (.builtin id)=pure (.type "method_descriptor")/\(∀X:Cx,MtR X id (d X.K))/\∀K,uN K g (d K) f
abbrev jW(g:String)(name:Str)(f:T->!T->↑(T×I)):Prop:=∃(id:String) (d:yF->V->!V->Hp->VK->Prop),Py g/\Slot g name id/\P9 (.builtin id)=pure (.type "method_descriptor")/\(∀X:Cx,MtR X id (d X.K))/\∀K,cY K (d K) f
def DP(l:CK C P W K mg base k)(p:uL T0 name f)(ho:QE C K o mo)(s:QA C K (e::es) ms)(h:decide ((e::es).length<30)=T1:=by rfl)
  (g:∀i,OA o name (C i).env (eval o (C i).env)=eval o (C i).env:=by intro _;rfl) (d:(apos.endLine==pos.line)=T1:=by rfl):QE C K (.Call (.Attribute o name apos) (e::es) [] pos) (mM T0 f mo ms):=by
 have(id,j,J,E,B,z,G):=p;have(L,q,r):=ho;have(N,u,n,w):=s;show{_,λi=>B8 (r:=j K) (l.kk i) J E B (by have:=z (C i);rw[l.kk i]at this;show this) (q i) (u i) n h (g i) d,GG (G K) r w}
def Gh(l:Nat)(mv:!Nat)(p:CK C P W K mg base k)(s:jW T0 name f)(ho:QE C K o mo)(u:QA C K (e::es) ms)(h:decide ((e::es).length<30)=T1:=by rfl)
  (g:∀i,OA o name (C i).env (eval o (C i).env)=eval o (C i).env:=by intro _;rfl) (d:(apos.endLine==pos.line)=T1:=by rfl):QE C K (.Call (.Attribute o name apos) (e::es) [] pos) (db T0 l mv f mo ms):=by
 have(id,j,L,G,E,B,J):=s;have(N,q,r):=ho;have(S,w,n,z):=u;show{_,λi=>B8 (r:=j K) (p.kk i) L G E (by have:=B (C i);rw[p.kk i]at this;show this) (q i) (w i) n h (g i) d,Aq (J K) r z}
def DQ(l:Nat)(j:CK C P W K mg base k)(u:jW T0 name f)(ho:QE C K o mo)
  (g:∀i,OA o name (C i).env (eval o (C i).env)=eval o (C i).env:=by intro _;rfl) (d:(apos.endLine==pos.line)=T1:=by rfl):QE C K (.Call (.Attribute o name apos) [] [] pos) (jf T0 l f mo):=by
 have(id,h,B,w,s,p,z):=u;have(E,q,r):=ho;show{_,λi=>Hr (r:=h K) (j.kk i) B w s (by have:=p (C i);rw[j.kk i]at this;show this) (q i) (g i) d,xH (z K) r}
def CD:uL "str" "join" l9:={_,BI,PySem.F.plainAttrs_str,PySem.F.slot_str_join,PySem.F.type_str_join,λ_=>zq,λ_=>ua}
def oE:jW "list" "append" apT:={_,λ_=>nI,PySem.F.plainAttrs_list,PySem.F.slot_list_append,PySem.F.type_list_append,λ_=>tP,λ_=>oV}
def oG:jW "list" "extend" vn:={_,xq,PySem.F.plainAttrs_list,PySem.F.slot_list_extend,PySem.F.type_list_extend,λ_=>zp,λ_=>oW}
def FA:jW "list" "pop" lf:={_,λ_=>Ea,PySem.F.plainAttrs_list,PySem.F.slot_list_pop,PySem.F.type_list_pop,λ_=>CG,λ_=>wR}
def oH:jW "list" "insert" pS:={_,λ_=>nJ,PySem.F.plainAttrs_list,PySem.F.slot_list_insert,PySem.F.type_list_insert,λ_=>tQ,λ_=>oX}
end
end
section
variable {ι : Type}{C:ι->Cx}{P:NM}{W:NP}{K:yF}{mg:Str->↑Nz}{base:Heap}{k:Nat}
section
variable {a b c e o tg iter:Expr}{es:!Expr}{ma mb mc m mo mi:ME}{ms:MA}{pos:Pos}{mt mt':MT}{s1 s2:MS}{g g':MG}{gs:MGs}{it it2:MI}{fr:Option ! ↑Nat}
def kE(n:Nat)(q:∀i,(C i).N.Nodup)(hi:∀i,(C i).N[n]?*>x:=by intro _;rfl)(l:∀i,Loc (C i).env.scope x:=by first|show λ_=>PR rfl|show λ_=>O7 rfl)(p:∀i,(C i).fn x=T1\/(C i).env.scope.names.lookup x*>.local:=by first|show λ_=>.inl rfl|show λ_=>.inr rfl)
  (d:∀f,fr*>f->f[n]?*>TU:=by first|(intro f h;cases h;done)|(intro f h;cases h;rfl)):QG C K fr (.Name x pos) (ah n):=
 {_,λi=>zJ (q i) (hi i) (l i) (p i),jr,λf j=>za (d f j)}
def nF:QGs C K fr [] bI:={_,λ_=>zK,xE,λ_ _=>Cp}
def eh(r:QG C K fr e g)(p:QGs C K fr es gs)(hs:∀i,(Oy (e::es) (C i).env).map (·.2)=Pu e (C i).env::(Oy es (C i).env).map (·.2):=by intro _;rfl):QGs C K fr (e::es) (au g gs):=by
 have(w,u,s,l):=r;have(z,q,j,h):=p;show{_,λi=>wx (u i) (q i) (hs i),uo s j,λf d=>y9 (l f d) (h f d)}
def qA(j:CK C P W K mg base k)(h:QGs C K fr es gs)(s:∀i,(Oy es (C i).env).length=n:=by intro _;rfl)(d:∀i,(Oy es (C i).env).findIdx? (·.1)=TU:=by intro _;rfl):QG C K fr (.Tuple es k0 pos) (bJ n gs):=by
 have(g,p,r,q):=h;show{_,λi=>tgK (j.kk i) (j.calm i) (p i) (s i) (d i),xF r,λf l=>Cq (q f l)}
def DT(j:Nat)(ho:QE C K o mo)(hi:QE C K e mi)
  (q:∀i v,Pu (.Subscript o e pos) (C i).env v=(do
   let d <-Ov [v] (eval o (C i).env)
   let l <-Ov [v,d] (eval e (C i).env)
   Pj pos
   Ov [v,d,l] (QJ d l v)
   Tf [v,d,l] []):=by intro _ _;rfl):QG C K TU (.Subscript o e pos) (vO j mo mi):=by
 have(z,p,r):=ho;have(w,s,u):=hi;show{_,λi=>Dw (p i) (s i) x8 (q i),Ax r u,λf h=>by cases h}
def nG:QSs C K [] aV:={_,λ_=>rQ,o9}
def fZ{st:Stmt}(d:QS C K st s1):QSs C K [st] s1:=by
 have(t,p,r):=d;show{_,λi=>kD (p i),r}
def dM{st:Stmt}{rest:!Stmt}(h:QS C K st s1)(d:QSs C K rest s2):QSs C K (st::rest) (ao s1 s2):=by
 have(t,p,r):=h;have(u,j,f):=d;show{_,λi=>oY (p i) (j i),se r f}
def rW(l:QT C K c mt)(d:QSs C K b1 s1)(h:QSs C K b2 s2):QS C K (.If c b1 b2 pos) (mIf mt s1 s2):=by
 have(w,q,f):=l;have(t,p,r):=d;have(u,s,j):=h;show{_,λi=>Bw (q i) (p i) (s i),sd f r j}
def jK(h:QE C K e m):QS C K (.Return (TV e) pos) (aT m):=by
 have(t,p,r):=h;show{_,λi=>DF (p i),Av r}
def zZ(h:QE C K e m)(hs:∀i,O9 e TU pos.line (C i).env=pure TZ:=by intro _;rfl):QS C K (.Expr e pos) (bB m):=by
 have(t,p,r):=h;show{_,λi=>nD (p i) (hs i),xC r}
def DW(h:QE C K e m)(f:QG C K TU tg g)(hs:∀i,Pf [tg] e pos.line (C i).env=pure TZ:=by intro _;rfl)(j:∀i,Pg [tg] e (C i).env=pure TU:=by intro _;rfl)
  (l:∀i,(Oy [tg] (C i).env).map (·.2)=[Pu tg (C i).env]:=by intro _;rfl):QS C K (.Assign [tg] e pos) (ax m g):=by
 have(t,p,r):=h;have(u,q,d,_):=f;show{_,λi=>DB (p i) (q i) (hs i) (j i) (l i),nM r d}
def jL(n:Nat)(j:∀i,(C i).N.Nodup)(f:QE C K e m)(hi:∀i,(C i).N[n]?*>x:=by intro _;rfl)(d:∀i,Loc (C i).env.scope x:=by first|show λ_=>PR rfl|show λ_=>O7 rfl)(hs:∀i,O9 e (TV (.Name x pos')) pos.line (C i).env=pure TZ:=by intro _;rfl)(h:∀i,(C i).fn x=T1\/(C i).env.scope.names.lookup x*>.local:=by first|show λ_=>.inl rfl|show λ_=>.inr rfl) :
  QS C K (.Assign [.Name x pos'] e pos) (ax m (ah n)):=by
 have(t,p,r):=f;show{_,λi=>DG (j i) (hi i) (d i) (p i) (hs i) (h i),nM r jr}
def iu(h:bZ O j=T1)(l:∀n,r.k ≠ .io n):bZ ((aB [i] O).set i (TV r)) j=T1:=by
 unfold bZ at h|-;by_cases e:j=i
 .subst e;have d:j < O.length:=by
   cases q : O[j]? with
   | none=>rw[q]at h;cases h
   | some o=>show(Ib.mp q).1
  rw[Ja (by rw[cV];show d)];have(k,t):=r;cases k with
  | io n=>show absurd rfl (l n)
  | _=>rfl
 .rw[Iz (NS e)];unfold aB;rw[Io];cases q : O[j]? with
  | none=>rw[q]at h;cases h
  | some o=>
   rw[q]at h;cases o with
   | none=>rfl
   | some x=>
    change(match TV (gq [i] (TV x))with|some (TV ⟨.io _,_⟩)=>TZ|some _=>T1|none=>TZ)=T1;cases hk:gq [i] (TV x)with
    | none=>rfl
    | some y=>
     have(f,_):=killO_iff.mp hk;cases f;show h
abbrev fb(r:R):Bool:=match r.k with
 | .io _=>TZ
 | _=>T1
abbrev Two(rs:!R)(Q:R->R->Prop):Prop:=∃d f,rs=[d,f]/\Q d f
abbrev uO(rs:!R)(Q:R->R->R->Prop):Prop:=∃d f h,rs=[d,f,h]/\Q d f h
private def j3(i j:Nat)(a:MA):MS:={λO Q=>WA a O λh O1=>Two h λf d=>Gu (fb f&&fb d) (Gu (bZ O1 i&&ay [i] f&&ay [i] d&&bZ O1 j&&ay [j] d) (Q .nx ((aB [j] ((aB [i] O1).set i (TV f))).set j (TV d)))),a.mu++[i,j]}
def ir(h:fb r=T1):∀n,r.k ≠ .io n:=λn z=>by
 unfold fb at h;rw[z]at h;cases h
def Sim.put1{Γ:Gm}{H:Hp}{O:Rho}{Z:St}{A:Fam}{b m k i:Nat}{v:V}{r:R}(S:Sim Γ H O Z A b m)(d:b<=k)(h:A k*>(v,r))(hi:bZ O i=T1)(f:aL [i] r=T1):∃A',Sim Γ H ((aB [i] O).set i (TV r)) (Z.set i (TV v)) A' b m/\vx Z.length [i] m (rm A [k]) m A':=S.put (G:=[]) nO d (by unfold rm;simp) h hi f
def At.cons_inv{A:Fam}{ks:!Nat}{vs:!V}{r:R}{rs:!R}(h:At A ks vs (r::rs)):∃k d v f,ks=k::d/\vs=v::f/\A k*>(v,r)/\At A d f rs:=by
 cases ks with
 | nil=>cases vs<;>cases h
 | cons k ks=>
  cases vs with
  | nil=>cases h
  | cons v vs=>show⟨k,ks,v,vs,Xr,Xr,h.1,h.2⟩
def At.nil_inv{A:Fam}{ks:!Nat}{vs:!V}(h:At A ks vs []):ks=[]/\vs=[]:=by
 cases ks<;>cases vs<;>first|show⟨rfl,rfl⟩|cases h
def sj{A:Fam}{i k:Nat}(h:i≠k):rm A [k] i=A i:=by unfold rm;rw[if_neg (by exists h)]
def Au{i j:Nat}{E:TA}{a:MA}(Y:M2 K E a):MX K (GO i j E) (j3 i j a):=by unhygienic
 intro Γ H O Z A b n D P hK w S q;show Y.w hK w S λrs O1 vs H1 ⟨r1,r2,e,d,G,p⟩ ⟨A1,ks,m1,S1,at1,nd,J,z⟩=>?_;subst e;dsimp[Ie]at d G;obtain⟨⟨⟨⟨b1,b2⟩,U⟩,X⟩,b5⟩:=G;have(B,_,v,_,rfl,rfl,x1,s):=at1.cons_inv;have(l,_,w,_,rfl,rfl,x2,u):=s.cons_inv;have(rfl,rfl):=u.nil_inv;have h1:=J B ∅;have h2:=J l ∅;have bn:=S.bn;have le:=S.le;have ne:l≠B:=λe=>by simp[e]at nd
 have(A2,S2,f):=S1.put1 ⋯ x1 b1 b2;have(N,S3,h):=S2.put1 (k:=l) (v:=w) (r:=r2) ⋯ (f.2 l _ ⋯ (by rw[sj ne];show x2) U) (iu X (ir d.1)) b5;rw[IF]at h;have L:=vx.tr (vx.rm1 (vx.tr (z.rm1 S.ub h1) f) S.ub h2) h;rw[Iy]at L;show{v,w,Xr,q .nx _ p _ H1 N m1 ∅ S3 L}
def DY(i j:Nat){x y:Str}{d py pt:Pos}{kt k2 pt2}(q:CK C P W K mg base k)(s:∀i,(C i).N.Nodup)(h:QA C K [a,b] ms)(hi:∀n,(C n).N[i]?*>x:=by intro _;rfl)(w:∀n,(C n).N[j]?*>y:=by intro _;rfl)(f:i≠j:=by decide)
  (l:∀n,(C n).env.scope.names.lookup x*>.local:=by intro _;rfl) (u:∀n,(C n).env.scope.names.lookup y*>.local:=by intro _;rfl)
  (z:∀n,Pg [.Tuple [.Name x d,.Name y py] kt pt] (.Tuple [a,b] k2 pt2) (C n).env=pure (TV [x,y]):=by intro _;rfl)
  (hs:∀n,Pf [.Tuple [.Name x d,.Name y py] kt pt] (.Tuple [a,b] k2 pt2) pos.line (C n).env=pure TZ:=by intro _;rfl) :
  QS C K (.Assign [.Tuple [.Name x d,.Name y py] kt pt] (.Tuple [a,b] k2 pt2) pos) (j3 i j ms):=by unhygienic
 have(B,p,_,r):=h;show{_,λn=>DE (q.calm n) (s n) (hi n) (w n) f (l n) (u n) (p n) (z n) (hs n),Au r}
private def zk(i:Nat)(f:Int->Int->Int)(e:ME):MS:={λO Q=>∃k x,O[i]?*>(TV {k,.im (.int x)})/\WE e O λr O1=>IsN r.t λy=>Gu (bZ O1 i) (Q .nx ((aB [i] O1).set i (↥(.int (f x y))))),e.mu++[i]}
def Al{i:Nat}{f:Int->Int->Int}{E:TE}(he:MN K E m):MX K (GJ i E (ipI f)) (zk i f m):=by unhygienic
 intro Γ H O Z A b n D P hK w S q;obtain⟨kd,x,Y,w⟩:∃k x,O[i]?*>(TV ⟨k,.im (.int x)⟩)/\_:=w;have(v,hv,G):=S.slot Y;have U:v=.int x:=aH (S.rd G);subst U;show{_,hv,he.w hK w S λr O1 y H1 ⟨z,e,hn,p⟩ ⟨A1,k,m1,u,k1,x1,j⟩=>?_};have s:=u.rd x1;rw[e]at s;show{x,z,Xr,aH s,?_};have(A2,l,m2,L,B,X,d):=u.imm (i:=.int (f x z)) j (ju rfl);have(J,N,h):=L.put1 (Ik S.bn B) X hn rfl;show q .nx _ p _ H1 J m2 ∅ N (vx.tr (d.rm1 S.ub B) h)
def zY(n:Nat)(j:∀i,(C i).N.Nodup)(f:QE C K e m)(hi:∀i,(C i).N[n]?*>x:=by intro _;rfl)(d:∀i,Loc (C i).env.scope x:=by first|show λ_=>PR rfl|show λ_=>O7 rfl)(h:∀i,(C i).fn x=T1\/(C i).env.scope.names.lookup x*>.local:=by first|show λ_=>.inl rfl|show λ_=>.inr rfl) :
  QS C K (.AugAssign (.Name x pos') .Sub e pos) (zk n (· - ·) m):=by
 have(t,p,r):=f;show{_,λi=>DC (j i) (hi i) (d i) (p i) Ct (h i),Al r}
def xh(hp:∀i,Qw (NK (C i).prog (C i).w) (C i).A (C i).env (C i).xe)(f:QT C K c mt)(h:QSs C K body s1):QS C K (.While c body [] pos) (jF mt s1):=by
 have(l,p,r):=f;have(q,j,d):=h;show{_,λi=>wZ (hp i) (p i) (j i),ur r d}
def DX(f:CK C P W K mg base k)(hp:∀i,Qw (NK (C i).prog (C i).w) (C i).A (C i).env (C i).xe)(hi:QI C K tg iter it)(l:QG C K TU tg g)(q:QSs C K body s1)(hs:∀i x,OH iter (C i).env x=pure x:=by intro _ _;rfl):QS C K (.For tg iter body [] pos) (cQ it g s1):=by
 have(z,p,r):=hi;have(u,d,s,_):=l;have(B,h,j):=q;show{_,λi=>DD (hp i) (f.calm i) (p i) (d i) (h i) (hs i),An r s j}
def uf(f:CK C P W K mg base k)(T:Bi mg)(d:QA C K [a] ms)(h:∀i,Gl (C i) "range" :=by intro _;rfl)(hs:bh a=TZ:=by rfl):QI C K tg (.Call (.Name "range" p) [a] [] pos) (aS ms):=by
 have(j,q,_,r):=d;show{_,λi=>tZ (h i) (by rw[f.mg i];show T.b_range) (q i) (by rw[aM hs];rfl),xN r}
def ug(h:CK C P W K mg base k)(T:Bi mg)(f:QA C K [a,b] ms)(j:∀i,Gl (C i) "range" :=by intro _;rfl)(hs:bh a=TZ:=by rfl)(d:bh b=TZ:=by rfl):QI C K tg (.Call (.Name "range" p) [a,b] [] pos) (jg ms):=by
 have(l,q,_,r):=f;show{_,λi=>t5 (j i) (by rw[h.mg i];show T.b_range) (q i) (by rw[aM hs,aM d];rfl) (by rw[aM d];rfl),xO r}
def DU(d:CK C P W K mg base k)(T:Bi mg)(f:QA C K [a] ms)(h:∀i,Gl (C i) "reversed" :=by intro _;rfl)(hs:bh a=TZ:=by rfl):QI C K tg (.Call (.Name "reversed" p) [a] [] pos) (vN ms):=by
 have(j,q,_,r):=f;show{_,λi=>irK (d.kk i) (h i) (by rw[d.mg i];show T.b_reversed) (q i) (aM hs),Ap r}
def xg(f:CK C P W K mg base k)(d:QE C K iter m):QI C K tg iter (mIt m):=by
 have(h,q,r):=d;show{_,λi=>Dz (f.kk i) (q i),Ef r}
private def bj:MT:={λO Q=>Q T1 O,[]}
def AC:M5 K GS bj:=by unhygienic
 intro Γ H O Z A b n Q P d w S q;show q T1 O H A n w S S.kept
def nH:QTs C K [] bj:={_,λ_=>zV,AC}
def z7(h:QT C K c mt):QTs C K [c] mt:=by
 have(t,p,r):=h;show{_,λi=>zW (p i),r}
section
variable {elt tg2 iter2:Expr}{ifs:!Expr}{scope:Pn}
def aQ(j:CK C P W K mg base k)(u:∀i,Blk (C i).env.scope scope (C i).N N' f)(hi:QI C K tg iter it)(E:QG (pF C scope N') K (TV f) tg g)(q:QTs (pF C scope N') K ifs mt)(w:QE (pF C scope N') K elt m)(hs:∀i x,OH iter (C i).env x=pure x:=by intro _ _;rfl) :
  QE C K (.ListComp elt [{tg,iter,ifs,0}] scope pos) (aC f it g mt m):=by
 have(J,s,r):=hi;have(L,h,p,d):=E;have(S,z,G):=q;have(U,B,l):=w;show{_,λi=>zF (j.calm i) (u i) (s i) (λb=>h (i,b)) (d f rfl) (λb=>z (i,b)) (λb=>B (i,b)) (hs i),o8 r (d f rfl) p G l}
def ba(n:Nat)(p:CK C P W K mg base k)(s:∀i,(C i).N.Nodup)(E:∀i,Blk (C i).env.scope scope (C i).N N' f)(hi:QI C K tg iter it)(S:QG (pF C scope N') K (TV f) tg g)(w:QTs (pF C scope N') K ifs mt)(G:QE (pF C scope N') K elt m)(u:∀i,(C i).N[n]?*>x:=by intro _;rfl)(l:∀i,(C i).env.scope.names.lookup x*>.local:=by intro _;rfl)
  (d:∀i,O9 (.ListComp elt [{tg,iter,ifs,0}] scope pos) (TV (.Name x pos')) spos.line (C i).env=pure T1:=by intro _;rfl) (hs:∀i x,OH iter (C i).env x=pure x:=by intro _ _;rfl) :
  QS C K (.Assign [.Name x pos'] (.ListComp elt [{tg,iter,ifs,0}] scope pos) spos) (ax (aC f it g mt m) (ah n)):=by
 have(X,B,z):=hi;have(Y,j,r,h):=S;have(tt,J,U):=w;have(te,L,q):=G;show{_,λi=>qz (p.calm i) (s i) (u i) (l i) (E i) (B i) (λb=>j (i,b)) (h f rfl) (λb=>J (i,b)) (λb=>L (i,b)) (d i) (hs i),nM (o8 z (h f rfl) r U q) jr}
end
end
structure DI(k:Nat)(name:Str)(st:Stmt) where
 f:Addr
 cdv:Nz
 A:NU
 outer:!Env
 s:NC
 H:Hp
 E:XK
 hr:MW k (A.deeper (Pv name (ai st) s.heap.objs.size f cdv))
noncomputable abbrev dC(P:NM) (W:NP) (K:yF) (mg:Str->↑Nz) (base:Heap) (k:Nat) (N:!Str) (name:Str) (st:Stmt):DI k name st->Cx:=λd=>(iJ CX0 P W K mg base N name (ai st) d.f d.cdv d.A d.outer d.s d.H d.E).nox
def az{N:!Str}{name:Str}{st:Stmt}:CK (dC P W K mg base k N name st) P W K mg base k:=
 {λ_=>rfl,λ_=>rfl,λ_=>rfl,λ_=>rfl,λ_=>rfl,λ_=>rfl,λd=>d.hr}
def Def.qp{name:Str}{st:Stmt}{N ps:!Str}(d:Def K mg name st ps)(S:td N ps (ai st)){m:MS}(h:QSs (dC P W K mg base k N name st) K (aP st) m)
  {run:!T->(T->Prop)->Prop} (c:∀ts Q,run ts Q->ts.length=ps.length/\ce m N.length ts Q):Has P W K mg base (k+1) name ps (spP K run):=by
 have(t,p,r):=h;show d.mp S (λf e A a s H E g=>{t,p ⟨f,e,A,a,s,H,E,g⟩,r}) c
def Def.qi{name:Str}{st:Stmt}{N ps:!Str}{j:Nat}(d:Def K mg name st ps)(S:td N ps (ai st)){m:MS}(h:QSs (dC P W K mg base k N name st) K (aP st) m)
  {run:!T->(T->T->Prop)->Prop} (c:∀ts Q,run ts Q->ts.length=ps.length/\fh m j N.length ts Q):Has P W K mg base (k+1) name ps (spI K j run):=by
 have(t,p,r):=h;show d.mi S (λf e A a s H E g=>{t,p ⟨f,e,A,a,s,H,E,g⟩,r}) c
end
section
variable {Γ:Gm}{H H':Hp}{O:Rho}{Z:St}{A:Fam}{v w x y:V}{t s:T}{K:yF}{Q:VK}{b n k:Nat}
private def kX(j:Nat)(o:ME)(lo hi:ME):MG:={λr O Q=>∃c,r={.ow,.li c}/\WE o O λg O1=>WE lo O1 λe h=>IsN e.t λi=>WE hi h λf d=>IsN f.t λn=>∃p a k t,g={.vw (TV j) (TV p),.li a}/\(lo.mu++hi.mu).contains j=TZ/\(0<=i/\i<=n/\n<=a.length/\a.length+c.length<=sizeLine)/\d[j]?*>(TV ⟨k,t⟩)/\k.isOw=T1/\Q ((aB [j] d).set j (TV {k,t.put p (.li (a.take i.toNat++c++a.drop n.toNat))})),(o.mu++(lo.mu++hi.mu))++[j]}
def uq{to tl th:TE}{o lo hi:ME}{j:Nat}(ho:MN K to o)(hl:MN K tl lo)(hh:MN K th hi):Nc K (vt to (sB tl) (sB th)) (kX j o lo hi):=by unhygienic
 intro Γ H O Z A b n k Q v r P f w S hb hk q;obtain⟨J,rfl,w⟩:∃J,r=⟨.ow,.li J⟩/\WE o O _:=w;show ho.w f w S λra O1 x H1 w ⟨A1,l,m1,S1,l1,x1,kp1⟩=>?_;show hl.w f w S1 λrb O2 ya H2 ⟨i,eb,w⟩ ⟨A2,l2,m2,S2,l2',y2,E⟩=>?_;have yi:=S2.rd y2;rw[eb]at yi;show{i,aH yi,?_};show hh.w f w S2 λrc O3 yc H3 ⟨n0,ec,p,xs,kd,t,er,hmv,d,e4,hw,p'⟩ ⟨A3,l3,m3,S3,l3',y3,L⟩=>?_;subst er;have yn:=S3.rd y3;rw[ec]at yn;show{n0,aH yn,?_};have le:=Ik S.le S.bn;have c:=E.tr L;have x3:=c.2 l _ (Ik le l1) x1 (by unfold aL;dsimp[Kd.root];rw[hmv];rfl);have kp:=kp1.tr c;have v3:=kp.2 k _ (Ik S.le hb) hk (bO rfl);have Y:vx Z.length (o.mu++(lo.mu++hi.mu)) n (rm A [k]) m3 A3:={kp.1,λi x l e z=>kp.2 i x l (by unfold rm at e;split at e;cases e;show e) z};subst f;have(G,F,h1,h2,h3,h4,h5):=S3.mut (ks:=[k]) (vs:=[v]) (ts:=[.li J]) Y x3 ⟨v3,trivial⟩ ∅ (λj h=>by rw[ysM h];show{hb,by unfold rm;simp}) e4 hw;have(p0,u,rfl,g1,g,rfl):=j4 h1 λa ha=>h4 a (yaL _ ha);have(z,ez,g3):=uv h2;cases ez;have(X,U,rfl,g4,g5,rfl):=j4 g3 λa ha=>h4 a (yaR _ ha);have B:p0≠X:=λz=>by simp[z]at h3
 show{p0,X,u,U,i,n0,Xr,Xr,Xr,Xr,g1,g4,B,d.1,d.2.1,by rw[g.length];show d.2.2.1,by rw[g.length,g5.length];show d.2.2.2,?_};show gW (Q:=λ_ H'=>Q Z H') (F:=[X]) (v:=.non) (i:=.non) g1 (((g.take _).append g5).append (g.drop _)) cw λv' H' G' a1 a2 a3 a4 a5 _=>?_;have(A4,S4,N,_):=h5.2 H' _ G' a1 a2 a3 a4 a5;show q _ p' Z H' A4 m3 rfl S4 N
abbrev gC(k:Nat):!I->!R
 | []=>[]
 | i::a=>{.ow,.im (.tup [.int k,i])}::gC (k+1) a
def gZ:∀{is:!I} {k i:Nat},(gC k is)[i]?=(is[i]?).map λx=>{.ow,.im (.tup [.int ((k+i:Nat):Int),x])}
 | [],k,i=>by simp[gC]
 | x::is,k,0=>by simp[gC]
 | x::is,k,i+1=>by
  rw[gC,IY,IY,gZ,show k+1+i=k+(i+1) by omega]
def l5:∀{is:!I} {k:Nat},(gC k is).length=is.length
 | [],_=>rfl
 | _::is,k=>by rw[gC,Im,l5,Im]
private def rG(a:MA):MI:={λO Q=>WA a O λd O1=>∃k c,d=[{k,.im (.tup c)}]/\Q [{k,.im (.tup c)}] (gC 0 c) O1,a.mu}
abbrev dh:MS:={λ_ _=>False,[]}
def mL{t:TS}:MX K t dh:=λ_ w _ _=>w.elim
end
section
variable {ι : Type}{C:ι->Cx}{P:NM}{W:NP}{K:yF}{mg:Str->↑Nz}{base:Heap}{k:Nat}
section
variable {a b c e o tg iter:Expr}{es:!Expr}{ma mb mc m mo mi ml mh:ME}{ms:MA}{pos:Pos}{mt mt':MT}{s1 s2:MS}{g g':MG}{gs:MGs}{it it2:MI}{fr:Option ! ↑Nat}
def oZ{st:Stmt}:QS C K st dh:={_,λ_=>wX,mL}
end
end
section
variable {Γ:Gm}{H H':Hp}{O:Rho}{Z:St}{A:Fam}{v w x y:V}{t s:T}{K:yF}{Q:VK}{b n k:Nat}
abbrev AtV(n:Nat)(O:Rho)(Q:R->Prop):Prop:=∃r,O[n]?*>(TV r)/\Q r
private def ae(n:Nat)(c:MA):MA:={λO Q=>∃d,O[n]?*>(TV d)/\WA c O λe a=>AtV n a λr=>Q (rdR n r::e) a,c.mu}
def um{B:TA}{g:MA}{n:Nat}(h2:M2 K B g):M2 K (pi (ym n) B) (ae n g):=by unhygienic
 intro Γ H O Z A b n0 Q P N w S q;obtain⟨u,L,w⟩:∃u,O[n]?*>(TV u)/\WA g O _:=w;have(v,o,_):=S.slot L;show{v,o,h2.w N w S λrs O2 vs G ⟨r,e,p⟩ ⟨A1,ks,m1,h,at1,nd,i,c⟩=>?_};have(v',d,U,k,Y,E,hk2,J,a):=h.var h.kept e;rw[o]at d;cases d;have bn:=S.bn;have le:=S.le;have l:=c.tr a;rw[Iw]at l;show q _ _ (v::vs) G p {U,k::ks,Y,E,{J,at1.kept a (λj f=>by have:=i j f;omega) (IQ.mpr λr _=>hU)},IM.mpr {λz=>?_,nd},λj f=>?_,l}
 .have(y,X):=at1.mem z;have:=h.lt X;omega
 .rcases ycM f with rfl|f;show Ik c.1 hk2;show i j f
def ET{a:Addr}{kd:Kd}{is:!I}:gy Γ b (Ite Γ.K a) [k] [.ref a] [{kd,.im (.tup is)}] (gC 0 is):=λ{H O Z A n} S g=>by
 have(G,f,B,d,h):=bG (S.rd g.1);cases B;show{λi l=>{f,d,by rw[h.length];rw[l5]at l;show l},λi r o=>?_};rw[gZ]at o;have(j,e,rfl):=IB.mp o;have(w,q,c):=h.get e;show{⟨f,w,d,q⟩,λx H' y=>?_};have(p,E,z,rfl,rfl,u):=y;have:=u f d;rw[q]at this;cases this;rw[JS];show S.new S.kept (New.tup z (.cons (by rw[RpI]) (.cons c (by rw[ek]))))
def xD{j:TA}{a:MA}(o:M2 K j a):Nk K (vz K j) (rG a):=by unhygienic
 intro Γ H O Z A b n J P f w S q;show o.w f w S λU O1 vs E ⟨k,N,e,p⟩ g=>?_;subst e f;have(w,rfl,z,l,G,d,r,h,c):=g.one;have(i,u,rfl,B,L):=bG (d.rd h);show{i,u,Xr,B,q _ _ O1 Γ _ [l] [.ref i] E z G p rfl id d ⟨h,trivial⟩ (by exists r) c ET}
private def rJ(i j k:Nat)(a:MA):MS:={λO Q=>WA a O λf O1=>uO f λe d c=>Gu (fb e&&fb d&&bZ O1 i&&ay [i] e&&ay [i] d&&ay [i] c&&bZ O1 j&&ay [j] d&&ay [j] c&&bZ O1 k&&ay [k] c) (Q .nx ((aB [k] ((aB [j] ((aB [i] O1).set i (TV e))).set j (TV d))).set k (TV c))),a.mu++[i,j,k]}
def xK{i j k:Nat}{L:TA}{a:MA}(ha:M2 K L a):MX K (BU i j k L) (rJ i j k a):=by unhygienic
 intro Γ H O Z A b n D P hK w S q;show ha.w hK w S λrs O1 vs H1 ⟨r1,r2,E,e,G,p⟩ ⟨A1,ks,m1,S1,at1,g,l,r⟩=>?_;subst e;dsimp[Ie]at G;obtain⟨⟨⟨⟨⟨⟨⟨⟨⟨⟨U,n2⟩,b1⟩,b2⟩,b3⟩,b4⟩,b5⟩,b6⟩,b7⟩,b8⟩,b9⟩:=G;have(Y,_,v,_,rfl,rfl,x1,h):=at1.cons_inv;have(J,_,w,_,rfl,rfl,x2,o):=h.cons_inv;have(z,_,u,_,rfl,rfl,x3,B):=o.cons_inv;have(rfl,rfl):=B.nil_inv;have h1:=l Y ∅;have h2:=l J ∅;have h3:=l z ∅;have bn:=S.bn;have le:=S.le;dsimp[IM,IH,II,or_false,not_or]at g;have(A2,S2,c):=S1.put1 ⋯ x1 b1 b2;have y3:=c.2 z (u,E) ⋯ (by rw[sj (NS g.1.2)];show x3) b4;have(A3,S3,d):=S2.put1 ⋯ (c.2 J (w,r2) ⋯ (by rw[sj (NS g.1.1)];show x2) b3) (iu b5 (ir U)) b6;rw[IF]at d;have(X,S4,f):=S3.put1 ⋯ (d.2 z (u,E) ⋯ (by rw[sj (NS g.2.1)];show y3) b7) (iu (iu b8 (ir U)) (ir n2)) b9;rw[IF,IF]at f;have N:=vx.tr (vx.rm1 (vx.tr (vx.rm1 (vx.tr (r.rm1 S.ub h1) c) S.ub h2) d) S.ub h3) f;rw[Iy,Iy]at N;show{v,w,u,Xr,q .nx _ p _ H1 X m1 ∅ S4 N}
end
section
variable {ι : Type}{C:ι->Cx}{P:NM}{W:NP}{K:yF}{mg:Str->↑Nz}{base:Heap}{k:Nat}
section
variable {a b c e o tg iter:Expr}{es:!Expr}{ma mb mc m mo mi ml mh:ME}{ms:MA}{pos:Pos}{mt mt':MT}{s1 s2:MS}{g g':MG}{gs:MGs}{it it2:MI}{fr:Option ! ↑Nat}
def cc(n:Nat)(q:QA C K es ms)(r:∀i,(C i).N[n]?*>x:=by intro _;rfl)(h:∀i,Vis (C i).env.scope x:=by first|show λ_=>PR rfl|show λ_=>O7 (PR rfl)|show λ_=>O7 (O7 rfl))(l:(x==("__debug__" : Str))=TZ:=by decide)(f:(x==("__classdict__" : Str))=TZ:=by decide):QA C K (.Name x p::es) (ae n ms):=by
 have(s,c,j,d):=q;show{_,λi=>bD (lc (r i) (h i) l f) (c i) rfl,by rw[aX,j];rfl,um d}
def xc(j:Nat){lo hi:Expr}{s:Pos}(ho:QE C K o mo)(G:QE C K lo ml)(B:QE C K hi mh)
  (w:∀i v,Pu (.Subscript o (.Slice (TV lo) (TV hi) TU s) pos) (C i).env v=(do
   let d <-Ov [v] (eval o (C i).env)
   let l <-Ov [v,d] (eval (.Slice (TV lo) (TV hi) TU s) (C i).env)
   Pj pos
   Ov [v,d,l] (QJ d l v)
   Tf [l,v,d] []):=by intro _ _;rfl):QG C K TU (.Subscript o (.Slice (TV lo) (TV hi) TU s) pos) (kX j mo ml mh):=by
 have(L,p,r):=ho;have(N,E,z):=G;have(J,q,u):=B;show{_,λi=>wv (p i) (nC (E i)) (nC (q i)) (w i),uq r z u,λf h=>by cases h}
def rV(d:CK C P W K mg base k)(T:Bi mg)(f:QA C K [a] ms)(h:∀i,Gl (C i) "enumerate" :=by intro _;rfl)(hs:bh a=TZ:=by rfl):QI C K (.Tuple elts k0 pt) (.Call (.Name "enumerate" p) [a] [] pos) (rG ms):=by
 have(j,q,_,r):=f;show{_,λi=>ieK (d.kk i) (h i) (by rw[d.mg i];show T.b_enumerate) (q i) (aM hs),xD r}
def z5(i j l:Nat){kt k2 pt2}(u:CK C P W K mg base k)(w:∀i,(C i).N.Nodup)(q:QA C K [a,b,c] ms)(hi:∀n,(C n).N[i]?*>x:=by intro _;rfl)(E:∀n,(C n).N[j]?*>y:=by intro _;rfl)(G:∀n,(C n).N[l]?*>z:=by intro _;rfl)(f:i≠j:=by decide)(d:i≠l:=by decide)(h:j≠l:=by decide)
  (s:∀n,(C n).env.scope.names.lookup x*>.local:=by intro _;rfl) (B:∀n,(C n).env.scope.names.lookup y*>.local:=by intro _;rfl) (hz:∀n,(C n).env.scope.names.lookup z*>.local:=by intro _;rfl)
  (J:∀n,Pg [.Tuple [.Name x px,.Name y py,.Name z pz] kt pt] (.Tuple [a,b,c] k2 pt2) (C n).env=pure (TV [x,y,z]):=by intro _;rfl)
  (hs:∀n,Pf [.Tuple [.Name x px,.Name y py,.Name z pz] kt pt] (.Tuple [a,b,c] k2 pt2) pos.line (C n).env=pure TZ:=by intro _;rfl) :
  QS C K (.Assign [.Tuple [.Name x px,.Name y py,.Name z pz] kt pt] (.Tuple [a,b,c] k2 pt2) pos) (rJ i j l ms):=by
 have(L,p,_,r):=q;show{_,λn=>zS (u.calm n) (w n) (hi n) (E n) (G n) f d h (s n) (B n) (hz n) (p n) (J n) (hs n),xK r}
def iw{st:!Stmt}:QSs C K st dh:={λ_ _ _=>False,λ_ _ _ _ _ _ _ h=>h.elim,@mL _ _}
end
end
section
variable {ι : Type}{C:ι->Cx}{P:NM}{W:NP}{K:yF}{mg:Str->↑Nz}{base:Heap}{k:Nat}
section
variable {Γ:Gm}{H:Hp}{O:Rho}{Z:St}{A A0:Fam}{b n m:Nat}{M ks:!Nat}
abbrev fgt(i:Nat) (O:Rho):Rho:=(aB [i] O).set i TU
def Sim.fgt(S:Sim Γ H O Z A b m)(d:vx Z.length M n A0 m A)(i:Nat):∃A',Sim Γ H (L2.fgt i O) Z A' b m/\vx Z.length (M++[i]) n A0 m A':=by
 unfold L2.fgt;by_cases q:i<Z.length
 .have(B,o):=S.drop (M:=[i]) (ks:=[]) d ∅ ∅ (λ_ _=>hZ) (by simp[cV]) (by exists q);show{_,B,o}
 .rw[List.set_eq_of_length_le (by rw[cV,<-S.len];omega)];have(F,g):=S.sm
  let A':Fam:=λj=>if j<Z.length then loc (aB [i] O) Z j else A j
  have c:∀{j x},A' j*>x->A j*>x:=λ{j x} h=>by
   by_cases a:j<Z.length
   .have J:loc (aB [i] O) Z j*>(x.1,x.2):=(if_pos a).symm.trans h;have(G,z):=MP.mp J;rw[S.lo j a];show MP.mpr {(Na.mp G).1,z}
   .show(if_neg a).symm.trans h
  show{A',{{F,g.sub (λj x h=>c h) λj x l h e=>?_},λj a=>if_pos a,λj r h=>S.al j r (Na.mp h).1,by rw[cV];show S.len,S.le,S.bn,λj x l h e=>S.rt j x l (c h) e,λj a=>(if_neg (by have:=S.le;have:=S.bn;omega)).trans (S.ub j a)},d.1,λj x l h k=>(if_neg ⋯).trans (d.2 j x l h (me inl k))};have(w,s,f,E):=g.root (c (show A' j*>(x.1,x.2)from h)) e;by_cases a:l<Z.length
  .have(u,p):=S.nm a f;rw[f];show(if_pos a).trans (MP.mpr {Na.mpr {u,bO E},p})
  .show if_neg a
abbrev fgts:!Nat->Rho->Rho
 | [],O=>O
 | i::ks,O=>fgts ks (fgt i O)
def Sim.fgts:∀{ks:!Nat} {O:Rho} {A:Fam} {M:!Nat},Sim Γ H O Z A b m->vx Z.length M n A0 m A->∃A',Sim Γ H (L2.fgts ks O) Z A' b m/\vx Z.length (M++ks) n A0 m A'
 | [],O,A,M,S,a=>{A,S,a.sub inl}
 | i::ks,O,A,M,S,a=>by
  have(h,f,d):=S.fgt a i;have(g,e,c):=Sim.fgts (ks:=ks) f d;rw[Iy]at c;show⟨g,e,c⟩
@[irreducible] def Ch(ks:!Nat)(Q:Fl->Rho->Prop):Fl->Rho->Prop
 | .nx,O=>Q .nx (fgts ks O)
 | .ct,O=>Q .ct (fgts ks O)
 | .rt t,O=>Q (.rt t) O
 | .bk,O=>Q .bk O
private def dF(ks:!Nat)(s:MS):MS:={λO Q=>WS s O (Ch ks Q),s.mu++ks}
def Am{ts:TS}{s:MS}(h:MX K ts s):MX K ts (dF ks s):=by unhygienic
 intro Γ H O Z A b n D P j w S q;show h.w j w S λf O1 p=>?_;have c:∀{R:St->Hp->Prop},Af Γ (fgts ks O1) A b n Z.length (s.mu++ks) R->Af Γ O1 A b n Z.length s.mu R:=λz g H' r m a d i=>by
  have(l,e,o):=Sim.fgts (ks:=ks) d (a▸i);show z g H' l m a e (a▸o)
 cases f with
 | nx=>show c (q .nx _ p)
 | ct=>show c (q .ct _ p)
 | rt t=>show q (.rt t) O1 p
 | bk=>show Af.sub (q .bk O1 p) inl
def z6(ks:!Nat){st:!Stmt}{s:MS}(h:QSs C K st s):QSs C K st (dF ks s):=by
 have(t,p,r):=h;show{t,p,Am r}
end
end
abbrev uJ(rs:!R)(Q:Int->Prop):Prop:=∃n,rs.map (·.t)=[.im (.int n)]/\Q n
abbrev B1(rs:!R)(Q:Int->Int->Prop):Prop:=∃m n,rs.map (·.t)=[.im (.int m),.im (.int n)]/\Q m n
def HD(q:Q b):IsB (.im (.bl b)) Q:=⟨b,Xr,q⟩
def HF(q:Q n):IsN (.im (.int n)) Q:=⟨n,Xr,q⟩
def pE(h : O[n]?*>(TV r))(q:Q r):AtV n O Q:=⟨r,h,q⟩
def B4(d:rs[k]?*>{.vw (TV j) (TV p),t1})(e:((Ip rs.length).all λm=>decide (m=k)||ay [j] (rs.getD m ⟨.ow,.im .non⟩))=T1)(c : O[j]?*>(TV ⟨kd,t0⟩))(a:kd.isOw=T1)(q:Q p kd t0):AtC k j rs O Q:=⟨p,t1,kd,t0,d,e,c,a,q⟩
def B5(h : O[l]?*>(TV ⟨k,t⟩))(ho:k.isOw=T1)(q:Q k t):AtM l O Q:=⟨k,t,h,ho,q⟩
def Ho(q:Q p s):AtS j {.vw (TV j) (TV p),s} Q:=⟨p,s,Xr,q⟩
def EA(q:Q r1 r2):Two [r1,r2] Q:=⟨r1,r2,Xr,q⟩
def yq(q:Q r1 r2 r3):uO [r1,r2,r3] Q:=⟨r1,r2,r3,Xr,q⟩
def rA(h:rs.map (·.t)=[.im (.int n)])(q:Q n):uJ rs Q:=⟨n,h,q⟩
def zd(h:rs.map (·.t)=[.im (.int m),.im (.int n)])(q:Q m n):B1 rs Q:=⟨m,n,h,q⟩
section
variable {α β:Type}{O:Rho}{a b c m:ME}{ms:MA}{ct ct':MT}{s1 s2:MS}{g:MG}{gs:MGs}{it:MI}{QE':R->Rho->Prop}{QT':Bool->Rho->Prop}{QA':!R->Rho->Prop}{Q:Fl->Rho->Prop}{QG':Rho->Prop}{P:Prop}{o:↑α}{x : α}{Q1 : α->Prop}
def w1(h:o*>x)(q:Q1 x):W1 o Q1:=⟨x,h,q⟩
def gu{b:Bool}(h:b=T1)(p:P):Gu b P:=⟨h,p⟩
def w_C(q:QE' {.ow,.im i} O):WE (mC i) O QE':=by unhygienic show C2.of q
def gv(h : O[n]?*>(TV r))(q:QE' (rdR n r) O):WE (ag n) O QE':=by unhygienic show C2.of {_,h,q}
def qU(h:WE a O λd O1=>WE b O1 λe i=>Gu (ay b.mu d) (W1 (f d.t e.t) λt=>QE' {.ow,t} i)):WE (mOp f a b) O QE':=by unhygienic show C2.of h
def HY(h:WE a O λd O1=>W1 (f d.t) λt=>QE' {.ow,t} O1):WE (mUn f a) O QE':=by unhygienic show C2.of h
def w_B(h:WA ms O λrs O1=>W1 (f (rs.map (·.t))) λt=>QE' {.ow,t} O1):WE (mB f ms) O QE':=by unhygienic show C2.of h
def w_F{run:!T->(T->Prop)->Prop}(h:WA ms O λrs O1=>C1 (run (rs.map (·.t))) λt=>QE' {.ow,t} O1):WE (mF run ms) O QE':=by unhygienic show C2.of h
def w_M(h:WE a O λd O1=>Gu (tyT T0 d.t) (WA ms O1 λrs e=>Gu (ay ms.mu d) (W1 (f d.t (rs.map (·.t))) λt=>QE' {.ow,t} e))):WE (mM T0 f a ms) O QE':=by unhygienic show C2.of h
def G5(h:WT ct O λd O1=>(d=T1->WE a O1 QE')/\(d=TZ->WE b O1 QE')):WE (zm ct a b) O QE':=by unhygienic show C2.of h
def yA(h:WE a O λd O1=>WE b O1 λe f=>Gu (ay b.mu d) (W1 (ixR d e.t) λr=>QE' r f)):WE (mIx a b) O QE':=by unhygienic show C2.of h
def AZ(q:QO' TU O):WO bF O QO':=by unhygienic show C2.of q
def A8(h:WE a O λr O1=>IsN r.t λn=>QO' (TV n) O1):WO (dU a) O QO':=by unhygienic show C2.of h
def HW{lo hi:MO}(h:WE a O λd O1=>WO lo O1 λl e=>WO hi e λu f=>Gu (ay (lo.mu++hi.mu) d) (W1 (slR d l u) λr=>QE' r f)):WE (mSl a lo hi) O QE':=by unhygienic show C2.of h
def ED(h:WE a O λr O1=>IsB r.t λd=>(d=T1->WE b O1 QE')/\(d=TZ->QE' {.ow,.im (.bl TZ)} O1)):WE (mz a b) O QE':=by unhygienic show C2.of h
def EL(h:WE a O λr O1=>IsB r.t λd=>QE' {.ow,.im (.bl (~~~d))} O1):WE (rH a) O QE':=by unhygienic show C2.of h
def yC(h:WA ms O λrs O1=>Gu (decide (rs.length<=1000)) (W2 (consL mv rs O1) λts d=>QE' {.ow,de ts} d)):WE (aR mv ms) O QE':=by unhygienic show C2.of h
def yG(h:WA ms O λrs O1=>Gu (decide (rs.length<=1000)) (W2 (consL mv rs O1) λts d=>QE' {.ow,oN ts} d)):WE (aq mv ms) O QE':=by unhygienic show C2.of h
def nZ{k j:Nat}{run:!T->(T->T->Prop)->Prop}(h:WA ms O λrs O1=>AtC k j rs O1 λp kd e=>C2 (run (rs.map (·.t))) λt d=>QE' {.ow,t} ((aB [j] O1).set j (TV {kd,e.put p d}))):WE (ak k j run ms) O QE':=by unhygienic show C2.of h
def yD(h:WE a O λd O1=>Gu (tyT T0 d.t) (WA ms O1 λrs e=>Gu (ay ms.mu d) (W2 (mutR l mv f d rs e) QE'))):WE (db T0 l mv f a ms) O QE':=by unhygienic show C2.of h
def EJ(h:WE a O λd O1=>Gu (tyT T0 d.t) (W2 (mutR l [] f d [] O1) QE')):WE (jf T0 l f a) O QE':=by unhygienic show C2.of h
def qT(r:mv.contains l=TZ)(h:W2 (consL mv rs O) λts i=>AtM l i λk t=>W2 (f s ts) λj d=>QQ {.ow,.im d} ((aB [l] i).set l (TV {k,t.put p j}))):W2 (mutR l mv f {.vw (TV l) (TV p),s} rs O) QQ:=by
 obtain⟨ts,i,z,k,t,u,w,j,d,e,q⟩:=h;show{_,_,?_,q};unfold mutR;dsimp[decide_true,r,z,e,u,w,Bool.not_false,Lx,if_true]
def lG(q:QA' [] O):WA af O QA':=by unhygienic show C2.of q
def n8(h:WE m O λr O1=>WA ms O1 λrs d=>Gu (ay ms.mu r) (QA' (r::rs) d)):WA (aa m ms) O QA':=by unhygienic show C2.of h
def eJ(e : O[n]?*>(TV r0))(h:WA ms O λrs d=>AtV n d λr=>QA' (rdR n r::rs) d):WA (ae n ms) O QA':=by unhygienic show C2.of {_,e,h}
def Ba(h:WE a O λr O1=>IsB r.t λd=>QT' d O1):WT (aA a) O QT':=by unhygienic show C2.of h
def lJ(h:WE a O λr O1=>W1 (tru r.t) λd=>QT' d O1):WT (vQ a) O QT':=by unhygienic show C2.of h
def lI(h:WT ct O λd O1=>QT' (~~~d) O1):WT (pY ct) O QT':=by unhygienic show C2.of h
def EZ(h:WT ct O λd O1=>(d=T1->WT ct' O1 QT')/\(d=TZ->QT' TZ O1)):WT (oA ct ct') O QT':=by unhygienic show C2.of h
def Hi(h:WT ct O λd O1=>(d=T1->QT' T1 O1)/\(d=TZ->WT ct' O1 QT')):WT (mOr ct ct') O QT':=by unhygienic show C2.of h
def lK(q:QT' T1 O):WT bj O QT':=by unhygienic show C2.of q
def AX(h:(bZ O i&&ay [i] r)=T1)(q:QG' ((aB [i] O).set i (TV r))):WG (ah i) r O QG':=by unhygienic show C1.of ⟨h,q⟩
def AY(q:QG' O):WGs bI [] O QG':=by unhygienic show C1.of ⟨Xr,q⟩
def yJ(d:rs.all (ay g.mu)=T1)(h:WG g r O λO1=>WGs gs rs O1 QG'):WGs (au g gs) (r::rs) O QG':=by unhygienic show C1.of ⟨d,h⟩
def EW(hp:parts r*>rs)(d:rs.length=n)(h:WGs gs rs O QG'):WG (bJ n gs) r O QG':=by unhygienic show C1.of {_,hp,d,h}
def EV{f:T->T->T->↑T}(h:WE a O λl O1=>WE b O1 λe d=>AtS j l λp s=>Gu (~~~b.mu.contains j) (AtM j d λk t=>W1 (f s e.t tv) λi=>QG' ((aB [j] d).set j (TV {k,t.put p i})))):WG (vP f j a b) {.ow,tv} O QG':=by unhygienic show C1.of {_,Xr,h}
def yI(h:WE a O λq O1=>WE b O1 λe l=>IsN e.t λi=>WE c l λf d=>IsN f.t λn=>∃p xs k t,q={.vw (TV j) (TV p),.li xs}/\(b.mu++c.mu).contains j=TZ/\(0<=i/\i<=n/\n<=xs.length/\xs.length+ys.length<=sizeLine)/\d[j]?*>(TV ⟨k,t⟩)/\k.isOw=T1/\QG' ((aB [j] d).set j (TV {k,t.put p (.li (xs.take i.toNat++ys++xs.drop n.toNat))}))):WG (kX j a b c) {.ow,.li ys} O QG':=by unhygienic show C1.of {_,Xr,h}
def EK(q:Q .nx O):WS aV O Q:=by unhygienic show C2.of q
def lF(h:WS s1 O (yY s2 Q)):WS (ao s1 s2) O Q:=by unhygienic show C2.of h
def aF(h:WT ct O λd O1=>(d=T1->WS s1 O1 Q)/\(d=TZ->WS s2 O1 Q)):WS (mIf ct s1 s2) O Q:=by unhygienic show C2.of h
def qS(h:WE m O λ_ O1=>Q .nx O1):WS (bB m) O Q:=by unhygienic show C2.of h
def GZ(h:WE m O λr O1=>WG g r O1 λd=>Q .nx d):WS (ax m g) O Q:=by unhygienic show C2.of h
def Hb(h:WE m O λr O1=>W2 (ut r O1) λt d=>Q (.rt t) d):WS (aT m) O Q:=by unhygienic show C2.of h
def G3{i:Nat}{f:Int->Int->Int}{k:Kd}{x:Int}(d : O[i]?*>(TV {k,.im (.int x)}))(h:WE m O λr O1=>IsN r.t λy=>Gu (bZ O1 i) (Q .nx ((aB [i] O1).set i (↥(.int (f x y)))))):WS (zk i f m) O Q:=by unhygienic show C2.of {_,_,d,h}
def Ha(h:WA ms O λrs O1=>Two rs λe d=>Gu (fb e&&fb d) (Gu (bZ O1 i&&ay [i] e&&ay [i] d&&bZ O1 j&&ay [j] d) (Q .nx ((aB [j] ((aB [i] O1).set i (TV e))).set j (TV d))))):WS (j3 i j ms) O Q:=by unhygienic show C2.of h
def ER(h:WA ms O λrs O1=>uO rs λf d e=>Gu (fb f&&fb d&&bZ O1 i&&ay [i] f&&ay [i] d&&ay [i] e&&bZ O1 j&&ay [j] d&&ay [j] e&&bZ O1 k&&ay [k] e) (Q .nx ((aB [k] ((aB [j] ((aB [i] O1).set i (TV f))).set j (TV d))).set k (TV e)))):WS (rJ i j k ms) O Q:=by unhygienic show C2.of h
def G4(h:WS s1 O (Ch ks Q)):WS (dF ks s1) O Q:=by unhygienic show C2.of h
def sN(h:WA ms O λrs O1=>∃n:Int,rs.map (·.t)=[.im (.int n)]/\(-(2^62)<=n/\n<2^62)/\QI' [Ah] (kg 0 n.toNat) O1):WI (aS ms) O QI':=by unhygienic show WI.of h
def sO(h:WA ms O λrs O1=>∃m n:Int,rs.map (·.t)=[.im (.int m),.im (.int n)]/\(-(2^62)<=m/\m<2^62/\-(2^62)<=n/\n<2^62)/\QI' [Ah] (kg m (n-m).toNat) O1):WI (jg ms) O QI':=by unhygienic show WI.of h
def yK(h:WE m O λr O1=>W1 (fN r) λrs=>QI' [r] rs O1):WI (mIt m) O QI':=by unhygienic show WI.of h
def sM(h:WA ms O λrs O1=>∃k is,rs=[{k,.im (.tup is)}]/\QI' [{k,.im (.tup is)}] (gC 0 is) O1):WI (rG ms) O QI':=by unhygienic show WI.of h
def sK(h:WI it O λd items O1=>Gu (d.all (ay (g.mu++s1.mu))&&items.all (ay (g.mu++s1.mu))) (∃Inv:Nat->Rho->Prop,Inv 0 O1/\(∀i r O,items[i]?*>r->Inv i O->WG g r O λO1=>WS s1 O1 (tq Inv i Q))/\∀O,Inv items.length O->Q .nx O)):WS (cQ it g s1) O Q:=by unhygienic show C2.of h
def kj{M:!Nat}{items:!R}(h:∀r∈items,r.k=.ow):items.all (ay M)=T1:=IQ.mpr λr d=>by unfold ay aL;rw[h r d];rfl
def EF{i:Nat}(h:WA ms O λrs O1=>∃n:Int,rs.map (·.t)=[.im (.int n)]/\-(2^62)<=n/\n<2^62/\(∃Inv:Nat->Rho->Prop,Inv 0 O1/\(∀(j:Nat) O,(j:Int)<n->Inv j O->WG (ah i) (ll j) O λO1=>WS s1 O1 (tq Inv j Q))/\∀O,Inv n.toNat O->Q .nx O)):WS (cQ (aS ms) (ah i) s1) O Q:=by
 show sK (sN (h.mono λrs O1 ⟨n,q,B,w,Inv,l,s,u⟩=>{n,q,⟨B,w⟩,?_,Inv,l,λj r O e d=>?_,λO d=>u O (by simpa[kg]using d)}))
 .rw[Ie];show{Xr,kj λr e=>by have(x,_,rfl):=ID.mp e;rfl}
 .have(x,p,rfl):=ar e;have(z,f):=Ib.mp p;simp at z f;subst f;have:=s j O ⋯ d;rw[Mx];show this
def AT{i:Nat}(h:WA ms O λrs O1=>∃m n:Int,rs.map (·.t)=[.im (.int m),.im (.int n)]/\(-(2^62)<=m/\m<2^62/\-(2^62)<=n/\n<2^62)/\(∃Inv:Nat->Rho->Prop,Inv 0 O1/\(∀(j:Nat) O,m+(j:Int)<n->Inv j O->WG (ah i) (ll (m+j)) O λO1=>WS s1 O1 (tq Inv j Q))/\∀O,Inv (n-m).toNat O->Q .nx O)):WS (cQ (jg ms) (ah i) s1) O Q:=by
 show sK (sO (h.mono λrs O1 ⟨m,n,q,z,Inv,l,s,u⟩=>{m,n,q,z,?_,Inv,l,λj r O e d=>?_,λO d=>u O (by simpa[kg]using d)}))
 .rw[Ie];show{Xr,kj λr e=>by have(x,_,rfl):=ID.mp e;rfl}
 .have(x,p,rfl):=ar e;have(w,f):=Ib.mp p;simp at w f;subst f;show s j O ⋯ d
def EE(h:WE m O λr O1=>∃is:!I,fN r*>(is.map λi=>{.ow,.im i})/\ay (g.mu++s1.mu) r=T1/\(∃Inv:Nat->Rho->Prop,Inv 0 O1/\(∀j x O,is[j]?*>x->Inv j O->WG g {.ow,.im x} O λO1=>WS s1 O1 (tq Inv j Q))/\∀O,Inv is.length O->Q .nx O)):WS (cQ (mIt m) g s1) O Q:=by
 show sK (yK (h.mono λr O1 ⟨is,p,u,Inv,f,q,s⟩=>{_,p,?_,Inv,f,λj r O e d=>?_,λO d=>s O (by exists d)}))
 .rw[Ie];show{by rw[JX,LJ,u];rfl,kj λr e=>by have(x,_,rfl):=ID.mp e;rfl}
 .have(x,l,rfl):=ar e;show q j x O l d
def AV(Inv:Nat->Rho->Prop)(n:Nat)(e:Inv n O)(hs:∀n O,Inv n O->WT ct O λd O1=>(d=TZ->Q .nx O1)/\(d=T1->WS s1 O1 (Ci (λf=>∃m,m<n/\Inv m f) Q))):WS (jF ct s1) O Q:=by unhygienic show C2.of ⟨Inv,n,e,hs⟩
def jV{fr:! ↑Nat} (h:WI it O λe items O1=>Gu (eV fr O1.length&&fB (g.mu++(ct.mu++m.mu)) fr.length&&e.all (ay (muF fr (g.mu++(ct.mu++m.mu))))) (items.length<sizeLine/\∃Inv:Nat->!T->Rho->Prop,Inv 0 [] O1 /\
  (∀i r d O,items[i]?*>r->Inv i d O->WG g (dz (piF fr) r) (inR fr O) λO1=>WT ct O1 λf j=>(f=T1->WE m j λr l=>∃t,r={.ow,t}/\Inv (i+1) (d++[t]) (fe fr (g.mu++(ct.mu++m.mu)) l O))/\(f=TZ->Inv (i+1) d (fe fr (g.mu++(ct.mu++m.mu)) j O))) /\
  ∀d O,Inv items.length d O->QE' {.ow,de d} O)):WE (aC fr it g ct m) O QE':=by unhygienic show C2.of h
end
section
variable {α β:Type}{O:Rho}{QT1:T->Prop}{QR:R->Prop}{QI1:T->I->Prop}{m:MS}{n k:Nat}{ts:!T}
def sr{run:!T->(T->Prop)->Prop}{l:Nat}(a:run ts=λQ=>ts.length=l/\ce m n ts Q)(c:ts.length=l)(h:WS m (dm ts n) (fP QT1)):C1 (run ts) QT1:=C1.of (by rw[a];show⟨c,h⟩)
def iE{run:!T->(T->T->Prop)->Prop}{l:Nat}{c:T->T->Prop}(a:run ts=λQ=>ts.length=l/\fh m k n ts Q)(d:ts.length=l)(h:WS m (f6 k ts n) (fI k c)):C2 (run ts) c:=C2.of (by rw[a];show⟨d,h⟩)
variable {a b:Int}{s z:Str}{is js:!I}{i j:I}
def C7(q:QT1 (.im (.int (a+b)))):W1 (aW (.im (.int a)) (.im (.int b))) QT1:=by unhygienic show{_,Xr,q}
def k9(h:s.length+z.length<=sizeLine)(q:QT1 (.im (.str (s++z)))):W1 (aW (.im (.str s)) (.im (.str z))) QT1:=by unhygienic show{_,if_pos h,q}
def lb(h:is.length+js.length<=sizeLine)(q:QT1 (.im (.tup (is++js)))):W1 (aW (.im (.tup is)) (.im (.tup js))) QT1:=by unhygienic show{_,if_pos h,q}
def jI(h:is.length+js.length<=sizeLine)(q:QT1 (.li (is++js))):W1 (aW (.li is) (.li js)) QT1:=by unhygienic show{_,if_pos h,q}
def F4(q:QT1 (.im (.int (a-b)))):W1 (bH (.im (.int a)) (.im (.int b))) QT1:=by unhygienic show{_,Xr,q}
def gJ(c : -(2^64)<a)(d:a<2^64):j5 a b=T1:=by unfold j5;dsimp[c,d,decide_true,Lx,Mr]
def HI(c : -(2^64)<b)(d:b<2^64):j5 a b=T1:=by unfold j5;dsimp[c,d,decide_true,Lx,KR]
def cS(h:j5 a b=T1)(q:QT1 (.im (.int (a*b)))):W1 (bW (.im (.int a)) (.im (.int b))) QT1:=by unhygienic show{_,if_pos h,q}
def wf(h:is≠[]/\is.length<=1000/\1<=b/\b<=1000)(q:QT1 (.im (.tup (Ih b.toNat is).flatten))):W1 (bW (.im (.tup is)) (.im (.int b))) QT1:=by unhygienic show{_,if_pos {h.1,h.2.1,Ms (by decide) h.2.2.1,h.2.2.2},q}
def we(h : -(2^63)<=b/\b<2^63/\is.length*b.toNat<=sizeLine)(q:QT1 (.li (Ih b.toNat is).flatten)):W1 (bW (.li is) (.im (.int b))) QT1:=by unhygienic show{_,if_pos h,q}
def Da(h:0<b/\b<2^64)(q:QT1 (.im (.int (a / b)))):W1 (iM (.im (.int a)) (.im (.int b))) QT1:=by unhygienic show{_,if_pos h,q}
def wd(h:0<b)(q:QT1 (.im (.int (a % b)))):W1 (fD (.im (.int a)) (.im (.int b))) QT1:=by unhygienic show{_,if_pos h,q}
def Bu(h:0<=b/\b<=1000000/\a.natAbs<2^64)(q:QT1 (.im (.int (a^b.toNat)))):W1 (t7 (.im (.int a)) (.im (.int b))) QT1:=by unhygienic show{_,if_pos h,q}
def FY(q:QT1 (.im (.int (-a)))):W1 (qg (.im (.int a))) QT1:=by unhygienic show{_,Xr,q}
def FL(q:QT1 (.im (.bl (p a b)))):W1 (gA p (.im (.int a)) (.im (.int b))) QT1:=by unhygienic show{_,Xr,q}
def FM(q:QT1 (.im (.bl (decide (a=b))))):W1 (eqT (.im (.int a)) (.im (.int b))) QT1:=by unhygienic show{_,Xr,by simpa using q}
def FX(q:QT1 (.im (.bl (~~~decide (a=b))))):W1 (neT (.im (.int a)) (.im (.int b))) QT1:=by unhygienic show{_,Xr,by simpa using q}
def FO(q:QT1 (.im (.bl (decide (s=z))))):W1 (eqT (.im (.str s)) (.im (.str z))) QT1:=by unhygienic show{_,Xr,by simpa using q}
def FN(h:I.doks is=T1/\I.doks js=T1/\I.deps is<=50)(q:QT1 (.im (.bl (decide (is=js))))):W1 (eqT (.li is) (.li js)) QT1:={_,by dsimp[eqT,eqB,eqL];rw[if_pos h];rfl,q}
def Bn(h:i.dok=T1/\I.doks is=T1/\I.deps is<=50):inB (.im i) (.im (.tup is))*>(decide (i∈is)):=by cases i<;>show if_pos h
def FP(h:i.dok=T1/\I.doks is=T1/\I.deps is<=50)(q:QT1 (.im (.bl (decide (i∈is))))):W1 (inT (.im i) (.im (.tup is))) QT1:={_,by unfold inT;rw[Bn h];rfl,q}
def qq(h:i.dok=T1/\I.doks is=T1/\I.deps is<=50)(q:QT1 (.im (.bl (~~~decide (i∈is))))):W1 (oP (.im i) (.im (.tup is))) QT1:={_,by unfold oP;rw[Bn h];rfl,q}
def De(h:s.length<=sizeLine)(q:QT1 (.im (.int s.length))):W1 (cy [.im (.str s)]) QT1:=by unhygienic show{_,if_pos h,q}
def Df(q:QT1 (.im (.int is.length))):W1 (cy [.im (.tup is)]) QT1:=by unhygienic show{_,Xr,q}
def Dd(q:QT1 (.im (.int is.length))):W1 (cy [.li is]) QT1:=by unhygienic show{_,Xr,q}
def zB(q:QT1 (.im (.int us.length))):W1 (cy [.lst us]) QT1:=by unhygienic show{_,Xr,q}
def FW(q:QT1 (.im (.int (if b<a then b else a)))):W1 (oM [.im (.int a),.im (.int b)]) QT1:=by unhygienic show{_,Xr,q}
def FV(q:QT1 (.im (.int (if b>a then b else a)))):W1 (oJ [.im (.int a),.im (.int b)]) QT1:=by unhygienic show{_,Xr,q}
def Db(q:QT1 (.im (.int (if c then 1 else 0)))):W1 (on [.im (.bl c)]) QT1:=by unhygienic show{_,Xr,q}
def Do(q:QT1 (.im (.tup is))):W1 (dg [.li is]) QT1:=by unhygienic show{_,Xr,q}
def Dh(q:QT1 (.li is)):W1 (vL [.li is]) QT1:=by unhygienic show{_,Xr,q}
def FZ(q:QT1 (.im (.tup is.reverse))):W1 (xS (.im (.tup is))) QT1:=by unhygienic show{_,Xr,q}
def B3{xs:!α}{x : α}{n:Nat}{i:Int}(hi:i=n)(h:xs[n]?*>x):atI xs i*>x:=by
 subst hi;have:=(Ib.mp h).1;unfold atI ixN;rw[if_pos ⋯,if_pos ⋯];exists h
def pD{xs:!α}{i:Int}(c:0<=i)(d:i<xs.length):∃x,atI xs i*>x/\xs[i.toNat]?*>x:=by
 have:i.toNat<xs.length:=by omega
 show{xs[i.toNat],B3 (n:=i.toNat) ⋯ (Ix this),Ix this}
def Bt(h:atI is a*>x)(q:QR {.ow,.im x}):W1 (ixR {kd,.im (.tup is)} (.im (.int a))) QR:={_,by dsimp[ixR,isI,ixX,ixI,h,JG],q}
def Bs(h:atI is a*>x)(q:QR {.ow,.im x}):W1 (ixR {kd,.li is} (.im (.int a))) QR:={_,by dsimp[ixR,isI,ixX,ixI,h,JG],q}
def wc{kd:Kd}(c:0<=a)(d:a<is.length)(q:∀x,is[a.toNat]?*>x->QR {.ow,.im x}):W1 (ixR {kd,.im (.tup is)} (.im (.int a))) QR:=by
 have(x,h,e):=pD c d;show Bt h (q x e)
def wb{kd:Kd}(c:0<=a)(d:a<is.length)(q:∀x,is[a.toNat]?*>x->QR {.ow,.im x}):W1 (ixR {kd,.li is} (.im (.int a))) QR:=by
 have(x,h,e):=pD c d;show Bs h (q x e)
def qm{kd:Kd}(hz:s.length<=sizeLine)(d:0<=a)(e:a<(sL s).length)(q:∀c,(sL s)[a.toNat]?*>c->QR {.ow,.im (.str {#[c]})}):W1 (ixR {kd,.im (.str s)} (.im (.int a))) QR:=by
 have(x,h,f):=pD d e;show{_,by dsimp[ixR,isI,ixX,ixI,if_pos hz,h,JG],q x f}
def qk(d:0<=a)(c:us[a.toNat]?*>u)(f:∀i,u ≠ .im i)(e:ixK (.vw ro p) (TV (.ix a.toNat))*>kd)(q:QR ⟨kd,u⟩):W1 (ixR {.vw ro p,.lst us} (.im (.int a))) QR:=by
 have g:=(Ib.mp c).1;show{⟨kd,u⟩,?_,q};unfold ixR;have:ixN us.length a*>a.toNat:=by unfold ixN;rw[if_pos d,if_pos ⋯]
 dsimp[isI,ixX,this,c,J4];cases u with
 | im i=>show absurd rfl (f i)
 | _=>dsimp[ixP,e]
def qr(c:a=n)(h:n<is.length)(q:QT1 (.li (is.set n i))):W1 (AG (.li is) (.im (.int a)) (.im i)) QT1:=by
 subst c;show{_,?_,q};unfold AG;have:ixN is.length (n:Int)*>n:=by unfold ixN;rw[if_pos ⋯,if_pos ⋯];simp
 dsimp[this]
def bC(h:is.length<sizeLine)(q:QI1 (.li (is++[i])) .non):W2 (apT (.li is) [.im i]) QI1:=by unhygienic show{_,_,if_pos h,q}
def C9(h:is.length+js.length<=sizeLine)(q:QI1 (.li (is++js)) .non):W2 (vn (.li is) [.im (.tup js)]) QI1:=by unhygienic show{_,_,if_pos h,q}
def mJ(q:QI1 (.li is) i):W2 (lf (.li (is++[i])) []) QI1:={_,_,by simp[lf],q}
def Br(h:0<=a/\a<=is.length/\is.length<sizeLine)(q:QI1 (.li (is.take a.toNat++i::is.drop a.toNat)) .non):W2 (pS (.li is) [.im (.int a),.im i]) QI1:=by unhygienic show{_,_,if_pos h,q}
def F3{kd:Kd}{lo hi:↑Int}(q:QR {.ow,.li (bS is lo hi)}):W1 (slR {kd,.li is} lo hi) QR:={_,by dsimp[slR,slX,slI,slX],q}
def gr{kd:Kd}{lo hi:↑Int}(h:¬(HT.sIx is.length 0 lo=0/\HT.sIx is.length is.length hi=is.length))(q:QR {.ow,.im (.tup (bS is lo hi))}):W1 (slR {kd,.im (.tup is)} lo hi) QR:={_,by dsimp[slR,slX,slI,slX];rw[if_neg h],q}
def wg{kd:Kd}{lo hi:↑Int}(h:s.length<=sizeLine)(q:QR {.ow,.im (.str (oL (bS (sL s) lo hi)))}):W1 (slR {kd,.im (.str s)} lo hi) QR:={_,by dsimp[slR,slX,slI,slX];rw[if_pos h],q}
def Dl(q:Q2 t O):W2 (ut {.ow,t} O) Q2:=by unhygienic show{_,_,Xr,q}
def Dm(h : O[n]?*>(⇑t'))(q:Q2 t ((aB [n] O).set n TU)):W2 (ut {.vw (TV n) (TV []),t} O) Q2:={_,_,by dsimp[ut,h],q}
def pI(q:Q2 [] O):W2 (consL mv [] O) Q2:={_,_,Xr,q}
def rf(h:W2 (consL mv rs O) λts O'=>Q2 (t::ts) O'):W2 (consL mv ({.ow,t}::rs) O) Q2:=by
 have(ts,O',e,q):=h;show⟨t::ts,O',by dsimp[consL,e],q⟩
def vR:de (is.map T.im)=.li is:=by
 have:ims (is.map T.im)*>is:=by induction is with
  | nil=>rfl
  | cons i is c=>dsimp[Ir,ims,c,JG]
 unfold de;rw[this]
end
def dsp{p:Prop}[Decidable p]{A B:Prop}(a:p->A)(c:¬p->B):(decide p=T1->A)/\(decide p=TZ->B):={λh=>a (of_decide_eq_true h),λh=>c (of_decide_eq_false h)}
def HA{p:Prop}[Decidable p]{A B:Prop}(a:¬p->A)(c:p->B):((~~~decide p)=T1->A)/\((~~~decide p)=TZ->B):={λh=>a (by exists h),λh=>c (by exists h)}
def bsp{A B:Prop}(c:b=T1->A)(a:b=TZ->B):(b=T1->A)/\(b=TZ->B):=⟨c,a⟩
def spT{A B:Prop}(h:A):(T1=T1->A)/\(T1=TZ->B):={λ_=>h,λz=>absurd z (by decide)}
def spF{A B:Prop}(h:B):(TZ=T1->A)/\(TZ=TZ->B):={λz=>absurd z (by decide),λ_=>h}
section
variable {O:Rho}{m:ME}{ms:MA}{g:MG}{ct:MT}{QE':R->Rho->Prop}
def sJ{i:Nat}{fr:! ↑Nat} (h:WA ms O λrs O1=>∃n:Int,rs.map (·.t)=[.im (.int n)]/\(-(2^62)<=n/\n<16000000)/\Gu (eV fr O1.length&&fB ([i]++([]++m.mu)) fr.length) (∃Inv:Nat->!T->Rho->Prop,Inv 0 [] O1 /\
  (∀(j:Nat) a O,(j:Int)<n->Inv j a O->WG (ah i) (ll j) (inR fr O) λO1=>WE m O1 λr p=>∃t,r={.ow,t}/\Inv (j+1) (a++[t]) (fe fr ([i]++([]++m.mu)) p O)) /\
  ∀a O,Inv n.toNat a O->QE' {.ow,de a} O)):WE (aC fr (aS ms) (ah i) bj m) O QE':=by unhygienic
 show jV (sN (h.mono λrs O1 z=>?_));have(n,o,E,d,Inv,f,s,u):=z;show{n,o,{E.1,by omega},?_,?_,Inv,f,λj r a O B c=>?_,λa O c=>u a O (by simpa[kg]using c)}
 .rw[Ie]at d|-;rw[Ie];show{⟨d.1,d.2⟩,Xr}
 .rw[NE];simp[kg];omega
 .have(x,l,rfl):=ar B;have(w,e):=Ib.mp l;simp at w e;subst e;have:=s j a O ⋯ c;rw[Mx];show C1.mono this λO1 q=>lK {λ_=>q,λz=>by cases z}
def yy{i:Nat}{fr:! ↑Nat} (h:WA ms O λrs O1=>∃a n:Int,rs.map (·.t)=[.im (.int a),.im (.int n)]/\(-(2^62)<=a/\a<2^62/\-(2^62)<=n/\n<2^62/\n-a<16000000)/\Gu (eV fr O1.length&&fB ([i]++([]++m.mu)) fr.length) (∃Inv:Nat->!T->Rho->Prop,Inv 0 [] O1 /\
  (∀(j:Nat) c O,a+(j:Int)<n->Inv j c O->WG (ah i) (ll (a+j)) (inR fr O) λO1=>WE m O1 λr u=>∃t,r={.ow,t}/\Inv (j+1) (c++[t]) (fe fr ([i]++([]++m.mu)) u O)) /\
  ∀c O,Inv (n-a).toNat c O->QE' {.ow,de c} O)):WE (aC fr (jg ms) (ah i) bj m) O QE':=by unhygienic
 show jV (sO (h.mono λrs O1 z=>?_));have(a,n,s,d,f,Inv,o,w,B):=z;show{a,n,s,⟨d.1,d.2.1,d.2.2.1,d.2.2.2.1⟩,?_,?_,Inv,o,λj r c O G e=>?_,λc O e=>B c O (by simpa[kg]using e)}
 .rw[Ie]at f|-;rw[Ie];show{⟨f.1,f.2⟩,Xr}
 .rw[NE];simp[kg];omega
 .have(x,p,rfl):=ar G;have(E,l):=Ib.mp p;simp at E l;subst l;have:=w j c O ⋯ e;show C1.mono this λO1 q=>lK {λ_=>q,λz=>by cases z}
def sI{fr:! ↑Nat}{e:ME} (h:WE e O λr O1=>∃is:!I,fN r*>(is.map λi=>{.ow,.im i})/\is.length<sizeLine/\Gu (eV fr O1.length&&fB (g.mu++(ct.mu++m.mu)) fr.length&&ay (muF fr (g.mu++(ct.mu++m.mu))) r) (∃Inv:Nat->!T->Rho->Prop,Inv 0 [] O1 /\
  (∀(j:Nat) x a O,is[j]?*>x->Inv j a O->WG g {.ow,.im x} (inR fr O) λO1=>WT ct O1 λd f=>(d=T1->WE m f λr q=>∃t,r={.ow,t}/\Inv (j+1) (a++[t]) (fe fr (g.mu++(ct.mu++m.mu)) q O))/\(d=TZ->Inv (j+1) a (fe fr (g.mu++(ct.mu++m.mu)) f O))) /\
  ∀a O,Inv is.length a O->QE' {.ow,de a} O)):WE (aC fr (mIt e) g ct m) O QE':=by
 show jV (yK (h.mono λr O1 z=>?_));have(is,p,w,B,Inv,l,s,u):=z;show{_,p,(by rw[JX,LJ,Bool.and_true];show B),by simpa using w,Inv,l,λj r a O E c=>?_,λa O c=>u a O (by exists c)};have(x,o,rfl):=ar E;show s j x a O o c
end
def cW{a:Type}{f : a->I}{l:!a}:de (l.map λx=>T.im (f x))=.li (l.map f):=by
 have:=vR (is:=l.map f);rwa [JT]at this
section
variable {S α:Type}{O:Rho}{m:ME}{ms:MA}{g:MG}{ct:MT}{s1:MS}{QE':R->Rho->Prop}{Q:Fl->Rho->Prop}{fr:! ↑Nat}{i:Nat}
def bp(st:S->Rho)(emb : α->I)(P:Nat->S->!α->Prop) (h:WA ms O λrs O1=>uJ rs λn=>(-(2^62)<=n/\n<16000000)/\(eV fr O1.length&&fB ([i]++([]++m.mu)) fr.length)=T1/\∃c,O1=st c/\P 0 c [] /\
  (∀(j:Nat) s l,(j:Int)<n->P j s l->WG (ah i) (ll j) (inR fr (st s)) λO1=>WE m O1 λr p=>∃x d,r={.ow,.im (emb x)}/\fe fr ([i]++([]++m.mu)) p (st s)=st d/\P (j+1) d (l++[x])) /\
  ∀s l,P n.toNat s l->QE' {.ow,.li (l.map emb)} (st s)):WE (aC fr (aS ms) (ah i) bj m) O QE':=by
 show sJ (h.mono λrs O1 z=>?_);have(n,w,N,L,c,rfl,u,E,G):=z;show{n,w,N,L,λj a O=>∃s l,a=l.map (λx=>T.im (emb x))/\O=st s/\P j s l,{c,[],Xr,Xr,u},?_,?_}
 .rintro j a O J ⟨s,l,rfl,rfl,o⟩;show(E j s l J o).mono λO1 q=>q.mono λr p ⟨x,d,e,B,f⟩=>{_,e,d,l++[x],by simp,B,f}
 .rintro a O ⟨s,l,rfl,rfl,o⟩;rw[cW];show G s l o
def uF(st:S->Rho)(emb : α->I)(P:Nat->S->!α->Prop) (h:WA ms O λrs O1=>B1 rs λa n=>(-(2^62)<=a/\a<2^62/\-(2^62)<=n/\n<2^62/\n-a<16000000)/\(eV fr O1.length&&fB ([i]++([]++m.mu)) fr.length)=T1/\∃d,O1=st d/\P 0 d [] /\
  (∀(j:Nat) s l,a+(j:Int)<n->P j s l->WG (ah i) (ll (a+j)) (inR fr (st s)) λO1=>WE m O1 λr u=>∃x f,r={.ow,.im (emb x)}/\fe fr ([i]++([]++m.mu)) u (st s)=st f/\P (j+1) f (l++[x])) /\
  ∀s l,P (n-a).toNat s l->QE' {.ow,.li (l.map emb)} (st s)):WE (aC fr (jg ms) (ah i) bj m) O QE':=by
 show yy (h.mono λrs O1 z=>?_);obtain⟨a,n,B,U,N,d,rfl,w,G,J⟩:=z;show{a,n,B,U,N,λj c O=>∃s l,c=l.map (λx=>T.im (emb x))/\O=st s/\P j s l,{d,[],Xr,Xr,w},?_,?_}
 .rintro j c O L ⟨s,l,rfl,rfl,p⟩;show(G j s l L p).mono λO1 q=>q.mono λr u ⟨x,f,e,E,o⟩=>{_,e,f,l++[x],by simp,E,o}
 .rintro c O ⟨s,l,rfl,rfl,p⟩;rw[cW];show J s l p
def bo(st:S->Rho)(emb : α->I)(P:Nat->S->!α->Prop){u:ME} (h:WE u O λr O1=>∃is:!I,fN r*>(is.map λi=>{.ow,.im i})/\is.length<sizeLine/\(eV fr O1.length&&fB (g.mu++([]++m.mu)) fr.length&&ay (muF fr (g.mu++([]++m.mu))) r)=T1/\∃c,O1=st c/\P 0 c [] /\
  (∀(j:Nat) x s l,is[j]?*>x->P j s l->WG g {.ow,.im x} (inR fr (st s)) λO1=>WE m O1 λr p=>∃x d,r={.ow,.im (emb x)}/\fe fr (g.mu++([]++m.mu)) p (st s)=st d/\P (j+1) d (l++[x])) /\
  ∀s l,P is.length s l->QE' {.ow,.li (l.map emb)} (st s)):WE (aC fr (mIt u) g bj m) O QE':=by unhygienic
 show sI (h.mono λr O1 z=>?_);have(is,B,L,U,c,rfl,w,G,J):=z;show{is,B,L,U,λj a O=>∃s l,a=l.map (λx=>T.im (emb x))/\O=st s/\P j s l,{c,[],Xr,Xr,w},?_,?_}
 .rintro j x a O N ⟨s,l,rfl,rfl,o⟩;show(G j x s l N o).mono λO1 q=>lK {λ_=>q.mono λr p ⟨x,d,e,E,f⟩=>{_,e,d,l++[x],by simp,E,f},λz=>by cases z}
 .rintro a O ⟨s,l,rfl,rfl,o⟩;rw[cW];show J s l o
def pj(st:S->Rho)(emb : α->I)(P:Nat->S->!α->Prop){E:ME} (h:WE E O λr O1=>∃is:!I,fN r*>(is.map λi=>{.ow,.im i})/\is.length<sizeLine/\(eV fr O1.length&&fB (g.mu++(ct.mu++m.mu)) fr.length&&ay (muF fr (g.mu++(ct.mu++m.mu))) r)=T1/\∃f,O1=st f/\P 0 f [] /\
  (∀(j:Nat) x s l,is[j]?*>x->P j s l->WG g {.ow,.im x} (inR fr (st s)) λO1=>WT ct O1 λo B=>(o=T1->WE m B λr G=>∃x a,r={.ow,.im (emb x)}/\fe fr (g.mu++(ct.mu++m.mu)) G (st s)=st a/\P (j+1) a (l++[x]))/\(o=TZ->∃a,fe fr (g.mu++(ct.mu++m.mu)) B (st s)=st a/\P (j+1) a l)) /\
  ∀s l,P is.length s l->QE' {.ow,.li (l.map emb)} (st s)):WE (aC fr (mIt E) g ct m) O QE':=by
 show sI (h.mono λr O1 z=>?_);have(is,J,hl,N,f,rfl,U,X,Y):=z;show{is,J,hl,N,λj c O=>∃s l,c=l.map (λx=>T.im (emb x))/\O=st s/\P j s l,{f,[],Xr,Xr,U},?_,?_}
 .rintro j x c O hj ⟨s,l,rfl,rfl,u⟩;show(X j x s l hj u).mono λO1 q=>q.mono λo B ⟨L,q2⟩=>{λp=>(L p).mono λr G ⟨x,a,e,w,d⟩=>{_,e,a,l++[x],by simp,w,d},λp=>?_};have(a,w,d):=q2 p;show⟨a,l,Xr,w,d⟩
 .rintro c O ⟨s,l,rfl,rfl,u⟩;rw[cW];show Y s l u
@[irreducible] def fFs(st:S->Rho)(P:S->Prop)(Q:Fl->Rho->Prop):Fl->Rho->Prop
 | .nx,O=>∃s,O=st s/\P s
 | .ct,O=>∃s,O=st s/\P s
 | .bk,O=>Q .nx O
 | .rt t,O=>Q (.rt t) O
def kv{st:S->Rho}{P:Nat->S->Prop}{j:Nat}{f:Fl}{O:Rho}(h:fFs st (P (j+1)) Q f O):tq (λj O=>∃s,O=st s/\P j s) j Q f O:=by unhygienic cases f<;>show h
def bY(st:S->Rho)(P:Nat->S->Prop) (h:WA ms O λrs O1=>uJ rs λn=>(-(2^62)<=n/\n<2^62)/\∃a,O1=st a/\P 0 a /\
  (∀(j:Nat) s,(j:Int)<n->P j s->WG (ah i) (ll j) (st s) λO1=>WS s1 O1 (fFs st (P (j+1)) Q))/\∀s,P n.toNat s->Q .nx (st s)):WS (cQ (aS ms) (ah i) s1) O Q:=by
 show EF (h.mono λrs O1 z=>?_);have(n,l,d,a,rfl,e,o,p):=z;show{n,l,d.1,d.2,λj O=>∃s,O=st s/\P j s,⟨a,Xr,e⟩,?_,?_}
 .rintro j O r ⟨s,rfl,c⟩;show(o j s r c).mono λO1 q=>q.mono λf u q=>kv q
 .rintro O ⟨s,rfl,c⟩;show p s c
def yz(st:S->Rho)(P:Nat->S->Prop) (h:WA ms O λrs O1=>B1 rs λa n=>(-(2^62)<=a/\a<2^62/\-(2^62)<=n/\n<2^62)/\∃c,O1=st c/\P 0 c /\
  (∀(j:Nat) s,a+(j:Int)<n->P j s->WG (ah i) (ll (a+j)) (st s) λO1=>WS s1 O1 (fFs st (P (j+1)) Q))/\∀s,P (n-a).toNat s->Q .nx (st s)):WS (cQ (jg ms) (ah i) s1) O Q:=by
 show AT (h.mono λrs O1 z=>?_);have(a,n,l,u,c,rfl,e,o,p):=z;show{a,n,l,u,λj O=>∃s,O=st s/\P j s,⟨c,Xr,e⟩,?_,?_}
 .rintro j O r ⟨s,rfl,d⟩;show(o j s r d).mono λO1 q=>q.mono λf w q=>kv q
 .rintro O ⟨s,rfl,d⟩;show p s d
def n5(st:S->Rho)(P:Nat->S->Prop) (h:WE m O λr O1=>∃is:!I,fN r*>(is.map λi=>{.ow,.im i})/\ay (g.mu++s1.mu) r=T1/\∃a,O1=st a/\P 0 a /\
  (∀(j:Nat) x s,is[j]?*>x->P j s->WG g {.ow,.im x} (st s) λO1=>WS s1 O1 (fFs st (P (j+1)) Q))/\∀s,P is.length s->Q .nx (st s)):WS (cQ (mIt m) g s1) O Q:=by
 show EE (h.mono λr O1 z=>?_);have(is,e,u,a,rfl,d,l,o):=z;show{is,e,u,λj O=>∃s,O=st s/\P j s,⟨a,Xr,d⟩,?_,?_}
 .rintro j x O p ⟨s,rfl,c⟩;show(l j x s p c).mono λO1 q=>q.mono λf w q=>kv q
 .rintro O ⟨s,rfl,c⟩;show o s c
def pk(st:S->Rho)(P:S->Prop)(c : S->Nat)(h:S)(w : O=st h)(p:P h)(hs:∀s,P s->WT ct (st s) λj O1=>(j=T1->WS s1 O1 (fFs st (λa=>c a < c s/\P a) Q))/\(j=TZ->Q .nx O1)):WS (jF ct s1) O Q:=by unhygienic
 subst w;show AV (λn O=>∃s,O=st s/\P s/\c s=n) (c h) ⟨h,Xr,p,Xr⟩ ?_;rintro n O ⟨s,rfl,u,rfl⟩;show(hs s u).mono λj O1 ⟨z,B⟩=>{B,λr=>(z r).mono λf o q=>?_};cases f with
 | nx=>have q:∃a,o=st a/\c a < c s/\P a:=q;have(a,e,l,d):=q;show{c a,l,a,e,d,Xr}
 | ct=>have q:∃a,o=st a/\c a < c s/\P a:=q;have(a,e,l,d):=q;show{c a,l,a,e,d,Xr}
 | bk=>show q
 | rt t=>show q
end
section
variable {S α:Type}{O:Rho}{m:ME}{ms:MA}{QE':R->Rho->Prop}{fr:! ↑Nat}{i:Nat}
def vS(a:∀x i,emb x ≠ .im i):∀{l:!α},l≠[]->de (l.map emb)=.lst (l.map emb)
 | [],h=>absurd rfl h
 | x::l,_=>by
  unfold de;have:ims ((x::l).map emb)=TU:=by
   rw[Ir];cases h:emb x with
   | im i=>show absurd h (a x i)
   | _=>rfl
  rw[this]
def lE(st:S->Rho)(emb : α->T)(g:∀x i,emb x ≠ .im i)(P:Nat->S->!α->Prop) (h:WA ms O λrs O1=>uJ rs λn=>(1<=n/\n<16000000)/\(eV fr O1.length&&fB ([i]++([]++m.mu)) fr.length)=T1/\∃d,O1=st d/\P 0 d [] /\
  (∀(j:Nat) s l,(j:Int)<n->P j s l->WG (ah i) (ll j) (inR fr (st s)) λO1=>WE m O1 λr u=>∃x f,r={.ow,emb x}/\fe fr ([i]++([]++m.mu)) u (st s)=st f/\P (j+1) f (l++[x])) /\
  ∀s l,P n.toNat s l->l.length=n.toNat->QE' {.ow,.lst (l.map emb)} (st s)):WE (aC fr (aS ms) (ah i) bj m) O QE':=by
 show sJ (h.mono λrs O1 z=>?_);have(n,B,U,N,d,rfl,w,G,J):=z;show{n,B,{by omega,U.2},N,λj a O=>∃s l,a=l.map emb/\l.length=j/\O=st s/\P j s l,{d,[],Xr,Xr,Xr,w},?_,?_}
 .rintro j a O L ⟨s,l,rfl,c,rfl,p⟩;show(G j s l L p).mono λO1 q=>q.mono λr u ⟨x,f,e,E,o⟩=>{_,e,f,l++[x],by simp,by simp[c],E,o}
 .rintro a O ⟨s,l,rfl,c,rfl,p⟩;rw[vS g (by intro z;rw[z]at c;simp at c;omega)];show J s l p c
def w8(h:ts[n]?*>u):T.put (.lst ts) [.ix n] s=.lst (ts.set n s):=by dsimp[T.put,jU,h,put1]
end
section
variable {O:Rho}{b:MS}{Q:Fl->Rho->Prop}{t s':T}{k:Nat}{ks:!Nat}
def Fg{R:T->T->Prop}(h : O[k]?*>(TV {.io 0,s'}))(q:R t s'):fI k R (.rt t) O:=by unhygienic show⟨s',h,q⟩
def Fi{R:T->Prop}(q:R t):fP R (.rt t) O:=by unhygienic show q
def Fh{R:T->Prop}(q:R (.im .non)):fP R .nx O:=by unhygienic show q
def rq(h:WS b O Q):yY b Q .nx O:=by unhygienic show h
def rz(h:Q (.rt t) O):yY b Q (.rt t) O:=by unhygienic show h
def y0(h:Q .nx (fgts ks O)):Ch ks Q .nx O:=by unhygienic show h
variable {S:Type}{st:S->Rho}{P:S->Prop}
def Ck(h:∃s,O=st s/\P s):fFs st P Q .nx O:=by unhygienic show h
end
section
variable {M:!Nat}{O:Rho}{t s:T}{n i:Nat}{p:Option !Ac}{k:Nat}{x:I}
def Cw:aB M []=[]:=rfl
def Fs:aB M (⇑t::O)=⇑t::aB M O:=rfl
def Fq:aB M (TV {.io n,t}::O)=TV {.io n,t}::aB M O:=rfl
def zg:aB M (TU::O)=TU::aB M O:=rfl
def Ft:aB M (TV {.vw TU p,t}::O)=TV {.vw TU p,t}::aB M O:=rfl
def nE:T.put t [] s=s:=by cases t<;>rfl
def Ag:ll j={.ow,.im (.int j)}:=rfl
def Ec:rdR i {.ow,.im x}={.ow,.im x}:=rfl
def Ee:rdR i {.vw a p,t}={.vw a p,t}:=rfl
def Ed:rdR i {.ow,.li l}={.vw (TV i) (TV []),.li l}:=rfl
def Aj:rdR i {.ow,.lst l}={.vw (TV i) (TV []),.lst l}:=rfl
def vo:fgts [] O=O:=rfl
def tu:fgts (i::ks) O=fgts ks ((aB [i] O).set i TU):=rfl
def MM{run:!T->(T->Prop)->Prop}{l:Nat}{m:MS}{ts:!T}{c:T->Prop}(O:Rho)(a:run ts=λQ=>ts.length=l/\ce m n ts Q)(d:ts.length=l)(e:dm ts n=O)(h:WS m O (fP c)):C1 (run ts) c:=sr a d (e▸h)
def MZ{run:!T->(T->T->Prop)->Prop}{l:Nat}{m:MS}{ts:!T}{c:T->T->Prop}(O:Rho)(a:run ts=λQ=>ts.length=l/\fh m k n ts Q)(d:ts.length=l)(e:f6 k ts n=O)(h:WS m O (fI k c)):C2 (run ts) c:=iE a d (e▸h)
end
end L2
namespace L2
open PySem
noncomputable section
abbrev cq:MS:=(ao (mIf (aA (mOp eqT (mIx (ag 0) (mC (.int 0))) (mC (.str "op")))) (aT (mSl (ag 0) (dU (mC (.int 2))) bF)) aV)
  (ao (mIf (aA (mOp eqT (mIx (ag 0) (mC (.int 0))) (mC (.str "if")))) (aT (mSl (ag 0) (dU (mC (.int 1))) bF)) aV)
  (aT (aq [] af))))
abbrev dv(ts:!T)(Q:T->Prop):Prop:=ts.length=1/\ce cq 1 ts Q
abbrev dJ:MS:=(ao (ax (aR [] af) (ah 1))
  (ao (ax (aR [0] (ae 0 af)) (ah 2))
  (ao (jF (vQ (ag 2))
  (dF [3] (ao (ax (jf "list" 2 lf (ag 2)) (ah 3))
  (ao (bB (db "list" 1 [3] apT (ag 1) (ae 3 af)))
  (bB (db "list" 2 [] vn (ag 2) (aa (mUn xS (mF dv (ae 3 af))) af)))))))
  (aT (ag 1)))))
abbrev dO(ts:!T)(Q:T->Prop):Prop:=ts.length=1/\ce dJ 4 ts Q
abbrev iq:MS:=(aT (mB dg (aa (aC [TU,TU] (mIt (mF dO (ae 0 af))) (ah 1) (aA (mOp eqT (mIx (ag 1) (mC (.int 0))) (mC (.str "at")))) (aq [] (aa (mIx (ag 1) (mC (.int 1))) (aa (mIx (ag 1) (mC (.int 2))) af)))) af)))
abbrev jR(ts:!T)(Q:T->Prop):Prop:=ts.length=1/\ce iq 1 ts Q
abbrev jh:MS:=(ao (ax (mOp aW (mOp bW (mC (.int 7901)) (ag 1)) (mC (.int 24697))) (ah 2))
  (ao (mIf (aA (mOp (gA λi j=>decide (i<j)) (ag 1) (mB cy (ae 0 af)))) (ax (mIx (ag 0) (ag 1)) (ah 2)) (mIf (aA (mOp (gA λi j=>decide (j<i)) (mB cy (ae 0 af)) (mC (.int 0)))) (ax (mOp aW (mOp bW (mOp fD (mIx (ag 0) (mOp fD (ag 1) (mB cy (ae 0 af)))) (mC (.int 2147483629))) (mC (.int 31))) (mOp bW (mC (.int 7901)) (ag 1))) (ah 2)) aV))
  (ao (ax (mC (.int 0)) (ah 3))
  (ao (mIf (aA (mOp (gA λi j=>decide (j<=i)) (ag 2) (mOp t7 (mC (.int 10)) (mC (.int 18))))) (ax (ag 2) (ah 3)) aV)
  (aT (aR [3] (ae 3 (aa (mOp aW (mOp fD (mOp t7 (mOp aW (mOp bW (mOp fD (ag 2) (mC (.int 2147483629))) (mC (.int 48271))) (mOp bW (mC (.int 40692)) (ag 1))) (mC (.int 5))) (mC (.int 2147483629))) (mC (.int 1))) af))))))))
abbrev ln(ts:!T)(Q:T->Prop):Prop:=ts.length=2/\ce jh 4 ts Q
abbrev jk:MS:=(ao (mIf (aA (mOp (gA λi j=>decide (j<i)) (mIx (ag 0) (mC (.int 0))) (mC (.int 0)))) (ao (ax (mOp fD (mIx (ag 0) (mC (.int 0))) (ag 1)) (ah 2))
  (ao (ax (mOp iM (mIx (ag 0) (mC (.int 0))) (ag 1)) (vO 0 (ag 0) (mC (.int 0))))
  (aT (ag 2)))) aV)
  (ao (ax (mOp fD (mOp bW (mIx (ag 0) (mC (.int 1))) (mC (.int 48271))) (mC (.int 2147483647))) (ah 3))
  (ao (ax (mOp aW (mOp fD (mOp aW (mOp bW (ag 3) (mC (.int 40692))) (mC (.int 30103))) (mC (.int 2147483399))) (mC (.int 1))) (vO 0 (ag 0) (mC (.int 1))))
  (aT (mOp fD (mOp iM (mOp aW (mOp bW (ag 3) (mC (.int 2147483647))) (mIx (ag 0) (mC (.int 1)))) (mC (.int 8191))) (ag 1))))))
abbrev aj(ts:!T)(Q:T->T->Prop):Prop:=ts.length=2/\fh jk 0 4 ts Q
abbrev ii:MS:=(ao (ax (mC (.str "abcdefghijklmnopqrstuvwxyz")) (ah 2))
  (ao (ax (mM "str" l9 (mC (.str "")) (aa (aC [TV 0,TU,TV 2,TU,TU,TU,TU,TU,TU] (aS (aa (ak 0 0 aj (ae 0 (aa (mC (.int 6)) af))) af)) (ah 7) bj (mIx (ag 2) (ak 0 0 aj (ae 0 (aa (mC (.int 26)) af))))) af)) (ah 3))
  (ao (j3 4 5 (aa (ak 0 0 aj (ae 0 (aa (mC (.int 26)) af))) (aa (ak 0 0 aj (ae 0 (aa (mOp aW (mB cy (ae 3 af)) (mC (.int 1))) af))) af)))
  (ao (ax (aR [] af) (ah 6))
  (ao (cQ (aS (ae 1 af)) (ah 7)
  (dF [7,8] (ao (ax (mOp aW (mOp aW (mSl (ag 3) bF (dU (ag 5))) (mIx (ag 2) (mOp fD (mOp aW (ag 4) (mOp bW (mC (.int 5)) (ag 7))) (mC (.int 26))))) (mSl (ag 3) (dU (ag 5)) bF)) (ah 8))
  (ao (mIf (aA (mOp eqT (mOp fD (ag 7) (mC (.int 2))) (mC (.int 1)))) (ax (mOp aW (ag 8) (mC (.str "q"))) (ah 8)) aV)
  (ao (mIf (aA (mOp inT (ag 8) (aq [] (aa (mC (.str "min")) (aa (mC (.str "max")) (aa (mC (.str "rest")) (aa (mC (.str "less")) (aa (mC (.str "if")) af)))))))) (ax (mOp aW (ag 8) (mC (.str "w"))) (ah 8)) aV)
  (bB (db "list" 6 [8] apT (ag 6) (ae 8 af))))))))
  (aT (ag 6)))))))
abbrev iz(ts:!T)(Q:T->T->Prop):Prop:=ts.length=2/\fh ii 0 9 ts Q
abbrev kz:MS:=(ao (mIf (aA (mOp eqT (ak 0 0 aj (ae 0 (aa (mC (.int 4)) af))) (mC (.int 0)))) (aT (mOp bW (aq [] (aa (mC (.int 0)) af)) (ag 1))) aV)
  (aT (mB dg (aa (aC [TV 0,TU,TU] (aS (ae 1 af)) (ah 2) bj (mIx (aR [] (aa (mC (.int 0)) (aa (mC (.int 1)) (aa (mOp bH (mC (.int 0)) (mC (.int 1))) (aa (mC (.int 2)) (aa (mOp bH (mC (.int 0)) (mC (.int 2))) af)))))) (ak 0 0 aj (ae 0 (aa (mC (.int 5)) af))))) af))))
abbrev kF(ts:!T)(Q:T->T->Prop):Prop:=ts.length=2/\fh kz 0 2 ts Q
abbrev dH:MS:=(ao (ax (ak 0 0 aj (ae 0 (ae 1 af))) (ah 2))
  (ao (ax (aC [TV 0,TU,TU,TU,TU] (jg (aa (mOp aW (ag 2) (mC (.int 1))) (ae 1 af))) (ah 4) bj (mIx (aR [] (aa (mC (.int 0)) (aa (mC (.int 1)) (aa (mOp bH (mC (.int 0)) (mC (.int 1))) (aa (mC (.int 2)) (aa (mOp bH (mC (.int 0)) (mC (.int 2))) af)))))) (ak 0 0 aj (ae 0 (aa (mC (.int 5)) af))))) (ah 3))
  (aT (mB dg (aa (mOp aW (mOp aW (mOp bW (aR [] (aa (mC (.int 0)) af)) (ag 2)) (aR [] (aa (mOp bH (mOp bH (mC (.int 0)) (mC (.int 1))) (ak 0 0 aj (ae 0 (aa (mC (.int 2)) af)))) af))) (ag 3)) af)))))
abbrev dN(ts:!T)(Q:T->T->Prop):Prop:=ts.length=2/\fh dH 0 4 ts Q
abbrev cD:MS:=(ao (ax (aC [TU,TU,TU,TU,TU,TU] (aS (ae 2 af)) (ah 4) bj (aR [] af)) (ah 3))
  (ao (cQ (aS (ae 2 af)) (ah 4)
  (dF [4,5] (cQ (aS (aa (ak 0 0 aj (ae 0 (aa (mC (.int 4)) af))) af)) (ah 5)
  (dF [5] (bB (db "list" 3 [] apT (mIx (ag 3) (ag 4)) (aa (aq [] (aa (ak 0 0 aj (ae 0 (ae 2 af))) (aa (ak 0 0 kF (ae 0 (ae 1 af))) af))) af)))))))
  (aT (ag 3))))
abbrev eu(ts:!T)(Q:T->T->Prop):Prop:=ts.length=3/\fh cD 0 6 ts Q
abbrev cE:MS:=(ao (ax (aC [TU,TU,TU,TU,TU,TU] (aS (ae 2 af)) (ah 4) bj (aR [] af)) (ah 3))
  (ao (cQ (aS (ae 2 af)) (ah 4)
  (dF [4,5] (cQ (aS (aa (mOp aW (mC (.int 1)) (ak 0 0 aj (ae 0 (aa (mC (.int 3)) af)))) af)) (ah 5)
  (dF [5] (mIf (oA (aA (mOp (gA λi j=>decide (j<i)) (ag 4) (mC (.int 0)))) (aA (mOp eqT (ak 0 0 aj (ae 0 (aa (mC (.int 4)) af))) (mC (.int 0))))) (bB (db "list" 3 [] apT (mIx (ag 3) (ag 4)) (aa (aq [] (aa (ak 0 0 aj (ae 0 (ae 4 af))) (aa (mOp bW (aq [] (aa (mC (.int 0)) af)) (ag 1)) af))) af))) (bB (db "list" 3 [] apT (mIx (ag 3) (ag 4)) (aa (aq [] (aa (ak 0 0 aj (ae 0 (ae 2 af))) (aa (ak 0 0 dN (ae 0 (ae 1 af))) af))) af))))))))
  (aT (ag 3))))
abbrev cI(ts:!T)(Q:T->T->Prop):Prop:=ts.length=3/\fh cE 0 6 ts Q
abbrev cH:MS:=(ao (ax (aR [] af) (ah 3))
  (ao (cQ (aS (aa (mB cy (ae 0 af)) af)) (ah 4)
  (dF [4] (bB (db "list" 3 [] apT (ag 3) (aa (mOp bW (mIx (ag 0) (mOp fD (mOp aW (ag 4) (ag 1)) (mB cy (ae 0 af)))) (mIx (ag 2) (ag 4))) af)))))
  (aT (mB dg (ae 3 af)))))
abbrev cK(ts:!T)(Q:T->Prop):Prop:=ts.length=3/\ce cH 5 ts Q
abbrev bK:MS:=(ao (ax (mOp aW (mC (.int 1)) (ak 0 0 aj (ae 0 (aa (mC (.int 2)) af)))) (ah 3))
  (ao (ax (aR [] (aa (aq [] (aa (mC (.int 0)) (aa (mC (.int 0)) (aa (aq [3] (aa (mC (.int 0)) (ae 3 af))) af)))) (aa (aq [] (aa (mC (.int 1)) (aa (mC (.int 1)) (aa (aq [] (aa (mC (.int 0)) (aa (mOp bH (mOp bH (mC (.int 0)) (mC (.int 1))) (ak 0 0 aj (ae 0 (aa (mC (.int 2)) af)))) af))) af)))) (aa (aq [] (aa (mC (.int 0)) (aa (mC (.int 1)) (aa (aq [] (aa (mOp bH (mC (.int 0)) (mC (.int 1))) (aa (mOp bH (ak 0 0 aj (ae 0 (aa (mC (.int 3)) af))) (mC (.int 1))) af))) af)))) af)))) (ah 4))
  (ao (bB (db "list" 4 [] apT (ag 4) (aa (aq [] (aa (mC (.int 1)) (aa (mC (.int 0)) (aa (aq [] (aa (mOp bH (mC (.int 0)) (ak 0 0 aj (ae 0 (aa (mC (.int 2)) af)))) (aa (mC (.int 0)) af))) af)))) af)))
  (ao (mIf (aA (mOp eqT (ag 1) (mC (.int 3)))) (ao (ax (aR [] (aa (aq [] (aa (mC (.int 0)) (aa (mC (.int 0)) (aa (aq [3] (aa (mC (.int 0)) (aa (mC (.int 0)) (ae 3 af)))) af)))) (aa (aq [] (aa (mC (.int 1)) (aa (mC (.int 1)) (aa (aq [] (aa (mC (.int 0)) (aa (mC (.int 0)) (aa (mOp bH (mC (.int 0)) (mC (.int 1))) af)))) af)))) (aa (aq [] (aa (mC (.int 0)) (aa (mC (.int 1)) (aa (aq [] (aa (mC (.int 0)) (aa (mOp bH (mC (.int 0)) (mC (.int 1))) (aa (mC (.int 0)) af)))) af)))) (aa (aq [] (aa (mC (.int 1)) (aa (mC (.int 0)) (aa (aq [] (aa (mC (.int 0)) (aa (mC (.int 0)) (aa (ak 0 0 aj (ae 0 (aa (mC (.int 2)) af))) af)))) af)))) af))))) (ah 4))
  (ax (mOp aW (ag 4) (aR [] (aa (aq [] (aa (mC (.int 2)) (aa (mC (.int 2)) (aa (aq [] (aa (mC (.int 0)) (aa (mOp aW (mC (.int 1)) (ak 0 0 aj (ae 0 (aa (mC (.int 2)) af)))) (aa (mC (.int 0)) af)))) af)))) (aa (aq [] (aa (mC (.int 0)) (aa (mC (.int 2)) (aa (aq [] (aa (mOp bH (mC (.int 0)) (mC (.int 1))) (aa (mC (.int 0)) (aa (mC (.int 1)) af)))) af)))) (aa (aq [] (aa (mC (.int 2)) (aa (mC (.int 0)) (aa (aq [] (aa (mC (.int 0)) (aa (mC (.int 0)) (aa (mC (.int 0)) af)))) af)))) af))))) (ah 4))) aV)
  (ao (j3 5 6 (aa (ak 0 0 aj (ae 0 (ae 1 af))) (aa (aC [TV 0,TU,TU,TU,TU,TU,TU,TU,TU,TU,TU,TU] (aS (ae 1 af)) (ah 11) bj (mOp bH (mC (.int 1)) (mOp bW (mC (.int 2)) (ak 0 0 aj (ae 0 (aa (mC (.int 2)) af)))))) af)))
  (ao (ax (aC [TU,TU,TU,TU,TU,TU,TU,TU,TU,TU,TU] (aS (ae 2 af)) (ah 8) bj (aR [] af)) (ah 7))
  (ao (cQ (mIt (ag 4)) (bJ 3 (au (ah 8) (au (ah 9) (au (ah 10) bI))))
  (dF [8,9,10] (bB (db "list" 7 [] apT (mIx (ag 7) (ag 8)) (aa (aq [9] (ae 9 (aa (mF cK (ae 10 (ae 5 (ae 6 af)))) af))) af)))))
  (ao (cQ (jg (aa (mC (.int 3)) (ae 2 af))) (ah 8)
  (dF [8] (bB (db "list" 7 [] apT (mIx (ag 7) (ag 8)) (aa (aq [] (aa (ak 0 0 aj (ae 0 (ae 8 af))) (aa (ak 0 0 kF (ae 0 (ae 1 af))) af))) af)))))
  (aT (ag 7))))))))))
abbrev cJ(ts:!T)(Q:T->T->Prop):Prop:=ts.length=3/\fh bK 0 11 ts Q
abbrev cG:MS:=(ao (ax (ak 0 0 cI (ae 0 (ae 1 (ae 2 af)))) (ah 3))
  (ao (ax (mOp aW (mC (.int 1)) (ak 0 0 aj (ae 0 (ae 2 af)))) (ah 4))
  (ao (ax (mOp bW (aR [] (aa (mC (.int 0)) af)) (ag 1)) (ah 5))
  (ao (cQ (aS (ae 4 af)) (ah 6)
  (dF [6,7] (ao (ax (aC [TV 0,TU,TU,TU,TU,TU,TU,TU,TU] (aS (ae 1 af)) (ah 8) bj (mOp bH (ak 0 0 aj (ae 0 (aa (mC (.int 3)) af))) (mC (.int 1)))) (ah 7))
  (ao (ax (aC [TU,TU,TU,TU,TU,TV 5,TU,TV 7,TU] (aS (ae 1 af)) (ah 8) bj (mOp bH (mB oJ (aa (mOp bH (mC (.int 0)) (mC (.int 2))) (aa (mB oM (aa (mC (.int 2)) (aa (mOp aW (mIx (ag 5) (ag 8)) (mIx (ag 7) (ag 8))) af))) af))) (mIx (ag 5) (ag 8)))) (ah 7))
  (ao (mIf (aA (mOp eqT (mOp aW (ag 6) (mC (.int 1))) (ag 4))) (ax (aC [TU,TU,TU,TU,TU,TU,TU,TU,TU] (mIt (ag 5)) (ah 8) bj (mOp bH (mC (.int 0)) (ag 8))) (ah 7)) aV)
  (ao (ax (aC [TU,TU,TU,TU,TU,TV 5,TU,TV 7,TU] (aS (ae 1 af)) (ah 8) bj (mOp aW (mIx (ag 5) (ag 8)) (mIx (ag 7) (ag 8)))) (ah 5))
  (bB (db "list" 3 [] pS (mIx (ag 3) (ag 6)) (aa (mC (.int 0)) (aa (aq [] (aa (mOp fD (mOp aW (ag 6) (mC (.int 1))) (ag 4)) (aa (mB dg (ae 7 af)) af))) af))))))))))
  (aT (ag 3))))))
abbrev eC(ts:!T)(Q:T->T->Prop):Prop:=ts.length=3/\fh cG 0 8 ts Q
abbrev ik:MS:=(ao (j3 1 2 (aa (ak 0 0 aj (ae 0 (aa (mC (.int 8)) af))) (aa (ak 0 0 aj (ae 0 (aa (mC (.int 16)) af))) af)))
  (ao (ax (mIx (aR [] (aa (mC (.int 1)) (aa (mC (.int 2)) (aa (mC (.int 2)) (aa (mC (.int 2)) (aa (mC (.int 2)) (aa (mC (.int 1)) (aa (mC (.int 2)) (aa (mC (.int 3)) af))))))))) (mOp fD (ag 2) (mC (.int 8)))) (ah 3))
  (ao (ax (mOp aW (mC (.int 1)) (ak 0 0 aj (ae 0 (aa (mIx (aR [] (aa (mC (.int 3)) (aa (mC (.int 6)) af))) (mOp iM (ag 2) (mC (.int 8)))) af)))) (ah 4))
  (ao (mIf (aA (mOp (gA λi j=>decide (i<j)) (ag 1) (mC (.int 3)))) (aT (aq [3] (ae 3 (aa (ak 0 0 eu (ae 0 (ae 3 (ae 4 af)))) af)))) aV)
  (ao (mIf (aA (mOp (gA λi j=>decide (i<j)) (ag 1) (mC (.int 5)))) (aT (aq [3] (ae 3 (aa (ak 0 0 cI (ae 0 (ae 3 (ae 4 af)))) af)))) aV)
  (ao (mIf (aA (mOp eqT (ag 1) (mC (.int 5)))) (aT (aq [3] (ae 3 (aa (ak 0 0 eC (ae 0 (ae 3 (ae 4 af)))) af)))) aV)
  (ao (ax (mB oJ (aa (mC (.int 2)) (ae 3 af))) (ah 3))
  (aT (aq [3] (ae 3 (aa (ak 0 0 cJ (ae 0 (ae 3 (aa (mB oJ (ae 3 (aa (mB oM (ae 4 (aa (mC (.int 5)) af))) af))) af)))) af)))))))))))
abbrev jO(ts:!T)(Q:T->T->Prop):Prop:=ts.length=1/\fh ik 0 5 ts Q
abbrev ie:MS:=(ao (ax (mB vL (ae 1 af)) (ah 2))
  (ao (jF (aA (mOp (gA λi j=>decide (j<i)) (mB cy (ae 2 af)) (mC (.int 1))))
  (dF [3,4] (ao (ax (ak 0 0 aj (ae 0 (aa (mOp bH (mB cy (ae 2 af)) (mC (.int 1))) af))) (ah 3))
  (dF [3,4] (mIf (oA (aA (mOp (gA λi j=>decide (j<i)) (mB cy (ae 2 af)) (mC (.int 2)))) (aA (mOp eqT (ak 0 0 aj (ae 0 (aa (mC (.int 5)) af))) (mC (.int 0))))) (ao (ax (mB oM (ae 3 (aa (mOp bH (mB cy (ae 2 af)) (mC (.int 3))) af))) (ah 3))
  (ax (aR [] (aa (aq [] (aa (mC (.str "if")) (aa (mIx (ag 2) (ag 3)) (aa (mIx (ag 2) (mOp aW (ag 3) (mC (.int 1)))) (aa (mIx (ag 2) (mOp aW (ag 3) (mC (.int 2)))) af))))) af)) (kX 2 (ag 2) (ag 3) (mOp aW (ag 3) (mC (.int 3)))))) (ao (ax (mIx (aR [] (aa (mC (.str "+")) (aa (mC (.str "-")) (aa (mC (.str "*")) (aa (mC (.str "min")) (aa (mC (.str "max")) (aa (mC (.str "rest")) (aa (mC (.str "less")) af)))))))) (ak 0 0 aj (ae 0 (aa (mC (.int 7)) af)))) (ah 4))
  (ax (aR [] (aa (aq [4] (aa (mC (.str "op")) (ae 4 (aa (mIx (ag 2) (ag 3)) (aa (mIx (ag 2) (mOp aW (ag 3) (mC (.int 1)))) af))))) af)) (kX 2 (ag 2) (ag 3) (mOp aW (ag 3) (mC (.int 2)))))))))))
  (aT (mIx (ag 2) (mC (.int 0))))))
abbrev iy(ts:!T)(Q:T->T->Prop):Prop:=ts.length=2/\fh ie 0 5 ts Q
abbrev ig:MS:=(ao (ax (ak 0 0 jO (ae 0 af)) (bJ 2 (au (ah 1) (au (ah 2) bI))))
  (ao (ax (mIx (aR [] (aa (mOp aW (mC (.int 2)) (ak 0 0 aj (ae 0 (aa (mC (.int 9)) af)))) (aa (mOp aW (mC (.int 2)) (ak 0 0 aj (ae 0 (aa (mC (.int 998)) af)))) (aa (mOp bH (mC (.int 1000000000)) (ak 0 0 aj (ae 0 (aa (mC (.int 9)) af)))) af)))) (ak 0 0 aj (ae 0 (aa (mC (.int 3)) af)))) (ah 3))
  (ao (ax (ak 0 0 iz (ae 0 (aa (mB cy (ae 2 af)) af))) (ah 4))
  (ao (ax (aR [] af) (ah 5))
  (ao (cQ (aS (aa (mB cy (ae 2 af)) af)) (ah 6)
  (dF [6,7,8,9] (ao (ax (aC [TU,TU,TU,TU,TV 4,TU,TU,TU,TU,TU,TU,TU] (mIt (mSl (mIx (ag 2) (ag 6)) bF (dU (mOp iM (mC (.int 16)) (mB cy (ae 2 af)))))) (bJ 2 (au (ah 10) (au (ah 11) bI))) bj (aq [11] (aa (mC (.str "at")) (aa (mIx (ag 4) (ag 10)) (ae 11 af))))) (ah 7))
  (ao (cQ (aS (aa (mOp aW (ak 0 0 aj (ae 0 (aa (mC (.int 2)) af))) (mB on (aa (mOp eqT (ag 7) (aR [] af)) af))) af)) (ah 8)
  (dF [8,9] (ao (ax (ak 0 0 aj (ae 0 (aa (mIx (aR [] (aa (mC (.int 9)) (aa (mC (.int 1000000001)) af))) (ak 0 0 aj (ae 0 (aa (mC (.int 2)) af)))) af))) (ah 9))
  (bB (db "list" 7 [] pS (ag 7) (aa (ak 0 0 aj (ae 0 (aa (mOp aW (mB cy (ae 7 af)) (mC (.int 1))) af))) (aa (aq [9] (aa (mC (.str "num")) (ae 9 af))) af)))))))
  (bB (db "list" 5 [] apT (ag 5) (aa (aq [] (aa (mIx (ag 4) (ag 6)) (aa (ak 0 0 iy (ae 0 (ae 7 af))) af))) af)))))))
  (aT (aq [1,3] (ae 1 (ae 3 (aa (mB dg (ae 5 af)) af))))))))))
abbrev jM(ts:!T)(Q:T->T->Prop):Prop:=ts.length=1/\fh ig 0 10 ts Q
end
end L2
namespace L2
open PySem PySem.Spec PyProof.Rows
abbrev eL(K:yF) (a:Addr):yF:=K.filter λp=> ~~~(p.1==a)
def ou:∀{K:yF} {a b:Addr},b≠a->(eL K a).lookup b=K.lookup b
 | [],_,_,_=>rfl
 | (c,o)::K,a,b,h=>by
  have d:=ou (K:=K) h;by_cases e:c=a
  .subst e;have:eL ((c,o)::K) c=eL K c:=by simp[eL]
   rw[this,d];change _=match b==c with|true=>TV o|false=>K5 b K
   rw[beq_eq_false_iff_ne.mpr h]
  .have:eL ((c,o)::K) a=(c,o)::eL K a:=by simp[eL,e]
   rw[this];change(match b==c with|true=>TV o|false=>K5 b (eL K a))=match b==c with|true=>TV o|false=>K5 b K
   rw[d]
def jE:∀{K:yF} {a:Addr},(eL K a).lookup a=TU
 | [],_=>rfl
 | (c,o)::K,a=>by
  have d:=jE (K:=K) (a:=a);by_cases e:c=a
  .subst e;have:eL ((c,o)::K) c=eL K c:=by simp[eL]
   rw[this,d]
  .have:eL ((c,o)::K) a=(c,o)::eL K a:=by simp[eL,e]
   rw[this];change(match a==c with|true=>TV o|false=>K5 a (eL K a))=TU;rw[beq_eq_false_iff_ne.mpr (NS e)];show d
def zj{K:yF}{a:Addr}{h:Heap}(X:K.In h):(eL K a).In h:=λb o e=>by
 by_cases q:b=a;subst q;rw[jE]at e;cases e;rw[ou q]at e;show X b o e
abbrev Lst(o:Obj):Prop:=∃vs:Array Nz,o={cls:=.type "list",data:=.seq vs}
abbrev Ny(K:yF)(a:Addr):Prop:=∀o,K.lookup a*>o->Lst o
abbrev ML(K:yF)(mg:Str->↑Nz)(name:Str)(st:Stmt)(ps:!Str):Prop:=
 ∃(f:Addr) (c:Om),mg name*>(.ref f)/\Fun K name name st f c/\(∀a:!Nz,a.length=ps.length->Q9 c {a,[]}=pure (ps.zip a))
def ML.to{K:yF}{mg:Str->↑Nz}{name:Str}{st:Stmt}{ps:!Str}(d:ML K mg name st ps):Def K mg name st ps:=by
 have(f,e,g,c,a):=d;show{f,e,g,c,.all a}
def ML.mk'{K:yF}{h:Heap}{mg:Str->↑Nz}{name:Str}{st:Stmt}{ps:!Str}(X:K.In h)(G:h.Ns NO mg){f:Addr}{oc:Nz}{od j:↑Addr}{o:Array ↑Nz}{kV e i d g:Nz}
  (a:IW K NO name*>(TV (.ref f))) (l:K.lookup f*>{oc,od,.func (IR name name (bT st) (aP st) (ai st) .none kV e i j d g),o}) (c:JN K d name=T1) (k:Jf K (.ref f)=T1)
  (p:∀(kV e i:Nz) (j:↑Addr) (d g:Nz) (us:!Nz),us.length=ps.length->Q9 (IR name name (bT st) (aP st) (ai st) .none kV e i j d g) {us,[]}=pure (ps.zip us)):ML K mg name st ps:=
 {f,_,La X G a,vp l c k,p kV e i j d g}
def Hh{l:Mb}{k:Nat}{q:NM}{loose:!Str}{XP:(Str->↑Nz)->Heap->Prop}{YP:NP->Heap->Prop}{d:DefRec}{K:R0->yF}{x:Str}{st:Stmt}{run:!T->(T->Prop)->Prop}{A:(Str->↑Nz)->yF->Prop}
  (hn:l.most=TV 63) (S:d.params.defaults=[]) (hr:MW k QV)
  (hY:∀(w:NP) (h:Heap),YP w h->(K w.params).In h)
  (hA:∀(w:NP) (mg:Str->↑Nz) (h:Heap),(K w.params).In h->h.Ns NO mg->A mg (K w.params))
  (hL:∀(mg:Str->↑Nz) (K:yF) (a:Addr),A mg K->Ny K a->A mg (eL K a))
  (hd:∀(mg:Str->↑Nz) (K:yF),A mg K->Def K mg d.name st [x])
  (hb:∀(kV r pm:Nz) (an:↑Addr) (u ct:Nz) (s:NC) (v:Nz),QM s (IR d.name d.name (bT st) (aP st) (ai st) .none kV r pm an u ct) {[v],[]} [(x,v)])
  (F:∀(w:NP) (mg:Str->↑Nz) (K:yF) (base:Heap),A mg K->Has l.prog w K mg base k d.name [x] (spP K run))
  (L:∀ns:!Int,ns.length<=63->C1 (run [.li (ns.map .int)]) λt=>t=.im (.bl T1)) :
  Ml q loose XP YP l.row.toRowW d [] (λf vs=>PySem.call f vs):=by
 show Att.attach_call hn S λw s₀ X mg mb fa o pm cd r a vs ns G Y ho hd' hcd B i j c hg=>?_;have J:=hY w _ Y;have a0:=hA w mg _ J G.T.g;have la:Ny (K w.params) a:=λo e=>by
  have U:=J a o e;rw[i]at U;cases U;show{_,Xr}
 have a1:=hL mg _ a a0 la;have(fd,N,hF):=vI B (hd mg _ a1) hb λbase _ _=>F w mg (eL (K w.params) a) base a1;show vH (zj J) G.T.g G.T.b G.T.builtins G.T.nolimit hg i j (Ik c (by decide)) hr hF N (λH hO E=>?_) (λ_ _ _ z=>z);rcases E with E|⟨o,its,n,e,_⟩
 .have(P,h,hP):=L ns c;show{[.li (ns.map .int)],P,?_,h,?_}
  .show{_,_,Xr,{[a],?_},Xr};show{a,_,Xr,E,ek.ints ns,Xr}
  .intro t v H' p z;have(_,F,z,_):=z;rw[hP t p]at z;rw[Rp]at z;show z.1
 .rw[jE]at e;cases e
inductive TyB(K:yF) (H:Hp):V->String->Prop where
 | non:TyB K H .non "NoneType"
 | bl (x:Bool):TyB K H (.bl x) "bool"
 | int (i:Int):TyB K H (.int i) "int"
 | str (x:Str):TyB K H (.str x) "str"
 | tup {a:Addr} {xs:!V}:SqT K H a xs->TyB K H (.ref a) "tuple"
 | lst {a:Addr} {xs:!V}:SqL K H a xs->TyB K H (.ref a) "list"
 | dK {a:Addr} {kvs:!(Key×V)}:Rd H a (.dK kvs)->TyB K H (.ref a) "dict"
def TyB.kit(I:Inv X OK Z H s)(r:RelV x u)(t:TyB X.K H x n):∃j,PySem.W.KitX X.K u (.type n) j/\j s.heap/\u≠OM "__main__.__loader__#opaque" :=by
 cases t with
 | non=>cases (show u=Oj from r);show{_,PySem.W.kitx_none,QZ,λz=>nomatch z}
 | bl y=>cases (show u=ON y from r);show{_,PySem.W.kitx_bool,QZ,λz=>nomatch z}
 | int i=>have(t,q):=(show∃t,u=Os i t from r);cases q;show{_,PySem.W.kitx_int,QZ,λz=>nomatch z}
 | str y=>have(t,q):=(show∃t,u=SX y t from r);cases q;show{_,PySem.W.kitx_str,QZ,λz=>nomatch z}
 | @tup a l h=>
  cases r;have(g,r,p,_):=I.tuple h;have(o,f,d,_):=p;show{_,PySem.W.kitx_tuple,⟨o,f,d⟩,λz=>nomatch z}
 | @lst a l h=>
  cases r;have(g,r,p,_):=I.list h;have(o,n,f,d,_):=p;show{_,PySem.W.kitx_list,⟨o,f,d⟩,λz=>nomatch z}
 | @dK a c e=>
  cases r;have:=(show MR X.prog X.w H s.heap a (.dK c)from by
   rcases e with e|⟨o,e⟩;show I.hok a _ e;show(show MR X.prog X.w H s.heap a (.frz o (.dK c))from I.hok a _ e).2)
  have(_,_,vs,_,p):=this;have(o,E,B,f,d,_):=p;show{_,PySem.W.kitx_dict,⟨o,f,d.1⟩,λz=>nomatch z}
abbrev D6(K:yF)(n:String):!V->Hp->VK->Prop:=λa H Q=>∃x t b,a=[x,.ty n]/\TyB K H x t/\IZ K (.type t) (.type n)*>b/\Q (.bl b) H
def uT(n:String):MU X (.builtin "isinstance") (D6 X.K n):=by
 intro o s Z H r w Q I a h;have(x,t,b,rfl,g,e,q):=h;have(u,p,rfl,j,l):=lD a;cases l;have(z,i,d,c):=g.kit I j;show Ma i I.kIn d e c λf=>{.bl b,H,I.tok f,Xr,q}
abbrev D7(K:yF)(ns:!String):!V->Hp->VK->Prop:=λa H Q=>∃x t b p,a=[x,.ref p]/\SqT K H p (ns.map V.ty)/\TyB K H x t/\Lu K (.type t) (ns.map NH)*>b/\Q (.bl b) H
def sH:∀{ns:!String} {us:!Nz},Vals (ns.map V.ty) us->us=ns.map NH
 | [],_,.nil=>rfl
 | n::ns,_,.cons h r=>by
  cases (show _=NH n from h);rw[Ir,sH r]
def uU(ns:!String):MU X (.builtin "isinstance") (D7 X.K ns):=by
 intro N s Z H U us Q I r h;have(x,t,b,p,rfl,g,L,e,q):=h;have(u,S,rfl,B,j):=lD r;cases j;have(Hq,l,G,i):=L.kit I B;obtain⟨E,a,⟨o,w,z,m,f⟩,_⟩:=I.tuple g;rw[sH a]at f;have(c,d,dt,Y):=o;cases z;cases f;show PySem.W.kia_tup l I.kIn G w e i λJ=>{.bl b,H,I.tok J,Xr,q}
abbrev tyN:T->↑String
 | .im .non=>TV "NoneType"
 | .im (.bl _)=>TV "bool"
 | .im (.int _)=>TV "int"
 | .im (.str _)=>TV "str"
 | .im (.tup _)=>TV "tuple"
 | .im (.ls _)=>TV "list"
 | .im (.fd _ _)=>TV "dict"
 | .im (.exn _ _ _)=>TU
 | .tup _=>TV "tuple"
 | .li _=>TV "list"
 | .lst _=>TV "list"
 | .di _=>TV "dict"
 | .dc _=>TV "dict"
 | .ins _ _=>TU
 | .dq _=>TU
abbrev kW(n m:String):Bool:=n==m||(n == "bool" && m == "int")
private def fM(ns:!String)(t:T):↑T:=(tyN t).map λn=>.im (.bl (ns.any (kW n)))
def yv{K:yF}{H:Hp}{x:V}{n:String}:∀{t:T},Rpx K H t x->tyN t*>n->TyB K H x n
 | .im i,r,e=>by
  have h:=cT r;cases i<;>rw[RpI]at h<;>cases e;rw[h];show .non;rw[h];show .bl _;rw[h];show .int _;rw[h];show .str _;have(a,d,rfl,h,_):=h;show .tup h;obtain⟨a,d,rfl,h,_⟩:=ka r;show .lst (aK h);have(a,o,f,rfl,h,_):=h;show .dK (.inr ⟨o,h⟩)
 | .tup c,r,e=>by cases e;have(a,d,F,rfl,h,_):=sv r;show .tup h
 | .li c,r,e=>by cases e;have(a,d,rfl,h,_):=bE r;show .lst (.inl h)
 | .lst c,r,e=>by cases e;have(a,d,F,rfl,h,_):=iW r;show .lst (.inl h)
 | .di c,r,e=>by cases e;obtain⟨F,r⟩:=r;rw[Rp]at r;obtain⟨a,d,rfl,⟨f,h,_⟩,_⟩:=r;show .dK (.inl h)
 | .dc c,r,e=>by cases e;obtain⟨F,r⟩:=r;rw[Rp]at r;obtain⟨a,d,g,rfl,⟨f,h,_⟩,_⟩:=r;show .dK (.inl h)
 | .ins C c,r,e=>by cases e
 | .dq c,r,e=>by cases e
abbrev ki:!String:=["int","bool","str","tuple","list","dict"]
def mn{K:yF}{n m:String}{t:T}(e:tyN t*>n)(c:m∈ki):IZ K (.type n) (.type m)*>(kW n m):=by
 have d:n = "NoneType" \/ n∈ki:=by
  unfold tyN at e;split at e<;>cases e<;>first|show .inl rfl|show .inr (by decide)
 rcases d with rfl|d
 .rcases ycM c with rfl|c;rfl;rcases ycM c with rfl|c;rfl;rcases ycM c with rfl|c;rfl;rcases ycM c with rfl|c;rfl;rcases ycM c with rfl|c;rfl;rcases ycM c with rfl|c;rfl;cases c
 .have f:∀a∈ki,∀b∈ki,IZ K (.type a) (.type b)*>(kW a b):=by
   intro a g b h;dsimp[ki,IH,II,or_false]at g h;rcases g with rfl|rfl|rfl|rfl|rfl|rfl<;>rcases h with rfl|rfl|rfl|rfl|rfl|rfl<;>rfl
  show f n d m c
def mj{K:yF}{n:String}{t:T}(e:tyN t*>n):∀{a:!String},(∀m∈a,m∈ki)->Lu K (.type n) (a.map NH)*>(a.any (kW n))
 | [],_=>rfl
 | m::a,h=>by
  rw[Ir,PySem.W.kitAny.eq_2,mn e (h m ymS),K8,mj e λx c=>h x (ymC _ c)];cases kW n m<;>rfl
section
variable {ι : Type}{C:ι->Cx}{P:NM}{W:NP}{K:yF}{mg:Str->↑Nz}{base:Heap}{k:Nat}{e:Expr}{m:ME}{pos:Pos}
def wD(f:n∈ki):jX K (λx H Q=>D6 K n [x,.ty n] H Q) (fM [n]):=by
 intro H x d t Q r e q;unfold fM at e;cases e1:tyN d with
 | none=>rw[e1]at e;cases e
 | some c=>
  rw[e1]at e;cases e;show{x,c,_,Xr,yv r e1,mn e1 f,?_};show q _ H {MY.refl H,[],?_,IP,λa h=>by cases h};rw[Rp,RpI];show{by simp,Xr}
def wE{d c:String}(s:d∈ki)(o:c∈ki):jX K (λx H Q=>[V.ty d,V.ty c].length<=sizeLine/\∀p,H p=TU->D7 K [d,c] [x,.ref p] (upd H p (.tup [.ty d,.ty c])) Q) (fM [d,c]):=by
 intro H x g t Q r e q;unfold fM at e;cases e1:tyN g with
 | none=>rw[e1]at e;cases e
 | some i=>
  rw[e1]at e;cases e;show{by change 2<=sizeLine;decide,λp l=>?_};have f:MY H (upd H p (.tup [.ty d,.ty c])):=(MY.refl H).put l;have j:Rpx K (upd H p (.tup [.ty d,.ty c])) g x:=by
   obtain⟨F,r⟩:=r;show{F,r.same f}
  show{x,i,_,p,Xr,.inl (.inl aE),yv j e1,mj e1 (by simp[s,o]),?_};show q _ _ {f,[],?_,IP,λa h=>by cases h};rw[Rp,RpI];show⟨Xr,Xr⟩
def Gd(a:CK C P W K mg base k)(j:mg "isinstance" = TU)(h:mg x=TU)(l:Oo x*>(.type n))(s:n∈ki)(g:QE C K e m)(o:∀i,Gl (C i) "isinstance" :=by intro _;rfl)(c:∀i,Gl (C i) x:=by intro _;rfl)
  (hs:bh e=TZ:=by rfl) (f:x≠("__name__" : Str):=by decide) (d:(x==("__debug__" : Str))=TZ:=by decide):QE C K (.Call (.Name "isinstance" p) [e,.Name x p1] [] pos) (mUn (fM [n]) m):=by
 have(u,q,r):=g;show{_,λi=>fE (r:=D6 K n) (by have:=uT (X:=C i) n;rw[a.kk i]at this;show this) (o i) (by rw[a.mg i];show j) PU (bD (hs:=hs) (q i) (bD (kC (c i) (by rw[a.mg i];show h) l (si n) f d) fY)) (by change(~~~bh e&&T1)=T1;rw[hs];rfl),?_};show lq (wD s) r
def Ge(g:CK C P W K mg base k)(G:mg "isinstance" = TU)(z:mg x1=TU)(l:Oo x1*>(.type n1))(w:n1∈ki)(s:mg x2=TU)(h:Oo x2*>(.type n2))(o:n2∈ki)(E:QE C K e m)(J:∀i,Gl (C i) "isinstance" :=by intro _;rfl)(u:∀i,Gl (C i) x1:=by intro _;rfl)(B:∀i,Gl (C i) x2:=by intro _;rfl)
  (hs:bh e=TZ:=by rfl) (c:x1≠("__name__" : Str):=by decide) (f:(x1==("__debug__" : Str))=TZ:=by decide) (d:x2≠("__name__" : Str):=by decide) (a:(x2==("__debug__" : Str))=TZ:=by decide):QE C K (.Call (.Name "isinstance" p) [e,.Tuple [.Name x1 p1,.Name x2 p2] j p3] [] pos) (mUn (fM [n1,n2]) m):=by
 have(L,q,r):=E;show{_,λi=>fE (r:=D7 K [n1,n2]) (by have:=uU (X:=C i) [n1,n2];rw[g.kk i]at this;show this) (J i) (by rw[g.mg i];show G) PU (bD (hs:=hs) (q i) (bD (wr (bD (kC (u i) (by rw[g.mg i];show z) l (si n1) c f) (bD (kC (B i) (by rw[g.mg i];show s) h (si n2) d a) fY))) fY)) (by change(~~~bh e&&T1)=T1;rw[hs];rfl),?_};show lq (wE w o) r
end
def FR(h:tyN t*>n)(q:QT1 (.im (.bl (ns.any (kW n))))):W1 (fM ns t) QT1:={_,by unfold fM;rw[h];rfl,q}
def yL{prog:NM}{w:NP}{A:NU}{E:Nz->NC->Prop}{s:NC}{z TI TO G i2:Addr}{L J:!Addr}{n1 n2 i:Nat}{P1 P2:Nat->Nz->Prop}{Y St2:Nat->Heap->Prop}{a b:Nz}{Q:Nz->NC->Prop}
  (D1:Rh prog w A G L n1 P1 Y) (D2:Rh prog w A i2 J n2 P2 St2)
  (hz:SU s.heap z TI TO .none) (hTI:OR s.heap TI (.ref G) (.ref i2)) (hTO:OR s.heap TO a b) (s1:Y i s.heap) (s2:St2 i s.heap) (l1:i<n1) (l2:i<n2)
  (ap:TI≠z/\TO≠z/\TI≠TO/\TI≠G/\TI≠i2/\G≠z/\i2≠z/\G≠TO/\i2≠TO/\G≠i2) (f1:z∉L/\TO∉L/\i2∉L) (f2:z∉J/\TO∉J/\G∉J)
  (k:∀x y h' tk,P1 i x->P2 i y->SU h' z TI TO (Pe s.heap.objs.size)->OR h' TO x y->Y (i+1) h'->St2 (i+1) h'->OR h' s.heap.objs.size x y->h'.objs.size=s.heap.objs.size+1 ->
   (∀c o,c≠z->c≠TO->c≠G->c≠i2->s.heap.get? c*>o->h'.get? c*>o)->Q (.ref s.heap.objs.size) {s with heap:=h',toks:=tk}) :
  NF (NK prog w) A (NJ.«zip.__next__» {[.ref z],[]}) (λfin s'=>∃v,fin=Fin.done (Flow.ret v)/\Q v s') E s:=by
 change NF _ _ (Sf (.ref z) 2 >>= _) _ _ _;show NA (NQ hz rfl (x:=.bool TZ) rfl ?_);show NA (NQ hz rfl (x:=.ref TI) rfl ?_);show NA (Op hTI rfl ?_);change NF _ _ (Pi (.ref z) >>= _) _ _ _;show NA ?_;change NF _ _ (Sf (.ref z) 0 >>= _) _ _ _;show NA (NQ hz rfl (x:=.none) rfl ?_);show ND ?_;change NF _ _ (rule _ >>= _) _ _ _;show NA (P6 ?_);show NA (NQ hz rfl (x:=.ref TO) rfl ?_);show NA (On hz rfl (JQ _) ?_);have hz1:=Oa (N3 λd=>d.setIfInBounds 0 O8) hz rfl;have b1:=Oq s.heap z (N3 λd=>d.setIfInBounds 0 O8);generalize s.heap.update z (N3 λd=>d.setIfInBounds 0 O8)=h1 at hz1 b1|-;obtain⟨a1,a2,a3,a4,a5,a6,a7,a8,a9,a10⟩:=ap;show NA ?_;change NF _ _ (forIn [(NY G,0),(NY i2,1)] ((TU:↑PySem.Fin),()) _) _ _ _;rw[Kj];show NA (NA (PH ?_));change NF _ _ (NV (.ref G) >>= _) _ _ _;show NA (D1.item i _ _ _ l1 (D1.frame i _ _ s1 λc h o e=>(b1.2 c λq=>f1.1 (q▸h)).trans e) λx h2 t2 px s1' b2=>?_);show ND ?_;have j:NZ G h1 h2:=b2;have N:OR h2 TO a b:=((j.2 TO (NS a8)).trans (b1.2 TO a2)).trans hTO;change NF _ _ (QB (.ref TO) >>= _) _ _ _;show NA (Op N rfl ?_);show NA (PL N λh3 hTO3 b3=>?_);have u:NZ TO h2 h3:=b3;show NA (Re (ND ?_));change NF _ _ (forIn [(NY i2,1)] ((TU:↑PySem.Fin),()) _) _ _ _;rw[Kj];show NA (NA (PH ?_));change NF _ _ (NV (.ref i2) >>= _) _ _ _;have hTO3':OR h3 TO x b:=hTO3;show NA (D2.item i _ _ _ l2 (D2.frame i _ _ s2 λc h o e=>(u.2 c λq=>f2.2.1 (q▸h)).trans ((j.2 c λq=>f2.2.2 (q▸h)).trans ((b1.2 c λq=>f2.1 (q▸h)).trans e))) λy h4 t4 py s2' b4=>?_);show ND ?_;have p:NZ i2 h3 h4:=b4;have S:OR h4 TO x b:=(p.2 TO (NS a9)).trans hTO3';change NF _ _ (QB (.ref TO) >>= _) _ _ _;show NA (Op S rfl ?_);show NA (PL S λf hTO5 b5=>?_);have B:NZ TO h4 f:=b5;show NA (Re (ND ?_));have l:OR f TO x y:=hTO5;change NF _ _ (forIn ([]:!(Nz×Nat)) ((TU:↑PySem.Fin),()) _) _ _ _;rw[Me];show ND ?_;change NF _ _ (QB (.ref TO) >>= _) _ _ _;show NA (Op l rfl ?_);show NA (wpAny_newTuple (items:=[x,y]) ?_ (by change 2<=sizeLine;decide));have hz5:f.get? z=_:=(B.2 z (NS a2)).trans ((p.2 z (NS a7)).trans ((u.2 z (NS a2)).trans ((j.2 z (NS a6)).trans hz1)));have sz:f.objs.size=s.heap.objs.size:=B.1.trans (p.1.trans (u.1.trans (j.1.trans b1.1)));have hz6:=NB {cls:=.type "tuple",data:=.seq [x,y].toArray} hz5;have hn6:=NI f (o:={cls:=.type "tuple",data:=.seq [x,y].toArray}) rfl;change NF _ _ (Rs (.ref z) (.ref f.objs.size) >>= _) _ _ _;show NA ?_;change NF _ _ (Tx (.ref z) 0 (Pe f.objs.size) >>= _) _ _ _;show NA (On hz6 rfl (JQ _) ?_);have U:=Oa (N3 λd=>d.setIfInBounds 0 (Pe f.objs.size)) hz6 rfl;have b7:=Oq (f.push {cls:=.type "tuple",data:=.seq [x,y].toArray}) z (N3 λd=>d.setIfInBounds 0 (Pe f.objs.size));generalize (f.push {cls:=.type "tuple",data:=.seq [x,y].toArray}).update z (N3 λd=>d.setIfInBounds 0 (Pe f.objs.size))=h7 at U b7|-;show On U rfl (Nat.succ_lt_succ (JQ _)) ?_;have hz8:=Oa (N3 λd=>d.setIfInBounds 1 (ON TZ)) U rfl;have b8:=Oq h7 z (N3 λd=>d.setIfInBounds 1 (ON TZ));generalize h7.update z (N3 λd=>d.setIfInBounds 1 (ON TZ))=h8 at hz8 b8|-;have zl:z<s.heap.objs.size:=NG hz;have nz:f.objs.size≠z:=by rw[sz];show JI zl
 have g:∀c o,c≠z->f.get? c*>o->h8.get? c*>o:=λc o n e=>(b8.2 c n).trans ((b7.2 c n).trans (NB _ e));show ND {_,Xr,?_};have e9:(s.heap.objs.size)=f.objs.size:=sz.symm;rw[<-e9];show k x y h8 t4 px py ?_ ?_ ?_ ?_ ?_ ?_ ?_;rw[e9];show hz8;show g TO _ a2 l;show D1.frame _ _ _ s1' λc h o e=>g c o (λq=>f1.1 (q▸h)) ((B.2 c λq=>f1.2.1 (q▸h)).trans ((p.2 c λq=>f1.2.2 (q▸h)).trans ((u.2 c λq=>f1.2.1 (q▸h)).trans e)));show D2.frame _ _ _ s2' λc h o e=>g c o (λq=>f2.1 (q▸h)) ((B.2 c λq=>f2.2.1 (q▸h)).trans e);rw[e9];show(b8.2 _ nz).trans ((b7.2 _ nz).trans hn6);rw[b8.1,b7.1,Od,e9]
 .intro c o n1 n2 n3 n4 e;show g c o n1 ((B.2 c n2).trans ((p.2 c n4).trans ((u.2 c n2).trans ((j.2 c n3).trans ((b1.2 c n1).trans e)))))
def Bb{prog:NM}{w:NP}{A:NU}{E:Nz->NC->Prop}{s:NC}{z TI TO g i2:Addr}{u p:!Addr}{j S i:Nat}{P1 P2:Nat->Nz->Prop}{J St2:Nat->Heap->Prop}{a b:Nz}{Q:PySem.Fin->NC->Prop}
  (D1:Rh prog w A g u j P1 J) (D2:Rh prog w A i2 p S P2 St2)
  (hz:SU s.heap z TI TO .none) (hTI:OR s.heap TI (.ref g) (.ref i2)) (hTO:OR s.heap TO a b) (s1:J i s.heap) (s2:St2 i s.heap) (l:i=j\/(i<j/\i=S))
  (ap:TI≠z/\TO≠z/\TI≠TO/\TI≠g/\TI≠i2/\g≠z/\i2≠z/\g≠TO/\i2≠TO/\g≠i2) (f1:z∉u/\TO∉u/\i2∉u) (f2:z∉p/\TO∉p/\g∉p)
  (k:∀h' e tk,(∀c o,c≠z->c≠TO->c≠g->c≠i2->s.heap.get? c*>o->h'.get? c*>o)->(∃o,h'.get? e*>o/\o.cls=.type "StopIteration")->E (.ref e) {s with heap:=h',toks:=tk}) :
  NF (NK prog w) A (NJ.«zip.__next__» {[.ref z],[]}) Q E s:=by
 change NF _ _ (Sf (.ref z) 2 >>= _) _ _ _;show NA (NQ hz rfl (x:=.bool TZ) rfl ?_);show NA (NQ hz rfl (x:=.ref TI) rfl ?_);show NA (Op hTI rfl ?_);change NF _ _ (Pi (.ref z) >>= _) _ _ _;show NA ?_;change NF _ _ (Sf (.ref z) 0 >>= _) _ _ _;show NA (NQ hz rfl (x:=.none) rfl ?_);show ND ?_;change NF _ _ (rule _ >>= _) _ _ _;show NA (P6 ?_);show NA (NQ hz rfl (x:=.ref TO) rfl ?_);show NA (On hz rfl (JQ _) ?_);have N:=Oa (N3 λf=>f.setIfInBounds 0 O8) hz rfl;have X:=Oq s.heap z (N3 λf=>f.setIfInBounds 0 O8);generalize s.heap.update z (N3 λf=>f.setIfInBounds 0 O8)=h1 at N X|-;obtain⟨a1,a2,a3,a4,a5,a6,a7,a8,a9,a10⟩:=ap;show NA ?_;change NF _ _ (forIn [(NY g,0),(NY i2,1)] ((TU:↑PySem.Fin),()) _) _ _ _;rw[Kj];show NA (NA (PH ?_));change NF _ _ (NV (.ref g) >>= _) _ _ _;have q1:J i h1:=D1.frame i _ _ s1 λc Y o e=>(X.2 c λq=>f1.1 (q▸Y)).trans e;have G:∀(U:Heap) (e:Addr) (tk:Nat) (zo:Obj),U.get? z*>zo->(∃vs,zo.data=.fields vs/\0<vs.size)->zo.cls=.type "zip" -> (∀c o,c≠z->c≠TO->c≠g->c≠i2->s.heap.get? c*>o->U.get? c*>o)->(∃o,U.get? e*>o/\o.cls=.type "StopIteration") ->
   NF (NK prog w) A (Tx (.ref z) 0 Oj) (λ_ s''=>E (.ref e) s'') E {s with heap:=U,toks:=tk}:=by
  intro U e tk zo g1 g2 g3 g4 g5;have(vs,d,lz):=g2;show On g1 d lz ?_;have b9:=Oq U z (N3 λf=>f.setIfInBounds 0 Oj);have(o,g6,g7):=g5;have nez:e≠z:=λq=>by
   subst q;rw[g1]at g6;cases g6;rw[g3]at g7;show absurd g7 (by decide +kernel)
  show k _ e tk (λc o j S n3 n4 h=>(b9.2 c j).trans (g4 c o j S n3 n4 h)) {o,(b9.2 e nez).trans g6,g7}
 rcases l with rfl|⟨l1,rfl⟩
 .show NA (D1.done _ _ _ q1 λh2 e x2 st=>?_);show G h2 e _ _ (x2 z _ (NS a6) N) {_,Xr,JQ _} rfl (λc o j S n3 n4 h=>x2 c o n3 ((X.2 c j).trans h)) st
 .show NA (D1.item i _ _ _ l1 q1 λx h2 t2 px s1' b2=>?_);show ND ?_;have r:NZ g h1 h2:=b2;have B:OR h2 TO a b:=((r.2 TO (NS a8)).trans (X.2 TO a2)).trans hTO;change NF _ _ (QB (.ref TO) >>= _) _ _ _;show NA (Op B rfl ?_);show NA (PL B λh3 hTO3 b3=>?_);have L:NZ TO h2 h3:=b3;show NA (Re (ND ?_));change NF _ _ (forIn [(NY i2,1)] ((TU:↑PySem.Fin),()) _) _ _ _;rw[Kj];show NA (NA (PH ?_));change NF _ _ (NV (.ref i2) >>= _) _ _ _;show NA (D2.done _ _ _ (D2.frame i _ _ s2 λc Y o e=>(L.2 c λq=>f2.2.1 (q▸Y)).trans ((r.2 c λq=>f2.2.2 (q▸Y)).trans ((X.2 c λq=>f2.1 (q▸Y)).trans e))) λh4 e x4 st=>?_);show G h4 e _ _ (x4 z _ (NS a7) ((L.2 z (NS a2)).trans ((r.2 z (NS a6)).trans N))) {_,Xr,JQ _} rfl (λc o j S n3 n4 h=>x4 c o n4 ((L.2 c S).trans ((r.2 c n3).trans ((X.2 c j).trans h)))) st
def lQ{prog:NM}{w:NP}{A:NU}{E:Nz->NC->Prop}{s:NC}{z TI TO f i2:Addr}{e d:!Addr}{G u i:Nat}{q B:Nat->Nz->Prop}{h g:Nat->Heap->Prop}{a b:Nz}{Q:↑Nz->NC->Prop}
  (S:Rh prog w A.in1 f e G q h) (X:Rh prog w A.in1 i2 d u B g)
  (hz:SU s.heap z TI TO .none) (j:OR s.heap TI (.ref f) (.ref i2)) (l:OR s.heap TO a b) (L:h i s.heap) (U:g i s.heap) (l1:i<G) (l2:i<u)
  (ap:TI≠z/\TO≠z/\TI≠TO/\TI≠f/\TI≠i2/\f≠z/\i2≠z/\f≠TO/\i2≠TO/\f≠i2) (Y:z∉e/\TO∉e/\i2∉e) (N:z∉d/\TO∉d/\f∉d)
  (k:∀x y h' p,q i x->B i y->SU h' z TI TO (Pe s.heap.objs.size)->OR h' TO x y->h (i+1) h'->g (i+1) h'->OR h' s.heap.objs.size x y->h'.objs.size=s.heap.objs.size+1 ->
   (∀c o,c≠z->c≠TO->c≠f->c≠i2->s.heap.get? c*>o->h'.get? c*>o)->Q (TV (.ref s.heap.objs.size)) {s with heap:=h',toks:=p}) :
  NF (NK prog w) A (QK (.ref z)) Q E s:=by
 have r:s.TypeIs (.ref z) "zip" :={_,hz,Xr};unfold QK;show NA (Ph (Oc (name:=NL "__next__") r PV (Of PV r Sb ?_ (RX _))));show yL S X hz j l L U l1 l2 ap Y N λx y h' p c1 c2 c3 c4 c5 c6 c7 c8 c9=>?_;show ND (k x y h' p c1 c2 c3 c4 c5 c6 c7 c8 c9)
def jl{prog:NM}{w:NP}{A:NU}{E:Nz->NC->Prop}{s:NC}{z TI TO g i2:Addr}{f d:!Addr}{r B i:Nat}{L P2:Nat->Nz->Prop}{j h:Nat->Heap->Prop}{a b:Nz}{Q:↑Nz->NC->Prop}
  (X:Rh prog w A.in1 g f r L j) (D2:Rh prog w A.in1 i2 d B P2 h)
  (hz:SU s.heap z TI TO .none) (p:OR s.heap TI (.ref g) (.ref i2)) (q:OR s.heap TO a b) (N:j i s.heap) (Y:h i s.heap) (l:i=r\/(i<r/\i=B))
  (ap:TI≠z/\TO≠z/\TI≠TO/\TI≠g/\TI≠i2/\g≠z/\i2≠z/\g≠TO/\i2≠TO/\g≠i2) (f1:z∉f/\TO∉f/\i2∉f) (U:z∉d/\TO∉d/\g∉d)
  (k:∀h' G,(∀c o,c≠z->c≠TO->c≠g->c≠i2->s.heap.get? c*>o->h'.get? c*>o)->Q TU {s with heap:=h',toks:=G}) :
  NF (NK prog w) A (QK (.ref z)) Q E s:=by
 have u:s.TypeIs (.ref z) "zip" :={_,hz,Xr};unfold QK;show NA (Ph (Oc (name:=NL "__next__") u PV (Of PV u Sb ?_ (RX _))));show Bb X D2 hz p q N Y l ap f1 U λh' e G kk st=>?_;have(o,S,hc):=st;show NA (R7 (T:="StopIteration") (b:=T1) ⟨o,S,hc⟩ SO ?_);show ND (k _ _ kk)
abbrev Nd(kd:Bool)(h:Heap)(l:Addr)(a:Array Nz):Prop:=match kd with|true=>h.IsList l a|false=>h.IsTuple l a
abbrev M8(kd:Bool)(h:Heap)(it l:Addr)(k:Nat):Prop:=match kd with|true=>h.IsListIter it l k|false=>h.IsTupleIter it l k
abbrev itC(kd:Bool):String:=match kd with|true=>"list_iterator" | false=>"tuple_iterator"
noncomputable abbrev itO(kd:Bool) (l:Addr):Obj:={cls:=.type (itC kd),data:=.fields #[.ref l,.int 0 0]}
def rR(kd:Bool)(h:Nd kd s.heap l els)(q:Q (.ref s.heap.objs.size) {s with heap:=s.heap.push (itO kd l)}):NF (NK prog w) A (SD (.ref l)) Q E s:=by
 cases kd with
 | true=>show Ps h q
 | false=>show OU h q
def Nd.keep(x:Nd kd h l els)(k:∀o,h.get? l*>o->h'.get? l*>o):Nd kd h' l els:=by
 cases kd with
 | true=>have(o,e,r):=x;show{o,k o e,r}
 | false=>have(o,e,r):=x;show{o,k o e,r}
def Nd.get(x:Nd kd h l els):∃o,h.get? l*>o:=by
 cases kd with
 | true=>have(o,e,r):=x;show⟨o,e⟩
 | false=>have(o,e,r):=x;show⟨o,e⟩
noncomputable abbrev zK2(h:Heap) (k1 k2:Bool) (la1 la2:Addr):Heap:=(h.push (itO k1 la1)).push (itO k2 la2)
noncomputable abbrev zK3(h:Heap) (k1 k2:Bool) (la1 la2:Addr):Heap:=(zK2 h k1 k2 la1 la2).push {cls:=.type "tuple",data:=.seq #[.ref h.objs.size,.ref (h.push (itO k1 la1)).objs.size]}
noncomputable abbrev zK4(h:Heap) (k1 k2:Bool) (la1 la2:Addr):Heap:=(zK3 h k1 k2 la1 la2).push {cls:=.type "tuple",data:=.seq #[.none,.none]}
noncomputable abbrev zK5(h:Heap) (k1 k2:Bool) (la1 la2:Addr):Heap:=(zK4 h k1 k2 la1 la2).push {cls:=.type "zip",data:=.fields #[.none,.bool TZ,.bool TZ,.ref (zK2 h k1 k2 la1 la2).objs.size,.ref (zK3 h k1 k2 la1 la2).objs.size]}
def qc(h i:Bool)(a c:Addr)(xs p:Array Nz) :
  Ts (NJ.«zip.__new__» {[.type "zip",.ref a,.ref c],[]}) (λ_ R s=>Nd h s.heap a xs/\Nd i s.heap c p/\R (.ok (.ret (.ref (zK4 s.heap h i a c).objs.size))) {s with heap:=zK5 s.heap h i a c}):=
 .of_wp λJ E B RR r f=>by
  obtain⟨u,g,d,G,os⟩:=r;obtain⟨z,w,f⟩:=f;have l:=sub_zip;have j:Nd i (u.push (itO h a)) c p:=w.keep λo e=>NB _ e;wp_walk using rR h z,rR i j
  show{_,Xr,f}
def sW(S:Nd k1 s.heap la1 xs)(N:Nd k2 s.heap la2 ys)
  (J:∀h',SU h' (s.heap.objs.size+4) (s.heap.objs.size+2) (s.heap.objs.size+3) .none->OR h' (s.heap.objs.size+2) (.ref s.heap.objs.size) (.ref (s.heap.objs.size+1))->OR h' (s.heap.objs.size+3) .none .none ->
   M8 k1 h' s.heap.objs.size la1 0->M8 k2 h' (s.heap.objs.size+1) la2 0->h'.objs.size=s.heap.objs.size+5->(∀c o,s.heap.get? c*>o->h'.get? c*>o)->Q (.ref (s.heap.objs.size+4)) {s with heap:=h'}) :
  NF (NK prog w) A (call (.type "zip") [.ref la1,.ref la2]) Q E s:=by
 show callType_new F.called_zip (by decide) (F.typeCall_zip_2 _ _) (F.newCall_zip_2 _ _) (λj=>F.args_object_init_3 j _ _) F.entry_zip_new (qc k1 k2 la1 la2 xs ys) {S,N,?_};have g:(s.heap.push (itO k1 la1)).objs.size=s.heap.objs.size+1:=Od ..;have f:(zK2 s.heap k1 k2 la1 la2).objs.size=s.heap.objs.size+2:=by rw[zK2,Od,g]
 have i:(zK3 s.heap k1 k2 la1 la2).objs.size=s.heap.objs.size+3:=by rw[zK3,Od,f]
 have p:(zK4 s.heap k1 k2 la1 la2).objs.size=s.heap.objs.size+4:=by rw[zK4,Od,i]
 have L:(s.heap.push (itO k1 la1)).get? s.heap.objs.size*>(itO k1 la1):=NI _ rfl;have G:(zK2 s.heap k1 k2 la1 la2).get? (s.heap.objs.size+1)*>(itO k2 la2):=by have:=NI (s.heap.push (itO k1 la1)) (o:=itO k2 la2) rfl;rw[g]at this;show this
 have q:=NI (zK2 s.heap k1 k2 la1 la2) (o:={cls:=.type "tuple",data:=.seq #[.ref s.heap.objs.size,.ref (s.heap.push (itO k1 la1)).objs.size]}) rfl;have u:=NI (zK3 s.heap k1 k2 la1 la2) (o:={cls:=.type "tuple",data:=.seq #[.none,.none]}) rfl;have r:=NI (zK4 s.heap k1 k2 la1 la2) (o:={cls:=.type "zip",data:=.fields #[.none,.bool TZ,.bool TZ,.ref (zK2 s.heap k1 k2 la1 la2).objs.size,.ref (zK3 s.heap k1 k2 la1 la2).objs.size]}) rfl;rw[f,g]at q;rw[i]at u;rw[p,f,i]at r;have up:∀c o,(zK2 s.heap k1 k2 la1 la2).get? c*>o->(zK5 s.heap k1 k2 la1 la2).get? c*>o:=λc o e=>NB _ (NB _ (NB _ e));have it:∀(d:Bool) (h:Heap) (a l:Addr),h.get? a*>(itO d l)->M8 d h a l 0:=λd h a l e=>by
  cases d;show{_,e,Xr,Xr};show{_,e,Xr,Xr}
 change _/\_;rw[p];have B:(zK5 s.heap k1 k2 la1 la2).get? (s.heap.objs.size+4)=TV {cls:=.type "zip",data:=.fields #[.none,.bool TZ,.bool TZ,.ref (s.heap.objs.size+2),.ref (s.heap.objs.size+3)]}:=by
  change(TR _ _).get? _=_;rw[f,i];show r
 show{{_,B,Xr},J _ B ?_ ?_ (it _ _ _ _ (up _ _ (NB _ L))) (it _ _ _ _ (up _ _ G)) ?_ λc o e=>up c o (NB _ (NB _ e))}
 .show NB _ (NB _ ?_);change(TR _ _).get? _=_;rw[g];show q
 .show NB _ u
 .rw[zK5,Od,p]
def m8(d:A.handled=TU)(kd:Bool)(it l:Addr)(c:l≠it)(a:Array Nz):Rh prog w A it [it,l] a.size (λk v=>a[k]?*>v) (λk h=>M8 kd h it l k/\Nd kd h l a):=by
 cases kd with
 | true=>show Rh.list d it l c a
 | false=>show jZ d it l c a
def u7(hh:A.handled=TU)(kd:Bool)(it l:Addr)(els:Array Nz)(i:Nat)(hi:els[i]?=TU):Rh prog w A it [it,l] i (λk v=>els[k]?*>v) (λk h=>k=i/\M8 kd h it l k/\Nd kd h l els) where
 live:=λk h st=>by
  obtain⟨_,st,_⟩:=st;cases kd;obtain⟨o,e,_⟩:=st;show⟨o,e⟩;obtain⟨o,e,_⟩:=st;show⟨o,e⟩
 frame:=λk h h' st hk=>by
  obtain⟨e,st,sq⟩:=st;show{e,?_,sq.keep λo e=>hk l ∅ o e};cases kd;obtain⟨o,e,r⟩:=st;show{o,hk it ∅ o e,r};obtain⟨o,e,r⟩:=st;show{o,hk it ∅ o e,r}
 item:=λk s Q E hlt st _=>by
  have:=st.1;omega
 done:=λs Q E st kk=>by
  obtain⟨_,st,sq⟩:=st;cases kd with
  | true=>show wpAny_nextOf_list_end hh st sq hi kk
  | false=>show fW hh st sq hi kk
abbrev SqK(K:yF)(H:Hp)(kd:Bool)(a:Addr)(xs:!V):Prop:=match kd with|true=>SqL K H a xs|false=>SqT K H a xs
def Inv.seqK(I:Inv X OK Z H s)(h:SqK X.K H kd a xs):∃c:!Nz,Vals xs c/\Nd kd s.heap a c.toArray:=by
 cases kd with
 | true=>
  have(c,d,p,_):=I.list h;have(o,n,g,f,i,e):=p;show⟨c,d,o,g,f,n,e⟩
 | false=>
  have(c,d,p,_):=I.tuple h;show⟨c,d,p⟩
def Inv.seqK_inj(I:Inv X OK Z H s)(h:SqK X.K H kd a xs)(h':SqK X.K H kd a ys):xs=ys:=by
 cases kd with
 | true=>show I.list_inj h h'
 | false=>show I.tuple_inj h h'
abbrev Itz(K:yF) (e d:Bool) (f g:Addr):It:=
 {λi H=>∃a c x y,SqK K H e f a/\SqK K H d g c/\a[i]?*>x/\c[i]?*>y,
   λi H v H'=>∃p x y,H p=TU/\v=.ref p/\H'=upd H p (.tup [x,y])/\(∀a,SqK K H e f a->a[i]?*>x)/\∀c,SqK K H d g c->c[i]?*>y,
   λi H=>∃a c,SqK K H e f a/\SqK K H d g c/\(a.length<=i\/c.length<=i)}
def Inv.turnedL{X:Cx}{g:!(Addr×Obj)}{Z:St}{H:Hp}{s:NC}{h':Heap}{t':Nat}{fs:!Addr}(I:Inv X g Z H s)(k:∀b o,b∉fs->s.heap.get? b*>o->h'.get? b*>o)(f:∀b∈fs,eK X g H b):Inv X g Z H {s with heap:=h',toks:=t'}:=by
 have d:∀b u,H b*>u->b∉fs:=λb u e z=>by rw[(f b z).1]at e;cases e
 have G:X.env.locals∉fs:=λz=>(f _ z).2.1 rfl;show I.step (g':=s.gens) (d':=s.drawn) (ch:=fs) (λb p=>?_) (λb o _ _ a e _=>k b o a e) (λb o _ _ a e _=>{o.slots,k b o a e}) (λ_ _ _ _ n=>n)
  (λb o a e=>{o,k b o a e}) (λ_ _ e=>e) (λ_ _ _ e=>e) (λb N e=>{#[],by rw[e];simp}) (λm i=>?_) (λb u e=>?_) I.bare
 .have(_,j,_,L,E,w):=f b p;show⟨L,j,E,w⟩
 .have(o,J,l,B,r):=i;show{o,J,l,k _ o G B,r}
 .show(I.hok b u e).stay (λc v a q=>k c v ?_ q) (λ_ q=>q) λ_ _ q=>q;rcases a with z|z;rw[z];show d b u e;show d c _ z
def M8.get(x:M8 kd h it l k):∃o,h.get? it*>o/\∀v,o.data ≠ .cell v:=by
 cases kd with
 | true=>have(o,e,c,d):=x;show{o,e,λv z=>by rw[d]at z;cases z}
 | false=>have(o,e,c,d):=x;show{o,e,λv z=>by rw[d]at z;cases z}
def M8.keep(x:M8 kd h it l k)(a:∀o,h.get? it*>o->h'.get? it*>o):M8 kd h' it l k:=by
 cases kd with
 | true=>have(o,e,r):=x;show{o,a o e,r}
 | false=>have(o,e,r):=x;show{o,a o e,r}
structure ZAp(z TI TO i1 i2 l1 l2:Addr):Prop where
 ap:TI≠z/\TO≠z/\TI≠TO/\TI≠i1/\TI≠i2/\i1≠z/\i2≠z/\i1≠TO/\i2≠TO/\i1≠i2
 f1:z∉[i1,l1]/\TO∉[i1,l1]/\i2∉[i1,l1]
 f2:z∉[i2,l2]/\TO∉[i2,l2]/\i1∉[i2,l2]
 n1:l1≠i1
 n2:l2≠i2
def yu{P:NM}{w:NP}{K:yF}{elts:!Expr}{k0:Nat}{pos:Pos}(k1 k2:Bool){z TI TO i1 i2 l1 l2:Addr}(A:ZAp z TI TO i1 i2 l1 l2) :
  Np P w K (.Tuple elts k0 pos) (Itz K k1 k2 l1 l2) [z,TI,TO,i1,i2] z (λi h=>SU h z TI TO .none/\OR h TI (.ref i1) (.ref i2)/\(∃a b,OR h TO a b)/\M8 k1 h i1 l1 i/\M8 k2 h i2 l2 i) where
 mem:=by simp
 obj:=λi h st b hb=>by
  obtain⟨s1,s2,⟨a,c,s3⟩,s4,s5⟩:=st;dsimp[IH,II,or_false]at hb;rcases hb with rfl|rfl|rfl|rfl|rfl;show{_,s1,λv z=>by cases z};show{_,s2,λv z=>by cases z};show{_,s3,λv z=>by cases z};show s4.get;show s5.get
 keep:=λi h h' st k=>by
  obtain⟨s1,s2,⟨a,c,s3⟩,s4,s5⟩:=st;show{k z ∅ _ s1,k TI ∅ _ s2,{a,c,k TO ∅ _ s3},s4.keep λo e=>k i1 ∅ o e,s5.keep λo e=>k i2 ∅ o e}
 item:=by
  intro X hP hw hK hc i OK s Z H E I hf st hg;subst hP hw hK;have(xs,ys,x,y,hq1,hq2,hx,hy):=hg;have(its1,rv1,p1):=I.seqK hq1;have(its2,rv2,p2):=I.seqK hq2;have(u1,hu1,ru1):=rv1.get hx;have(u2,hu2,ru2):=rv2.get hy;obtain⟨s1,s2,⟨a,c,s3⟩,s4,s5⟩:=st;have hn1:i<its1.toArray.size:=by rw[Ic];show(Ib.mp hu1).1
  have hn2:i<its2.toArray.size:=by rw[Ic];show(Ib.mp hu2).1
  have hh:X.A.in1.handled=TU:=I.ok.hd hc;show lQ (m8 (A:=X.A.in1) hh k1 i1 l1 A.n1 its1.toArray) (m8 (A:=X.A.in1) hh k2 i2 l2 A.n2 its2.toArray) s1 s2 s3 ⟨s4,p1⟩ ⟨s5,p2⟩ hn1 hn2 A.ap A.f1 A.f2 λx' y' h1 tk px py hz1 hTO1 st1 st2 hpr hsz kk=>?_;have ex:x'=u1:=by
   have e1:its1.toArray[i]?*>x':=px;have e2:its1.toArray[i]?*>u1:=by exists hu1
   rw[e1]at e2;show IC.inj e2
  have ey:y'=u2:=by
   have e1:its2.toArray[i]?*>y':=py;have e2:its2.toArray[i]?*>u2:=by exists hu2
   rw[e1]at e2;show IC.inj e2
  subst ex ey;show{_,Xr,wpAny_letOwnedTupleGo_zip hz1 λh2 hz2 sb=>?_};have sb':NZ z h1 h2:=sb;have hzl:z<s.heap.objs.size:=NG s1;obtain⟨a1,a2,a3,a4,a5,a6,a7,a8,a9,a10⟩:=A.ap;have k2':∀b o,b∉[z,TO,i1,i2]->s.heap.get? b*>o->h2.get? b*>o:=λb o n q=>by
   dsimp[IH,II,or_false,not_or]at n;show(sb'.2 b n.1).trans (kk b o n.1 n.2.1 n.2.2.1 n.2.2.2 q)
  have I1:Inv X OK Z H {s with heap:=h2,toks:=tk}:=I.turnedL k2' λb hb=>hf b (by
   dsimp[IH,II,or_false]at hb|-;rcases hb with h|h|h|h<;>simp[h])
  have fz:eK X OK H s.heap.objs.size:=I.fpOk (Ig _) (I.hok.fresh (Ig _));have hT2:h2.get? s.heap.objs.size=TV {cls:=.type "tuple",data:=.seq #[x',y']}:=(sb'.2 _ (JI hzl)).trans hpr;have I2:Inv X OK Z (upd H s.heap.objs.size (.tup [x,y])) {s with heap:=h2,toks:=tk}:=I1.track fz (.inr I.sz) I.sz {by change 2<=sizeLine;decide,[x',y'],.cons ru1 (.cons ru2 .nil),{_,hT2,⟨Xr,Xr⟩,_,Xr}};show{.ref s.heap.objs.size,_,I2,Xr,{_,x,y,fz.1,Xr,Xr,λys' hy'=>by rw[I.seqK_inj hy' hq1];show hx,λys' hy'=>by rw[I.seqK_inj hy' hq2];show hy},{hz2,?_,{_,_,(sb'.2 TO a2).trans hTO1},st1.1.keep λo e=>(sb'.2 i1 a6).trans e,st2.1.keep λo e=>(sb'.2 i2 a7).trans e},λb hb=>?_};show(sb'.2 TI a1).trans (kk TI _ a1 a3 a4 a5 s2)
  .have hbo:∃o,s.heap.get? b*>o:=by
    dsimp[IH,II,or_false]at hb;rcases hb with rfl|rfl|rfl|rfl|rfl;show{_,s1};show{_,s2};show{_,s3};have(o,e,_):=s4.get;show⟨o,e⟩;have(o,e,_):=s5.get;show⟨o,e⟩
   have(o,q):=hbo;rw[upd_ne (Is (NG q))];show(hf b hb).1
 done:=by
  intro X hP hw hK hc i OK s Z H E I hf st hg;subst hP hw hK;have(xs,ys,hq1,hq2,hl):=hg;have(its1,rv1,p1):=I.seqK hq1;have(its2,rv2,p2):=I.seqK hq2;obtain⟨s1,s2,⟨a,c,s3⟩,s4,s5⟩:=st;have hh:X.A.in1.handled=TU:=I.ok.hd hc;have fin:∀h' tk,(∀c o,c≠z->c≠TO->c≠i1->c≠i2->s.heap.get? c*>o->h'.get? c*>o)->(TU:↑Nz)=TU/\Inv X OK Z H {s with heap:=h',toks:=tk}:=λh' tk kk=>
   ⟨Xr,I.turnedL (fs:=[z,TO,i1,i2]) (λb o n q=>by
    dsimp[IH,II,or_false,not_or]at n;show kk b o n.1 n.2.1 n.2.2.1 n.2.2.2 q) λb hb=>hf b (by
    dsimp[IH,II,or_false]at hb|-;rcases hb with h|h|h|h<;>simp[h])⟩
  have l1':=rv1.length;have l2':=rv2.length;by_cases h1:xs.length<=i
  .have e1:its1.toArray[i]?=TU:=by simp;omega
   show jl (u7 (A:=X.A.in1) hh k1 i1 l1 its1.toArray i e1) (m8 (A:=X.A.in1) hh k2 i2 l2 A.n2 its2.toArray) s1 s2 s3 ⟨Xr,s4,p1⟩ ⟨s5,p2⟩ (.inl rfl) A.ap A.f1 A.f2 fin
  .have h2:ys.length<=i:=by omega
   have e2:its2.toArray[i]?=TU:=by simp;omega
   have hn1:i<its1.toArray.size:=by rw[Ic];omega
   show jl (m8 (A:=X.A.in1) hh k1 i1 l1 A.n1 its1.toArray) (u7 (A:=X.A.in1) hh k2 i2 l2 its2.toArray i e2) s1 s2 s3 ⟨s4,p1⟩ ⟨Xr,s5,p2⟩ (.inr ⟨hn1,Xr⟩) A.ap A.f1 A.f2 fin
 self:=λ_ _ _ _ _ st h=>Sc st.1 h
abbrev Fm(K:yF)(h:TA):TI:=λZ H R=>h Z H λvs c=>∃f e a d g i,vs=[.ref a,.ref d]/\SqK K c f a g/\SqK K c e d i/\R (Itz K f e a d) c
def DA{X:Cx}{a b:Expr}{ta:TA}{elts:!Expr}{k0:Nat}{p pos pt:Pos}(hg:Gl X "zip")(hm:X.mg "zip" = TU)(ha:PA X [a,b] ta)(E:aX [a,b]=T1):PI X (.Tuple elts k0 pt) (.Call (.Name "zip" p) [a,b] [] pos) (Fm X.K ta):=by
 intro OK s Z H R I h;have B:bh a=TZ:=by
  cases q:bh a with
  | true=>rw[aX,q]at E;cases E
  | false=>rfl
 have J:bh b=TZ:=by
  cases q:bh b with
  | true=>rw[aX,B,aX,q]at E;cases E
  | false=>rfl
 show TK (fQ I hg hm boot_zip (I9 (thn (ha pos OK s Z H _ I h) λus f ⟨vs,H1,r,r1,q1⟩=>?_) (aM B) (by rw[aM J];rfl)));obtain⟨k1,k2,l1,l2,xs,ys,e,S,hq2,q⟩:=q1;subst e;have(u,u',rfl,ru,ru'):=lD r1;cases ru;cases ru';have(its1,rv1,p1):=r.seqK S;have(its2,rv2,p2):=r.seqK hq2;have l:l1<f.heap.objs.size:=by have(o,e):=p1.get;show NG e
 have j:l2<f.heap.objs.size:=by have(o,e):=p2.get;show NG e
 show sW p1 p2 λh1 hz L U G Y hsz kk=>?_;show Sc hz ?_;have i:∀c:Nat,f.heap.objs.size+c≠l1:=λc=>JI (Iq l (IX _ c));have g:∀c:Nat,f.heap.objs.size+c≠l2:=λc=>JI (Iq j (IX _ c));have N:∀{c d:Nat},c≠d->f.heap.objs.size+c≠f.heap.objs.size+d:=λh z=>h (Nat.add_left_cancel z);show{f.heap.objs.size+4,[f.heap.objs.size+4,f.heap.objs.size+2,f.heap.objs.size+3,f.heap.objs.size,f.heap.objs.size+1],_,_,H1,Xr,r.kept (t':=f.toks) λb o e=>kk b o e,yu k1 k2 {?_,?_,?_,?_,?_},{hz,L,{_,_,U},G,Y},λb hb=>?_,q};show{?_,?_,?_,?_,?_,?_,?_,?_,?_,?_}<;>first|show i _|show g _|show i 0|show g 0|show Is l|show Is j|show λz=>absurd (show(_:Nat)=_ from z) ⋯
 .dsimp[IH,II,or_false,not_or];show{{?_,?_},{?_,?_},?_,?_}<;>first|show i _|show g _|show i 0|show g 0|show Is l|show Is j|show λz=>absurd (show(_:Nat)=_ from z) ⋯
 .dsimp[IH,II,or_false,not_or];show{{?_,?_},{?_,?_},?_,?_}<;>first|show i _|show g _|show i 0|show g 0|show Is l|show Is j|show λz=>absurd (show(_:Nat)=_ from z) ⋯
 .first|show i _|show g _|show i 0|show g 0|show Is l|show Is j|show λz=>absurd (show(_:Nat)=_ from z) ⋯
 .first|show NS (g 1)|show i _|show g _|show i 0|show g 0|show Is l|show Is j|show λz=>absurd (show(_:Nat)=_ from z) ⋯
 .have w:f.heap.objs.size<=b:=by
   dsimp[IH,II,or_false]at hb;rcases hb with rfl|rfl|rfl|rfl|rfl<;>first|show Ig _|show IX _ _
  show r.fpOk w (r.hok.fresh w)
abbrev nS:T->↑(Bool×!I)
 | .im (.tup a)=>TV (TZ,a)
 | .li a=>TV (T1,a)
 | .im (.ls a)=>TV (T1,a)
 | _=>TU
abbrev qV(is js:!I):!R:=(is.zip js).map λp=>{.ow,.im (.tup [p.1,p.2])}
private def nu(a:MA):MI:={λO Q=>WA a O λh O1=>∃c d i g f e,h=[c,d]/\nS c.t*>(i,f)/\nS d.t*>(g,e)/\Q [c,d] (qV f e) O1,a.mu}
def kG{K:yF}{H:Hp}{kd:Bool}{is:!I}{v:V}:∀{t:T},Rpx K H t v->nS t*>(kd,is)->∃a xs,v=.ref a/\SqK K H kd a xs/\ek K H is xs
 | .im (.tup _),r,e=>by cases e;show bG r
 | .li _,r,e=>by cases e;have(a,xs,f,d,c):=bE r;show{a,xs,f,.inl d,c}
 | .im .non,_,e=>by cases e
 | .im (.bl _),_,e=>by cases e
 | .im (.int _),_,e=>by cases e
 | .im (.str _),_,e=>by cases e
 | .im (.ls _),r,e=>by cases e;have(a,xs,f,d,c):=ka r;show{a,xs,f,.inl d,c}
 | .im (.fd _ _),_,e=>by cases e
 | .im (.exn _ _ _),_,e=>by cases e
 | .tup _,_,e=>by cases e
 | .lst _,_,e=>by cases e
 | .di _,_,e=>by cases e
 | .dc _,_,e=>by cases e
 | .dq _,_,e=>by cases e
 | .ins _ _,_,e=>by cases e
def EU{Γ:Gm}{b l1 l2:Nat}{w L:Bool}{U E:Addr}{Y B:R}{is js:!I}(e1:nS Y.t*>(w,is))(e2:nS B.t*>(L,js)):gy Γ b (Itz Γ.K w L U E) [l1,l2] [.ref U,.ref E] [Y,B] (qV is js):=λ{H O Z A n} S c=>by
 have(b1,h,s,l,G):=kG (S.rd c.1) e1;cases s;have(b2,g,s,j,N):=kG (S.rd c.2.1) e2;cases s;show{λi J=>{h,g,l,j,?_},λi r hr=>?_}
 .rw[G.length,N.length];unfold qV at J;rw[Ia,JF]at J;omega
 .have(p,hp,rfl):=ar hr;have(o,q):=IN.mp hp;have(w1,d,u):=G.get o;have(w2,a,e):=N.get q;show{⟨h,g,w1,w2,l,j,d,a⟩,λx H' y=>?_};have(pp,x',y',f,rfl,rfl,hx,hy):=y;have z:=hx h l;rw[d]at z;cases z;have X:=hy g j;rw[a]at X;cases X;show S.new S.kept (New.tup f (.cons u (.cons e (by rw[ek]))))
def AD{K:yF}{j:TA}{a:MA}(z:M2 K j a):Nk K (Fm K j) (nu a):=by unhygienic
 intro Γ H O Z A b n Rr P r w S q;show z.w r w S λrs O1 vs X ⟨r1,r2,B,Y,is,js,e,i,h,p⟩ ⟨J,ks,m1,d,at1,nd,L,g⟩=>?_;subst e r;have(l1,_,v,_,rfl,rfl,s,c):=at1.cons_inv;have(l2,_,w,_,rfl,rfl,l,f):=c.cons_inv;have(rfl,rfl):=f.nil_inv;have(u,G,rfl,U,g2):=kG (d.rd s) i;have(o,E,rfl,N,h2):=kG (d.rd l) h;show{B,Y,u,o,G,E,Xr,U,N,q _ _ O1 Γ _ [l1,l2] [.ref u,.ref o] X J m1 p rfl id d ⟨s,l,trivial⟩ L g (EU i h)}
section
variable {ι : Type}{C:ι->Cx}{P:NM}{W:NP}{K:yF}{mg:Str->↑Nz}{base:Heap}{k:Nat}{a b:Expr}{ms:MA}{pos:Pos}
def DV(c:CK C P W K mg base k)(T:Bi mg)(d:QA C K [a,b] ms)(e:∀i,Gl (C i) "zip" :=by intro _;rfl):QI C K (.Tuple elts k0 pt) (.Call (.Name "zip" p) [a,b] [] pos) (nu ms):=by
 have(f,q,n,r):=d;show{_,λi=>by have:=DA (X:=C i) (elts:=elts) (k0:=k0) (p:=p) (pos:=pos) (pt:=pt) (e i) (by rw[c.mg i];show T.b_zip) (q i) n;rw[c.kk i]at this;show this,AD r}
end
def EY(h:WA ms O λrs O1=>∃a c e d is js,rs=[a,c]/\nS a.t*>(e,is)/\nS c.t*>(d,js)/\QI' [a,c] (qV is js) O1):WI (nu ms) O QI':=by unhygienic show WI.of h
section
variable {S α:Type}{O:Rho}{m:ME}{ms:MA}{g:MG}{s1:MS}{QE':R->Rho->Prop}{Q:Fl->Rho->Prop}{fr:! ↑Nat}
def fG(st:S->Rho)(emb : α->I)(P:Nat->S->!α->Prop) (h:WA ms O λrs O1=>∃d c o E is js,rs=[d,c]/\nS d.t*>(o,is)/\nS c.t*>(E,js)/\min is.length js.length<sizeLine/\(eV fr O1.length&&fB (g.mu++([]++m.mu)) fr.length&&[d,c].all (ay (muF fr (g.mu++([]++m.mu)))))=T1/\∃f,O1=st f/\P 0 f [] /\
  (∀(j:Nat) x y s l,is[j]?*>x->js[j]?*>y->P j s l->WG g {.ow,.im (.tup [x,y])} (inR fr (st s)) λO1=>WE m O1 λr J=>∃x i,r={.ow,.im (emb x)}/\fe fr (g.mu++([]++m.mu)) J (st s)=st i/\P (j+1) i (l++[x])) /\
  ∀s l,P (min is.length js.length) s l->QE' {.ow,.li (l.map emb)} (st s)):WE (aC fr (nu ms) g bj m) O QE':=by unhygienic
 show jV (EY (h.mono λrs O1 z=>?_));obtain⟨d,c,o,E,is,js,rfl,N,L,hl,X,f,rfl,Y,hs,he⟩:=z;show{d,c,o,E,is,js,Xr,N,L,X,by unfold qV;rw[Ia,JF];show hl,λj a O=>∃s l,a=l.map (λx=>T.im (emb x))/\O=st s/\P j s l,{f,[],Xr,Xr,Y},?_,?_}
 .rintro j r a O hj ⟨s,l,rfl,rfl,u⟩;have(p,U,rfl):=ar hj;have(B,G):=IN.mp U;show C1.mono (hs j p.1 p.2 s l B G u) λO1 q=>lK {λ_=>q.mono λr J ⟨x,i,e,e',w⟩=>{_,e,i,l++[x],by simp,e',w},λz=>by cases z}
 .rintro a O ⟨s,l,rfl,rfl,u⟩;rw[cW];show he s l ?_;have:(qV is js).length=min is.length js.length:=by unfold qV;rw[Ia,JF]
  rw[<-this];show u
end
def vZ(h:tyN t*>n)(a:ns.any (kW n)=b)(q:QT1 (.im (.bl b))):W1 (fM ns t) QT1:=FR h (by rw[a];show q)
def Dj(q:QT1 (.im (.bl TZ))):W1 (neT (.im (.bl a)) (.im (.bl a))) QT1:=w1 (x:=.im (.bl TZ)) (by unhygienic (cases a<;>rfl)) q
end L2
namespace L2
open PySem
noncomputable section
abbrev ic(rec:!T->(T->Prop)->Prop):MS:=(ao (mIf (aA (mUn (fM ["tuple","list"]) (ag 1))) (ao (mIf (mOr (aA (mOp neT (mUn (fM ["tuple"]) (ag 0)) (mUn (fM ["tuple"]) (ag 1)))) (aA (mOp neT (mUn (fM ["list"]) (ag 0)) (mUn (fM ["list"]) (ag 1))))) (aT (mC (.bl TZ))) aV)
  (aT (mz (mOp eqT (mB cy (ae 0 af)) (mB cy (ae 1 af))) (mB pC (aa (aC [TU,TU,TU,TU] (nu (ae 0 (ae 1 af))) (bJ 2 (au (ah 2) (au (ah 3) bI))) bj (mF rec (ae 2 (ae 3 af)))) af))))) aV)
  (ao (mIf (mOr (aA (mOp neT (mUn (fM ["bool"]) (ag 0)) (mUn (fM ["bool"]) (ag 1)))) (aA (mOp neT (mUn (fM ["str"]) (ag 0)) (mUn (fM ["str"]) (ag 1))))) (aT (mC (.bl TZ))) aV)
  (aT (mz (rH (mUn (fM ["tuple","list"]) (ag 0))) (mOp eqT (ag 0) (ag 1))))))
abbrev dQ:Nat->!T->(T->Prop)->Prop
 | 0=>λa Q=>a.length=2/\ce dh 2 a Q
 | n+1=>λa Q=>a.length=2/\ce (ic (dQ n)) 2 a Q
end
end L2
namespace L2
open PySem PySem.Spec PyProof.Rows
section
variable {prog:NM}{w:NP}
protected def KpG(G:Heap)(d it:Addr)(h:Heap):Prop:=∀b o,b≠d->b≠it->G.get? b*>o->h.get? b*>o
structure DUp(prog:NM)(w:NP)(U:Prop)(G:Heap)(d it:Addr)(Ob : β->Obj->Prop)(len : β->Nat)(stp : β->γ->β)(Pr : γ->Nz->Nz->Prop):Prop where
 set:∀{A:NU} {E:Nz->NC->Prop} {Q:Unit->NC->Prop} {s:NC} {st o p key val},(U->A.units+1<Ox)->KpG G d it s.heap->Pr p key val->s.heap.get? d*>o->Ob st o->len st<sizeLine->(∀h' o' tk,NZ d s.heap h'->h'.get? d*>o'->Ob (stp st p) o'->Q () {s with heap:=h',toks:=tk})->NF (NK prog w) A (dictSet d key val) Q E s
 len:∀st p,len (stp st p)<=len st+1
end
section
variable {X:Cx}{OK:!(Addr×Obj)}{Z:St}{H:Hp}{s:NC}
def Inv.frz(I:Inv X OK Z H s)(h:H a*>(.lst xs)):∃o,Inv X OK Z (upd H a (.frz o (.lst xs))) s:=by
 have(z,c,n,r,e):=(show MR X.prog X.w H s.heap a (.lst xs)from I.hok a _ h);show{_,I.write (t':=s.toks) (h':=s.heap) (by rw[h];show QZ) (.inl rfl) (λb u _ q=>q) {_,e} ⟨e,z,c,n,r,e⟩}
end
abbrev gE:!I->Option !Int
 | []=>TV []
 | i::a=>match i with
  | .int n=>(gE a).map (n :: ·)
  | _=>TU
def ja{K:yF}{H:Hp}:∀{is:!I} {ns:!Int} {xs:!V},gE is*>ns->ek K H is xs->xs=ns.map V.int
 | [],_,_,e,r=>by cases e;rw[ek]at r;show r
 | i::is,ns,xs,e,r=>by
  rw[ek]at r;have(x,xs,rfl,a,c):=r;cases i with
  | int n=>
   have(f,d,rfl):=IB.mp (show(gE is).map (n :: ·)*>ns from e);rw[RpI]at a;rw[a,ja d c];rfl
  | _=>cases e
abbrev ltB(is js:!I):↑T:=match gE is with
 | some c=>(match gE js with
  | some a=>TV (.im (.bl (HT.lexLt c a)))
  | none=>TU)
 | none=>TU
private def ltT(x y:T):↑T:=match vD x with
 | some c=>(match vD y with
  | some a=>ltB c a
  | none=>TU)
 | none=>TU
def wK{K:yF}:dR K (D8 K) ltT:=by
 intro H x y E G t Q i s e q;unfold ltT at e;ext e B r;ext e z g;cases jc r;cases jc g;unfold ltB at e;ext e l f;ext e j p;cases e;have(a,w,rfl,c,h):=bG i;have(b,u,rfl,d,o):=bG s;rw[ja f h]at c;rw[ja p o]at d;show{a,b,l,j,Xr,Xr,c,d,q _ H (.sc rfl)}
def Fb:gm .Lt ltT:={D8,λ_ a=>CW ⋯,λ_=>wK}
end L2
namespace L2
open PySem
noncomputable section
abbrev cF:MS:=(ao (rJ 1 2 3 (aa (mIx (aR [] (aa (mC (.int 1)) (aa (mC (.int 2)) (aa (mC (.int 6)) af)))) (ak 0 0 aj (ae 0 (aa (mC (.int 3)) af)))) (aa (ak 0 0 aj (ae 0 (aa (mC (.int 2)) af))) (aa (ak 0 0 aj (ae 0 (aa (mC (.int 2)) af))) af))))
  (ao (ax (aq [] (aa (ak 0 0 iz (ae 0 (ae 1 af))) (aa (ak 0 0 aj (ae 0 (ae 1 af))) af))) (bJ 2 (au (ah 4) (au (ah 5) bI))))
  (ao (mIf (aA (mOp eqT (ag 3) (mC (.int 1)))) (ax (aC [TU,TU,TU,TU,TV 4,TU,TU,TU,TU,TU,TU,TU,TU] (aS (ae 1 af)) (ah 12) bj (mOp aW (mSl (mOp bW (mIx (ag 4) (mC (.int 0))) (mC (.int 7))) bF (dU (mC (.int 7)))) (mIx (mC (.str "abcdef")) (ag 12)))) (ah 4)) aV)
  (ao (ax (aC [TU,TU,TU,TU,TU,TU,TU,TU,TU,TU,TU,TU,TU] (aS (aa (mC (.int 25)) af)) (ah 12) bj (aq [] (aa (mOp bH (mOp fD (ag 12) (mC (.int 5))) (mC (.int 2))) (aa (mOp bH (mOp iM (ag 12) (mC (.int 5))) (mC (.int 2))) af)))) (ah 6))
  (ao (mIf (aA (mOp eqT (ag 2) (mC (.int 1)))) (ax (aC [TU,TU,TU,TU,TU,TU,TU,TU,TU,TU,TU,TU,TU,TU] (mIt (ag 6)) (ah 13) (aA (mOp ltT (ag 13) (aq [] (aa (mC (.int 0)) (aa (mC (.int 0)) af))))) (ag 13)) (ah 6)) aV)
  (ao (ax (aR [] af) (ah 7))
  (ao (cQ (aS (ae 1 af)) (ah 8)
  (dF [8,9,10,11,12] (ao (j3 9 10 (aa (ak 0 0 aj (ae 0 (aa (mB cy (ae 6 af)) af))) (aa (mOp bH (mIx (aR [] (aa (mC (.int 11)) (aa (mC (.int 8)) af))) (mB on (aa (mOp eqT (ag 1) (mC (.int 2))) af))) (ak 0 0 aj (ae 0 (aa (mC (.int 3)) af)))) af)))
  (ao (mIf (oA (aA (mOp eqT (ag 1) (mC (.int 6)))) (aA (mOp neT (ag 8) (ag 5)))) (ax (mC (.int 1)) (ah 10)) aV)
  (ao (ax (aR [] af) (ah 11))
  (ao (cQ (aS (ae 10 af)) (ah 12)
  (dF [12] (bB (db "list" 11 [] apT (ag 11) (aa (aq [] (aa (mC (.str "at")) (aa (mIx (ag 4) (ak 0 0 aj (ae 0 (ae 1 af)))) (aa (mIx (ag 6) (mOp fD (mOp aW (ag 9) (ag 12)) (mB cy (ae 6 af)))) af)))) af)))))
  (bB (db "list" 7 [] apT (ag 7) (aa (aq [] (aa (mIx (ag 4) (ag 8)) (aa (ak 0 0 iy (ae 0 (ae 11 af))) af))) af)))))))))
  (aT (aq [] (aa (mC (.int 2)) (aa (mOp aW (mC (.int 2)) (ak 0 0 aj (ae 0 (aa (mC (.int 50)) af)))) (aa (mB dg (ae 7 af)) af))))))))))))
abbrev eB(ts:!T)(Q:T->T->Prop):Prop:=ts.length=1/\fh cF 0 13 ts Q
abbrev ij:MS:=(ao (ax (mIx (aR [] (aa (mC (.int 4)) (aa (mC (.int 2001)) af))) (ak 0 0 aj (ae 0 (aa (mC (.int 2)) af)))) (ah 2))
  (aT (mB dg (aa (aC [TV 0,TU,TV 2,TU] (aS (ae 1 af)) (ah 3) bj (mOp bH (ak 0 0 aj (ae 0 (ae 2 af))) (mOp iM (ag 2) (mC (.int 2))))) af))))
abbrev jN(ts:!T)(Q:T->T->Prop):Prop:=ts.length=2/\fh ij 0 3 ts Q
end
end L2
namespace L2
open PySem PySem.Spec PyProof.Rows
def j7(ns:!Int):∀k,k<=ns.length->preSum (λi=>ns.getD i 0) k=(ns.take k).sum
 | 0,_=>by simp[preSum]
 | k+1,h=>by
  have a:k<ns.length:=h;rw[preSum,j7 ns k (Kq a),Jc,Ix a,List.sum_append];simp[List.getD,Ix a]
def sG:∀{ns:!Int} {us:!Nz} {i:Nat} {v:Nz},Vals (ns.map V.int) us->us[i]?*>v->∃t,v=.int (ns.getD i 0) t
 | [],_,_,_,.nil,e=>by simp at e
 | n::ns,_,0,_,.cons r _,e=>by simp at e;subst e;show r
 | n::ns,_,i+1,v,.cons _ t,e=>by simpa using sG (ns:=ns) (i:=i) t (by exists e)
section
variable {X:Cx}
def uW(L:X.calm=T1):MU X (.builtin "sum") (λxs H Q=>∃(a:Addr) (ns:!Int),xs=[.ref a]/\SqL X.K H a (ns.map V.int)/\Q (.int ns.sum) H):=by
 intro j s Z H xs us Q I J h;have(a,ns,rfl,w,q):=h;have(u,rfl,U):=eU J;cases U;have(d,r,p,hz):=I.list w;have c:a<s.heap.objs.size:=by
  have(o,n,e,_):=p;show NG e
 show call_sum_walkG (Ps p.isList ?_);show{s.heap.objs.size,_,_,_,_,_,λi=>ns.getD i 0,Xr,TH (A:=X.A.in1) (show X.A.in1.handled=TU from I.ok.hd L) s.heap.objs.size a (Is c) d.toArray,{{_,NI _ rfl,Xr,Xr},?_},?_,?_,λE Y G l=>?_};show p.isList.at λo e=>NB _ e
 .intro b f;change b<(s.heap.push _).objs.size;rw[Od];dsimp[IH,II,or_false]at f;rcases f with rfl|rfl;show LO _;show K4 c
 .intro i v N;show sG r (by exists N)
 .have B:Inv X j Z H {s with heap:=E,toks:=Y}:=I.kept λb o e=>l b o (λz=>absurd (ysM z) (Is (NG e))) (NB _ e);show{.int _,H,B,⟨G,Xr⟩,?_};have S:d.toArray.size=ns.length:=by rw[Ic,<-r.length,Ia]
  rw[S,j7 ns _ (Ig _),IK];show q
end
abbrev kPD:Key->OL
 | .inl i=>.int i
 | .inr x=>.str x
mutual
noncomputable def I.pd:I->OL
 | .non=>.none|.bl b=>.bool b|.int i=>.int i|.str x=>.str x|.tup is=>.tuple (I.pds is)|.ls is=>.list (I.pds is)|.fd ks is=>.dict ((ks.map kPD).zip (I.pds is))|.exn _ _ _=>.none
noncomputable def I.pds:!I->!OL
 | []=>[]
 | i::is=>i.pd::I.pds is
end
private def qK:!T->↑T:=l1 λt=>match t with
 | .li c=>(gE c).map λa=>.im (.int a.sum)
 | _=>TU
section
variable {K:yF}{H:Hp}
abbrev GF(K:yF):!V->Hp->VK->Prop:=λd H Q=>∃(a:Addr) (c:!Int),d=[.ref a]/\SqL K H a (c.map V.int)/\Q (.int c.sum) H
def wU:gn K (GF K) qK:=by
 intro H vs i t Q r e q;unfold qK at e;have c:=eW e;clear e;have(x,rfl,e):=c;have(v,rfl,g):=lS r;ext e;have(a,f,rfl):=IB.mp e;have(p,j,rfl,h,d):=bE g;have:=ja f d;subst this;show{p,a,Xr,aK h,q _ H (.sc rfl)}
def b_sum:lW "sum" qK:={_,GF,MH,λ_ h=>uW h,λ_=>wU}
end
end L2
namespace L2
open PySem
noncomputable section
abbrev ip:MS:=(aT (mB qK (aa (aC [TU,TU,TU,TU] (nu (ae 0 (ae 1 af))) (bJ 2 (au (ah 2) (au (ah 3) bI))) bj (mOp bW (ag 2) (ag 3))) af)))
abbrev jQ(ts:!T)(Q:T->Prop):Prop:=ts.length=2/\ce ip 2 ts Q
end
end L2
namespace L2
open PySem PySem.Spec PyProof.Rows
section
variable {a b m:ME}{O:Rho}{QF:R->Rho->Prop}{QG':Rho->Prop}{Q:T->Prop}
def l8:∀ns:!Int,gE (ns.map .int)*>ns
 | []=>rfl
 | n::ns=>by rw[Ir,gE,l8 ns];rfl
def oR{ns:!Int}(q:Q (.im (.int ns.sum))):W1 (qK [.li (ns.map .int)]) Q:=by unhygienic
 show w1 (x:=.im (.int ns.sum)) ?_ q;change(gE (ns.map .int)).map _=_;rw[l8];rfl
end
abbrev oU(is:!I) (i:Int):↑(T×I):=if 0<=i/\i<1000000000 then(match is[i.toNat]? with
 | some x=>TV (.li (is.eraseIdx i.toNat),x)
 | none=>TU)else TU
abbrev Bv(is:!I) (t:T):↑(T×I):=match isI t with
 | some i=>oU is i
 | none=>TU
private def iV(s:T)(ts:!T):↑(T×I):=match s with
 | .li a=>l1 (Bv a) ts
 | _=>TU
section
variable {K:yF}{H:Hp}
def ek.erase:∀{is:!I} {xs:!V} (n:Nat),ek K H is xs->ek K H (is.eraseIdx n) (xs.eraseIdx n)
 | [],_,n,h=>by rw[ek]at h;subst h;rw[LK,LK,ek]
 | i::is,_,0,h=>by
  rw[ek]at h;have(x,r,rfl,_,a):=h;show a
 | i::is,_,n+1,h=>by
  rw[ek]at h;have(x,r,rfl,c,a):=h;rw[Kl,Kl,ek];show{x,_,Xr,c,ek.erase n a}
def qw:cY K qC iV:=by
 intro H w vs s X s' i G F Q f U nd p e q;unfold iV at e;ext e Y;have N:=eW e;clear e;have(t,rfl,e):=N;unfold Bv at e;ext e n c;unfold oU at e;ext e L;ext e x S;cases e;have(a,d,rfl,j,o,rfl):=j4 f λa u=>p a (yaL _ u);have(z,rfl,g):=uv U;have B:t=.im (.int n):=by
  unfold isI at c;ext c;split at c;cases c;rfl;cases c
 subst B;have J:=aH {_,g};have(_,rfl):=bq g;subst J;have(y,l,r):=o.get S;have E:n.toNat<d.length:=(Ib.mp l).1;show{a,d,n,n.toNat,y,Xr,Xr,j,by omega,by omega,?_,l,gW j (o.erase n.toNat) r q};have h:ixN d.length n*>n.toNat:=by
  unfold ixN;rw[if_pos L.1,if_pos ⋯]
 show(nq h).1
end
def rK:jW "list" "pop" iV:={_,λ_=>qC,PySem.F.plainAttrs_list,PySem.F.slot_list_pop,PySem.F.type_list_pop,λ_=>vT,λ_=>qw}
section
variable {O:Rho}{is:!I}{n:Nat}{x:I}{QI1:T->I->Prop}
def wz(a:0<=i)(c:i<1000000000)(h:is[i.toNat]?*>x):oU is i*>(.li (is.eraseIdx i.toNat),x):=by
 unfold oU;rw[if_pos ⟨a,c⟩,h]
def t6:iV (.li is) [.im (.int i)]=oU is i:=by unfold iV;rfl
def zC(a:0<=i)(c:i<1000000000)(h:is[i.toNat]?*>x)(q:QI1 (.li (is.eraseIdx i.toNat)) x):W2 (iV (.li is) [.im (.int i)]) QI1:=by
 rw[t6,wz a c h];show{_,_,Xr,q}
end
section
variable {K:yF}{H:Hp}
private def oB(g:String)(i:Nat)(mv:!Nat)(f:T->!T->↑(T×I))(a:MA):ME:={λO Q=>∃c,O[i]?*>(TV c)/\tyT g c.t=T1/\WA a O λe O1=>∃d,O1[i]?*>(TV d)/\W2 (mutR i mv f (rdR i d) e O1) Q,a.mu++(mv++[i])}
def xI{o:String}{red:V->!V->Hp->VK->Prop}{f:T->!T->↑(T×I)}{B:TA}{a:MA}{i:Nat}{mv:!Nat}(hp:cY K red f)(N:M2 K B a):MN K (tBM K o red (ym i) B) (oB o i mv f a):=by unhygienic
 intro Γ H O Z A b n Q P s w S q;obtain⟨z,h0,ty,w⟩:∃z,O[i]?*>(TV z)/\tyT o z.t=T1/\WA a O _:=w;have(v,J,L):=S.slot h0;show{v,J,by rw[<-s];show nX ty (S.rd L),N.w s w S λrs O1 vs H2 ⟨r1,Y,r,O2,e,p⟩ ⟨A1,ks,m1,G,at1,nd,E,d⟩=>?_};have(v',l,A2,k,m2,U,hk2,X,c):=G.var G.kept Y;rw[J]at l;cases l;have u:=d.tr c;rw[Iw]at u;have bn:=S.bn;have le:=S.le;have b1:=d.1;show Sim.mutR s hp e U u X ⋯ (at1.kept c (λj hj=>by have:=E j hj;omega) (IQ.mpr λr _=>hU)) nd (λj h=>S.fr (E j h)) (λj h=>S.ub j (Ik u.1 h)) λv H' g=>q _ _ v H' p g
end
section
variable {ι : Type}{C:ι->Cx}{P:NM}{W:NP}{K:yF}{mg:Str->↑Nz}{base:Heap}{k:Nat}
variable {e:Expr}{es:!Expr}{ms:MA}{pos:Pos}
def DR(l:Nat)(mv:!Nat)(j:CK C P W K mg base k)(o:jW T0 name f)(p:QA C K (e::es) ms)(u:∀i,(C i).N[l]?*>x:=by intro _;rfl)(z:∀i,Vis (C i).env.scope x:=by first|show λ_=>PR rfl|show λ_=>O7 (PR rfl)|show λ_=>O7 (O7 rfl))(E:(x==("__debug__" : Str))=TZ:=by decide)(g:(x==("__classdict__" : Str))=TZ:=by decide)(d:decide ((e::es).length<30)=T1:=by rfl)
  (c:∀i,OA (.Name x xpos) name (C i).env (eval (.Name x xpos) (C i).env)=eval (.Name x xpos) (C i).env:=by intro _;rfl) (a:(apos.endLine==pos.line)=T1:=by rfl):QE C K (.Call (.Attribute (.Name x xpos) name apos) (e::es) [] pos) (oB T0 l mv f ms):=by
 have(id,h,L,G,B,w,J):=o;have(S,q,n,s):=p;show{_,λi=>B8 (r:=h K) (j.kk i) L G B (by have:=w (C i);rw[j.kk i]at this;show this) (lc (u i) (z i) E g) (q i) n d (c i) a,xI (J K) s}
end
section
variable {O:Rho}{ms:MA}{QE':R->Rho->Prop}{g:MG}{s1:MS}{Q:Fl->Rho->Prop}{S:Type}
def yE(c : O[l]?*>(TV r0))(hz:tyT T0 r0.t=T1)(h:WA ms O λrs O1=>∃a,O1[l]?*>(TV a)/\W2 (mutR l mv f (rdR l a) rs O1) QE'):WE (oB T0 l mv f ms) O QE':=by unhygienic show C2.of {_,c,hz,h}
def EX{a:!R->!R->Rho->Prop}(h:WA ms O λrs O1=>∃k is,rs=[{k,.li is}]/\a [{k,.li is}] (is.reverse.map λi=>{.ow,.im i}) O1):WI (vN ms) O a:=by unhygienic show WI.of h
def AU(st:S->Rho)(P:Nat->S->Prop) (h:WA ms O λrs O1=>∃k is,rs=[{k,.li is}]/\ay (g.mu++s1.mu) {k,.li is}=T1/\∃a,O1=st a/\P 0 a /\
  (∀(j:Nat) x s,is.reverse[j]?*>x->P j s->WG g {.ow,.im x} (st s) λO1=>WS s1 O1 (fFs st (P (j+1)) Q))/\∀s,P is.length s->Q .nx (st s)):WS (cQ (vN ms) g s1) O Q:=by
 show sK (EX (h.mono λrs O1 z=>?_));have(k,is,rfl,p,a,rfl,d,i,l):=z;show{k,is,Xr,?_,λj O=>∃s,O=st s/\P j s,⟨a,Xr,d⟩,?_,?_}
 .rw[Ie];show{by rw[JX,LJ,p];rfl,kj λr u=>by have(x,_,rfl):=ID.mp u;rfl}
 .rintro j r O o ⟨s,rfl,c⟩;have(x,e,rfl):=ar o;show(i j x s e c).mono λO1 q=>q.mono λf w q=>kv q
 .rintro O ⟨s,rfl,c⟩;rw[Ia,Jz]at c;show l s c
end
def lV(a:!Nz):R3 a.toArray TU TU (TV (-1))=a.reverse.toArray:=by
 have e:=pe a.toArray;have c:OI TU TU (TV (-1)) a.toArray.size=((a.toArray.size:Int)-1,-1,-1):=rfl;unfold R3;rw[c];dsimp only;unfold sliceRange;have d:(if(-1:Int)>0 then(if((a.toArray.size:Int)-1) < -1 then(-1-((a.toArray.size:Int)-1) + -1-1) / -1 else 0)else(if((a.toArray.size:Int)-1) > -1 then(((a.toArray.size:Int)-1) - -1 - -1-1) / (- -1)else 0)).toNat=a.toArray.size:=by
  rw[if_neg (by decide)];split;rw[MJ,LD];omega;omega
 dsimp[d];rw[Lz];congr 1;show Eq.trans ?_ e;congr 1;funext k;change a.toArray[(((a.toArray.size:Int)-1) + -1*(k:Int)).toNat]?=_;rw[My]
section
variable {X:Cx}
abbrev yk(K:yF)(e:TE):TE:=λZ H Q=>e Z H λx c=>∃a d,x=.ref a/\SqL K c a d/\∀p,c p=TU->Q (.ref p) (upd c p (.lst d.reverse))
def zH(he:PE X e te):PE X (.Subscript e (.Slice TU TU (TV (.UnaryOp .USub (.Constant (.int 1) j p1) p2)) p3) pos) (yk X.K te):=by
 intro f s Z H Q I h;show RF (thn (he f s Z H _ I h) λv S g=>?_);have(x,B,I1,r1,U):=g;have(a,N,rfl,hq,q):=U;cases r1;show Rb ?_;rw[PF];show ND (ND ?_);rw[Ry];show thn (wt qR qu f S Z B (λx i=>x=.int (-1)/\i=B) I1 {1,Xr,Xr,Xr}) λvu c g=>?_;have(y,i,G,r2,e1,J):=g;subst e1 J;have(l,rfl):=r2;have p:Inv X f Z i {c with heap:=c.heap.push {cls:=.type "slice",data:=.fields #[.none,.none,.int (-1) l]}}:=G.kept (t':=c.toks) λb Y q=>NB _ q;have(u,r,E,L):=p.list hq;have z:=r.length;change NF (NK X.prog X.w) X.A (Qr e (.Slice TU TU (TV (.UnaryOp .USub (.Constant (.int 1) j p1) p2)) p3) (.ref a) (.ref c.heap.objs.size)) (EP X f Z Q) X.xe {c with heap:=c.heap.push {cls:=.type "slice",data:=.fields #[.none,.none,.int (-1) l]}};show SH (ops:=[.ref a,.ref c.heap.objs.size]) E.isList.typeIs Qk.lookup (Qs (lo:=TU) (hi:=TU) (st:=TV (-1)) E.isList (Pl ..) .none .none (.int (-1) l) ∅ ?_ (by rw[Ic]<;>omega)) (by unhygienic rfl);rw[lV];show{.ref _,_,p.laid (t':=c.toks) (o:=.lst N.reverse) (λb Y q=>NB _ q) (Ig _) ?_,Xr,q _ (p.hok.fresh (Ig _))};show{by rw[Jz];show L,u.reverse,0,r.reverse,NI _ rfl}
def GH{K:yF}{e:Expr}{a:TE}{j:Nat}{c f g pos:Pos}(h:X.K=K)(d:PE X e a):PE X (.Subscript e (.Slice TU TU (TV (.UnaryOp .USub (.Constant (.int 1) j c) f)) g) pos) (yk K a):=h▸zH d
end
private def pc:T->↑T
 | .li a=>TV (.li a.reverse)
 | _=>TU
section
variable {K:yF}
def xM{d:TE}{a:ME}(i:MN K d a):MN K (yk K d) (mUn pc a):=by unhygienic
 intro Γ H O Z A b n Q P g w S q;show i.w g w S λr O1 x L ⟨t,e,p⟩ ⟨J,k,U,f,G,B,c⟩=>?_;subst g;have h:=f.rd B;unfold pc at e;ext e N o;cases e;rw[o]at h;have(l,j,s,u,z):=bE h;show{l,j,s,aK u,λl E=>q _ _ _ _ p (f.new c (.li E z.reverse))}
end
section
variable {ι : Type}{C:ι->Cx}{P:NM}{W:NP}{K:yF}{mg:Str->↑Nz}{base:Heap}{k:Nat}{a:Expr}{ma:ME}{pos:Pos}
def DS(d:CK C P W K mg base k)(c:QE C K a ma):QE C K (.Subscript a (.Slice TU TU (TV (.UnaryOp .USub (.Constant (.int 1) j p1) p2)) p3) pos) (mUn pc ma):=by
 have(e,p,r):=c;show{_,λi=>GH (d.kk i) (p i),xM r}
end
def Dn(q:Q (.li is.reverse)):W1 (pc (.li is)) Q:=by unhygienic show{_,Xr,q}
end L2
namespace L2
open PySem
noncomputable section
abbrev da:MS:=(ao (ax (aR [] af) (ah 2))
  (ao (ax (mB cy (ae 1 af)) (ah 3))
  (ao (cQ (vN (aa (mF dO (ae 0 af)) af)) (ah 4)
  (dF [4] (mIf (aA (mOp eqT (mIx (ag 4) (mC (.int 0))) (mC (.str "num")))) (bB (db "list" 2 [4] apT (ag 2) (ae 4 af))) (mIf (aA (mOp eqT (mIx (ag 4) (mC (.int 0))) (mC (.str "at")))) (ao (zk 3 (· - ·) (mC (.int 1)))
  (bB (db "list" 2 [] apT (ag 2) (aa (aq [] (aa (mC (.str "at")) (aa (mIx (ag 4) (mC (.int 1))) (aa (mIx (ag 1) (ag 3)) af)))) af)))) (mIf (aA (mOp eqT (mIx (ag 4) (mC (.int 0))) (mC (.str "op")))) (bB (oB "list" 2 [] apT (aa (aq [] (aa (mC (.str "op")) (aa (mIx (ag 4) (mC (.int 1))) (aa (jf "list" 2 lf (ag 2)) (aa (jf "list" 2 lf (ag 2)) af))))) af))) (bB (oB "list" 2 [] apT (aa (aq [] (aa (mC (.str "if")) (aa (jf "list" 2 lf (ag 2)) (aa (jf "list" 2 lf (ag 2)) (aa (jf "list" 2 lf (ag 2)) af))))) af))))))))
  (aT (mIx (ag 2) (mC (.int 0)))))))
abbrev fg(ts:!T)(Q:T->Prop):Prop:=ts.length=2/\ce da 5 ts Q
end
end L2
namespace L2
open PySem PySem.Spec PyProof.Rows
open AutoSeq1 (wpAny_loadPart')
open MeetsSeq MeetsSeq2 MeetsSeq3 SeqRoads2
abbrev uu(n:Nat):!V:=(Ip n).map λi:Nat=>V.int (i:Int)
def xT(h:ItemsOf (λi v=>∃t,v=.int (0+i*1) t) acc n):Vals (uu n) acc.toList:=by
 have d:∀(a:!Nz) (k:Nat),(∀i v,a[i]?*>v->∃t,v=Os (((k+i:Nat):Int)) t)->Vals ((Ip a.length).map λi:Nat=>V.int ((k+i:Nat):Int)) a:=by
  intro a
  induction a with
  | nil=>intro k _;show .nil
  | cons u a g=>
   intro k f;rw[Im,Li,Ir,JT];show .cons ?_ ?_
   .have(t,e):=f 0 u rfl;rw[e];show⟨t,Xr⟩
   .have:=g (k+1) λi v e=>by
     have(t,c):=f (i+1) v (by exists e);show{t,by rw[c];congr 1;omega}
    have j:((λi:Nat=>V.int ((k+i:Nat):Int))∘Jn)=λi:Nat=>V.int ((k+1+i:Nat):Int):=by funext i;change V.int _=V.int _;congr 2;omega
    rw[j];show this
 have:=d acc.toList 0 λi v e=>by
  have(t,c):=h.2 i v (by rw[<-Kw];show e);show{t,by rw[c];congr 1;simp}
 have l:acc.toList.length=n:=by rw[Jk];show h.1
 rw[l]at this;have e:(λi:Nat=>V.int ((0+i:Nat):Int))=λi:Nat=>V.int (i:Int):=by funext i;rw[JS]
 rw[e]at this;show this
section
variable {X:Cx}
abbrev Eb:!V->Hp->VK->Prop:=λa H Q=>∃n:Nat,a=[.int (n:Int)]/\∀r,H r=TU->Q (.ref r) (upd H r (.rng 0 n))
def uV:MU X (.type "range") Eb:=by
 intro d s Z H e f Q I a h;have(n,rfl,q):=h;have(u,rfl,c):=eU a;have(t,rfl):=c;show call_range_1 ?_;show{.ref s.heap.objs.size,_,I.laid (t':=s.toks+1+1) (o:=.rng 0 n) (λb o q=>NB _ q) (Ig _) (show MR X.prog X.w _ _ _ (.rng 0 n)from{_,_,_,NI _ rfl}),Xr,q _ (I.hok.fresh (Ig _))}
abbrev xr:!V->Hp->VK->Prop:=λc H Q=>∃(a:Addr) (n:Nat),c=[.ref a]/\H a*>(.rng 0 n)/\n<=1000000/\∀l,H l=TU->Q (.ref l) (upd H l (.lst (uu n)))
def sT(g:X.calm=T1):MU X (.type "list") xr:=by
 intro E s Z H J L Q I d h;have(a,n,rfl,f,N,q):=h;have(u,rfl,p):=eU d;cases p;have(t,u,v,e):=(show MR X.prog X.w H s.heap a (.rng 0 n)from I.hok a _ f);have G:(1000000:Nat)<=sizeLine:=by rw[NE];decide
 show call_list_range (n:=n) (I.ok.hd g) (show IsRange s.heap a 0 n 1 t u v from e) (small_one ⋯ ⋯ ⋯ ⋯) (by rw[rangeSize_one];split<;>omega) ⋯ λi B c r z l j=>?_;have o:(uu n).length=n:=by simp[uu]
 show{.ref s.heap.objs.size,_,I.laid (t':=B) z (Ig _) (show MR X.prog X.w _ i _ (.lst (uu n))from{by rw[o];omega,c.toList,r,xT j,by rw[Array.toArray_toList];show l}),Xr,q _ (I.hok.fresh (Ig _))}
end
abbrev sk(n:Nat):!I:=(Ip n).map λi:Nat=>I.int (i:Int)
private def my:!T->↑T:=l1 λt=>match isI t with
 | some n=>if 0<=n/\n<=1000000 then TV (.li (sk n.toNat))else TU
 | none=>TU
section
variable {K:yF}{H:Hp}
def El:ek K H (sk n) (uu n):=by
 have c:∀l:!Nat,ek K H (l.map λi:Nat=>I.int (i:Int)) (l.map λi:Nat=>V.int (i:Int)):=by
  intro l
  induction l with
  | nil=>rw[J3,J3,ek]
  | cons a l d=>rw[Ir,Ir,ek];show{_,_,Xr,by rw[RpI],d}
 show c _
def uc:gn K (λvs H Q=>Eb vs H λx j=>xr [x] j Q) my:=by
 intro H vs J t Q r e q;unfold my at e;have p:=eW e;clear e;have(x,rfl,e):=p;have(v,rfl,E):=lS r;ext e n B;cases fL B;ext e c;cases e;have i:=aH E;subst i;show{n.toNat,by rw[Int.toNat_of_nonneg c.1],λa h=>{a,n.toNat,Xr,by rw[aE],by omega,λl d=>q _ _ ?_}};have G:l≠a:=λz=>by subst z;rw[aE]at d;cases d
 have g:=MY.laid (o:=.rng 0 n.toNat) h;have(u,F,s,w,f):=New.li (K:=K) d (El (n:=n.toNat));show{λb o c=>u b o (g b o c),F,s,w,λb c=>{?_,(f b c).2}};have:=(f b c).1;cases e:H b with
 | none=>rfl
 | some o=>rw[g b o e]at this;cases this
end
section
variable {ι : Type}{C:ι->Cx}{P:NM}{W:NP}{K:yF}{mg:Str->↑Nz}{base:Heap}{k:Nat}{a e o:Expr}{es:!Expr}{ms:MA}{pos:Pos}
def DO(c:CK C P W K mg base k)(T:Bi mg)(g:QA C K [a] ms)(h:∀i,Gl (C i) "list" :=by intro _;rfl)(d:∀i,Gl (C i) "range" :=by intro _;rfl):QE C K (.Call (.Name "list" p) [.Call (.Name "range" p2) [a] [] pos2] [] pos) (mB my ms):=by
 have(j,q,n,r):=g;show{_,λi=>iU (sT (c.calm i)) (h i) (by rw[c.mg i];show T.b_list) JA (bD (iU uV (d i) (by rw[c.mg i];show T.b_range) Mm (q i) n (by decide) (by decide)) fY rfl) rfl (by decide) (by decide),(show MN K (tCB (λvs H Q=>Eb vs H λx f=>xr [x] f Q) j) (mB my ms)from xz uc r)}
end
section
variable {Q:T->Prop}{QI1:T->I->Prop}{is:!I}{i:I}
def Dg(h:0<=n/\n<=1000000)(q:Q (.li (sk n.toNat))):W1 (my [.im (.int n)]) Q:=by unhygienic show{_,if_pos h,q}
end
open PySem.W (KasT kas_sort)
structure Ord(f:Nat->Nat->Bool):Prop where
 as:∀{i j},f i j=T1->f j i=TZ
 tr:∀{i j k},f j i=TZ->f k j=TZ->f k i=TZ
open PySem.W (KasT kas_sort kas_ask kat_run kat_snds KatLex kat_lt kat_cons kat_nil kat_one kat_yes kat_no kat_kind KatTups)
open PySem.W (KasT kas_sort kas_ask kat_run kat_snds KatLex KatGo kat_lt kat_cons kat_nil kat_one kat_yes kat_no kat_kind KatTups)
abbrev one(z:Str):!Str:=[z]
abbrev kQ(K:yF)(H:Hp):K1->V->Prop
 | .inl k,v=>v=kV k
 | .inr ks,v=>∃b,v=.ref b/\SqT K H b (ks.map kV)
abbrev KQ(K:yF)(H:Hp)(ks:!K1)(b:Addr):Prop:=∃a,SqT K H b a/\Paired (kQ K H) ks a
protected def Eq3:=!K1×Addr×V
protected def Ev3:=!K1×Addr×Nz
end L2
namespace L2
open PySem
noncomputable section
abbrev fU:MS:=(aT (mB dg (aa (aC [TU,TV 1,TU] (mIt (ag 0)) (ah 2) bj (mF jQ (ae 2 (ae 1 af)))) af)))
abbrev f8(ts:!T)(Q:T->Prop):Prop:=ts.length=2/\ce fU 2 ts Q
abbrev cr:MS:=(ao (ax (ag 0) (bJ 2 (au (ah 2) (au (ah 3) bI))))
  (aT (aq [2] (ae 2 (aa (mF f8 (ae 1 (ae 3 af))) af)))))
abbrev dw(ts:!T)(Q:T->Prop):Prop:=ts.length=2/\ce cr 4 ts Q
abbrev aZ(rec:!T->(T->Prop)->Prop):MS:=(ao (ax (aC [TU,TU,TV 2,TU,TU] (mIt (mOp aW (mSl (ag 0) bF (dU (ag 1))) (mSl (ag 0) (dU (mOp aW (ag 1) (mC (.int 1)))) bF))) (ah 4) bj (mOp aW (mSl (ag 4) bF (dU (ag 2))) (mSl (ag 4) (dU (mOp aW (ag 2) (mC (.int 1)))) bF))) (ah 3))
  (aT (zm (aA (mOp eqT (mOp fD (mOp aW (ag 1) (ag 2)) (mC (.int 2))) (mC (.int 0)))) (mF rec (ae 3 af)) (mUn qg (mF rec (ae 3 af))))))
abbrev bu(rec:!T->(T->Prop)->Prop):MS:=(ao (mIf (pY (vQ (ag 0))) (aT (mC (.int 1))) aV)
  (aT (mB qK (aa (aC [TV 0,TU,TU] (rG (aa (mIx (ag 0) (mC (.int 0))) af)) (bJ 2 (au (ah 1) (au (ah 2) bI))) bj (mOp bW (ag 2) (mF rec (ae 0 (aa (mC (.int 0)) (ae 1 af)))))) af))))
abbrev av:Nat->!T->(T->Prop)->Prop
 | 0=>λa Q=>a.length=1/\ce dh 1 a Q
 | n+1=>λa Q=>a.length=1/\ce (bu λc Q=>c.length=3/\ce (aZ (av n)) 4 c Q) 1 a Q
abbrev bc(n:Nat)(us:!T)(Q:T->Prop):Prop:=us.length=3/\ce (aZ (av n)) 4 us Q
abbrev dW:MS:=(mIf (aA (mOp oP (mF (av 24) (ae 0 af)) (aq [] (aa (mC (.int 1)) (aa (mUn qg (mC (.int 1))) af))))) dh aV)
abbrev eD(ts:!T)(Q:T->Prop):Prop:=ts.length=1/\ce dW 1 ts Q
abbrev cj:MS:=(ao (ax (mB my (ae 1 af)) (ah 2))
  (ao (ax (aR [] af) (ah 3))
  (ao (cQ (aS (ae 1 af)) (ah 4)
  (dF [4,5,6] (ao (ax (aq [] (aa (db "list" 2 [] iV (ag 2) (aa (ak 0 0 aj (ae 0 (aa (mB cy (ae 2 af)) af))) af)) (aa (mOp bH (mC (.int 1)) (mOp bW (mC (.int 2)) (ak 0 0 aj (ae 0 (aa (mC (.int 2)) af))))) af))) (bJ 2 (au (ah 5) (au (ah 6) bI))))
  (bB (db "list" 3 [] apT (ag 3) (aa (mB dg (aa (aC [TU,TU,TU,TU,TU,TV 5,TV 6,TU] (aS (ae 1 af)) (ah 7) bj (mOp bW (ag 6) (mB on (aa (mOp eqT (ag 7) (ag 5)) af)))) af)) af))))))
  (aT (ag 3)))))
abbrev cv(ts:!T)(Q:T->T->Prop):Prop:=ts.length=2/\fh cj 0 7 ts Q
end
end L2
namespace L2
open PySem PySem.Spec PyProof.Rows
mutual
noncomputable def I.lay:I->Bool
 | .fd _ _=>TZ|.exn _ _ _=>TZ|.tup is=>I.lays is|.ls is=>I.lays is|.str x=>OL.strOk x|.non=>T1|.bl _=>T1|.int _=>T1
noncomputable def I.lays:!I->Bool
 | []=>T1
 | i::is=>i.lay&&I.lays is
end
mutual
theorem rE:∀i:I,i.lay=T1->i.pd.canLay0=T1
 | .non,_=>by rw[I.pd,OF]
 | .bl _,_=>by rw[I.pd,OF]
 | .int _,_=>by rw[I.pd,OF]
 | .str x,h=>by rw[I.pd,OF];rw[I.lay]at h;show h
 | .tup a,h=>by rw[I.pd,OF];rw[I.lay]at h;show jd a h
 | .ls a,h=>by rw[I.pd,OF];rw[I.lay]at h;show jd a h
theorem jd:∀is:!I,I.lays is=T1->Qo (I.pds is)=T1
 | [],_=>by rw[I.pds,Qo]
 | i::is,h=>by
  rw[I.lays,Ie]at h;rw[I.pds,Qo,rE i h.1,jd is h.2];rfl
end
section
section
variable {X:Cx}{OK:!(Addr×Obj)}{Z:St}{H:Hp}{s:NC}
mutual
theorem r6(J:Inv X OK Z H s):∀(i:I) {v:V} {u:Nz},i.lay=T1->RpI X.K H i v->RelV v u->∃g,Reads s.heap u i.pd g
 | .non,_,_,_,r,q=>by rw[RpI]at r;subst r;cases q;show{_,.none}
 | .bl b,_,_,_,r,q=>by rw[RpI]at r;subst r;cases q;show{_,.bool b}
 | .int i,_,_,_,r,q=>by rw[RpI]at r;subst r;have(t,rfl):=q;show{_,.int i t}
 | .str x,_,_,_,r,q=>by rw[RpI]at r;subst r;have(t,rfl):=q;show{_,.str x t}
 | .tup p,_,_,f,r,q=>by
  rw[RpI]at r;have(a,l,rfl,B,z):=r;cases q;obtain⟨w,h,⟨o,e,c,n,d⟩,_⟩:=J.tuple B;have(g,j):=jq J p (by rw[I.lay]at f;show f) z h;show{g,.tuple e c d j}
 | .ls p,_,_,f,r,q=>by
  rw[RpI]at r;have(a,o,l,rfl,B,z):=r;cases q;obtain⟨w,h,⟨o,n,e,c,_,d⟩,_⟩:=J.list (a:=a) (xs:=l) (.inl (.inr ⟨o,B⟩));have(g,j):=jq J p (by rw[I.lay]at f;show f) z h;show⟨a::g,.list e c d j⟩
 | .exn _ _ _,_,_,f,_,_=>by cases f
 | .fd _ _,_,_,f,_,_=>by cases f
theorem jq(J:Inv X OK Z H s):∀(is:!I) {vs:!V} {us:!Nz},I.lays is=T1->ek X.K H is vs->Vals vs us->∃c,ReadsAll s.heap us (I.pds is) c
 | [],_,_,_,r,q=>by rw[ek]at r;subst r;cases q;show{[],.nil}
 | i::is,_,_,a,r,q=>by
  rw[ek]at r;have(x,o,rfl,l,h):=r;cases q with
  | cons g j=>
   have(c,d):=r6 J i (J1.mp (by rw[I.lays]at a;show a)).1 l g;have(f,e):=jq J is (J1.mp (by rw[I.lays]at a;show a)).2 h j;show{c++f,.cons d e}
end
abbrev Nx(K:yF)(H:Hp)(x:V)(d:OL):Prop:=(∃i:I,i.lay=T1/\RpI K H i x/\d=i.pd) \/ ∃(a:Addr) (e:!V) (c:!I),x=.ref a/\Rd H a (.lst e)/\ek K H c e/\I.lays c=T1/\d=.list (I.pds c)
def Nx.reads(J:Inv X OK Z H s)(h:Nx X.K H x d)(r:RelV x u):∃f,Reads s.heap u d f/\d.canLay0=T1:=by
 rcases h with⟨i,j,l,rfl⟩|⟨a,p,w,rfl,j,l,q,rfl⟩
 .have(f,g):=r6 J i j l r;show{f,g,rE i j}
 .cases r;obtain⟨E,z,⟨o,n,e,c,_,d⟩,_⟩:=J.list (a:=a) (xs:=p) (.inl j);have(f,B):=jq J w q l z;show⟨a::f,.list e c d B,by rw[OF];show jd w q⟩
abbrev Gw(K:yF):R2:=λx y H Q=>∃a c,Nx K H x a/\Nx K H y (.list c)/\a.depth<=50/\Q (.bl (c.any λz=>SV z a)) H
def CU(B:X.A.units+64<Ox):OpR X (N1 .In) (Gw X.K):=by
 intro p s Z H x y v u Q J f g h;have(l,c,o,j,w,q):=h;have(r,d,e):=o.reads J f;have(z,i,a):=j.reads J g;rw[OF]at a;show SeqAt.in_list_reads i d a e (by have:=LN (OL.depthAll c) l.depth;omega) {.bl _,H,J,Xr,q}
end
end
open PySem.W (Frag)
abbrev Fly(h:Heap)(x:Addr):Prop:=∃o vs,h.get? x*>o/\o.data=.fields vs/\(vs[1]?*>.none \/ ∃t u a,vs[1]?*>(.ref t)/\t≠x/\h.get? t*>u/\u.data=.fields a/\a[3]?*>.none)
structure Nv(fs:!Addr)(x:Addr)(h h':Heap):Prop where
 keep:∀b o,b∉fs->b≠x->h.get? b*>o->h'.get? b*>o
 slot:∀b o,b∈fs->h.get? b*>o->∃sl,h'.get? b=TV {o with slots:=sl}
 self:∀o,h.get? x*>o->∃vs,h'.get? x=TV {o with data:=.fields vs}
 fly:Fly h' x
section
variable {M:To}{A:NU}{E:Nz->NC->Prop}{s:NC}{base:Heap}{env:Env}{outer:!Env}{L x:Addr}{o:Obj}{vs:Array Nz}{hd:Nz}{nx:Bool}{Q:Unit->NC->Prop}
def tw(d:o.data=.fields vs)(f:Array Nz->Array Nz):o.mapFields f={o with data:=.fields (f vs)}:=by
 have(c,e,g,h):=o;cases d;rfl
def oi(fr:A.frames*>(env::outer))(N:s.heap.FunFrames base (env::outer))(X:env.frame*>L)(ho:s.heap.get? x*>o)(h:o.data=.fields vs)(w:1<vs.size)
  (k:∀h',Nv (frs (env::outer)) x s.heap h'->Q () {s with heap:=h'}) :
  NF M A (do let a <-frameOf env;let p <-entryPlaceOf L nx;let b <-Rv hd a .none (Pe L) .none p;Tx (.ref x) 1 b) (λ_ s'=>NF M A (Rm (.ref x) TU) Q E s') E s:=by
 have S:x∉frs (env::outer):=λz=>by
  have(_,u,d,nf):=N.mem z;rw[ho]at d;cases d;show nf _ h
 show NA (wpAny_frameOf_fun fr N X λg r=>NA (wpAny_entryPlaceOf λp Y=>?_));unfold Rv newFields;show NA (NT ?_ (Y.sizeOk5 _ _ _ _ _));generalize e:({cls:=.type "traceback",dict:=TU,data:=.fields ([hd,.ref L,.none,Pe L,.none]++(if p.isEmpty then Ih 6 Oj else p)).toArray}:Obj)=tb;have G:g.get? x*>o:=(r.2.1 x S).trans ho;have J:(g.push tb).get? x*>o:=NB _ G;have f:g.objs.size≠x:=JI (NG G);show On J h w ?_;have l:=OT h (·.setIfInBounds 1 (NY g.objs.size));have q:=Oa (N3 (·.setIfInBounds 1 (NY g.objs.size))) J (Pt l);have B:((g.push tb).update x (N3 (·.setIfInBounds 1 (NY g.objs.size)))).get? g.objs.size*>tb:=by
  rw[N0 _ _ (NS f)];show NI g (by rw[<-e];rfl)
 unfold Rm;show NA (NQ q l (x:=.ref g.objs.size) (by simp[w]) ?_);rw[if_pos ∅];have i:tb.data=.fields ([hd,.ref L,.none,Pe L,.none]++(if p.isEmpty then Ih 6 Oj else p)).toArray:=by rw[<-e]
 show On B i (by dsimp[Ic,Ij,Im,Kh];omega) (k _ {λb u nb bx j=>?_,λb u bf j=>?_,λu d=>?_,?_})
 .have c:g.get? b*>u:=(r.2.1 b nb).trans j;rw[N0 _ _ (JI (NG c)),N0 _ _ (NS bx)];show NB _ c
 .have(sl,c):=r.2.2 b u j;show{sl,?_};rw[N0 _ _ (JI (NG c)),N0 _ _ (show x≠b from λz=>S (z▸bf))];show NB _ c
 .rw[ho]at d;cases d;show{_,by rw[N0 _ _ f,q];show congrArg TV (tw h _)}
 .show{_,_,by rw[N0 _ _ f];show q,l,.inr {_,_,_,by simp[w],f,Oa _ B (Pt (OT i _)),OT i _,?_}};rw[Array.getElem?_setIfInBounds];simp
def ot(fr:A.frames*>(env::outer))(j:s.heap.FunFrames base (env::outer))(f:env.frame*>L)(q:Fly s.heap x)
  (k:∀h',Nv (frs (env::outer)) x s.heap h'->Q () {s with heap:=h'}):NF M A (S8 (.ref x) env) (λ_ r=>NF M A (Rm (.ref x) TU) Q E r) E s:=by
 have(o,vs,d,c,a):=q;unfold S8;dsimp[f];rcases a with a|⟨t,u,p,a,z,h,i,g⟩
 .show NA (NQ d c a ?_);rw[if_neg (by decide)];show oi fr j f d c (Jj.mp a).1 k
 .show NA (NQ d c a ?_);rw[if_pos ∅];show NA (NQ h i g ?_);rw[if_neg (by simp[Pe])];have w:=(Jj.mp g).1;show NA (On h i w ?_);have e:s.heap.update t (N3 (·.setIfInBounds 3 Oj))=s.heap:=Qh s.heap t u p 3 Oj h i g;rw[e];show oi fr j f d c (Jj.mp a).1 k
end
section
variable {X:Cx}{OK:!(Addr×Obj)}{Z:St}{H:Hp}{s:NC}{h':Heap}{x C:Addr}{d:↑Addr}
def Inv.left(I:Inv X OK Z H s)(g:H x*>(exO T1 C d x))(l:Nv (frs X.stack) x s.heap h'):Inv X OK Z H {s with heap:=h'}:=by
 have i:∀b o,H b*>o->b∉frs X.stack:=λb o e z=>by rw[I.stkFree b z]at e;cases e
 show I.call' (ch:=[]) rfl {λb o q n h _=>l.keep b o h (λz=>by rw[z,g]at n;cases n) q,λb o q n h _=>l.slot b o h q,λb o q n _=>n,λb o q _=>?_,λ_ _ e=>e,λ_ _ _ e=>e,λb w e=>{#[],by rw[e];simp}} (λb o e=>?_) I.bare λb p=>nomatch p
 .by_cases e:b=x
  .subst e;have(vs,z):=l.self o q;show{_,z}
  .by_cases f:b∈frs X.stack
   .have(B,z):=l.slot b o f q;show{_,z}
   .show{o,l.keep b o f e q}
 .by_cases q:b=x
  .subst q;rw[g]at e;cases e;have(vs,r,_):=jB I.hok g;have(ws,z):=l.self _ r;show pO z λz=>nomatch z
  .show(I.hok b o e).stay (λc u a z=>l.keep c u ?_ ?_ z) (λ_ q=>q) λ_ _ q=>q
   .rcases a with rfl|a;show i _ _ e;show i _ _ a
   .rcases a with rfl|a;show q;rintro rfl;rw[g]at a;cases a
abbrev CXE(P:NM)(w:NP):CXT:=λa H s E e c=>∃x C d H',e=.ref x/\c.os=s.os/\PY c.gens/\Un (frs a) [] H H' s.heap c.heap/\HOk P w H' c.heap/\H' x*>(exO T1 C d x)/\Fly c.heap x/\E (.ref x) TU H'
abbrev XR(X:Cx)(R:VK):Prop:=∀(OK:!(Addr×Obj)) (Z:St) (H:Hp) (s:NC) (x C:Addr) (d:↑Addr),Inv X OK Z H s->H x*>(exO T1 C d x)->Fly s.heap x->R (.ref x) H->X.xe (.ref x) s
abbrev XP(X:Cx)(OK:!(Addr×Obj))(Z:St)(R:VK)(e:Nz)(a:NC):Prop:=∃x C d H',e=.ref x/\Inv X OK Z H' a/\H' x*>(exO T1 C d x)/\Fly a.heap x/\R (.ref x) H'
def Inv.afterX(I:Inv X OK Z H s)(h:CXE X.prog X.w X.stack H s E e s'):XP X OK Z (λv H'=>∃x,v=.ref x/\E (.ref x) TU H') e s':=by
 obtain⟨x,C,d,H',rfl,os,a,f,c,g,i,q⟩:=h;show{x,C,d,H',Xr,I.call' (ch:=[]) os f c a (λb z=>absurd z ∅),g,i,x,Xr,q}
end
open PySem.W (Frag)
def vj:∀{l:!Nz},g9 l=T1->l.contains (.type "BaseException")=T1
 :=by
 intro l
 induction l with
 | nil=>intro e;cases e
 | cons v r a=>
  intro e;cases v with
  | ref c=>rw[JE,a e,KR]
  | type n=>
   rw[g9,Ie,beq_iff_eq,beq_iff_eq]at e;have(rfl,rfl):=e;decide
  | _=>cases e
section
variable {M:To}{A:NU}{E:Nz->NC->Prop}{env:Env}{K:Frag}
def xx(i:A.handled=TU)
  (h:NF M A v (λu c=>∃a C d t,u=.ref a/\K.In c.heap/\vg K C=T1/\c.heap.get? a=TV {cls:=.ref C,dict:=d,data:=.fields #[.ref t,.none,.none,.none,.bool TZ,.none]}/\E (.ref a) c) E s) :
  NF M A (Te env (TV v) TU) Q E s:=by
 unfold Te;show NA (Ol h (λu c o=>?_) λ_ _ x=>x);have(a,C,d,t,r,X,w,G,p):=o;subst r;obtain⟨nm,q,N,U,j,e,sn,sub,Y,l,dd,k0,J,k2,k3,L,B,_,_,_,c4,_⟩:=ku w;have f:=X _ _ B;have z:(NY C::j).contains (.type "BaseException")=T1:=by rw[JE,vj c4,KR]
 have(S,g,dr,tk,os):=c;repeat (first|with_reducible refine OJ G ?_|with_reducible refine OJ f ?_|(with_reducible refine OP f ?_;rw[z])|wp_step)
 show wpAny_raiseNew_none i p
end
abbrev pw(RR:VK)(t:TS):TS:=λD Z H=>t {D with rt:=RR} Z H
abbrev tRz(K:Frag)(e:TE):TS:=λD Z H=>e Z H λv c=>∃a C d,v=.ref a/\ExK K C/\c a*>(exO TZ C d a)/\D.rt v (upd c a (exO T1 C d a))
section
variable {X:Cx}{e:Expr}{te:TE}{pos:Pos}{RR:VK}
def wY(E:PE X e te)(l:X.calm=T1)(w:XR X RR):PS X (.Raise (TV e) TU pos) (pw RR (tRz X.K te)):=by
 intro g s Z H D I h;rw[arm_exec_Raise];show NA (OO ?_);change NF _ _ (Te X.env (TV (do let v <-eval e X.env;Pj pos;pure v)) TU) _ _ _;show xx (K:=X.K) (I.ok.hd l) (NA (thn (E g s Z H _ I h) λu j B=>NA (OO (ND ?_))));obtain⟨v,L,f,r,a,C,d,p,J,i,q⟩:=B;subst p;obtain rfl:u=NY a:=r;have(vs,c,G):=jB f.hok i;have(t,rfl):=G rfl;show{a,C,d,t,Xr,f.kIn,J.obj,c,w g Z _ j a C d (f.write (t':=j.toks) (x:=a) (e:=a) (o:=exO T1 C d a) (by rw[i];trivial) (.inl rfl) (λb o _ z=>z) {_,c} (pO c λz=>nomatch z)) aE {_,_,c,Xr,.inl rfl} q}
end
section
variable {P:NM}{w:NP}{K:Frag}{mg:Str->↑Nz}{base:Heap}{N:!Str}{qual:Str}{scope:Pn}{f:Addr}{cdv:Nz}{A:NU}{outer:!Env}{s:NC}{H:Hp}{E:XK}
def E1:XR (iJ (CXE P w) P w K mg base N qual scope f cdv A outer s H E) (λv H'=>∃x,v=.ref x/\E (.ref x) TU H'):=by
 intro i Z g j x C d I a h q;obtain⟨y,e,q⟩:=q;cases e;change NF _ _ (leaving _ _) _ _ _;unfold leaving;rcases I.ok.stk with z|⟨z,c⟩;show absurd (congrArg JR z) (LS _)
 .show NA (ot (base:=base) (outer:=outer) I.ok.frames I.stack c h λo l=>?_);have J:=I.left a l;show⟨x,C,d,g,Xr,J.os,J.bare,J.base,J.hok,a,l.fly,q⟩
end
def SP.imp{X:Cx}{e:!(Addr×Obj)}{D d:Nh}{f:Flow}{g:NC}(h:SP X e D f g)(n:∀Z H,D.nx Z H->d.nx Z H)(r:∀v H,D.rt v H->d.rt v H)(b:∀Z H,D.bk Z H->d.bk Z H)(c:∀Z H,D.ct Z H->d.ct Z H):SP X e d f g:=by
 cases f with
 | next=>have(a,H',I,q):=h;show{a,H',I,n _ _ q}
 | brk=>have(a,H',I,q):=h;show{a,H',I,b _ _ q}
 | cont=>have(a,H',I,q):=h;show{a,H',I,c _ _ q}
 | ret u=>have(v,a,H',I,z,q):=h;show{v,a,H',I,z,r _ _ q}
def tD{P:NM}{w:NP}{K:Frag}{mg:Str->↑Nz}{base:Heap}{k:Nat}{f:Addr}{name qual:Str}{c:RZ}{e:!Stmt}{a:Pn}{G kV i J d u oc:Nz}{B od:↑Addr}
  {o:Array ↑Nz} {N ps:!Str} {sp:Sp} (Y:K.lookup f*>{oc,od,.func (IR name qual c e a G kV i J B d u),o}) (j:JN K d qual=T1) (S:td N ps a)
  (l:∀vs H Q E,sp vs H Q E->vs.length=ps.length)
  (g:∀(A:NU) (outer:!Env) (s:NC) (H:Hp) (vs:!V) (Q:VK) (E:XK),MW k (A.deeper (Pv qual a s.heap.objs.size f d))->sp vs H Q E ->
   ∃t,(∀RR,XR (iJ (CXE P w) P w K mg base N qual a f d A outer s H E) RR->PSs (iJ (CXE P w) P w K mg base N qual a f d A outer s H E) e (pw RR t))/\t {nx:=λ_ _=>False,rt:=λv H'=>∃x,v=.ref x/\E (.ref x) TU H'} (bL N vs) H) :
  M6 P w K mg base (CXE P w) (k+1) f (IR name qual c e a G kV i J B d u) ps sp:=by
 show Bj Y j S l λA outer s H vs Q E X h=>?_;have(t,p,q):=g A outer s H vs Q E X h;show{λ_ Z r=>t {nx:=λ_ _=>False,rt:=λv H'=>∃x,v=.ref x/\E (.ref x) TU H'} Z r,λL U Z r D I z=>?_,q};show thn (p _ E1 L U Z r {nx:=λ_ _=>False,rt:=λ_ _=>False} I z) λfl s2 y=>y.imp (λ_ _ z=>z.elim) (λ_ _ z=>z.elim) (λ_ _ z=>z.elim) (λ_ _ z=>z.elim)
protected def TX:=St->Hp->VK->VK->Prop
open PySem.W (Frag)
noncomputable abbrev Cx.suite(X:Cx) (a:Addr):Cx:={X with A:=X.A.mark (TV (.ref a)),calm:=TZ,xe:=λ_ _=>False}
section
variable {X:Cx}{OK:!(Addr×Obj)}{Z:St}{H:Hp}{s:NC}{a:Addr}
def Cx.Ok.suite(c:X.Ok)(a:Addr):(X.suite a).Ok:=
 {c.mod,c.kind,c.glob,c.blt,c.above,c.inj,c.has,c.cab,(λz=>nomatch z),(λz=>nomatch z),c.frames,c.stk,c.exf,c.bs,c.bsz,c.noex,c.exfs,c.funs,c.frf}
def Inv.suite(I:Inv X OK Z H s)(a:Addr):Inv (X.suite a) OK Z H s:={I.ok.suite a,I.os,I.bare,I.base,I.loc,I.cell,I.free,I.freeC,I.pin,I.hok,I.len}
def Inv.back(J:Inv X OK [] H s\/X.Ok)(I:Inv (X.suite a) OK Z H s):Inv X OK Z H s:={J.elim (·.ok) id,I.os,I.bare,I.base,I.loc,I.cell,I.free,I.freeC,I.pin,I.hok,I.len}
def tz(f:Fly s.heap x)(q:Q () s):NF M A (Rm (.ref x) TU) Q E s:=by
 have(o,vs,h,d,c):=f;unfold Rm;rcases c with c|⟨t,u,l,c,p,g,i,e⟩
 .show NA (NQ h d c ?_);rw[if_neg (by decide)];show ND q
 .show NA (NQ h d c ?_);rw[if_pos ∅];show On g i (Jj.mp e).1 ?_;change Q () {s with heap:=s.heap.update t (N3 (·.setIfInBounds 3 Oj))};rw[Qh s.heap t u l 3 Oj g i e];show q
def Inv.relocal(I:Inv X OK Z H s)(G:h'.Ns X.env.locals m')(hs:NZ X.env.locals s.heap h')(S:Z'.length=Z.length)
  (E:∀(i:Nat) (x:Str) (v:V),X.N[i]?*>x->Z'[i]?*>(TV v)->Vis X.env.scope x->∃u,RelV v u/\E3 X.env h' m' x u):Inv X OK Z' H {s with heap:=h',toks:=t'}:=by
 have up:∀b,b<X.s₀.heap.objs.size->h'.get? b=s.heap.get? b:=λb g=>hs.2 b (Is (Iq g I.ok.above));show{I.ok,I.os,I.bare,{λb o e n g f=>(up b (NG e)).trans (I.base.keep b o e n g f),λb o e n g f=>?_,I.base.free,λb o e f=>?_,I.base.tups,I.base.frzs,I.base.tbls},{_,G,E},λy c e=>?_,I.free,I.freeC,λp B=>?_,λb L e=>?_,S.trans I.len}
 .have(Y,j):=I.base.slot b o e n g f;show{Y,(up b (NG e)).trans j}
 .have(U,j):=I.base.there b o e f;show{U,(up b (NG e)).trans j}
 .have(l,z):=I.cell y c e;show{l,z.sameBut hs (I.cne y c e)}
 .have(e,n,r,J,d):=I.pin p B;show{(hs.2 p.1 r).trans e,n,r,J,d}
 .show(I.hok b L e).stay (λc l h q=>(hs.2 c ?_).trans q) (λ_ q=>q) λ_ _ q=>q;rintro rfl;rcases h with rfl|h;rw[I.free]at e;cases e;rw[I.free]at h;cases h
def tR(I:Inv X OK Z H s)(p:X.N.Nodup)(h:X.N[j]?*>n)(e:X.env.scope.names.lookup n*>.local)
  (q:∀G,Inv X OK (Z.set j TU) H G->Q () G):NF M A (do OZ X.env n .none;PM X.env n pos) Q E s:=by
 show NA (O5 (cf I p h (.inl e) (v:=.non) (u:=.none) rfl (λs1 B=>?_) (.inr e)));unfold PM;show PH ?_;have(m,S,J):=id B.loc;have f:j<Z.length:=by rw[I.len];show(Ib.mp h).1
 have(u,_,lk):=J j n .non h (Ja f) (.inl e);have hv:m n*>u:=by
  rcases lk with⟨_,z⟩|⟨z,_⟩;show z;rcases z with z|z<;>(rw[show X.env.kindOf n*>.local from e]at z;cases z)
 show wpAny_unbindName_local e S hv (by rw[I.ok.kind];rfl) λh' w l r=>q _ ?_;show B.relocal (t':=s1.toks) l r (by rw[IF,IF]) λi x v L g U=>?_;have d:i≠j:=λz=>by rw[z,Ja f]at g;cases g
 rw[Iz (NS d)]at g;have o:x≠n:=λz=>d (kZ p L (z▸h));have(u',Y,z):=J i x v L (by rw[Iz (NS d)];show g) U;show{u',Y,?_};rcases z with⟨k,z⟩|⟨k,c,z,y⟩;show .inl {k,(if_neg o).trans z};show .inr {k,c,z,y.sameBut r (I.cne x c z)}
end
open PySem.W (Frag)
protected def TY:=St->Hp->VK->Prop
abbrev PEY(X:Cx)(e:Expr)(t:TY):Prop:=∀(a:!(Addr×Obj)) (s:NC) (Z:St) (H:Hp) (RR:VK),Inv X a Z H s->t Z H RR->NF (NK X.prog X.w) X.A (eval e X.env) (λ_ _=>False) (XP X a Z RR) s
abbrev qL(a:Sp)(t:TA):TY:=λZ H RR=>t Z H λvs c=>a vs c (λ_ _=>False) λu _ H'=>∀y,u=.ref y->RR (.ref y) H'
abbrev yh(t:TY):TS:=λD Z H=>t Z H D.rt
abbrev BW(K:Frag)(f:Addr)(t:TY)(j:Nat)(ts:TS):TS:=λD Z H=>t Z H λv c=>∃a b C d,v=.ref a/\c a*>(exO b C d a)/\KZ K (.ref C) (.ref f)*>T1 /\
 ts {nx:=λe H'=>D.nx (e.set j TU) H',rt:=λ_ _=>False} (Z.set j (TV v)) c
section
variable {X:Cx}{k:Nat}{f:Addr}{fd:Om}{ps:!Str}{sp1:Sp}{e:Expr}{es:!Expr}{t:TA}{tx:TY}{ts:TS}{j:Nat}{x n y:Str}{p py ap hp pos:Pos}{b0:Stmt}{suite:!Stmt}{D0:Addr}{R:VK}
def oT(E:M6 X.prog X.w X.K X.mg X.base (CXE X.prog X.w) k f fd ps sp1)(hr:MW k X.A)(hg:Gl X x)(J:X.mg x*>(.ref f))(Y:Jf X.K (.ref f)=T1)(U:M1 X.K fd ps [])
  (N:PA X.nox (e::es) t) (i:aX (e::es)=T1) (o:(x==("__debug__" : Str))=TZ:=by decide):PEY X (.Call (.Name x p) (e::es) [] pos) (qL sp1 t):=by
 rw[aX,Ie]at i;intro B s Z H RR I h;show OS ?_;show ib (X:=X.wish (XP X B Z RR)) (I.wish _) hg J ?_ o;show KY (h₀:=X.base) I.ok.mod.kin Y (Ol (N pos B s Z H _ (I.wish _) h) (λg l ⟨vs,G,c,r,q⟩=>{c.unwish.kIn,?_}) λ_ _ z=>N5 z) (aM (by exists i.1)) (cC i.2);have c:=c.unwish;have hl:g.length=ps.length:=by rw[<-r.length];show E.len _ _ _ _ q
 have b:=U l g c.kIn (by rw[Iw];show hl);rw[Iw]at b;show O6 (Po (E.run X.A X.stack l G {g,[]} g vs _ _ hr c.env0 b r q) λr s' a=>?_);cases r with
 | error e=>
  have a:CXE X.prog X.w X.stack G l (λu _ H'=>∀y,u=.ref y->RR (.ref y) H') e s':=a;obtain⟨y,C,d,H',e1,L,h1,h2,z,S,q⟩:=c.afterX a;cases S;show{y,C,d,H',e1,L,h1,h2,q y rfl}
 | ok fl=>
  cases fl with
  | ret u=>have(_,_,_,_,_,_,_,q):=a;show q.elim
  | next=>show N5 a
  | brk=>show N5 a
  | cont=>show N5 a
def wW(o:PEY X e tx)(c:XR X R)(hs:O9 e TU pos.line X.env=pure TZ:=by rfl):PS X (.Expr e pos) (pw R (yh tx)):=by
 intro a s Z H D I h;show Q8 (Ol (o a s Z H _ I h) (λ_ _ z=>N5 z) λu i ⟨x,C,d,H',r,l,w,g,q⟩=>?_) I.quiet hs;subst r;show c a Z H' i x C d l w g q
def zT(he:PEY X e tx)(Y:X.N.Nodup)(hj:X.N[j]?*>n)(G:X.env.scope.names.lookup n*>.local)(c:X.stack=X.env::X.outer)(S:X.env.frame*>X.env.locals)
  (hg:Gl X y) (hm:X.mg y*>(.ref D0)) (hs:∀a,PSs (X.suite a) (b0::suite) ts) (L:(y==("__debug__" : Str))=TZ:=by decide) (B:O9 e TU ap.line X.env=pure TZ:=by rfl) :
  PS X (.Try [.Expr e ap] [.ExceptHandler (TV (.Name y py)) (TV n) (b0::suite) hp] [] [] pos) (BW X.K D0 tx j ts):=by
 intro i s Z H D I h;show wpAny_Try_except (Qv (Q8 (Ol (he i s Z H _ I h) (λ_ _ z=>N5 z) λe' s1 z=>?_) I.quiet B));obtain⟨a,C',d',H1,rfl,I1,E,fl,a',b,C,d,e1,h1,U,q⟩:=z;cases e1;show ot (base:=X.base) (outer:=X.outer) (by rw[I.ok.frames,c]) (by rw[<-c];show I1.stack) S fl λh' l=>?_;rw[<-c]at l;have J:=I1.left E l;have Js:=J.suite a;have(vs,ha,_):=jB J.hok h1;show wpAny_handleBy_cons (codeAny_handlers_test (ib (X:=X.suite a) Js hg hm ?_ L)) (by intro z;cases z);have LT:PySem.W.Looks (NK X.prog X.w) h' (P9 (.ref a)) (.ref C):=(PySem.W.Looks.ld ha).andThen .now;show(PySem.W.exm_one J.kIn LT U).here ?_;show codeAny_handlers_suite_as (tz l.fly ?_);show cf (X:=X.suite a) Js Y hj (.inl G) (v:=.ref a) rfl (λs2 I2=>?_) (.inr G);show Ol (hs a i s2 _ H1 _ I2 q) (λf s3 z=>?_) λ_ _ z=>N5 z;change NF _ _ (do OZ X.env n .none;PM X.env n hp) (λ_ s4=>SP X i D f s4) X.xe s3;cases f with
 | next=>obtain⟨o,H',g,z⟩:=z;show tR (Inv.back (.inr I.ok) g) Y hj G λs4 I4=>{_,H',I4,z}
 | ret u=>obtain⟨v,o,H',g,r,z⟩:=z;show z.elim
 | brk=>obtain⟨o,H',g,z⟩:=z;show z.elim
 | cont=>obtain⟨o,H',g,z⟩:=z;show z.elim
end
open PySem.W (Frag)
noncomputable abbrev exI(x:Str):I:=.exn x [] []
private def mRz(x:Str):MS:={λO Q=>Q (.rt (.im (exI x))) O,[]}
private def nt(run:!T->(Str->Prop)->Prop)(a:MA):MS:={λO Q=>WA a O λc O1=>C1 (run (c.map (·.t))) λx=>Q (.rt (.im (exI x))) O1,a.mu}
@[irreducible] def fX(Q:Str->Prop):Fl->Rho->Prop
 | .rt t,_=>∃x,t=.im (exI x)/\Q x
 | _,_=>False
abbrev Em(m:MS)(n:Nat)(ts:!T)(Q:Str->Prop):Prop:=WS m (dm ts n) (fX Q)
abbrev spX(K:Frag)(run:!T->(Str->Prop)->Prop):Sp:=λvs H _ E=>∃c P,M9 K H c vs/\run c P/\∀x a H',P x->New K H H' (.im (exI x)) (.ref a)->E (.ref a) TU H'
abbrev uK(P:NM)(W:NP)(K:Frag)(mg:Str->↑Nz)(base:Heap)(k:Nat)(x:Str):Prop:=
 ∃(C f:Addr) (c:Om) (a:!Str),mg x*>(.ref C)/\IW K NO x*>(TV (.ref C))/\EMk K C f/\M1 K c a []/\M6 P W K mg base CX0 k f c a (nV K)
abbrev uI(P:NM)(w:NP)(K:Frag)(mg:Str->↑Nz)(base:Heap)(k:Nat)(name:Str)(ps:!Str)(sp:Sp):Prop:=
 ∃(f:Addr) (a:Om),mg name*>(.ref f)/\Jf K (.ref f)=T1/\M1 K a ps []/\M6 P w K mg base (CXE P w) k f a ps sp
structure QX{ι : Type}(C:ι->Cx)(K:Frag)(st:Stmt)(m:MS):Prop where
 ex:∃ts,(∀i R,XR (C i) R->PS (C i) st (pw R ts))/\MX K ts m
structure QXs{ι : Type}(C:ι->Cx)(K:Frag)(st:!Stmt)(m:MS):Prop where
 ex:∃ts,(∀i R,XR (C i) R->PSs (C i) st (pw R ts))/\MX K ts m
noncomputable abbrev nox{ι : Type} (C:ι->Cx):ι->Cx:=λi=>(C i).nox
noncomputable abbrev dX(P:NM) (W:NP) (K:Frag) (mg:Str->↑Nz) (base:Heap) (k:Nat) (N:!Str) (name:Str) (st:Stmt):DI k name st->Cx:=λd=>iJ (CXE P W) P W K mg base N name (ai st) d.f d.cdv d.A d.outer d.s d.H d.E
noncomputable abbrev Eu{ι : Type} (C:ι->Cx):ι×Addr->Cx:=λp=>(C p.1).suite p.2
section
variable {ι : Type}{C:ι->Cx}{P:NM}{W:NP}{K:Frag}{mg:Str->↑Nz}{base:Heap}{k l:Nat}{c e:Expr}{es:!Expr}{m s1 s2:MS}{mt:MT}{ms:MA}{x y n name:Str}{p cp ap py hp pos pos':Pos}{st b0:Stmt}{rest b1 b2 suite:!Stmt}{N ps:!Str}{rX:!T->(Str->Prop)->Prop}{D0:Addr}{H:Hp}{ta:TA}{ts:TS}
def ckX:CK (nox (dX P W K mg base k N name st)) P W K mg base k:=
 {λ_=>rfl,λ_=>rfl,λ_=>rfl,λ_=>rfl,λ_=>rfl,λ_=>rfl,λd=>d.hr}
def uh:QXs C K rest dh:={λ_ _ _=>False,λ_ _ _ _ _ _ _ _ _ h=>h.elim,λ_ w=>N5 w}
def Ab:QXs C K [] aV:={_,λ_ _ _=>rQ,o9}
def rY(a:QX C K st s1):QXs C K [st] s1:=by
 have(t,p,r):=a;show{_,λi R h=>kD (p i R h),r}
def xn(a:QX C K st s1)(d:QXs C K rest s2):QXs C K (st::rest) (ao s1 s2):=by
 have(t,p,r):=a;have(u,g,f):=d;show{Ex t u,λi R h=>oY (p i R h) (g i R h),se r f}
def Gp(j:QT (nox C) K c mt)(a:QXs C K b1 s1)(f:QXs C K b2 s2):QX C K (.If c b1 b2 pos) (mIf mt s1 s2):=by
 have(s,o,d):=j;have(t,p,r):=a;have(u,q,g):=f;show{_,λi R h=>Bw (o i).nox (p i R h) (q i R h),sd d r g}
def New.exn{a:Addr}(d:H a=TU)(f:IW K NO x*>(TV (.ref D0))):New K H (upd (upd H a (exF D0 a)) a (exO T1 D0 TU a)) (.im (exI x)) (.ref a):=by
 show{λb o h=>?_,[],j9 (by rw[RpI];show{D0,a,Xr,f,T1,.inl ⟨Xr,Xr,aE⟩}),IP,by simp};have:b≠a:=λz=>by rw[z,d]at h;cases h
 rw[upd_ne this,upd_ne this];show h
def Ei(h:IW K NO x*>(TV (.ref D0)))(ex:ExK K D0):MX K (tRz K (yg D0 (nV K) E0 yj)) (mRz x):=by unhygienic
 intro Γ H O Z A b n D P f w S q;show{by decide,λa d=>{a,D0,Xr,aE,ex,Xr,a,D0,TU,Xr,ex,aE,?_}};have(j,k,i,o,r,g,_):=S.new S.kept (New.exn d (by rw[f];show h));show q _ _ w _ Z _ j i k o g
def xm(a:CK (nox C) P W K mg base k)(h:uK P W K mg base l x)(r:l+1<=k:=by first|decide|omega)(u:∀i,Gl (C i) x:=by intro _;rfl)(d:(x==("__debug__" : Str))=TZ:=by decide):QX C K (.Raise (TV (.Call (.Name x p) [] [] pos)) TU pos') (mRz x):=by
 have(A,f,j,ps,s,o,g,z,q):=h;show{_,λi R B=>?_,Ei o g.ex};have:=wY (pos:=pos') (PE.nox (tY (X:=(C i).nox) (C:=A) (f:=f) (fd:=j) (ps:=ps) (CX:=CX0) (k:=l) (sp:=nV K) (E:=E0) (p:=p) (pos:=pos) (by rw[a.kk i];show g) (by rw[a.prog i,a.w i,a.kk i,a.mg i,a.base i];show q) ((a.room i).mono r) (u i) (by rw[a.mg i];show s) (by rw[a.kk i];show z) wl d)) (a.calm i) B;rw[show(C i).K=K from a.kk i]at this;show this
def Def.qx(d:Def K mg name st ps)(S:td N ps (ai st))(h:QXs (dX P W K mg base k N name st) K (aP st) m)
  (g:∀ts Q,rX ts Q->ts.length=ps.length/\Em m N.length ts Q):uI P W K mg base (k+1) name ps (spX K rX):=by unhygienic
 have(f,fd,U,F,b):=d;obtain⟨oc,od,kV,B,pm,an,j,ct,G,rfl,lk,o⟩:=id F.ex;show{f,_,U,F.kp,b,tD lk o S (λvs H Q E z=>?_) λA i s H vs Q E J z=>?_}
 .have(ts,P,r,e,_):=z;rw[r.length,(g ts P e).1]
 .have(ts,P,r,e,q):=z;have(tS,X,p2):=h;show{tS,X ⟨f,j,A,i,s,H,E,J⟩,?_};show p2.w rfl (g ts P e).2 (sw (N:=N) r) λf O' h=>?_;cases f with
  | rt t=>
   obtain⟨x,rfl,Y⟩:∃x,t=.im (exI x)/\P x:=h;intro v Z' H' A' m k L x1;have n:=u9 L x1;have(_,F',rp,_):=id n;have u:=(bq rp).1;rw[RpI]at u;have(C,a,rfl,_):=u;show{a,Xr,q x a H' Y n}
  | nx=>show h.elim
  | bk=>show h.elim
  | ct=>show h.elim
def ul(i:M2 K ta ms):MX K (yh (qL (spX K rX) ta)) (nt rX ms):=by unhygienic
 intro Γ H O Z A b n D P d w S q;show i.w d w S λX O1 vs J w g=>?_;obtain⟨o,w,r⟩:=w;obtain⟨E,ks,U,h,at1,Y,G,f⟩:=g;show{_,o,d▸h.rds at1,w,λx a B p n y e=>?_};cases e;have(u,k,z,j,L,s,_):=h.new f (by rw[d];show n);show q _ _ (r x p) _ Z _ u z k j s
def Aa(d:CK (nox C) P W K mg base k)(u:uI P W K mg base l x ps (spX K rX))(j:QA (nox C) K (e::es) ms)(E:l<=k:=by first|decide|omega)(G:∀a,Gl (C a) x:=by intro _;rfl)
  (h:(x==("__debug__" : Str))=TZ:=by decide) (g:∀a,O9 (.Call (.Name x p) (e::es) [] cp) TU pos.line (C a).env=pure TZ:=by intro _;rfl) :
  QX C K (.Expr (.Call (.Name x p) (e::es) [] cp) pos) (nt rX ms):=by
 have(f,L,z,J,i,o):=u;have(ta,q,B,r):=j;show{_,λa R s=>?_,ul r};show wW (oT (p:=p) (pos:=cp) (by rw[show(C a).prog=P from d.prog a,show(C a).w=W from d.w a,show(C a).K=K from d.kk a,show(C a).mg=mg from d.mg a,show(C a).base=base from d.base a];show o) ((d.room a).mono E) (G a) (by rw[show(C a).mg=mg from d.mg a];show z) (by rw[show(C a).K=K from d.kk a];show J) (by rw[show(C a).K=K from d.kk a];show i) (q a) B h) s (g a)
end
open PySem.W (Frag)
abbrev oq(x y:Str):Bool:=decide (x=y)||decide (y = "HouseError")
abbrev iK(K:Frag)(mg:Str->↑Nz)(a:!Str):Prop:=mg "ValueError" = TU/\∀x∈a,∃C,IW K NO x*>(TV (.ref C))/\mg x*>(.ref C)/\ExK K C /\
 IZ K (.ref C) (.type "ValueError")*>T1/\∀y∈a,∃D,mg y*>(.ref D)/\IZ K (.ref C) (.ref D)*>(oq x y)
private def gF(a:!Str)(y:Str)(t:T):↑T:=match t with
 | .im i=>(match i with
  | .exn x _ _=>if(a.contains x&&a.contains y)=T1 then TV (.im (.bl (oq x y)))else TU
  | _=>TU)
 | _=>TU
private def tJ(a:!Str)(t:T):↑T:=match t with
 | .im i=>(match i with
  | .exn x _ _=>if a.contains x=T1 then TV (.im (.bl T1))else TU
  | _=>TU)
 | _=>TU
abbrev qB(K:Frag)(w:V):V->Hp->VK->Prop:=λx H Q=>∃a C c b,x=.ref a/\(∀u,RelV w u->u=c)/\(∃r,H a*>(exO r C TU a) \/ ∃d e,H a*>(exO r C (TV d) a)/\H d*>(exX e d))/\ExK K C/\IZ K (.ref C) c*>b/\Q (.bl b) H
def oe:MU X (.builtin "isinstance") (λxs H Q=>∃x w,xs=[x,w]/\qB X.K w x H Q):=by
 intro p s Z H xs z Q I e h;obtain⟨x,w,rfl,a,C,c,b,rfl,j,o,g,f,q⟩:=h;have(u,r,rfl,l,d):=lD e;cases l;have:=j _ d;subst this;show u8 I o g f λi=>{.bl b,H,I.tok i,Xr,q}
section
variable {K:Frag}{mg:Str->↑Nz}{tab:!Str}{x y:Str}{ks:!Str}{is:!I}{H:Hp}{v:V}{c:Nz}{b:Bool}{Q:VK}
def pP(s:iK K mg tab)(g:x∈tab)(r:RpI K H (.exn x ks is) v):∃a C r,v=.ref a/\mg x*>(.ref C)/\ExK K C/\IZ K (.ref C) (.type "ValueError")*>T1/\(∀y∈tab,∃D,mg y*>(.ref D)/\IZ K (.ref C) (.ref D)*>(oq x y))/\(H a*>(exO r C TU a) \/ ∃d fs,H a*>(exO r C (TV d) a)/\H d*>(exX fs d)):=by
 rw[RpI]at r;have(C,a,rfl,l,r,o):=r;have(w,e,f,u,j,q):=s.2 x g;rw[l]at e;cases e;show{a,C,r,Xr,f,u,j,q,o.imp (λz=>z.2.2) fun⟨d,i,p,h,_⟩=>⟨d,i,p,h⟩}
def wH(j:iK K mg tab){D:Addr}(f:mg y*>(.ref D)):jX K (qB K (.ref D)) (gF tab y):=by
 intro H x s t Q r e q;unfold gF at e;ext e;ext e;ext e h;cases e;rw[Ie,Jm,Jm]at h;have(a,C,b,rfl,_,o,_,i,g):=pP j h.1 (cT r);have(p,d,l):=i y h.2;rw[f]at d;cases d;show{a,C,.ref D,_,Xr,λu h=>h,⟨b,g⟩,o,l,q _ _ (.sc rfl)}
def wG(g:iK K mg tab):jX K (qB K (.ty "ValueError")) (tJ tab):=by
 intro H x j t Q r e q;unfold tJ at e;ext e;ext e;ext e h;cases e;rw[Jm]at h;have(a,C,b,rfl,_,i,d,_,f):=pP g h (cT r);show{a,C,.type "ValueError",_,Xr,λu h=>h,⟨b,f⟩,i,d,q _ _ (.sc rfl)}
abbrev okX(tab:!Str) (y x:Str):Bool:=tab.contains x&&(tab.contains y&&(oq x y &&  ~~~oq y x))
def CN(p:iK K mg tab)(h:okX tab y x=T1)(r:RpI K H (.exn x ks is) v){D:Addr}(l:mg y*>(.ref D)) :
  ∃a b C d,v=.ref a/\H a*>(exO b C d a)/\KZ K (.ref C) (.ref D)*>T1:=by
 rw[okX,Ie,Ie,Ie,Ji,Jm,Jm]at h;have(s,q,E,B):=h;have(a,C,b,rfl,u,_,_,G,f):=pP p s r;have(U,o,i):=G y q;rw[l]at o;cases o;have(S,_,j,exD,_,w):=p.2 y q;rw[l]at j;cases j;have(C2,c2,g):=w x s;rw[u]at c2;cases c2;have J:¬ (NY C==NY D)=T1:=λz=>by
  have z:C=D:=by exists z
  subst z;rw[B]at g;unfold IZ at g;rw[if_pos ∅]at g;cases g
 unfold IZ at i;rw[if_neg J,E]at i;have e:KZ K (.ref C) (.ref D)*>T1:=by
  unfold KZ;rw[if_pos (by rw[exD.sub];rfl),i]
 rcases f with f|⟨L,N,f,_⟩;show⟨a,b,C,TU,Xr,f,e⟩;show{a,b,C,TV L,Xr,f,e}
end
@[irreducible] def Cj(j:Nat)(Q:Fl->Rho->Prop):Fl->Rho->Prop
 | .nx,O=>Q .nx (fgt j O)
 | _,_=>False
private def zn(c:!Str)(y:Str)(run:!T->(Str->Prop)->Prop)(a:MA)(j:Nat)(s:MS):MS:={λO Q=>WA a O λd O1=>C1 (run (d.map (·.t))) λx=>Gu (okX c y x) (WG (ah j) {.ow,.im (exI x)} O1 λe=>WS s e (Cj j Q)),a.mu++[j]++s.mu++[j]}
section
variable {Γ:Gm}{H:Hp}{O:Rho}{Z:St}{A:Fam}{b m j:Nat}{K:Frag}{mg:Str->↑Nz}{tab:!Str}{y:Str}{run:!T->(Str->Prop)->Prop}{ma:MA}{ta:TA}{s:MS}{ts:TS}{D0:Addr}
def Sim.unset(S:Sim Γ H (L2.fgt j O) Z A b m):Sim Γ H (L2.fgt j O) (Z.set j TU) A b m:=by
 have f:∀i r,(L2.fgt j O)[i]?*>(TV r)->i≠j:=λi r h e=>by
  subst e;unfold L2.fgt at h;rw[List.getElem?_set]at h;split at h;split at h<;>cases h;contradiction
 have(l,lo,q,d,le,w,p,o):=S;show{l,λi g=>?_,λi r h=>?_,by rw[IF];show d,by rw[IF];show le,w,λi x k e u=>?_,o}
 .rw[IF]at g;rw[lo i g];apply Mh;intro⟨v,r⟩;rw[MP,MP];show{fun⟨a,c⟩=>{a,by rw[Iz (NS (f i _ a))];show c},fun⟨a,c⟩=>{a,by rw[Iz (NS (f i _ a))]at c;show c}}
 .rw[Iz (NS (f i r h))];show q i r h
 .rw[IF];show p i x k e u
def Az(hE:iK K mg tab)(X:mg y*>(.ref D0))(ha:M2 K ta ma)(hb:MX K ts s) :
  MX K (BW K D0 (qL (spX K run) ta) j ts) (zn tab y run ma j s):=by unhygienic
 intro Γ H O Z A b n D P h w S q;show ha.w h w S λrs O1 vs H1 w g=>?_;obtain⟨Y,w,hP⟩:=w;obtain⟨A1,ks,m1,L,at1,nd,hk,E⟩:=g;show{_,Y,h▸L.rds at1,w,λx a H2 p J y e=>?_};cases e;have(ok,w):=hP x p;have(_,F',rp,_):=id J;have(a',b',C,d,e4,h4,h5):=CN hE ok (bq rp).1 X;show{a',b',C,d,e4,h4,h5,?_};have(A2,k,m2,N,G,x2,u):=L.new E (by rw[h];show J);show Nc.w (K:=K) (jr (i:=j)) (Q:=λU H'=>ts _ U H') h w N (Ik S.bn G) x2 λO2 w Z3 H3 A3 m3 r S3 z=>?_;show hb.w h w S3 λf O3 o=>?_;cases f with
 | nx=>
  intro Z4 H4 A4 m4 c S4 B;have kp:=((u.rm (ks:=[k]) S.ub (by exists G)).tr z).tr (r▸B);have(A5,S5,l):=S4.fgt (by rw[c,r];show kp) j;show q .nx _ o _ H4 A5 m4 (by rw[IF,c,r]) S5.unset (by rw[c,r]at l;show l)
 | rt t=>show o.elim
 | bk=>show o.elim
 | ct=>show o.elim
end
section
variable {ι : Type}{C:ι->Cx}{P:NM}{W:NP}{K:Frag}{mg:Str->↑Nz}{base:Heap}{k l:Nat}{tab:!Str}{x y n:Str}{e:Expr}{es:!Expr}{ps:!Str}{rX:!T->(Str->Prop)->Prop}{m:ME}{ms:MA}{b:MS}{b0:Stmt}{suite:!Stmt}{p p1 py cp ap hp pos:Pos}
def gN(a:CK C P W K mg base k)(j:iK K mg tab)(s:mg "isinstance" = TU)(z:y∈tab)(o:QE C K e m)(B:∀i,Gl (C i) "isinstance" :=by intro _;rfl)(c:∀i,Gl (C i) y:=by intro _;rfl)
  (hs:bh e=TZ:=by rfl) (d:(y==("__debug__" : Str))=TZ:=by decide):QE C K (.Call (.Name "isinstance" p) [e,.Name y p1] [] pos) (mUn (gF tab y) m):=by
 have(D,_,f,_):=j.2 y z;have(G,q,r):=o;show{_,λi=>fE (r:=λu H Q=>∃x w,u=[x,w]/\qB K w x H Q) (by have:=oe (X:=C i);rw[a.kk i]at this;show this) (B i) (by rw[a.mg i];show s) PU (bD (hs:=hs) (q i) (bD (zG (pos:=p1) (v:=.ref D) (c i) (by rw[a.mg i];show f) rfl d) fY)) (by change(~~~bh e&&T1)=T1;rw[hs];rfl),?_};show lq (show jX K (λx H Q=>∃h g,[x,.ref D]=[h,g]/\qB K g h H Q) (gF tab y)from λH x E t Q r e q=>{_,_,Xr,wH j f H x E t Q r e q}) r
def Gf(a:CK C P W K mg base k)(g:iK K mg tab)(j:mg "isinstance" = TU)(h:QE C K e m)(s:∀i,Gl (C i) "isinstance" :=by intro _;rfl)(c:∀i,Gl (C i) "ValueError" :=by intro _;rfl)
  (hs:bh e=TZ:=by rfl):QE C K (.Call (.Name "isinstance" p) [e,.Name "ValueError" p1] [] pos) (mUn (tJ tab) m):=by
 have(z,q,r):=h;show{_,λi=>fE (r:=λo H Q=>∃x w,o=[x,w]/\qB K w x H Q) (by have:=oe (X:=C i);rw[a.kk i]at this;show this) (s i) (by rw[a.mg i];show j) PU (bD (hs:=hs) (q i) (bD (kC (pos:=p1) (c i) (by rw[a.mg i];show g.1) (by rfl') (si "ValueError")) fY)) (by change(~~~bh e&&T1)=T1;rw[hs];rfl),?_};show lq (show jX K (λx H Q=>∃f d,[x,.ty "ValueError"]=[f,d]/\qB K d f H Q) (tJ tab)from λH x u t Q r e q=>{_,_,Xr,wG g H x u t Q r e q}) r
def DZ(j:Nat)(c:CK C P W K mg base k)(E:iK K mg tab)(h1:uI P W K mg base l x ps (spX K rX))(J:QA (nox C) K (e::es) ms)(Y:QSs (Eu C) K (b0::suite) b)(o:∀a,(C a).N.Nodup)(hy:y∈tab:=by decide)
  (hl:l<=k:=by first|decide|omega) (hj:∀a,(C a).N[j]?*>n:=by intro _;rfl) (hn:∀a,(C a).env.scope.names.lookup n*>.local:=by intro _;rfl)
  (s:∀a,(C a).stack=(C a).env::(C a).outer:=by intro _;rfl) (d:∀a,(C a).env.frame=TV (C a).env.locals:=by intro _;rfl) (hg:∀a,Gl (C a) x:=by intro _;rfl) (g:∀a,Gl (C a) y:=by intro _;rfl) (u:(x==("__debug__" : Str))=TZ:=by decide) (z:(y==("__debug__" : Str))=TZ:=by decide)
  (h:∀a,O9 (.Call (.Name x p) (e::es) [] cp) TU ap.line (C a).env=pure TZ:=by intro _;rfl) :
  QS C K (.Try [.Expr (.Call (.Name x p) (e::es) [] cp) ap] [.ExceptHandler (TV (.Name y py)) (TV n) (b0::suite) hp] [] [] pos) (zn tab y rX ms j b):=by
 have(f,U,m1,S,G,L):=h1;have(ta,q,ns,r):=J;have(ts,q2,r2):=Y;have(D0,_,B,_):=E.2 y hy;show{_,λa=>?_,Az E B r r2};have i:M6 (C a).prog (C a).w (C a).K (C a).mg (C a).base (CXE (C a).prog (C a).w) l f U ps (spX K rX):=by rw[c.prog a,c.w a,c.kk a,c.mg a,c.base a];show L
 have:=zT (X:=C a) (oT (p:=p) (pos:=cp) i ((c.room a).mono hl) (hg a) (by rw[c.mg a];show m1) (by rw[c.kk a];show S) (by rw[c.kk a];show G) (q a) ns u) (o a) (hj a) (hn a) (s a) (d a) (g a) (by rw[c.mg a];show B) (λb=>q2 (a,b)) (py:=py) (ap:=ap) (hp:=hp) (pos:=pos) z (h a);rw[c.kk a]at this;show this
end
def HV(q:Q (.rt (.im (exI x))) O):WS (mRz x) O Q:=by unhygienic show C2.of q
def AS{run:!T->(Str->Prop)->Prop}(h:WA ms O λrs O1=>C1 (run (rs.map (·.t))) λx=>Q (.rt (.im (exI x))) O1):WS (nt run ms) O Q:=by unhygienic show C2.of h
def Hd{run:!T->(Str->Prop)->Prop}(h:WA ms O λrs O1=>C1 (run (rs.map (·.t))) λx=>Gu (okX tab y x) (WG (ah j) {.ow,.im (exI x)} O1 λa=>WS s a (Cj j Q))):WS (zn tab y run ms j s) O Q:=by unhygienic show C2.of h
def Bh{QX:Str->Prop}(q:QX x):fX QX (.rt (.im (exI x))) O:=by unhygienic show⟨x,Xr,q⟩
def y6(q:Q .nx (fgt j O)):Cj j Q .nx O:=by unhygienic show q
def FT(h:(tab.contains x&&tab.contains y)=T1)(q:Q (.im (.bl (oq x y)))):W1 (gF tab y (.im (exI x))) Q:=by unhygienic show{_,if_pos h,q}
def FS(h:tab.contains x=T1)(q:Q (.im (.bl T1))):W1 (tJ tab (.im (exI x))) Q:=by unhygienic show{_,if_pos h,q}
abbrev vs(x:String) (t:Tok):Nz:=.str (NL x) t
abbrev vi(n:Int):Nz:=.int n 0
abbrev vr(a:Addr):Nz:=.ref a
abbrev eO(p:R0) (x:String) (t:Tok) (v:Nz):P3:={Sw p (NL x),.str (NL x) t,v}
abbrev oC(vs:!Nz):Obj:={cls:=.type "code",data:=.fields vs.toArray}
abbrev oD(a:!P3) (n:Nat):Obj:={cls:=.type "dict",data:=.dict a.toArray n}
abbrev oF(x:String) (st:Stmt) (a:Nz) (c:Addr):Obj:={cls:=.type "function",data:=.func (IR (NL x) (NL x) (bT st) (aP st) (ai st) .none .none .none a TU (.ref c) .none)}
abbrev oc(x:String) (t l n r:Nat) (v:↑(Nat×Nat)) (d e:Nat):Obj:=oC [vs x t,vs x (t+1),vs "/claim/cut.py" (t+2),vi l,vi n,vi 0,vi 0,vi 3,vr r,.bool T1,vi 181,vr (r+1),.none,(match v with|some p=>vr p.1|none=>.none),(match v with|some p=>vr p.2|none=>.none),vr d,vi e,vi l,vs "/claim/cut.py" (e+1)]
def ML.mkO{K:yF}{h:Heap}{mg:Str->↑Nz}{x:String}{st:Stmt}{ps:!Str}(X:K.In h)(G:h.Ns NO mg)(f:Addr)(g:Nz)(c:Addr)
  (j:∀(kV e g:Nz) (p:↑Addr) (d i:Nz) (us:!Nz),us.length=ps.length->Q9 (IR (NL x) (NL x) (bT st) (aP st) (ai st) .none kV e g p d i) {us,[]}=pure (ps.zip us))
  (a:IW K NO (NL x)*>(TV (.ref f)):=by rfl') (l:K.lookup f*>(oF x st g c):=by rfl') (o:JN K (.ref c) (NL x)=T1:=by rfl'):ML K mg (NL x) st ps:=
 ML.mk' X G a l o (by unfold Jf;dsimp only;rw[l];rfl) j
def bN{K:yF}{h:Heap}{mg:Str->↑Nz}(X:K.In h)(G:h.Ns NO mg){n:Str}(e:IW K NO n*>TU:=by rfl'):mg n=TU:=PySem.W.mg_none_of X G e
section
variable {α A B C D E F:Type}{f g:A->B->C->D->E->F->!Nz->α}
def Nl{α:Type}{n:Nat}{l:!α}(h:l.length=n+1):∃a r,l=a::r/\r.length=n:=by
 cases l with
 | nil=>cases h
 | cons a r=>show{a,r,Xr,Jn.inj h}
def by1(h:∀j c l i d a a0,f j c l i d a [a0]=g j c l i d a [a0]):∀j c l i d a (us:!Nz),us.length=1->f j c l i d a us=g j c l i d a us:=λj c l i d a us e=>by
 have(a0,p,rfl,o):=Nl e;obtain rfl:=Jv.mp o;show h j c l i d a a0
def by2(h:∀j c l i d a a0 o,f j c l i d a [a0,o]=g j c l i d a [a0,o]):∀j c l i d a (us:!Nz),us.length=2->f j c l i d a us=g j c l i d a us:=λj c l i d a us e=>by
 have(a0,s,rfl,p):=Nl e;have(o,r,rfl,q):=Nl p;obtain rfl:=Jv.mp q;show h j c l i d a a0 o
def by3(h:∀d j l c a i a0 o p,f d j l c a i [a0,o,p]=g d j l c a i [a0,o,p]):∀d j l c a i (us:!Nz),us.length=3->f d j l c a i us=g d j l c a i us:=λd j l c a i us e=>by
 have(a0,z,rfl,r):=Nl e;have(o,w,rfl,s):=Nl r;have(p,u,rfl,q):=Nl s;obtain rfl:=Jv.mp q;show h d j l c a i a0 o p
end
open PySem.W (Frag clsIn findIn subIn specialIn instIn mroIn takesIn keepIn readsIn findCls handedIn)
abbrev yW(K:Frag) (C:Addr):Bool:=vg K C&&(decide (OQ K (.ref C) "__setattr__" = TV (TV (.builtin "object.__setattr__")))&&(decide (OQ K (.ref C) "__getattribute__" = TV (TV (.builtin "BaseException.__getattribute__"))) &&
 (decide (OQ K (.ref C) "__getattr__" = TV TU)&&(decide (Tv K (.ref C) (.type "BaseException")*>T1)&&(decide (PB K (.ref C) "__call__" = TV (TV (.builtin "type.__call__")))&&(decide (instIn K (.ref C) (.type "type")*>T1) &&
 (decide (OQ K (.ref C) "__class__" = TV (TV (.builtin "object.__class__")))&&(decide (PB K (.builtin "object.__class__") "__get__" = TV (TV (.builtin "getset_descriptor.__get__")))&&(decide (takesIn K (.builtin "object.__class__")*>T1)&&decide (mroIn K C (.type "object")*>T1))))))))))
def vh{K:Frag}{C:Addr}(h:yW K C=T1):ExK K C:=by
 dsimp[yW,Ie,decide_eq_true_eq]at h;obtain⟨p,j,e,d,o,f,l,g,i,a,c⟩:=h;show⟨p,j,e,d,o,f,l,g,i,a,c⟩
abbrev r8:↑↑Nz->↑Addr
 | some (TV (.ref C))=>TV C
 | _=>TU
def o7(h:r8 o*>C):o*>(TV (.ref C)):=by
 unfold r8 at h;split at h;cases h;rfl;cases h
abbrev Be(K:Frag) (a:!Str) (x:Str) (C:Addr):Bool:=yW K C&&(decide (IZ K (.ref C) (.type "ValueError")*>T1) &&
 a.all λy=>match r8 (IW K NO y)with
  | some D=>decide (IZ K (.ref C) (.ref D)*>(oq x y))
  | none=>TZ)
abbrev GU(K:Frag) (a:!Str):Bool:=a.all λx=>match r8 (IW K NO x)with
 | some C=>Be K a x C
 | none=>TZ
def AO{K:Frag}{h:Heap}{mg:Str->↑Nz}{a:!Str}(X:K.In h)(G:h.Ns NO mg)(i:mg "ValueError" = TU)(t:GU K a=T1):iK K mg a:=by
 show{i,λp f=>?_};have:=IQ.mp t p f;ext this C e;have e:=o7 e;dsimp[Be,Ie,decide_eq_true_eq]at this;have(o,j,g):=this;show{C,e,La X G e,vh o,j,λq l=>?_};have d:=IQ.mp g q l;ext d D c;have c:=o7 c;show{D,La X G c,of_decide_eq_true d}
abbrev oFq(x q:String) (st:Stmt) (a:Nz) (c:Addr):Obj:={cls:=.type "function",data:=.func (IR (NL x) (NL q) (bT st) (aP st) (ai st) .none .none .none a TU (.ref c) .none)}
abbrev ocq(x q:String) (t l n r:Nat) (v:↑(Nat×Nat)) (d e:Nat):Obj:=oC [vs x t,vs q (t+1),vs "/claim/cut.py" (t+2),vi l,vi n,vi 0,vi 0,vi 3,vr r,.bool T1,vi 181,vr (r+1),.none,(match v with|some p=>vr p.1|none=>.none),(match v with|some p=>vr p.2|none=>.none),vr d,vi e,vi l,vs "/claim/cut.py" (e+1)]
abbrev oK(x:String) (C N:Addr) (b:Nz) (m:!Nz) (a:!Nz) (s t u:Nat):Obj:={cls:=.type "type",data:=.cls {name:=NL x,bases:=[b],mro:=vr C::m,ns:=N,qualname:=NL x,subclasses:=a},slots:=#[TV (vr s),TU,TV (vs x t),TV (vs x u),TV (.builtin "ValueError.__new__"),TV (.bool T1)]}
abbrev MkF(K:Frag)(mg:Str->↑Nz)(x:Str)(qual:Str)(st:Stmt)(ps:!Str):Prop:=
 ∃(C f:Addr) (a:Om),mg x*>(.ref C)/\IW K NO x*>(TV (.ref C))/\EMk K C f/\Fun K "__init__" qual st f a/\M1 K a ps []
abbrev FC(K:Frag) (C f:Addr):Bool:=yW K C&&(decide (OQ K (.ref C) "__init__" = TV (TV (.ref f)))&&(LB K (.ref f)&&(Tn K (.ref C)&&Tn K (.ref f))))
def MkF.mkO{K:Frag}{h:Heap}{mg:Str->↑Nz}{x q:String}{ps:!Str}{st:Stmt}(X:K.In h)(G:h.Ns NO mg)(C f:Addr)(i:Nz)(c:Addr)
  (r:∀(kV g i:Nz) (u:↑Addr) (d o:Nz) (us:!Nz),us.length=ps.length->Q9 (IR (NL "__init__") (NL q) (bT st) (aP st) (ai st) .none kV g i u d o) {us,[]}=pure (ps.zip us))
  (a:IW K NO (NL x)*>(TV (.ref C)):=by rfl') (l:K.lookup f*>(oFq "__init__" q st i c):=by rfl') (s:JN K (.ref c) (NL q)=T1:=by rfl') (e:FC K C f=T1:=by rfl'):MkF K mg (NL x) (NL q) st ps:=by
 dsimp[FC,Ie,decide_eq_true_eq]at e;have(z,p,j,w,B):=e;have F:=vp (x:="__init__") (qual:=NL q) (st:=st) (f:=f) l s B;show{C,f,_,La X G a,a,{vh z,p,j,w},F,F.binds r}
structure HEf(K:Frag)(mg:Str->↑Nz)(st:Stmt):Prop where
 mf:MkF K mg "HouseError" "HouseError.__init__" st ["self"]
 ci:∀C f,IW K NO "HouseError" = TV (TV (.ref C))->OQ K (.ref C) "__init__" = TV (TV (.ref f))->CIn K C f
 ve:mg "ValueError" = TU
def Fd{K:Frag}(C f:Addr)(a:IW K NO "HouseError" = TV (TV (.ref C)):=by rfl')(b:OQ K (.ref C) "__init__" = TV (TV (.ref f)):=by rfl')
  (j:PB K (.ref C) "__getattribute__" = TV (TV (.builtin "type.__getattribute__")):=by rfl') (i:readsIn K C (.type "type")=T1:=by rfl') (h:Tl K (.ref C) (.type "type") "__init__" = TV (.val (.ref f)):=by rfl') (g:Tn K (.ref f)=T1:=by rfl') (e:SQ (.ref f)=T1:=by rfl') :
  ∀C f,IW K NO "HouseError" = TV (TV (.ref C))->OQ K (.ref C) "__init__" = TV (TV (.ref f))->CIn K C f:=by
 intro o l c d;rw[a]at c;cases c;rw[b]at d;cases d;show⟨j,i,h,g,e⟩
section
variable {P:NM}{W:NP}{K:Frag}{mg:Str->↑Nz}{base:Heap}{st sh:Stmt}{qn x:Str}{p1 p2 p3 p4 p5 p6 p7 p8 p9 p10 p11 p12 p13 p14 p15 p16 p17:Pos}{run:!T->↑T}{A B F G:Str}
abbrev HEr(P:NM)(W:NP)(K:Frag)(mg:Str->↑Nz)(base:Heap)(k:Nat):Prop:=∃(a g:Addr) (c:Om),mg "HouseError" = TV (.ref a)/\CIn K a g/\M6 P W K mg base CX0 k g c ["self"] (nV K)/\M1 K c ["self"] []/\IW K NO "HouseError" = TV (TV (.ref a))/\EMk K a g
def Fj(h:HEf K mg st)(S:td ["self"] ["self"] (ai st))(i:aP st=[.Expr (.Call (.Attribute (.Name "ValueError" p1) "__init__" p2) [.Name "self" p3] [] p4) p5])
  (l:(ai st).names.lookup (NL "ValueError")*>.globalImplicit) (e:Vis (ai st) "self") (g:fv "ValueError" (.Name "self" p3) p1 p2 p4):HEr P W K mg base (k+1):=by
 have(C,f,j,p,c,a,d,o):=h.mf;show{C,f,j,p,h.ci C f c a.init,zb d S i h.ve l e g,o,c,a}
def CF(h:MkF K mg x qn st ["self"])(H:HEr P W K mg base 1)(S:td ["self"] ["self"] (ai st))(p:aP st=[.Expr (.Call (.Attribute (.Name "HouseError" p1) "__init__" p2) [.Name "self" p3] [] p4) p5])
  (s:(ai st).names.lookup (NL "HouseError")*>.globalImplicit) (j:Vis (ai st) "self") (o:fv "HouseError" (.Name "self" p3) p1 p2 p4):uK P W K mg base 2 x:=by
 have(C,f,d,w,r,l,i,u):=h;have(z,g,E,a,c,q,e,_):=H;show{C,f,d,_,w,r,l,u,Cs i S p c q e a s j o}
end
private def zc(x y:T):↑T:=match x with
 | .im i=>(match y with
  | .li a=>if i.lay=T1/\I.lays a=T1/\i.pd.depth<=50 then TV (.im (.bl ((I.pds a).any λz=>SV z i.pd)))else TU
  | _=>TU)
 | _=>TU
def Bd:gm .In zc:=by
 show{Gw,λ_ i=>CU i,λK H x y l o t Q d c e q=>?_};unfold zc at e;ext e;ext e;ext e h;cases e;have(a,f,rfl,j,g):=bE c;show{_,_,.inl {_,h.1,cT d,Xr},.inr {a,f,_,Xr,j,g,h.2.1,Xr},h.2.2,q _ _ (.sc rfl)}
def FQ{i:I}{is:!I}(h:i.lay=T1/\I.lays is=T1/\i.pd.depth<=50)(q:Q (.im (.bl ((I.pds is).any λz=>SV z i.pd)))):W1 (zc (.im i) (.li is)) Q:=by unhygienic show{_,if_pos h,q}
end L2
namespace L2
open PySem
noncomputable section
abbrev EXN:!Str:=["HouseError","NoHouse","NoText","Loose","TooLong","Ring","Early","NoWay","NoTurn","NoCell","NoRow","NoName"]
abbrev bV:MS:=(mIf (aA (mOp oP (mF (av 24) (ae 0 af)) (aq [] (aa (mC (.int 1)) (aa (mUn qg (mC (.int 1))) af))))) (mRz "NoTurn") aV)
abbrev cX(ts:!T)(Q:Str->Prop):Prop:=ts.length=1/\Em bV 1 ts Q
abbrev cu:MS:=(aT (mF fg (ae 0 (aa (aC [TU,TV 1,TU,TU] (mIt (mF jR (ae 0 af))) (bJ 2 (au (ah 2) (au (ah 3) bI))) bj (mF f8 (ae 1 (ae 3 af)))) af))))
abbrev dy(ts:!T)(Q:T->Prop):Prop:=ts.length=2/\ce cu 2 ts Q
abbrev fV:MS:=(ao (bB (mF eD (ae 1 af)))
  (ao (ax (ag 0) (bJ 3 (au (ah 2) (au (ah 3) (au (ah 4) bI)))))
  (aT (aq [2,3] (ae 2 (ae 3 (aa (mB dg (aa (aC [TU,TV 1,TU,TU,TU,TU,TU] (mIt (ag 4)) (bJ 2 (au (ah 5) (au (ah 6) bI))) bj (aq [5] (ae 5 (aa (mF dy (ae 6 (ae 1 af))) af)))) af)) af)))))))
abbrev eE(ts:!T)(Q:T->Prop):Prop:=ts.length=2/\ce fV 5 ts Q
abbrev dL:MS:=(ao (nt cX (ae 1 af)) dh)
abbrev f9(ts:!T)(Q:Str->Prop):Prop:=ts.length=2/\Em dL 5 ts Q
abbrev ji:MS:=(aT (mB qK (aa (aC [TU,TU,TU,TU] (nu (ae 0 (ae 1 af))) (bJ 2 (au (ah 2) (au (ah 3) bI))) bj (mOp bW (ag 2) (ag 3))) af)))
abbrev iA(ts:!T)(Q:T->Prop):Prop:=ts.length=2/\ce ji 2 ts Q
abbrev fS(rec:!T->(T->Prop)->Prop):MS:=(ao (mIf (aA (mOp eqT (mIx (ag 0) (mC (.int 0))) (mC (.str "num")))) (aT (ag 0)) aV)
  (ao (mIf (aA (mOp eqT (mIx (ag 0) (mC (.int 0))) (mC (.str "at")))) (aT (aq [] (aa (mC (.str "at")) (aa (mIx (ag 0) (mC (.int 1))) (aa (mB dg (aa (aC [TV 0,TU,TU,TU] (mIt (ag 1)) (ah 3) bj (mF iA (ae 3 (aa (mIx (ag 0) (mC (.int 2))) af)))) af)) af))))) aV)
  (ao (ax (mOp aW (mC (.int 1)) (mB on (aa (mOp eqT (mIx (ag 0) (mC (.int 0))) (mC (.str "op"))) af))) (ah 2))
  (aT (mOp aW (mSl (ag 0) bF (dU (ag 2))) (mB dg (aa (aC [TU,TV 1,TU,TU] (mIt (mSl (ag 0) (dU (ag 2)) bF)) (ah 3) bj (mF rec (ae 3 (ae 1 af)))) af)))))))
abbrev eA:Nat->!T->(T->Prop)->Prop
 | 0=>λa Q=>a.length=2/\ce dh 3 a Q
 | n+1=>λa Q=>a.length=2/\ce (fS (eA n)) 3 a Q
abbrev eP:MS:=(ao (ax (aR [] (aa (aq [] (aa (mC (.int 1)) (aa (mC (.int 2)) af))) (aa (aq [] (aa (mC (.int 2)) (aa (mC (.int 0)) af))) (aa (aq [] (aa (mC (.int 0)) (aa (mC (.int 1)) af))) af)))) (ah 2))
  (aT (aC [TV 0,TV 1,TU,TU,TU] (mIt (ag 2)) (bJ 2 (au (ah 3) (au (ah 4) bI))) bj (mOp bH (mOp bW (mIx (ag 0) (ag 3)) (mIx (ag 1) (ag 4))) (mOp bW (mIx (ag 0) (ag 4)) (mIx (ag 1) (ag 3)))))))
abbrev gO(ts:!T)(Q:T->Prop):Prop:=ts.length=2/\ce eP 3 ts Q
abbrev cg:MS:=(ao (mIf (aA (mOp eqT (mB cy (ae 0 af)) (mC (.int 1)))) (aT (mIx (mIx (ag 0) (mC (.int 0))) (mC (.int 0)))) aV)
  (ao (mIf (aA (mOp eqT (mB cy (ae 0 af)) (mC (.int 2)))) (aT (mOp bH (mOp bW (mIx (mIx (ag 0) (mC (.int 0))) (mC (.int 0))) (mIx (mIx (ag 0) (mC (.int 1))) (mC (.int 1)))) (mOp bW (mIx (mIx (ag 0) (mC (.int 0))) (mC (.int 1))) (mIx (mIx (ag 0) (mC (.int 1))) (mC (.int 0)))))) aV)
  (aT (mF iA (aa (mIx (ag 0) (mC (.int 0))) (aa (mF gO (aa (mIx (ag 0) (mC (.int 1))) (aa (mIx (ag 0) (mC (.int 2))) af))) af))))))
abbrev du(ts:!T)(Q:T->Prop):Prop:=ts.length=1/\ce cg 1 ts Q
abbrev il:MS:=(ao (ax (ak 0 0 aj (ae 0 (aa (mC (.int 4)) af))) (ah 2))
  (ao (ax (ak 0 0 cv (ae 0 (ae 1 af))) (ah 3))
  (ao (ax (aq [] (aa (ak 0 0 aj (ae 0 (ae 1 af))) (aa (ak 0 0 aj (ae 0 (ae 1 af))) (aa (mOp bH (ak 0 0 aj (ae 0 (aa (mC (.int 7)) af))) (mC (.int 3))) af)))) (bJ 3 (au (ah 4) (au (ah 5) (au (ah 6) bI)))))
  (ao (mIf (aA (mOp eqT (ag 2) (mC (.int 0)))) (ax (aC [TV 0,TV 1,TU,TU,TU,TU,TU,TU] (aS (ae 1 af)) (ah 7) bj (mB dg (aa (aC [TV 0,TU,TU,TU,TU,TU,TU,TU,TU] (aS (ae 1 af)) (ah 8) bj (mOp bH (ak 0 0 aj (ae 0 (aa (mC (.int 7)) af))) (mC (.int 3)))) af))) (ah 3)) aV)
  (ao (mIf (oA (aA (mOp (gA λi j=>decide (i<j)) (ag 2) (mC (.int 3)))) (oA (aA (mOp (gA λi j=>decide (j<i)) (ag 2) (mC (.int 0)))) (aA (mOp neT (ag 4) (ag 5))))) (ax (mB dg (aa (aC [TU,TU,TU,TU,TU,TU,TV 6,TU,TU] (nu (aa (mIx (ag 3) (ag 4)) (aa (mIx (ag 3) (ag 5)) af))) (bJ 2 (au (ah 7) (au (ah 8) bI))) bj (mOp aW (ag 7) (mOp bW (ag 6) (ag 8)))) af)) (vO 3 (ag 3) (ag 4))) aV)
  (aT (mB dg (ae 3 af))))))))
abbrev jP(ts:!T)(Q:T->T->Prop):Prop:=ts.length=2/\fh il 0 7 ts Q
abbrev gH:MS:=(ao (ax (mC .non) (ah 2))
  (ao (zn EXN "HouseError" f9 (ae 0 (ae 1 af)) 3
  (ax (ag 3) (ah 2)))
  (ao (ax (aR [] (aa (mUn (gF EXN "Early") (ag 2)) (aa (mUn (gF EXN "Loose") (ag 2)) (aa (mUn (gF EXN "NoCell") (ag 2)) af)))) (ah 4))
  (ao (ax (mOp aW (ag 4) (aR [] (aa (mUn (gF EXN "NoHouse") (ag 2)) (aa (mUn (gF EXN "NoName") (ag 2)) (aa (mUn (gF EXN "NoRow") (ag 2)) af))))) (ah 4))
  (ao (ax (mOp aW (ag 4) (aR [] (aa (mUn (gF EXN "NoText") (ag 2)) (aa (mUn (gF EXN "NoWay") (ag 2)) (aa (mUn (gF EXN "Ring") (ag 2)) af))))) (ah 4))
  (ao (mIf (mOr (aA (mOp zc (mC (.bl T1)) (ag 4))) (aA (mUn (gF EXN "TooLong") (ag 2)))) (aT (mC (.bl TZ))) aV)
  (aT (mz (mUn (gF EXN "NoTurn") (ag 2)) (mUn (tJ EXN) (ag 2))))))))))
abbrev gP(ts:!T)(Q:T->Prop):Prop:=ts.length=2/\ce gH 5 ts Q
abbrev dI:MS:=(ao (mIf (aA (mOp oP (mF du (ae 1 af)) (aq [] (aa (mC (.int 1)) (aa (mOp bH (mC (.int 0)) (mC (.int 1))) af))))) (aT (mF gP (ae 0 (ae 1 af)))) aV)
  (ao (ax (aq [] (aa (mIx (ag 0) (mC (.int 0))) (aa (mIx (ag 0) (mC (.int 1))) (aa (mB dg (aa (aC [TU,TV 1,TU,TU,TU,TU,TU,TU] (mIt (mIx (ag 0) (mC (.int 2)))) (bJ 2 (au (ah 6) (au (ah 7) bI))) bj (aq [6] (ae 6 (aa (mF (eA 24) (ae 7 (ae 1 af))) af)))) af)) af)))) (ah 3))
  (ao (mIf (pY (aA (mF (dQ 24) (aa (mF eE (ae 0 (ae 1 af))) (ae 3 af))))) (aT (mC (.bl TZ))) aV)
  (ao (cQ (mIt (ag 2)) (ah 4)
  (dF [4,5] (ao (ax (aq [4] (aa (mIx (mIx (mIx (ag 0) (mC (.int 2))) (mC (.int 0))) (mC (.int 0))) (ae 4 af))) (ah 5))
  (mIf (pY (aA (mF (dQ 24) (aa (mF dw (ae 5 (ae 1 af))) (aa (aq [] (aa (mIx (ag 5) (mC (.int 0))) (aa (mB dg (aa (aC [TU,TU,TU,TU,TV 4,TU,TU] (mIt (ag 1)) (ah 6) bj (mF iA (ae 6 (ae 4 af)))) af)) af))) af))))) (aT (mC (.bl TZ))) aV))))
  (aT (mC (.bl T1)))))))
abbrev f7(ts:!T)(Q:T->Prop):Prop:=ts.length=3/\ce dI 6 ts Q
abbrev eQ:MS:=(ao (cQ (aS (aa (mB oJ (aa (mC (.int 2)) (aa (mB oM (aa (mB cy (ae 0 af)) (aa (mC (.int 6)) af))) af))) af)) (ah 1)
  (dF [1,2,3,4,5,6,7,8,9,10,11,12,13,14,15] (ao (ax (mF ln (ae 0 (ae 1 af))) (ah 2))
  (ao (ax (aC [TU,TU,TV 2,TU,TU,TU,TU,TU,TU,TU,TU,TU,TU,TU,TU,TU,TU] (aS (aa (mC (.int 3)) af)) (ah 16) bj (ak 0 2 jP (ae 2 (aa (mOp aW (mC (.int 1)) (ag 16)) af)))) (ah 3))
  (ao (ax (aC [TU,TU,TV 2,TU,TU,TU,TU,TU,TU,TU,TU,TU,TU,TU,TU,TU,TU] (aS (aa (mC (.int 3)) af)) (ah 16) bj (mB dg (aa (ak 0 2 cv (ae 2 (aa (mOp aW (mC (.int 1)) (ag 16)) af))) af))) (ah 4))
  (ao (ax (aq [] (aa (ak 0 2 aj (ae 2 (aa (mC (.int 4)) af))) (aa (ak 0 2 jM (ae 2 af)) af))) (bJ 2 (au (ah 5) (au (ah 6) bI))))
  (ao (mIf (aA (mOp eqT (ag 5) (mC (.int 0)))) (ax (ak 0 2 eB (ae 2 af)) (ah 6)) aV)
  (ao (ax (aq [] (aa (mIx (ag 3) (mOp bH (mIx (ag 6) (mC (.int 0))) (mC (.int 1)))) (aa (mIx (ag 4) (mOp bH (mIx (ag 6) (mC (.int 0))) (mC (.int 1)))) af))) (bJ 2 (au (ah 7) (au (ah 8) bI))))
  (ao (ax (aC [TU,TU,TV 2,TU,TU,TU,TV 6,TU,TU,TU,TU,TU,TU,TU,TU,TU,TU] (aS (aa (mC (.int 2)) af)) (ah 16) bj (ak 0 2 jN (ae 2 (aa (mIx (ag 6) (mC (.int 0))) af)))) (ah 9))
  (ao (ax (mB dg (aa (aC [TU,TU,TU,TU,TU,TU,TU,TU,TV 8,TU,TU,TU,TU,TU,TU,TU,TU] (aS (aa (mB cy (ae 8 af)) af)) (ah 16) bj (mB dg (aa (aC [TU,TU,TU,TU,TU,TU,TU,TU,TU,TU,TU,TU,TU,TU,TU,TU,TV 16,TU] (mIt (ag 8)) (ah 17) bj (mIx (ag 17) (ag 16))) af))) af)) (ah 10))
  (ao (mIf (aA (mOp neT (mF eE (aa (mF eE (ae 6 (ae 8 af))) (ae 10 af))) (ag 6))) (aT (mC (.bl TZ))) aV)
  (ao (j3 11 12 (aa (aC [TU,TU,TU,TU,TU,TU,TU,TU,TU,TU,TU,TU,TU,TU,TU,TU,TU] (mIt (mIx (ag 6) (mC (.int 2)))) (ah 16) bj (mIx (ag 16) (mC (.int 0)))) (aa (aC [TU,TU,TU,TU,TU,TU,TU,TU,TU,TU,TU,TU,TU,TU,TU,TU,TU] (mIt (mIx (ag 6) (mC (.int 2)))) (ah 16) bj (mIx (ag 16) (mC (.int 1)))) af)))
  (ao (ax (aq [] (aa (mIx (ag 6) (mC (.int 0))) (aa (mIx (ag 6) (mC (.int 1))) (aa (mB dg (aa (aC [TU,TU,TU,TU,TU,TU,TU,TU,TU,TU,TU,TU,TU,TU,TU,TU,TU,TU] (nu (ae 11 (aa (mUn pc (ag 12)) af))) (bJ 2 (au (ah 16) (au (ah 17) bI))) bj (aq [16,17] (ae 16 (ae 17 af)))) af)) af)))) (ah 13))
  (cQ (mIt (aq [] (aa (aq [6,7] (ae 6 (ae 7 af))) (aa (aq [6,8] (ae 6 (ae 8 af))) (aa (aq [13,8] (ae 13 (ae 8 af))) (aa (aq [13,7] (ae 13 (ae 7 af))) (aa (aq [6,7] (ae 6 (ae 7 af))) af))))))) (bJ 2 (au (ah 14) (au (ah 15) bI)))
  (dF [14,15] (mIf (pY (aA (mF f7 (ae 14 (ae 15 (ae 9 af)))))) (aT (mC (.bl TZ))) aV))))))))))))))))
  (aT (mC (.bl T1))))
abbrev r_l_law_v15(ts:!T)(Q:T->Prop):Prop:=ts.length=1/\ce eQ 16 ts Q
end
end L2
namespace K47
open PySem PySem.Spec PyProof.Rows L2
structure GT(K:yF)(mg:Str->↑Nz):Prop where
 triv:True
end K47
namespace L2
open PySem PySem.Spec PyProof.Rows
open PySem.W (Frag)
abbrev vV(K:Frag):Bool:=K.all λp=>match p.2.cls with
 | .type n=>n != "list"
 | _=>T1
def tL{K:Frag}{a:Addr}(h:K.lookup a=TU):eL K a=K:=by
 unfold eL;rw[List.filter_eq_self];intro p c;rw[Ji,beq_eq_false_iff_ne];rintro rfl
 induction K with
 | nil=>cases c
 | cons q K d=>
  rw[IL]at h;split at h;cases h
  .delta e;rcases ycM c with rfl|c;simp at e;show d c h
def qh{K:Frag}{a:Addr}(h:vV K=T1)(f:Ny K a):eL K a=K:=by
 cases e:K.lookup a with
 | none=>show tL e
 | some o=>
  have(vs,rfl):=f o e;exfalso;have g:∃p∈K,p.2.cls=NH "list" :=by
   clear h f
   induction K with
   | nil=>cases e
   | cons q K i=>
    rw[IL]at e;split at e;show{q,ymS,by rw[IC.inj e]};have(p,d,c):=i e;show{p,ymC _ d,c}
  have(p,d,c):=g;have:=IQ.mp h p d;dsimp[c]at this;show absurd this (by decide)
def walkN{l:Mb}{k:Nat}{q:NM}{loose:!Str}{XP:(Str->↑Nz)->Heap->Prop}{YP:NP->Heap->Prop}{d:DefRec}{K:R0->yF}{x:Str}{st:Stmt}{run:!T->(T->Prop)->Prop}{A:(Str->↑Nz)->yF->Prop}
  (U:l.most=TV 63) (i:d.params.defaults=[]) (B:MW k QV)
  (G:∀(w:NP) (h:Heap),YP w h->(K w.params).In h)
  (J:∀(w:NP) (mg:Str->↑Nz) (h:Heap),(K w.params).In h->h.Ns NO mg->A mg (K w.params))
  (r:∀P,vV (K P)=T1)
  (N:∀(mg:Str->↑Nz) (K:yF),A mg K->Def K mg d.name st [x])
  (u:∀(kV g L:Nz) (z:↑Addr) (e p:Nz) (s:NC) (v:Nz),QM s (IR d.name d.name (bT st) (aP st) (ai st) .none kV g L z e p) {[v],[]} [(x,v)])
  (F:∀(w:NP) (mg:Str->↑Nz) (K:yF) (base:Heap),A mg K->Has l.prog w K mg base k d.name [x] (spP K run))
  (j:∀ns:!Int,ns.length<=63->C1 (run [.li (ns.map .int)]) λt=>t=.im (.bl T1)) :
  Ml q loose XP YP l.row.toRowW d [] (λf vs=>PySem.call f vs):=
 Hh (K:=K) (A:=λmg c=>A mg c/\vV c=T1) U i B G (λw mg h a b=>{J w mg h a b,r _}) (λmg c a ⟨E,o⟩ S=>by rw[qh o S];show⟨E,o⟩) (λmg c h=>N mg c h.1) u (λw mg c base h=>F w mg c base h.1) j
section
variable {O:Rho}{a b m:ME}{ms:MA}{QE':R->Rho->Prop}{QA':!R->Rho->Prop}
def uP:ay M {.ow,t}=T1:=by unhygienic rfl
def bQ:ay [] r=T1:=by
 have(k,t):=r;cases k with
 | vw o p=>cases o<;>unhygienic rfl
 | _=>unhygienic rfl
def He(h:WA ms O λrs c=>QA' ({.ow,.im i}::rs) c):WA (aa (mC i) ms) O QA':=n8 (w_C (C2.mono h λ_ _ q=>gu uP q))
def HZ(h:WE m O λr O1=>QA' [r] O1):WA (aa m af) O QA':=n8 (C2.mono h λ_ _ q=>lG (gu (by unhygienic show bQ) q))
def G8(h:WE a O λc O1=>W1 (f c.t (.im i)) λt=>QE' {.ow,t} O1):WE (mOp f a (mC i)) O QE':=qU (C2.mono h λ_ _ q=>w_C (gu (by unhygienic show bQ) q))
def G9(h:WE a O λe O1=>WE (ag n) O1 λc d=>W1 (f e.t c.t) λt=>QE' {.ow,t} d):WE (mOp f a (ag n)) O QE':=qU (C2.mono h λ_ _ h=>C2.mono h λ_ _ q=>gu (by unhygienic show bQ) q)
abbrev owL:Nat->!R->Option !T
 | _,[]=>TV []
 | n+1,⟨.ow,t⟩::d=>match owL n d with
  | some c=>TV (t::c)
  | none=>TU
 | _,_=>TU
def k8{mv:!Nat}{O:Rho}:∀{n:Nat} {rs:!R} {ts:!T},owL n rs*>ts->rs.length<=n/\consL mv rs O*>(ts,O)
 | _,[],ts,h=>by rw[owL]at h;cases h;show{Kn _,Xr}
 | 0,_::_,ts,h=>by simp[owL]at h
 | n+1,⟨k,t⟩::rs,ts,h=>by
  cases k with
  | ow=>
   rw[owL]at h;cases e:owL n rs with
   | none=>rw[e]at h;cases h
   | some f=>
    rw[e]at h;cases h;have(d,c):=k8 (mv:=mv) (O:=O) e;show{Kz d,by rw[consL,c]}
  | _=>simp[owL]at h
abbrev OwT(rs:!R)(Q:!T->Prop):Prop:=∃c,owL 1000 rs*>c/\Q c
def FJ(h:owL 1000 rs*>ts)(q:Q ts):OwT rs Q:=⟨ts,h,q⟩
def ES(h:WA ms O λrs O1=>OwT rs λts=>QE' {.ow,oN ts} O1):WE (aq [] ms) O QE':=yG (C2.mono h λ_ _ ⟨_,e,q⟩=>gu (decide_eq_true (k8 (mv:=[]) (O:=O) e).1) {_,_,(k8 e).2,q})
def EI(h:WA ms O λrs O1=>OwT rs λts=>QE' {.ow,de ts} O1):WE (aR [] ms) O QE':=yC (C2.mono h λ_ _ ⟨_,e,q⟩=>gu (decide_eq_true (k8 (mv:=[]) (O:=O) e).1) {_,_,(k8 e).2,q})
def HX{run:!T->(T->T->Prop)->Prop}{k0:Nat}{t:T}{i:I}(h:C2 (run [t,.im i]) λx s=>QE' {.ow,x} (TV {.io k0,s}::aB [0] O)):WE (ak 0 0 run (ae 0 (aa (mC i) af))) (TV {.io k0,t}::O) QE':=
 nZ (eJ rfl (He (lG (pE rfl (B4 rfl (by unhygienic rfl) rfl rfl (C2.mono h λx s q=>by rw[nE];show q))))))
def Hc{run:!T->(T->T->Prop)->Prop}{k0 n:Nat}{t:T}{r0:R}(c : O[n]?*>(TV r0))(d:ay [0] (rdR (n+1) r0)=T1)(h:C2 (run [t,(rdR (n+1) r0).t]) λx s=>QE' {.ow,x} (TV {.io k0,s}::aB [0] O)):WE (ak 0 0 run (ae 0 (ae (n+1) af))) (TV {.io k0,t}::O) QE':=
 nZ (eJ rfl (eJ (r0:=r0) c (lG (pE (r:=r0) c (pE rfl (B4 rfl (by change(T1&&_)=T1;simp[Ip,Ip.loop,d]) rfl rfl (C2.mono h λx s q=>by rw[nE];show q)))))))
def yH(c : O[n]?*>(TV r0))(q:QA' [rdR n r0] O):WA (ae n af) O QA':=eJ (r0:=r0) c (lG (pE (r:=r0) c q))
def Hg{n:Nat}{r0:R}{k:Int}{Q:Int->Rho->Prop}(c : O[n]?*>(TV r0))(d:(rdR n r0).t=.im (.int k))(q:Q k O):WA (ae n af) O (λrs O1=>uJ rs λk=>Q k O1):=yH c (rA (by rw[Ir,d];rfl) q)
def EG(c : O[n]?*>(TV r0))(h:W1 (ixR (rdR n r0) (.im i)) λr=>QE' r O):WE (mIx (ag n) (mC i)) O QE':=yA (gv c (w_C (gu (by unhygienic show bQ) h)))
def EH{n m:Nat}{r0 c:R}(d : O[n]?*>(TV r0))(e : O[m]?*>(TV c))(h:W1 (ixR (rdR n r0) (rdR m c).t) λr=>QE' r O):WE (mIx (ag n) (ag m)) O QE':=yA (gv d (gv e (gu (by unhygienic show bQ) h)))
def EQ{f:T->T->↑T}{n m:Nat}{r0 c:R}(d : O[n]?*>(TV r0))(e : O[m]?*>(TV c))(h:W1 (f (rdR n r0).t (rdR m c).t) λt=>QE' {.ow,t} O):WE (mOp f (ag n) (ag m)) O QE':=qU (gv d (gv e (gu (by unhygienic show bQ) h)))
def EO(c : O[n]?*>(TV r0))(h:W1 (f (rdR n r0).t (.im i)) λt=>QE' {.ow,t} O):WE (mOp f (ag n) (mC i)) O QE':=qU (gv c (w_C (gu (by unhygienic show bQ) h)))
def EN(c : O[n]?*>(TV r0))(h:W1 (f (.im i) (rdR n r0).t) λt=>QE' {.ow,t} O):WE (mOp f (mC i) (ag n)) O QE':=qU (w_C (gv c (gu (by unhygienic show bQ) h)))
def EM(h:W1 (f (.im i) (.im j)) λt=>QE' {.ow,t} O):WE (mOp f (mC i) (mC j)) O QE':=qU (w_C (w_C (gu (by unhygienic show bQ) h)))
def BY{n m:Nat}{r0 d:R}(c : O[n]?*>(TV r0))(e : O[m]?*>(TV d))(q:QA' [rdR n r0,rdR m d] O):WA (ae n (ae m af)) O QA':=eJ (r0:=r0) c (yH e (pE (r:=r0) c q))
def Hf{n m k:Nat}{r0 d e:R}(c : O[n]?*>(TV r0))(g : O[m]?*>(TV d))(f : O[k]?*>(TV e))(q:QA' [rdR n r0,rdR m d,rdR k e] O):WA (ae n (ae m (ae k af))) O QA':=eJ (r0:=r0) c (BY g f (pE (r:=r0) c q))
end
local macro_rules|`(tactic| ac_nf)=>`(tactic| try simp only[Cw,Fs,Fq,zg,Ft,List.set_cons_zero,List.set_cons_succ,nE,Ag,Ec,Ee,Ed,Aj,vo,tu])
local macro_rules|`(tactic| injection $x:ident)=>`(tactic| refine $x ?_)
local macro_rules|`(tactic| infer_instance)=>`(tactic| first
 | injection rq|injection rz|(refine y0 ?_;try ac_nf)|injection Ck|refine Fg rfl ?_|injection Fi|injection Fh
 | injection lF|injection GZ|injection Hb|injection qS|injection EK|injection G4|injection Ha|injection ER
 | injection w_C|refine gv rfl ?_|refine EQ rfl rfl ?_|refine EO rfl ?_|refine EN rfl ?_|injection EM|injection G8|injection G9|injection qU|injection HY|injection w_B|injection w_F|injection w_M|refine EG rfl ?_|refine EH rfl rfl ?_|injection yA|injection HW|injection ES|injection EI|refine FJ (by unhygienic rfl) ?_|injection yC|injection yG|injection G5|injection ED|injection EL|injection HX|refine Hc rfl (by unhygienic rfl) ?_|injection nZ|injection yD|injection EJ
 | injection AZ|injection A8
 | injection lG|injection He|injection HZ|refine Hg rfl rfl ?_|refine yH rfl ?_|refine BY rfl rfl ?_|refine Hf rfl rfl rfl ?_|injection n8|refine eJ rfl ?_
 | injection Ba|injection lJ|injection lI|injection EZ|injection Hi|injection lK
 | (refine AX (by unhygienic rfl) ?_;try ac_nf)|refine EW rfl rfl ?_|refine yJ (by unhygienic rfl) ?_|injection AY|injection EV|injection yI
 | refine gu (by unhygienic rfl) ?_
 | injection C7|injection F4|injection FY|injection FL|injection FM|injection FX|injection FO|injection Df|injection Dd|injection zB|injection FW|injection FV|injection Db|injection Do|injection Dh|injection FZ|injection F3|injection Dl|refine Dm rfl ?_
 | refine Bs rfl ?_|refine Bt rfl ?_|refine qr (n:=0) rfl (Lq rfl) ?_|refine qr (n:=1) rfl (Lq rfl) ?_
 | refine cS (HI (by decide) (by decide)) ?_|refine cS (gJ (by decide) (by decide)) ?_|refine wd ⋯ ?_|refine Da ⋯ ?_
 | refine qT (by rfl) ?_|injection pI|injection rf
 | refine vZ (b:=true) rfl (by decide) ?_|refine vZ (b:=false) rfl (by decide) ?_|injection Dj
 | injection HD|injection HF|refine pE rfl ?_|refine B4 rfl (by unhygienic rfl) rfl rfl ?_|refine B5 rfl rfl ?_|injection Ho|injection EA|injection yq|refine rA rfl ?_|refine zd rfl ?_)
local macro_rules|`(tactic| omega)=>`(tactic| decide)
local macro_rules|`(tactic| and_intros)=>`(tactic| repeat infer_instance)
local macro_rules|`(tactic| cbv)=>`(tactic| unhygienic rfl)
local macro_rules|`(tactic| clear_value $h:ident)=>`(tactic| first|refine dsp (fun $h=>?_) (fun $h=>?_)|refine HA (fun $h=>?_) (fun $h=>?_)|refine bsp (fun $h=>?_) (fun $h=>?_))
def be{ns:!Int}{kd:Kd}{a:Int}{d:R->Prop}(f:0<=a)(g:a<ns.length)(q:∀y,y∈ns->ns[a.toNat]?*>y->d {.ow,.im (.int y)}):W1 (ixR {kd,.li (ns.map .int)} (.im (.int a))) d:=by
 show wb f (by exists g) λx c=>?_;rw[Io]at c;cases e:ns[a.toNat]? with
 | none=>rw[e]at c;cases c
 | some y=>rw[e]at c;cases c;show q y (ymG e) e
def mI{ns:!Int}{kd:Kd}{a:Int}{d:R->Prop}(f:0<=a)(g:a<ns.length)(q:∀y,y∈ns->ns[a.toNat]?*>y->d {.ow,.im (.int y)}):W1 (ixR {kd,.im (.tup (ns.map .int))} (.im (.int a))) d:=by
 show wc f (by exists g) λx c=>?_;rw[Io]at c;cases e:ns[a.toNat]? with
 | none=>rw[e]at c;cases c
 | some y=>rw[e]at c;cases c;show q y (ymG e) e
def aN{a:Type}{P : a->Prop}{l:!a}{y : a}(h:∀x∈l,P x)(c:P y):∀x∈l++[y],P x:=λx d=>(yaM d).elim (h x) λz=>by rw[ysM z];show c
abbrev fT(f:Int×Int):T:=.li [.int f.1,.int f.2]
def am(a:0<n)(e:n<2^64)(q:∀d c,0<=d->d<n->Q (.im (.int d)) (fT c)):C2 (aj [fT f,.im (.int n)]) Q:=by
 show iE rfl rfl ?_;unfold jk;and_intros
 (refine aF ?_;and_intros;clear_value h)
 .and_intros;show q _ (f.1 / n,f.2) (JH _ (by lia)) (Jp _ a)
 .and_intros;show q _ (f.1,(f.2*48271 % 2147483647*40692+30103) % 2147483399+1) (JH _ (by lia)) (Jp _ a)
abbrev qM(is:!Int):T:=.im (.tup (is.map .int))
def xW{f:Int×Int}{n:Int}(r:1<=n)(p:n<=3){Q:T->T->Prop}(q:∀is i,is.length=n.toNat->(∀x∈is,-2<=x/\x<=2)->Q (qM is) (fT i)):C2 (kF [fT f,.im (.int n)]) Q:=by
 show iE rfl rfl ?_;unfold kz;and_intros;show aF ?_;and_intros;show am (by lia) (by lia) λd f c e=>?_;ac_nf;and_intros;clear_value h
 .and_intros;show wf (is:=[.int 0]) {by simp,by decide,by lia,by lia} ?_;and_intros;have:(Ih n.toNat [I.int 0]).flatten=(Ih n.toNat (0:Int)).map .int:=by simp
  rw[this];show q _ f ∅ (by intro x a;rw[(JU.mp a).2];decide)
 .and_intros;show bp (λf:Int×Int=>[TV {.io 0,fT f},↥(.int n)]) I.int (λj _ is=>is.length=j/\∀x∈is,-2<=x/\x<=2) ?_;and_intros;show{{by lia,by lia},by cbv,f,by cbv,{Xr,by simp},λj f is o ⟨g,a⟩=>?_,λf is ⟨g,a⟩=>?_}
  .and_intros;show am (by lia) (by lia) λd f c e=>?_;ac_nf;and_intros;show be (ns:=[0,1,0-1,2,0-2]) c e λy l _=>{y,f,Xr,by cbv,by simp[g],aN a (by simp at l;lia)}
  .and_intros;show q is f g a
def yS{f:Int×Int}{n:Int}(w:1<=n)(u:n<=3){Q:T->T->Prop}(q:∀is p,is.length=n.toNat->(∀x∈is,-2<=x/\x<=2)->(∃(k:Nat) (y:Int) (m:!Int),is=Ih k 0++y::m/\y<0)->Q (qM is) (fT p)):C2 (dN [fT f,.im (.int n)]) Q:=by
 show iE rfl rfl ?_;unfold dH;and_intros;show am (by lia) (by lia) λd f c e=>?_;ac_nf;and_intros;show uF (λf:Int×Int=>[TV {.io 0,fT f},↥(.int n),↥(.int d),TU]) I.int (λj _ is=>is.length=j/\∀x∈is,-2<=x/\x<=2) ?_;and_intros;show{{by lia,by lia,by lia,by lia,by lia},by cbv,f,by cbv,{Xr,by simp},λj f is s ⟨l,h⟩=>?_,λf is ⟨l,h⟩=>?_}
 .and_intros;show am (by lia) (by lia) λd f c e=>?_;ac_nf;and_intros;show be (ns:=[0,1,0-1,2,0-2]) c e λy r _=>{y,f,Xr,by cbv,by simp[l],aN h (by simp at r;lia)}
 .and_intros;show we (is:=[.int 0]) {by lia,by lia,by simp;rw[NE];lia} ?_;and_intros;show am (by lia) (by lia) λg f o i=>?_;ac_nf;and_intros;show jI (is:=(Ih d.toNat [I.int 0]).flatten) (js:=[.int (0-1-g)]) (by simp;rw[NE];lia) ?_;and_intros;show jI (is:=(Ih d.toNat [I.int 0]).flatten++[.int (0-1-g)]) (js:=is.map I.int) (by simp;rw[NE];lia) ?_;and_intros;have:(Ih d.toNat [I.int 0]).flatten++[.int (0-1-g)]++is.map I.int=(Ih d.toNat 0++(0-1-g)::is).map I.int:=by simp
  rw[this];show q _ f (by simp;lia) (λx a=>by
   rcases yaM a with a|a;rw[(JU.mp a).2];decide
   .rcases ycM a with rfl|a
    .lia
    .show h x a) {d.toNat,_,is,Xr,by lia}
def uE{row signs:!Int}{a:Int}(d:1<=row.length)(c:row.length<=1000)(B:0<=a)(hs:signs.length=row.length)(h:∀x∈row,-(2^64)<x/\x<2^64){Q:T->Prop}(q:∀is:!Int,is.length=row.length->(∀(k:Nat) x s,row[(k+a.toNat) % row.length]?*>x->signs[k]?*>s->is[k]?*>(x*s))->Q (qM is)):C1 (cK [qM row,.im (.int a),.li (signs.map .int)]) Q:=by
 show sr rfl rfl ?_;unfold cH;and_intros;show bY (λp:!Int=>[⇑(qM row),↥(.int a),TV {.vw TU TU,.li (signs.map .int)},⇑(.li (p.map .int)),TU]) (λj p=>p.length=j/\∀(k:Nat),k<j->∀x s,row[(k+a.toNat) % row.length]?*>x->signs[k]?*>s->p[k]?*>(x*s)) ?_;and_intros;rw[Ia];show{{by lia,by lia},[],by cbv,{Xr,λk e=>absurd e (KM _)},λj is E ⟨f,g⟩=>?_,λis ⟨f,g⟩=>?_}
 .and_intros;show wd (by simp;lia) ?_;and_intros;rw[Ia];have u:((j:Int)+a) % (row.length:Int)=(((j+a.toNat) % row.length:Nat):Int):=by
   rw[Int.natCast_emod,Int.natCast_add];congr 1;lia
  rw[u];have r:(j+a.toNat) % row.length<row.length:=K0 _ (by lia);show mI (ns:=row) (by lia) (by lia) λy i l=>?_;and_intros;show be (ns:=signs) (by lia) (by lia) λz w o=>?_;and_intros;show cS (gJ (h y i).1 (h y i).2) ?_;and_intros;show bC (by simp[f];rw[NE];lia) ?_;and_intros;show{is++[y*z],?_,by simp[f],λk e x s d c=>?_}
  .change _=[_,_,_,_,_];rw[Ii]
   cbv
  .rcases Nat.lt_succ_iff_lt_or_eq.mp e with e|rfl;rw[Jb (by lia)];show g k e x s d c
   .rw[IA]at l o;rw[l]at d;rw[o]at c;cases d;cases c;rw[Jg (by lia),f];simp
 .and_intros;show q is (by lia) λk x s d c=>g k (by have:=(Ib.mp c).1;lia) x s d c
inductive Ru where
 | num (n:Int)|rd (x:Str) (row:!Int)|op (s:Str) (a b:Ru)|cond (a b c:Ru)
abbrev tRu:Ru->I
 | .num n=>.tup [.str "num",.int n]
 | .rd x d=>.tup [.str "at",.str x,.tup (d.map .int)]
 | .op s a b=>.tup [.str "op",.str s,tRu a,tRu b]
 | .cond a b c=>.tup [.str "if",tRu a,tRu b,tRu c]
abbrev Ru.leaves:Ru->!Ru
 | .op _ a b=>a.leaves++b.leaves
 | .cond a b c=>a.leaves++(b.leaves++c.leaves)
 | r=>[r]
abbrev Ru.depth:Ru->Nat
 | .op _ a b=>max a.depth b.depth+1
 | .cond a b c=>max a.depth (max b.depth c.depth)+1
 | _=>0
abbrev qI:!Str:=["+","-","*","min","max","rest","less"]
abbrev Ru.ok:Ru->Prop
 | .op s a b=>s∈qI/\a.ok/\b.ok
 | .cond a b c=>a.ok/\b.ok/\c.ok
 | _=>True
def Ru.depth_lt:∀r:Ru,r.depth<r.leaves.length
 | .num _=>Mc
 | .rd _ _=>Mc
 | .op _ a b=>by have:=a.depth_lt;have:=b.depth_lt;dsimp[Ru.depth,Ru.leaves,Ij];omega
 | .cond a b c=>by have:=a.depth_lt;have:=b.depth_lt;have:=c.depth_lt;dsimp[Ru.depth,Ru.leaves,Ij];omega
def cR{f:Type}{emb : f->I}{ns:!f}{kd:Kd}{a:Int}{d:R->Prop}(g:0<=a)(h:a<ns.length)(q:∀y,ns[a.toNat]?*>y->d {.ow,.im (emb y)}):W1 (ixR {kd,.li (ns.map emb)} (.im (.int a))) d:=by
 show wb g (by exists h) λx c=>?_;rw[Io]at c;cases e:ns[a.toNat]? with
 | none=>rw[e]at c;cases c
 | some y=>rw[e]at c;cases c;show q y e
def wa{f:Type}{emb : f->I}{ns:!f}{kd:Kd}{a:Int}{d:R->Prop}(g:0<=a)(h:a<ns.length)(q:∀y,ns[a.toNat]?*>y->d {.ow,.im (emb y)}):W1 (ixR {kd,.im (.tup (ns.map emb))} (.im (.int a))) d:=by
 show wc g (by exists h) λx c=>?_;rw[Io]at c;cases e:ns[a.toNat]? with
 | none=>rw[e]at c;cases c
 | some y=>rw[e]at c;cases c;show q y e
def G6{d:MT}{a c:MS}{O:Rho}{Q:Fl->Rho->Prop}(M:Bool->Rho->Prop)(h:WT d O M)(g:∀O,M T1 O->WS a O Q)(f:∀O,M TZ O->WS c O Q):WS (mIf d a c) O Q:=aF (C2.mono h λb O m=>{λe=>g O (e▸m),λe=>f O (e▸m)})
def Hy{c:Type}{l:!c}{n:Nat}{a b : c}(d:l[n]?*>a)(g:l[n+1]?*>b):l=l.take n++a::b::l.drop (n+2):=by
 have(i,f):=Ib.mp d;have(h,e):=Ib.mp g;rw[<-f,<-e,JB,JB,I8]
def Hz{d:Type}{l:!d}{n:Nat}{a b c : d}(f:l[n]?*>a)(j:l[n+1]?*>b)(h:l[n+2]?*>c):l=l.take n++a::b::c::l.drop (n+3):=by
 have(q,i):=Ib.mp f;have(p,g):=Ib.mp j;have(o,e):=Ib.mp h;rw[<-i,<-g,<-e,JB,JB,JB,I8]
def om{f:Int×Int}{rs:!Ru}(o:rs≠[])(U:rs.length<=1000)(e:∀r∈rs,r.ok){Q:T->T->Prop}(q:∀r f',r.leaves=rs.flatMap Ru.leaves->r.ok->Q (.im (tRu r)) (fT f')):C2 (iy [fT f,.li (rs.map tRu)]) Q:=by
 show MZ [TV {.io 0,fT f},TV {.vw TU TU,.li (rs.map tRu)},TU,TU,TU] rfl rfl rfl ?_;unfold ie;and_intros;show pk (λs:(Int×Int)×!Ru=>[TV {.io 0,fT s.1},TV {.vw TU TU,.li (rs.map tRu)},⇑(.li (s.2.map tRu)),TU,TU]) (λs=>s.2≠[]/\s.2.length<=1000/\(∀r∈s.2,r.ok)/\s.2.flatMap Ru.leaves=rs.flatMap Ru.leaves) (λs=>s.2.length) (f,rs) (by cbv) ⟨o,U,e,Xr⟩ λs ⟨o,U,e,p⟩=>?_;have(f,i):=s;dsimp only at o U e p|-;and_intros;rw[Ia];clear_value E
 .and_intros;rw[Ia];show am ⋯ ⋯ λg f B ha1=>?_;ac_nf;and_intros;show G6 (λb O=>∃f:Int×Int,O=[TV {.io 0,fT f},TV {.vw TU TU,.li (rs.map tRu)},⇑(.li (i.map tRu)),↥(.int g),TU]/\(b=T1->2<i.length)) ?_ ?_ ?_
  .and_intros;rw[Ia];clear_value X
   .and_intros;show am ⋯ ⋯ λd f J w=>?_;ac_nf;and_intros;show{f,Xr,λ_=>by omega}
   .show{f,Xr,λz=>absurd z (by decide)}
  .rintro O ⟨f,rfl,X⟩;have X:=X rfl;and_intros;rw[Ia];generalize S:(if(i.length:Int)-3<g then(i.length:Int)-3 else g)=at1;have Y:0<=at1/\at1+3<=i.length:=by subst S;split<;>omega
   show cR (ns:=i) Y.1 ⋯ λa G=>?_;and_intros;show cR (ns:=i) ⋯ ⋯ λb u=>?_;and_intros;show cR (ns:=i) ⋯ ⋯ λc L=>?_;and_intros;rw[show(at1+1).toNat=at1.toNat+1 by omega]at u;rw[show(at1+2).toNat=at1.toNat+2 by omega]at L;have l:=Hz G u L;show{[],i.map tRu,_,_,Xr,by cbv,{Y.1,by omega,by simp;omega,by simp;rw[NE];omega},Xr,Xr,?_};ac_nf;and_intros;show{(f,i.take at1.toNat++Ru.cond a b c::i.drop (at1.toNat+3)),?_,?_,by simp,?_,?_,?_}
   .rw[Ii,Ir,Kf,KB,show(at1+3).toNat=at1.toNat+3 by omega,Iy]
    cbv
   .simp;omega
   .simp;omega
   .intro r j;rcases yaM j with j|j;show e r (Je j)
    .rcases ycM j with rfl|j;show{e a (ymG G),e b (ymG u),e c (ymG L)};show e r (Jt j)
   .rw[<-p]
    conv=>rhs;rw[l]
    simp[Ru.leaves]
  .rintro O ⟨f,rfl,_⟩;and_intros;show am ⋯ ⋯ λd f J w=>?_;ac_nf;and_intros;show cR (emb:=I.str) (ns:=qI) J (by simpa[qI]using w) λsg N=>?_;and_intros;show cR (ns:=i) B ⋯ λa G=>?_;and_intros;show cR (ns:=i) ⋯ ⋯ λb u=>?_;and_intros;rw[show(g+1).toNat=g.toNat+1 by omega]at u;have l:=Hy G u;show{[],i.map tRu,_,_,Xr,by cbv,{B,by omega,by simp;omega,by simp;rw[NE];omega},Xr,Xr,?_};ac_nf;and_intros;show{(f,i.take g.toNat++Ru.op sg a b::i.drop (g.toNat+2)),?_,?_,by simp,?_,?_,?_}
   .rw[Ii,Ir,Kf,KB,show(g+2).toNat=g.toNat+2 by omega,Iy]
    cbv
   .simp;omega
   .simp;omega
   .intro r j;rcases yaM j with j|j;show e r (Je j)
    .rcases ycM j with rfl|j;show{ymG N,e a (ymG G),e b (ymG u)};show e r (Jt j)
   .rw[<-p]
    conv=>rhs;rw[l]
    simp[Ru.leaves]
 .and_intros;obtain⟨r,rfl⟩:∃r,i=[r]:=by
   match i,o,E with
   | [r],_,_=>show⟨r,Xr⟩
   | _::_::_,_,h=>simp at h;omega
  and_intros;show q r f (by exists p) (e r ∅)
abbrev Ru.kids:Ru->!Ru
 | .op _ a b=>[a,b]
 | .cond a b c=>[a,b,c]
 | _=>[]
abbrev Ru.pre:Ru->!Ru
 | .num n=>[.num n]
 | .rd x d=>[.rd x d]
 | .op s a b=>.op s a b::(a.pre++b.pre)
 | .cond a b c=>.cond a b c::(a.pre++(b.pre++c.pre))
def qv(r:Ru):r.pre=r::r.kids.flatMap Ru.pre:=by cases r<;>simp[Ru.pre,Ru.kids]
def zO(r:Ru):1<=r.pre.length:=by rw[qv];simp
def gM:∀r:Ru,r.pre.length<2*r.leaves.length
 | .num _=>by simp[Ru.pre,Ru.leaves]
 | .rd _ _=>by simp[Ru.pre,Ru.leaves]
 | .op _ a b=>by have:=gM a;have:=gM b;dsimp[Ru.pre,Ru.leaves,Im,Ij];omega
 | .cond a b c=>by have:=gM a;have:=gM b;have:=gM c;dsimp[Ru.pre,Ru.leaves,Im,Ij];omega
def vF(r:Ru):r.kids.length<=3:=by cases r<;>simp[Ru.kids]
def vB(q:Q (.im (.tup (r.kids.map tRu)))):C1 (dv [.im (tRu r)]) Q:=by
 show MM [↥(tRu r)] rfl rfl rfl ?_;unfold cq;cases r with
 | num k=>
  rw[tRu];and_intros
  (refine aF ?_;and_intros;clear_value h)
  .show absurd h (by decide +kernel)
  and_intros
  (refine aF ?_;and_intros;clear_value d)
  .show absurd d (by decide +kernel)
  and_intros;show q
 | rd x e=>
  rw[tRu];and_intros
  (refine aF ?_;and_intros;clear_value h)
  .show absurd h (by decide +kernel)
  and_intros
  (refine aF ?_;and_intros;clear_value d)
  .show absurd d (by decide +kernel)
  and_intros;show q
 | op s a b=>
  rw[tRu];and_intros
  (refine aF ?_;and_intros;clear_value h)
  .and_intros;show gr (is:=[.str "op",.str s,tRu a,tRu b]) (show ¬((2:Nat)=0/\4=4) by decide) ?_;and_intros;show q
  .show absurd rfl h
 | cond a b c=>
  rw[tRu];and_intros
  (refine aF ?_;and_intros;clear_value h)
  .show absurd h (by decide +kernel)
  and_intros
  (refine aF ?_;and_intros;clear_value d)
  .and_intros;show gr (is:=[.str "if",tRu a,tRu b,tRu c]) (show ¬((1:Nat)=0/\4=4) by decide) ?_;and_intros;show q
  .show absurd rfl d
def qs(q:Q (~~~is.isEmpty)):W1 (tru (.li is)) Q:=w1 rfl q
def oS(B:r.leaves.length<=1000)(q:Q (.li (r.pre.map tRu))):C1 (dO [.im (tRu r)]) Q:=by
 have g:=gM r;show MM [↥(tRu r),TU,TU,TU] rfl rfl rfl ?_;unfold dJ;and_intros;show pk (λs:!Ru×!Ru=>[↥(tRu r),⇑(.li (s.1.map tRu)),⇑(.li (s.2.map tRu)),TU]) (λs=>s.1++s.2.reverse.flatMap Ru.pre=r.pre) (λs=>(s.2.flatMap Ru.pre).length) ([],[r]) (by cbv) ∅ λs f=>?_;have(h,st):=s;dsimp only at f|-;and_intros;show qs ?_;show bsp (λe=>?_) (λo=>?_)
 .obtain⟨c,p,rfl⟩:∃c p,st=c++[p]:=by
   rcases List.eq_nil_or_concat st with z|⟨a,b,z⟩;rw[z]at e;cases e;show{a,b,by simpa using z}
  rw[Ii]at *;and_intros;show mJ ?_;ac_nf;and_intros;have d:=congrArg JR f;dsimp[JL,IG,List.reverse_nil,Ki,Ke,Ju,LW,Iw,Ij,LU]at d f;have u:(c.reverse.flatMap Ru.pre).length=(c.flatMap Ru.pre).length:=by simp[Lw,Ka,LX]
  have j:c.length<=(c.flatMap Ru.pre).length:=by
   clear f e d u
   induction c with
   | nil=>simp
   | cons a l w=>rw[Ju,Im,Ij];have:=zO a;omega
  show bC (is:=h.map tRu) (by simp;rw[NE];omega) ?_;ac_nf;and_intros;show vB ?_;and_intros;have i:=vF p;show C9 (is:=c.map tRu) (js:=(p.kids.map tRu).reverse) (by simp;rw[NE];omega) ?_;ac_nf;and_intros;show{(h++[p],c++p.kids.reverse),?_,?_,?_}
  .rw[Ii,Ii,Ka]
   cbv
  .rw[Ke,Ke,Ij,Ij,Ju,LW,Iw,qv p,Im];have:(p.kids.reverse.flatMap Ru.pre).length=(p.kids.flatMap Ru.pre).length:=by simp[Lw,Ka,LX]
   omega
  .rw[<-f,JL,Ls,Ke,qv p];simp
 .have:st=[]:=by cases st<;>first|rfl|cases o
  subst this;and_intros;simp at f;subst f;show q
abbrev tRd(p:Int×!Int):I:=.tup [.int p.1,.tup (p.2.map .int)]
abbrev aD(l:!(Int×!Int)):T:=.li (l.map tRd)
def fF(l:!(Int×!Int))(i:I):aD l ≠ .im i:=by unfold aD;intro z;cases z
def w9{ls:! !(Int×!Int)}{n:Nat}{l:!(Int×!Int)}{p:Int×!Int}(h:ls[n]?*>l):T.put (.lst (ls.map aD)) [.ix n] (.li (l.map tRd++[tRd p]))=.lst ((ls.set n (l++[p])).map aD):=by
 rw[w8 (u:=aD l) (by rw[Io,h];rfl),LL];simp[aD]
def yB{O:Rho}{Q:Fl->Rho->Prop}{L X:Nat}{a:MA}{ls:! !(Int×!Int)}{i:Int}(n:Nat){l:!(Int×!Int)}(j : O[L]?*>(⇑(.lst (ls.map aD))))(o : O[X]?*>(↥(.int i)))(hi:i=(n:Int))(f:ls[n]?*>l)(hz:l.length<1000)(g:a.mu.contains L=TZ)
  (h:WA a O λrs O1=>∃p,rs=[{.ow,.im (tRd p)}]/\O1[L]?*>(⇑(.lst (ls.map aD)))/\Q .nx ((aB [L] O1).set L (⇑(.lst ((ls.set n (l++[p])).map aD))))):WS (bB (db "list" L [] apT (mIx (ag L) (ag X)) a)) O Q:=by
 subst hi;show qS (yD (yA (gv j (gv o (gu (by cbv) ?_)))));have d:(ls.map aD)[(n:Int).toNat]?*>(aD l):=by rw[IA,Io,f];rfl
 show qk (u:=aD l) (kd:=.vw (TV L) (TV [.ix (n:Int).toNat])) ⋯ d (fF l) rfl ?_;rw[IA];show gu rfl ?_;show C2.mono h λrs O1 ⟨p,e,c,q⟩=>?_;subst e;show gu ?_ (qT rfl (rf (pI (B5 c rfl ?_))))
 .change aL a.mu {.vw (TV L) (TV [.ix n]),aD l}=T1;unfold aL;dsimp[Kd.root];rw[g];rfl
 .show bC (is:=l.map tRd) (by simp;rw[NE];omega) ?_;rw[w9 f];show q
abbrev Looks(P:Nat->Int×!Int->Prop)(c:Nat)(m:Nat)(ls:! !(Int×!Int)):Prop:=ls.length=m/\∀x l,ls[x]?*>l->l.length<=c/\∀p∈l,P x p
def Looks.get(h:Looks P c m ls)(a:n<m):∃l,ls[n]?*>l/\l.length<=c/\∀p∈l,P n p:=by
 have:n<ls.length:=by rw[h.1];show a
 show{ls[n],Ix this,h.2 n _ (Ix this)}
def eS{c:Type}{l:!c}{n x:Nat}{a b : c}(h:(l.set n a)[x]?*>b):(n=x/\b=a)\/(n≠x/\l[x]?*>b):=by
 by_cases e:n=x
 .subst e;have:=(Ib.mp h).1;rw[Ja (by exists this)]at h;cases h;show .inl ⟨Xr,Xr⟩
 .rw[Iz e]at h;show .inr ⟨e,h⟩
def Looks.set{P:Nat->Int×!Int->Prop}{c m:Nat}{ls:! !(Int×!Int)}{n:Nat}{l a:!(Int×!Int)}(h:Looks P c m ls)(f:ls[n]?*>l)(e:a.length<=c)(hp:∀p∈a,P n p):Looks P c m (ls.set n a):=by
 show{by rw[IF];show h.1,λx a d=>?_};rcases eS d with⟨rfl,rfl⟩|⟨_,d⟩;show⟨e,hp⟩;show h.2 x a d
abbrev lL(w m:Int)(p:Int×!Int):Prop:=0<=p.1/\p.1<m/\p.2.length=w.toNat/\∀x∈p.2,-2<=x/\x<=2
def y4{f:Int×Int}{w m:Int}(S:1<=w)(h2:w<=3)(h3:1<=m)(h4:m<=6){Q:T->T->Prop}(q:∀ls U,Looks (λ_ p=>lL w m p) 3 m.toNat ls->Q (.lst (ls.map aD)) (fT U)):C2 (eu [fT f,.im (.int w),.im (.int m)]) Q:=by
 show iE rfl rfl ?_;unfold cD;and_intros;show lE (λ_:Unit=>[TV {.io 0,fT f},↥(.int w),↥(.int m),TU,TU,TU]) aD fF (λ_ _ l=>∀x∈l,x=[]) ?_;and_intros;show{{by omega,by omega},by cbv,(),by cbv,by simp,λj _ l hj a=>?_,λ_ l a hn=>?_}
 .and_intros;show{[],(),Xr,by cbv,aN a rfl}
 and_intros;show bY (λs:(Int×Int)×! !(Int×!Int)=>[TV {.io 0,fT s.1},↥(.int w),↥(.int m),⇑(.lst (s.2.map aD)),TU,TU]) (λj s=>Looks (λ_ p=>lL w m p) 3 m.toNat s.2/\∀y l,j<=y->s.2[y]?*>l->l=[]) ?_;and_intros;show{{by omega,by omega},(f,l),by cbv,{{hn,λx i o=>by rw[a i (ymG o)];simp},λy i _ o=>a i (ymG o)},λx s o ⟨g,h⟩=>?_,λs ⟨g,_⟩=>?_}
 .and_intros;show bY (λt:(Int×Int)×! !(Int×!Int)=>[TV {.io 0,fT t.1},↥(.int w),↥(.int m),⇑(.lst (t.2.map aD)),↥(.int x),TU]) (λj t=>Looks (λ_ p=>lL w m p) 3 m.toNat t.2/\(∀l,t.2[x]?*>l->l.length<=j)/\∀y l,x+1<=y->t.2[y]?*>l->l=[]) ?_;and_intros;show am ⋯ ⋯ λd f hd0 N=>?_;ac_nf;and_intros;show{{by omega,by omega},(f,s.2),by cbv,{g,λl a=>by rw[h x l (Ig _) a];simp,λy l J a=>h y l ⋯ a},λj t hj ⟨g,X,h⟩=>?_,λt ⟨g,_,h⟩=>by and_intros;show{t,by cbv,g,h}};have(l,a,Y,G):=g.get (n:=x) ⋯;iterate 2 infer_instance
  show yB (ls:=t.2) x rfl rfl rfl a ⋯ (by cbv) ?_;and_intros;show am ⋯ ⋯ λe f u E=>?_;ac_nf;and_intros;show xW S h2 λL f B r=>?_;ac_nf;and_intros;have:=X l a;show{(e,L),Xr,Xr,?_};and_intros;show{(f,t.2.set x (l++[(e,L)])),by cbv,g.set a (by simp;omega) (aN G ⟨u,E,B,r⟩),λi c=>?_,λy i J c=>?_}
  .rcases eS c with⟨_,rfl⟩|⟨z,_⟩;simp;omega;show absurd rfl z
  .rcases eS c with⟨z,_⟩|⟨_,c⟩;omega;show h y i J c
 .and_intros;show q s.2 s.1 g
abbrev pB(w m:Int)(x:Nat)(p:Int×!Int):Prop:=lL w m p/\((p.1<x/\∀e∈p.2,e=0) \/ ∃(k:Nat) (y:Int) (r:!Int),p.2=Ih k 0++y::r/\y<0)
def rD(h1:1<=w)(h2:w<=3)(h3:1<=m)(h4:m<=6)(q:∀ls f',Looks (pB w m) 3 m.toNat ls->Q (.lst (ls.map aD)) (fT f')):C2 (cI [fT f,.im (.int w),.im (.int m)]) Q:=by
 show iE rfl rfl ?_;unfold cE;and_intros;show lE (λ_:Unit=>[TV {.io 0,fT f},↥(.int w),↥(.int m),TU,TU,TU]) aD fF (λ_ _ l=>∀x∈l,x=[]) ?_;and_intros;show{{by lia,by lia},by cbv,(),by cbv,by simp,λj _ l hj c=>?_,λ_ l c hn=>?_}
 .and_intros;show{[],(),Xr,by cbv,aN c rfl}
 and_intros;show bY (λs:(Int×Int)×! !(Int×!Int)=>[TV {.io 0,fT s.1},↥(.int w),↥(.int m),⇑(.lst (s.2.map aD)),TU,TU]) (λj s=>Looks (pB w m) 3 m.toNat s.2/\∀y l,j<=y->s.2[y]?*>l->l=[]) ?_;and_intros;show{{by lia,by lia},(f,l),by cbv,{{hn,λx g S=>by rw[c g (ymG S)];simp},λy g _ S=>c g (ymG S)},λx s S ⟨o,G⟩=>?_,λs ⟨o,_⟩=>?_}
 .and_intros;show bY (λt:(Int×Int)×! !(Int×!Int)=>[TV {.io 0,fT t.1},↥(.int w),↥(.int m),⇑(.lst (t.2.map aD)),↥(.int x),TU]) (λj t=>Looks (pB w m) 3 m.toNat t.2/\(∀l,t.2[x]?*>l->l.length<=j)/\∀y l,x+1<=y->t.2[y]?*>l->l=[]) ?_;and_intros;show am (by lia) (by lia) λd f hd0 hd1=>?_;ac_nf;and_intros;show{{by lia,by lia},(f,s.2),by cbv,{o,λl c=>by rw[G x l (Ig _) c];simp,λy l L c=>G y l (by lia) c},λj t hj ⟨o,hc,G⟩=>?_,λt ⟨o,_,G⟩=>by and_intros;show{t,by cbv,o,G}};have(l,c,hl3,Y):=o.get (n:=x) (by lia);have hcl:=hc l c;have E:∀(e:Int) (a:!Int) (f:Int×Int),pB w m x (e,a)->Looks (pB w m) 3 m.toNat (t.2.set x (l++[(e,a)]))/\(∀g,(t.2.set x (l++[(e,a)]))[x]?*>g->g.length<=j+1)/\∀y g,x+1<=y->(t.2.set x (l++[(e,a)]))[y]?*>g->g=[]:=λe a f r=>by
   show{o.set c (by simp;lia) (aN Y r),λg h=>?_,λy g L h=>?_}
   .rcases eS h with⟨_,rfl⟩|⟨z,_⟩;simp;lia;show absurd rfl z
   .rcases eS h with⟨z,_⟩|⟨_,h⟩
    .lia
    .show G y g L h
  have i:∀f,WS (bB (db "list" 3 [] apT (mIx (ag 3) (ag 4)) (aa (aq [] (aa (ak 0 0 aj (ae 0 (ae 2 af))) (aa (ak 0 0 dN (ae 0 (ae 1 af))) af))) af))) [TV {.io 0,fT f},↥(.int w),↥(.int m),⇑(.lst (t.2.map aD)),↥(.int x),↥(.int j)] λJ O=>J=.nx/\∃e a f,O=[TV {.io 0,fT f},↥(.int w),↥(.int m),⇑(.lst ((t.2.set x (l++[(e,a)])).map aD)),↥(.int x),↥(.int j)]/\pB w m x (e,a):=λf=>by
   show yB (ls:=t.2) x rfl rfl rfl c (by lia) (by cbv) ?_;and_intros;show am (by lia) (by lia) λe f p u=>?_;ac_nf;and_intros;show yS h1 h2 λa f X U hb=>?_;ac_nf;and_intros;show{(e,a),Xr,Xr,by trivial,e,a,f,by cbv,⟨p,u,X,U⟩,.inr hb}
  have B:∀f,(0:Int)<x->WS (bB (db "list" 3 [] apT (mIx (ag 3) (ag 4)) (aa (aq [] (aa (ak 0 0 aj (ae 0 (ae 4 af))) (aa (mOp bW (aq [] (aa (mC (.int 0)) af)) (ag 1)) af))) af))) [TV {.io 0,fT f},↥(.int w),↥(.int m),⇑(.lst (t.2.map aD)),↥(.int x),↥(.int j)] λJ O=>J=.nx/\∃e a f,O=[TV {.io 0,fT f},↥(.int w),↥(.int m),⇑(.lst ((t.2.set x (l++[(e,a)])).map aD)),↥(.int x),↥(.int j)]/\pB w m x (e,a):=λf N=>by
   show yB (ls:=t.2) x rfl rfl rfl c (by lia) (by cbv) ?_;and_intros;show am (by lia) (by lia) λe f p u=>?_;ac_nf;and_intros;show wf (is:=[.int 0]) {by simp,by decide,by lia,by lia} ?_;have er:(Ih w.toNat [I.int 0]).flatten=(Ih w.toNat (0:Int)).map .int:=by simp
   rw[er];and_intros;show{(e,Ih w.toNat 0),Xr,Xr,by trivial,e,_,f,by cbv,{p,by lia,by simp,λy L=>?_},.inl {u,λy L=>(JU.mp L).2}};rw[(JU.mp L).2];decide
  and_intros
  (refine aF ?_;and_intros;clear_value N)
  .and_intros;show am (by lia) (by lia) λz f hz0 hz1=>?_;ac_nf;and_intros;clear_value hz
   .show C2.mono (B f N) ?_;rintro J O ⟨rfl,e,a,f,rfl,r⟩;and_intros;show{(f,_),by cbv,E e a f r}
   .show C2.mono (i f) ?_;rintro J O ⟨rfl,e,a,f,rfl,r⟩;and_intros;show{(f,_),by cbv,E e a f r}
  .show{λz=>absurd z (by decide),λ_=>?_};show C2.mono (i _) ?_;rintro J O ⟨rfl,e,a,f,rfl,r⟩;and_intros;show{(f,_),by cbv,E e a f r}
 .and_intros;show q s.2 s.1 o
def Looks.mono(h:Looks P c m ls)(d:c<=c'):Looks P c' m ls:={h.1,λx l a=>{Ik (h.2 x l a).1 d,(h.2 x l a).2}}
abbrev tTr(p:Int×Int×!Int):I:=.tup [.int p.1,.int p.2.1,.tup (p.2.2.map .int)]
abbrev Hl(w:Int)(p:Int×Int×!Int):Prop:=0<=p.1/\p.1<w/\0<=p.2.1/\p.2.1<w/\p.2.2.length=w.toNat/\∀x∈p.2.2,-2<=x/\x<=2
def qQ{row signs:!Int}{a:Int}(E:1<=row.length)(w:row.length<=1000)(o:0<=a)(hs:signs.length=row.length)(g:∀x∈row,-2<=x/\x<=2)(B:∀x∈signs,x=1\/x = -1){Q:T->Prop}(q:∀is:!Int,is.length=row.length->(∀x∈is,-2<=x/\x<=2)->(∀(k:Nat) x s,row[(k+a.toNat) % row.length]?*>x->signs[k]?*>s->is[k]?*>(x*s))->Q (qM is)):C1 (cK [qM row,.im (.int a),.li (signs.map .int)]) Q:=by
 show uE E w o hs (λx j=>by have:=g x j;lia) λis u e=>q is u (λy r=>?_) e;have(k,f):=JY.mp r;have l:=(Ib.mp f).1;have i:(k+a.toNat) % row.length<row.length:=K0 _ (by lia);have h:row[(k+a.toNat) % row.length]?=TV row[(k+a.toNat) % row.length]:=Ix i;have d:signs[k]?=TV signs[k]:=Ix (by lia);have c:=e k _ _ h d;rw[f]at c;have G:=g _ (ymG h);have p:=B _ (ymG d);have:y=row[(k+a.toNat) % row.length]*signs[k]:=by exists c
 rw[this];rcases p with z|z<;>rw[z]<;>lia
def C6{f:Int×Int}{w m:Int}(h1:2<=w)(h2:w<=3)(h3:w<=m)(h4:m<=6){Q:T->T->Prop}(q:∀ls f',Looks (λ_ p=>lL w m p) 7 m.toNat ls->Q (.lst (ls.map aD)) (fT f')):C2 (cJ [fT f,.im (.int w),.im (.int m)]) Q:=by
 show MZ [TV {.io 0,fT f},↥(.int w),↥(.int m),TU,TU,TU,TU,TU,TU,TU,TU] rfl rfl rfl ?_;unfold bK;and_intros;show am (by lia) (by lia) λJ f a1 b1=>?_;ac_nf;and_intros;show am (by lia) (by lia) λd2 f a2 b2=>?_;ac_nf;and_intros;show am (by lia) (by lia) λd3 f a3 b3=>?_;ac_nf;and_intros;show am (by lia) (by lia) λd4 f a4 b4=>?_;ac_nf;and_intros;show bC (by simp;rw[NE];lia) ?_;show rq (lF ?_);show C2.mono (Q:=λfl O=>fl=.nx/\∃(f:Int×Int) (i:!(Int×Int×!Int)),O=[TV {.io 0,fT f},↥(.int w),↥(.int m),↥(.int (1+J)),⇑(.li (i.map tTr)),TU,TU,TU,TU,TU,TU]/\(∀p∈i,Hl w p)/\i.length<=7) ?_ ?_
 .and_intros
  (refine aF ?_;and_intros;clear_value hw)
  .subst hw;and_intros;show am (by lia) (by lia) λd5 f a5 b5=>?_;ac_nf;and_intros;show am (by lia) (by lia) λd6 f a6 b6=>?_;ac_nf;and_intros;show jI (by simp;rw[NE];lia) ?_;and_intros;show{by trivial,f,[(0,0,[0,0,1+J]),(1,1,[0,0,0-1]),(0,1,[0,0-1,0]),(1,0,[0,0,d5]),(2,2,[0,1+d6,0]),(0,2,[0-1,0,1]),(2,0,[0,0,0])],by cbv,?_,by simp};dsimp[IH,II,or_false];rintro p (rfl|rfl|rfl|rfl|rfl|rfl|rfl)<;>(refine{by simp,by simp,by simp,by simp,Xr,?_};dsimp[IH,II,or_false];lia)
  .have hw2:w=2:=by lia
   subst hw2;and_intros;show{by trivial,f,[(0,0,[0,1+J]),(1,1,[0,0-1-d2]),(0,1,[0-1,d3-1]),(1,0,[0-d4,0])],by cbv,?_,by simp};dsimp[IH,II,or_false];rintro p (rfl|rfl|rfl|rfl)<;>(refine{by simp,by simp,by simp,by simp,Xr,?_};dsimp[IH,II,or_false];lia)
 rintro fl O ⟨rfl,f,i,rfl,hes,X⟩;and_intros;show am (by lia) (by lia) λE f aw bw=>?_;ac_nf;and_intros;show bp (λf:Int×Int=>[TV {.io 0,fT f},↥(.int w),↥(.int m),↥(.int (1+J)),⇑(.li (i.map tTr)),TU,TU,TU,TU,TU,TU]) I.int (λj _ l=>l.length=j/\∀x∈l,x=1\/x = -1) ?_;and_intros;show{{by lia,by lia},by cbv,f,by cbv,{Xr,by simp},λj f l hj ⟨c,g⟩=>?_,λf signs ⟨hsl,hsx⟩=>?_}
 .and_intros;show am (by lia) (by lia) λd f hd0 hd1=>?_;ac_nf;and_intros;show{1-2*d,f,Xr,by cbv,by simp[c],aN g (by lia)}
 and_intros;show lE (λ_:Unit=>[TV {.io 0,fT f},↥(.int w),↥(.int m),↥(.int (1+J)),⇑(.li (i.map tTr)),↥(.int E),⇑(.li (signs.map .int)),TU,TU,TU,TU]) aD fF (λ_ _ l=>∀x∈l,x=[]) ?_;and_intros;show{{by lia,by lia},by cbv,(),by cbv,by simp,λj _ l hj c=>?_,λ_ l c hn=>?_}
 .and_intros;show{[],(),Xr,by cbv,aN c rfl}
 and_intros;show n5 (λt:! !(Int×!Int)=>[TV {.io 0,fT f},↥(.int w),↥(.int m),↥(.int (1+J)),⇑(.li (i.map tTr)),↥(.int E),⇑(.li (signs.map .int)),⇑(.lst (t.map aD)),TU,TU,TU]) (λj t=>Looks (λ_ p=>lL w m p) j m.toNat t/\∀y l,3<=y->t[y]?*>l->l=[]) ?_;and_intros;show{_,(show fN _*>((i.map tTr).map _)from rfl),by cbv,l,by cbv,{{hn,λx r g=>by rw[c r (ymG g)];simp},λy r _ g=>c r (ymG g)},λj x t g ⟨h,L⟩=>?_,λt ⟨h,L⟩=>?_}
 .rw[Io]at g;cases e:i[j]? with
  | none=>rw[e]at g;cases g
  | some p=>
   rw[e]at g;cases g;have(x,o,S):=p;have hp:=hes _ (ymG e);have(p1,p2,p3,p4,p5,p6):=hp;simp only at p1 p2 p3 p4 p5 p6;have hj:=(Ib.mp e).1;have(l,c,Y,G):=h.get (n:=x.toNat) (by lia);iterate 9 infer_instance
   show yB (ls:=t) x.toNat rfl rfl (by lia) c (by lia) (by cbv) ?_;and_intros;show qQ (row:=S) (signs:=signs) (by lia) (by lia) aw (by lia) p6 hsx λN B u _=>?_;and_intros;show{(o,N),Xr,Xr,?_};and_intros;show{t.set x.toNat (l++[(o,N)]),by cbv,(h.mono (Km j)).set c (by simp;lia) (aN G {p3,(by lia:o<m),B.trans p5,u}),λy r hy a=>?_};rcases eS a with⟨z,_⟩|⟨_,a⟩
   .lia
   .show L y r hy a
 .and_intros;show yz (λs:(Int×Int)×! !(Int×!Int)=>[TV {.io 0,fT s.1},↥(.int w),↥(.int m),↥(.int (1+J)),⇑(.li (i.map tTr)),↥(.int E),⇑(.li (signs.map .int)),⇑(.lst (s.2.map aD)),TU,TU,TU]) (λj s=>Looks (λ_ p=>lL w m p) 7 m.toNat s.2/\∀y l,3+j<=y->s.2[y]?*>l->l=[]) ?_;and_intros;rw[Ia]at h;show{{by lia,by lia,by lia,by lia},(f,t),by cbv,{h.mono X,λy r hy a=>L y r (by lia) a},λj s hj ⟨h,L⟩=>?_,λs ⟨h,_⟩=>?_}
  .have(l,c,Y,G):=h.get (n:=3+j) (by lia);have hl0:=L _ l (Ig _) c;iterate 2 infer_instance
   show yB (ls:=s.2) (3+j) rfl rfl (by lia) c (by lia) (by cbv) ?_;and_intros;show am (by lia) (by lia) λe f U he1=>?_;ac_nf;and_intros;show xW (by lia) h2 λN f B u=>?_;ac_nf;and_intros;show{(e,N),Xr,Xr,?_};and_intros;show{(f,s.2.set (3+j) (l++[(e,N)])),by cbv,h.set c (by simp[hl0]) (aN G {U,(by lia:e<m),B,u}),λy r hy a=>?_};rcases eS a with⟨z,_⟩|⟨_,a⟩
   .lia
   .show L y r (by lia) a
  .and_intros;show q s.2 s.1 h
def ud{ls:! !(Int×!Int)}{n:Nat}{l:!(Int×!Int)}{p:Int×!Int}(h:ls[n]?*>l):T.put (.lst (ls.map aD)) [.ix n] (.li (tRd p::l.map tRd))=.lst ((ls.set n (p::l)).map aD):=by
 rw[w8 (u:=aD l) (by rw[Io,h];rfl),LL];simp[aD]
def G7{O:Rho}{Q:Fl->Rho->Prop}{L X:Nat}{a:MA}{ls:! !(Int×!Int)}{i:Int}(n:Nat){l:!(Int×!Int)}(j : O[L]?*>(⇑(.lst (ls.map aD))))(o : O[X]?*>(↥(.int i)))(hi:i=(n:Int))(f:ls[n]?*>l)(hz:l.length<1000)(g:a.mu.contains L=TZ)
  (h:WA a O λrs O1=>∃p,rs=[{.ow,.im (.int 0)},{.ow,.im (tRd p)}]/\O1[L]?*>(⇑(.lst (ls.map aD)))/\Q .nx ((aB [L] O1).set L (⇑(.lst ((ls.set n (p::l)).map aD))))):WS (bB (db "list" L [] pS (mIx (ag L) (ag X)) a)) O Q:=by
 subst hi;show qS (yD (yA (gv j (gv o (gu (by cbv) ?_)))));have d:(ls.map aD)[(n:Int).toNat]?*>(aD l):=by rw[IA,Io,f];rfl
 show qk (u:=aD l) (kd:=.vw (TV L) (TV [.ix (n:Int).toNat])) (by lia) d (fF l) rfl ?_;rw[IA];show gu rfl ?_;show C2.mono h λrs O1 ⟨p,e,c,q⟩=>?_;subst e;show gu ?_ (qT rfl (rf (rf (pI (B5 c rfl ?_)))))
 .change aL a.mu {.vw (TV L) (TV [.ix n]),aD l}=T1;unfold aL;dsimp[Kd.root];rw[g];rfl
 .show Br (is:=l.map tRd) {by lia,by simp,by simp;rw[NE];lia} ?_;change Q _ (List.set _ _ (TV {_,T.put _ _ (.li (tRd p::l.map tRd))}));rw[ud f];show q
abbrev RR(rest row:!Int):Prop:=row.length=rest.length/\∀(i:Nat) y r,row[i]?*>y->rest[i]?*>r->-2<=y/\y<=2/\-2<=r+y/\r+y<=2
def AE{f:Int×Int}{w m:Int}(h1:1<=w)(h2:w<=3)(h3:1<=m)(h4:m<=6){Q:T->T->Prop}(q:∀ls f',Looks (λ_ p=>lL w m p) 4 m.toNat ls->Q (.lst (ls.map aD)) (fT f')):C2 (eC [fT f,.im (.int w),.im (.int m)]) Q:=by
 show MZ [TV {.io 0,fT f},↥(.int w),↥(.int m),TU,TU,TU,TU,TU] rfl rfl rfl ?_;unfold cG;and_intros;show rD h1 h2 h3 h4 λls f u=>?_;ac_nf;and_intros;show am (by lia) (by lia) λd f hd0 hd1=>?_;ac_nf;and_intros;show we (is:=[.int 0]) {by lia,by lia,by simp;rw[NE];lia} ?_;have B:(Ih w.toNat [I.int 0]).flatten=(Ih w.toNat (0:Int)).map .int:=by simp
 rw[B];and_intros;show bY (λs:(Int×Int)×! !(Int×!Int)×!Int=>[TV {.io 0,fT s.1},↥(.int w),↥(.int m),⇑(.lst (s.2.1.map aD)),↥(.int (1+d)),⇑(.li (s.2.2.map .int)),TU,TU]) (λj s=>Looks (λ_ p=>lL w m p) 4 m.toNat s.2.1/\(∀y l,j<=y->s.2.1[y]?*>l->l.length<=3)/\s.2.2.length=w.toNat/\∀x∈s.2.2,-2<=x/\x<=2) ?_;and_intros;show{{by lia,by lia},(f,ls,Ih w.toNat 0),by cbv,{{u.1,λx l c=>{by have:=(u.2 x l c).1;lia,λp Y=>((u.2 x l c).2 p Y).1}},λy l _ c=>(u.2 y l c).1,by simp,λx c=>by rw[(JU.mp c).2];decide},λk s hk ⟨N,hE,hrl,E⟩=>?_,λs ⟨N,_⟩=>?_}
 .have(f,ls,rest):=s;simp only at N hE hrl E;have(l,h,hl4,hlP):=N.get (n:=k) (by lia);have hl3:=hE k l (Ig _) h;and_intros;show bp (λf:Int×Int=>[TV {.io 0,fT f},↥(.int w),↥(.int m),⇑(.lst (ls.map aD)),↥(.int (1+d)),⇑(.li (rest.map .int)),↥(.int k),TU]) I.int (λj _ l=>l.length=j/\∀x∈l,-1<=x/\x<=1) ?_;and_intros;show{{by lia,by lia},by cbv,f,by cbv,{Xr,by simp},λj f l hj ⟨h,c⟩=>?_,λf r1 ⟨hl1,hx1⟩=>?_}
  .and_intros;show am (by lia) (by lia) λd f hd0 hd1=>?_;ac_nf;and_intros;show{d-1,f,Xr,by cbv,by simp[h],aN c (by lia)}
  and_intros;show bp (λ_:Unit=>[TV {.io 0,fT f},↥(.int w),↥(.int m),⇑(.lst (ls.map aD)),↥(.int (1+d)),⇑(.li (rest.map .int)),↥(.int k),⇑(.li (r1.map .int))]) I.int (λj _ l=>l.length=j/\∀(i:Nat) y r,l[i]?*>y->rest[i]?*>r->-2<=y/\y<=2/\-2<=r+y/\r+y<=2) ?_;and_intros;show{{by lia,by lia},by cbv,(),by cbv,{Xr,by simp},λj _ l hj ⟨h,c⟩=>?_,λ_ r2 ⟨hl2,hx2⟩=>?_}
  .and_intros;show be (ns:=rest) (by lia) (by lia) λr U B=>?_;and_intros;show be (ns:=r1) (by lia) (by lia) λy hy ey=>?_;and_intros;show be (ns:=rest) (by lia) (by lia) λr' g er'=>?_;rw[B]at er';cases (er');and_intros;have b1:=E r U;have b2:=hx1 y hy;show{_,(),Xr,by cbv,by simp[h],λi y' r' a g=>?_};by_cases G:i<l.length
   .rw[Jb G]at a;show c i y' r' a g
   .have:=(Ib.mp a).1;simp at this;have J:i=j:=by lia
    subst J;rw[Jg (by lia)]at a;simp[h]at a;rw[IA]at B;rw[B]at g;cases g;subst a;split<;>split<;>lia
  and_intros;show C2.mono (Q:=λfl O=>fl=.nx/\∃o:!Int,O=[TV {.io 0,fT f},↥(.int w),↥(.int m),⇑(.lst (ls.map aD)),↥(.int (1+d)),⇑(.li (rest.map .int)),↥(.int k),⇑(.li (List.map .int o))]/\RR rest o) ?_ ?_
  ·(refine aF ?_;and_intros;clear_value hlast)
   .and_intros;show bo (λ_:Unit=>[TV {.io 0,fT f},↥(.int w),↥(.int m),⇑(.lst (ls.map aD)),↥(.int (1+d)),⇑(.li (rest.map .int)),↥(.int k),⇑(.li (r2.map .int))]) I.int (λj _ l=>l.length=j/\∀(i:Nat) y r,l[i]?*>y->rest[i]?*>r->y = -r) ?_;and_intros;show{rest.map .int,Xr,by simp;rw[NE];lia,by cbv,(),by cbv,{Xr,by simp},λj x _ l c ⟨h,hq⟩=>?_,λ_ o ⟨hl3',hq3⟩=>?_}
    .rw[Io]at c;cases e:rest[j]? with
     | none=>rw[e]at c;cases c
     | some r=>
      rw[e]at c;cases c;and_intros;show{0-r,(),Xr,by cbv,by simp[h],λi y' r' a g=>?_};by_cases G:i<l.length
      .rw[Jb G]at a;show hq i y' r' a g
      .have:=(Ib.mp a).1;simp at this;have J:i=j:=by lia
       subst J;rw[Jg (by lia)]at a;simp[h]at a;rw[e]at g;cases g
       lia
    .and_intros;show{by trivial,o,by cbv,by simpa using hl3',λi y r hy U=>?_};have:=hq3 i y r hy U;have:=E r (ymG U)
     lia
   .and_intros;show{by trivial,r2,by cbv,by lia,hx2}
  .rintro fl O ⟨rfl,o,rfl,X,S⟩;and_intros;show bp (λ_:Unit=>[TV {.io 0,fT f},↥(.int w),↥(.int m),⇑(.lst (ls.map aD)),↥(.int (1+d)),⇑(.li (rest.map .int)),↥(.int k),⇑(.li (o.map .int))]) I.int (λj _ l=>l.length=j/\∀x∈l,-2<=x/\x<=2) ?_;and_intros;show{{by lia,by lia},by cbv,(),by cbv,{Xr,by simp},λj _ l hj ⟨h,c⟩=>?_,λ_ r4 ⟨hl4,hx4⟩=>?_}
   .and_intros;show be (ns:=rest) (by lia) (by lia) λr U B=>?_;and_intros;show be (ns:=o) (by lia) (by lia) λy hy ey=>?_;and_intros;have:=S _ y r ey B;show{r+y,(),Xr,by cbv,by simp[h],aN c (by lia)}
   iterate 2 infer_instance
   show G7 (ls:=ls) k rfl rfl rfl h (by lia) (by cbv) ?_;and_intros;have hkm:((k:Int)+1) % (1+d)<m:=by have:=Jp ((k:Int)+1) (show 0<1+d by lia);lia
   have hk0:0<=((k:Int)+1) % (1+d):=JH _ (by lia);show{(((k:Int)+1) % (1+d),o),Xr,Xr,?_};and_intros;show{(f,ls.set k ((((k:Int)+1) % (1+d),o)::l),r4),by cbv,N.set h (by simp;lia) (λp Y=>?_),λy l' hy L=>?_,by lia,hx4}
   .rcases ycM Y with rfl|Y
    .show{hk0,hkm,by simpa[hrl]using X,λx c=>?_};have(i,hi):=JY.mp c;have hil:=(Ib.mp hi).1;have:i<rest.length:=by simp only at hil;lia
     have:=S i x _ hi (Ix this)
     lia
    .show hlP p Y
   .rcases eS L with⟨z,_⟩|⟨_,L⟩
    .lia
    .show hE y l' (by lia) L
 .and_intros;show q s.2.1 s.1 N
def Looks.imp(h:Looks P c m ls)(e:c<=c')(hp:∀x p,P x p->P' x p):Looks P' c' m ls:={h.1,λx l a=>{Ik (h.2 x l a).1 e,λp d=>hp x p ((h.2 x l a).2 p d)}}
def xy(q:∀(w m:Int) ls l,1<=w->w<=3->1<=m->m<=6->Looks (λ_ p=>lL w m p) 7 m.toNat ls->Q (.tup [.im (.int w),.lst (ls.map aD)]) (fT l)):C2 (jO [fT f]) Q:=by
 show MZ [TV {.io 0,fT f},TU,TU,TU,TU] rfl rfl rfl ?_;unfold ik;and_intros;show am (by lia) (by lia) λi f s u=>?_;ac_nf;and_intros;show am (by lia) (by lia) λe f r B=>?_;ac_nf;and_intros;try ac_nf
 show be (ns:=[1,2,2,2,2,1,2,3]) (JH _ (by lia)) (by have:=Jp e (show(0:Int)<8 by lia);exists this) λw E _=>?_;have a:1<=w/\w<=3:=by simp at E;lia
 and_intros;show be (ns:=[3,6]) (by lia) (by simp;lia) λj g _=>?_;have h:3<=j/\j<=6:=by simp at g;lia
 and_intros;show am (by lia) (by lia) λd f G z=>?_;ac_nf;and_intros
 (refine aF ?_;and_intros;clear_value N)
 .and_intros;show y4 a.1 a.2 (by lia) (by lia) λls f c=>?_;ac_nf;and_intros;show q w (1+d) ls f a.1 a.2 (by lia) (by lia) (c.mono (by lia))
 and_intros
 (refine aF ?_;and_intros;clear_value L)
 .and_intros;show rD a.1 a.2 (by lia) (by lia) λls f c=>?_;ac_nf;and_intros;show q w (1+d) ls f a.1 a.2 (by lia) (by lia) (c.imp (by lia) λx p o=>o.1)
 and_intros
 (refine aF ?_;and_intros;clear_value J)
 .and_intros;show AE a.1 a.2 (by lia) (by lia) λls f c=>?_;ac_nf;and_intros;show q w (1+d) ls f a.1 a.2 (by lia) (by lia) (c.mono (by lia))
 and_intros;try ac_nf
 show C6 (by split<;>lia) (by split<;>lia) (by split<;>split<;>split<;>lia) (by split<;>split<;>split<;>lia) λls f c=>?_;ac_nf;and_intros;show q _ _ ls f (by split<;>lia) (by split<;>lia) (by split<;>split<;>split<;>lia) (by split<;>split<;>split<;>lia) c
abbrev Ng:!Str:=["min","max","rest","less","if"]
abbrev nmB(S:!Nat) (a:Nat) (ch k:Nat):!Nat:=S.take a++ch::S.drop a++(if k % 2=1 then [113]else [])
abbrev nmS(S:!Nat) (a:Nat) (ch k:Nat):Str:=if oL (nmB S a ch k)∈Ng then oL (nmB S a ch k++[119])else oL (nmB S a ch k)
def tN{g r:Type}{f : g->r}{l:!g}(h:l.Nodup)(c:∀a∈l,∀b∈l,f a=f b->a=b):(l.map f).Nodup:=by
 induction l with
 | nil=>show IP
 | cons a l i=>
  have(s,q):=IM.mp h;rw[Ir];show IM.mpr {λj=>?_,i q λx o y p=>c x (ymC _ o) y (ymC _ p)};have(b,d,e):=ID.mp j;have:=c b (ymC _ d) a ymS e;subst this;show s d
def HJ:113∈sL LET:=by decide +kernel
def HU:119∈sL LET:=by decide +kernel
def yN:∀i<26,∀j<26,(sL LET).getD i 0=(sL LET).getD j 0->i=j:=by decide +kernel
def Cm:∀z∈Ng,oL (sL z++[119])∉Ng:=by decide +kernel
def eR:(nmB S a ch k).length=S.length+1+k % 2:=by
 unfold nmB;have h:k % 2=0\/k % 2=1:=by lia
 rw[Ij,Ij,Im,IJ,I0];rcases h with h|h<;>simp[h]<;>lia
def CI(d:∀c∈S,c∈sL LET)(e:ch∈sL LET):∀c∈nmB S a ch k,c∈sL LET:=λc h=>by
 unfold nmB at h;rcases yaM h with h|h
 .rcases yaM h with h|h;show d c (Je h)
  .rcases ycM h with rfl|h;show e;show d c (Jt h)
 .split at h;rw[ysM h];show HJ;cases h
def rM(h:nmB S a ch k=nmB S a ch' k'):ch=ch'/\k % 2=k' % 2:=by
 have e:=congrArg JR h;rw[eR,eR]at e;have c:k % 2=k' % 2:=by lia
 show{?_,c};unfold nmB at h;rw[c]at h;have f:=Lb h;have d:=List.append_cancel_left f;show(KS.inj d).1
def oQ(c:k % 2=1):(nmB S a ch k).getLast?=TV 113:=by
 unfold nmB;rw[if_pos c,KG];rfl
def k7(h:oL x=oL y):x=y:=congrArg sL h
def zt(h:nmS S a ch k=nmS S a ch' k'):ch=ch'/\k % 2=k' % 2:=by
 unfold nmS at h;split at h<;>split at h;show rM (Lb (k7 h))
 .have d:=k7 h;have c:=congrArg JR d;rw[Ij,eR,eR]at c;have e:k' % 2=1:=by simp at c;lia
  have:=oQ (S:=S) (a:=a) (ch:=ch') e;rw[<-d,KG]at this;cases this
 .have d:=k7 h;have c:=congrArg JR d;rw[Ij,eR,eR]at c;have e:k % 2=1:=by simp at c;lia
  have:=oQ (S:=S) (a:=a) (ch:=ch) e;rw[d,KG]at this;cases this
 .show rM (k7 h)
abbrev kJ(z:Str):Prop:=1<=z.length/\z.length<=8/\z∉Ng/\∀c∈sL z,c∈sL LET
def CJ(g:∀c∈S,c∈sL LET)(i:ch∈sL LET)(l:S.length<=5):kJ (nmS S a ch k):=by
 have f:=CI (a:=a) (k:=k) g i;have d:=eR (S:=S) (a:=a) (ch:=ch) (k:=k);unfold kJ nmS;split
 .delta c;have j:(oL (nmB S a ch k++[119])).length=S.length+1+k % 2+1:=by rw[dB,cU,Ij,d];rfl
  show{by lia,by lia,Cm _ c,λx e=>?_};rw[cU]at e;rcases yaM e with h|h;show f x h;rw[ysM h];show HU
 .delta c;have j:(oL (nmB S a ch k)).length=S.length+1+k % 2:=by rw[dB,cU,d]
  show{by lia,by lia,c,λx e=>f x (by rwa [cU]at e)}
def uZ{a:Type}{xs:!a}{n:Nat}(h:n<=xs.length):bS xs TU (TV (n:Int))=xs.take n:=by
 unfold bS;rw[HT.sIx_none,HT.sIx_nat,KO h];simp
def uY{a:Type}{xs:!a}{n:Nat}(h:n<=xs.length):bS xs (TV (n:Int)) TU=xs.drop n:=by
 unfold bS;rw[HT.sIx_none,HT.sIx_nat,KO h];show Iu (by rw[I0];show Ig _)
def mP:∀{zs:!Str},ph (zs.map I.str)*>zs
 | []=>rfl
 | z::zs=>by rw[Ir,ph,mP];rfl
def Dc(h:(zs.map (·.length)).sum+zs.length*z.length<=16777216)(q:QT1 (.im (.str (Pq z zs)))):W1 (l9 (.im (.str z)) [.li (zs.map .str)]) QT1:=w1 (by dsimp[l9,mP];rw[if_pos h]) q
def qj{f:Type}{g:Nat->f}{n:Nat}(d:∀x<n,∀y<n,g x=g y->x=y):((Ip n).map g).Nodup:=tN Lg λx c y a e=>d x (JM.mp c) y (JM.mp a) e
abbrev gK(S:!Nat) (a fn m:Nat):!Str:=(Ip m).map λk=>nmS S a ((sL LET).getD ((fn+5*k) % 26) 0) k
def qW(h:i<26):(sL LET)[i]?*>((sL LET).getD i 0):=by
 rw[IE,Ix (by rw[mR];show h)];rfl
def vU{S:!Nat}{a fn m:Nat}(d:∀c∈S,c∈sL LET)(f:S.length<=5)(i:m<=6):(gK S a fn m).length=m/\(gK S a fn m).Nodup/\∀z∈gK S a fn m,kJ z:=by
 show{by simp[gK],qj λx j y h e=>?_,λz g=>?_}
 .have:=yN _ (K0 _ (by decide)) _ (K0 _ (by decide)) (zt e).1
  lia
 .have(k,l,rfl):=ID.mp g;show CJ d (ymG (qW (K0 _ (by decide)))) f
def oO{f:Int×Int}{m:Int}(h1:0<=m)(h2:m<=6){Q:T->T->Prop}(q:∀(zs:!Str) f',zs.length=m.toNat->zs.Nodup->(∀z∈zs,kJ z)->Q (.li (zs.map .str)) (fT f')):C2 (iz [fT f,.im (.int m)]) Q:=by
 show MZ [TV {.io 0,fT f},↥(.int m),TU,TU,TU,TU,TU,TU,TU] rfl rfl rfl ?_;unfold ii;and_intros;show bp (λf:Int×Int=>[TV {.io 0,fT f},↥(.int m),↥(.str LET),TU,TU,TU,TU,TU,TU]) I.str (λj _ l=>l.length=j/\∀z∈l,∃g,g∈sL LET/\z={#[g]}) ?_;and_intros;show am (by lia) (by lia) λd f hd0 J=>?_;ac_nf;and_intros;show{{by lia,by lia},by cbv,f,by cbv,{Xr,by simp},λj f l hj ⟨hl,Y⟩=>?_,λf zs ⟨hl,Y⟩=>?_}
 .and_intros;show am (by lia) (by lia) λd f hd0 J=>?_;ac_nf;and_intros;show qm (s:=LET) (by rw[LET_len',NE];lia) hd0 (by rw[mR];show J) λc p=>?_;show{{#[c]},f,Xr,by cbv,by simp[hl],aN Y {c,ymG p,Xr}}
 and_intros;have u:∀zs:!Str,(∀z∈zs,∃g,g∈sL LET/\z={#[g]})->(zs.map (·.length)).sum=zs.length:=λzs h=>by
  induction zs with
  | nil=>rfl
  | cons z zs ih=>
   have(g,_,e):=h z ymS;rw[Ir,List.sum_cons,ih λy hy=>h y (ymC _ hy),Im,e];change 1+zs.length=_
   lia
 have e0:("" : Str)=oL []:=by decide +kernel
 have e1:(("" : Str)).length=0:=by decide +kernel
 show Dc (zs:=zs) (by rw[u zs Y,e1];lia) ?_;have L:sL (Pq "" zs)=(zs.map sL).flatten:=by rw[e0];show tF zs
 have hSl:(sL (Pq "" zs)).length<=5:=by
  rw[L,List.length_flatten,JT];have:(zs.map (JR∘sL)).sum=zs.length:=by rw[<-u zs Y];congr 1
  lia
 have hS:∀c∈sL (Pq "" zs),c∈sL LET:=λc p=>by
  rw[L]at p;have(l,hl',p):=LQ.mp p;have(z,hz,rfl):=ID.mp hl';have(g,hch,rfl):=Y z hz;have:c=g:=by exists p
  rw[this];show hch
 generalize Pq "" zs=stem at *;have hst5:stem.length<=5:=by rw[dB];show hSl
 have r:∀l:!Nat,(oL l).length=l.length:=λl=>by rw[dB,cU]
 and_intros;show am (by lia) (by lia) λfi f hf0 hf1=>?_;ac_nf;and_intros;show De (by rw[NE];lia) ?_;and_intros;show am (by lia) (by lia) λX f ha0 ha1=>?_;ac_nf;and_intros;obtain⟨a,rfl⟩:∃a:Nat,X=(a:Int):={X.toNat,by lia};obtain⟨o,rfl⟩:∃a:Nat,fi=(a:Int):={fi.toNat,by lia};have U:a<=(sL stem).length:=by rw[<-dB];lia
 try ac_nf
 and_intros;show bY (λk:Nat=>[TV {.io 0,fT f},↥(.int m),↥(.str LET),↥(.str stem),↥(.int o),↥(.int a),⇑(.li ((gK (sL stem) a o k).map .str)),TU,TU]) (λj k=>k=j) ?_;and_intros;show{{by lia,by lia},0,by cbv,Xr,λi k hi hk=>?_,λk hk=>?_}
 .subst hk;have hidx:((o:Int)+5*(k:Int)) % 26=(((o+5*k) % 26:Nat):Int):=by lia
  have hilt:(o+5*k) % 26<26:=K0 _ (by decide);have w:=qW hilt;have G:gK (sL stem) a o (k+1)=gK (sL stem) a o k++[nmS (sL stem) a ((sL LET).getD ((o+5*k) % 26) 0) k]:=by simp[gK,JW]
  generalize (sL LET).getD ((o+5*k) % 26) 0=g at w G;and_intros;show wg (by rw[NE];lia) ?_;rw[uZ U];and_intros;rw[hidx];show qm (s:=LET) (by rw[LET_len',NE];lia) (by lia) (by rw[mR];lia) λc p=>?_;rw[IA,w]at p;cases (p);and_intros;show k9 (by rw[r,IJ,NE];change _+1<=_;lia) ?_;and_intros;show wg (by rw[NE];lia) ?_;rw[uY U];and_intros;show k9 (by rw[dB,lu,cU,r,NE,Ij,IJ,I0];change _+1+_<=_;lia) ?_;have en:(oL ((sL stem).take a)++({#[g]}:Str))++oL ((sL stem).drop a)=oL ((sL stem).take a++g::(sL stem).drop a):=by
   apply nP;rw[lu,lu,cU,cU,cU];simp
  rw[en];and_intros;show C2.mono (Q:=λN O=>N=.nx/\O=[TV {.io 0,fT f},↥(.int m),↥(.str LET),↥(.str stem),↥(.int o),↥(.int a),⇑(.li ((gK (sL stem) a o k).map .str)),↥(.int k),↥(.str (oL (nmB (sL stem) a g k)))]) ?_ ?_
  ·(refine aF ?_;and_intros;clear_value hk2)
   .and_intros;show k9 (by rw[r,Ij,Im,IJ,I0,NE];change _+1<=_;lia) ?_;have E:oL ((sL stem).take a++g::(sL stem).drop a)++("q" : Str)=oL (nmB (sL stem) a g k):=by
     apply nP;rw[lu,cU,cU];unfold nmB;rw[if_pos (by lia)];rfl
    rw[E];and_intros;show{by trivial,by first|trivial|cbv}
   .and_intros;have E:(sL stem).take a++g::(sL stem).drop a=nmB (sL stem) a g k:=by
     unfold nmB;rw[if_neg (by lia)];simp
    rw[E];show{by trivial,by first|trivial|cbv}
  rintro N O ⟨rfl,rfl⟩;have hnl:(oL (nmB (sL stem) a g k)).length<=7:=by rw[r,eR];lia
  and_intros;show C2.mono (Q:=λN O=>N=.nx/\O=[TV {.io 0,fT f},↥(.int m),↥(.str LET),↥(.str stem),↥(.int o),↥(.int a),⇑(.li ((gK (sL stem) a o k).map .str)),↥(.int k),↥(.str (nmS (sL stem) a g k))]) ?_ ?_
  .show aF ?_;and_intros;show FP (is:=Ng.map .str) {Xr,by decide +kernel,by decide +kernel} ?_;and_intros;clear_value hw
   .have B:oL (nmB (sL stem) a g k)∈Ng:=by exists hw
    and_intros;have hw1:(("w" : Str)).length=1:=by decide +kernel
    show k9 (by rw[NE];lia) ?_;have E:oL (nmB (sL stem) a g k)++("w" : Str)=nmS (sL stem) a g k:=by
     unfold nmS;rw[if_pos B];apply nP;rw[lu,cU,cU];rfl
    rw[E];and_intros;show{by trivial,by first|trivial|cbv}
   .have B:oL (nmB (sL stem) a g k)∉Ng:=by exists hw
    have E:oL (nmB (sL stem) a g k)=nmS (sL stem) a g k:=by unfold nmS;rw[if_neg B]
    rw[E];and_intros;show{by trivial,by first|trivial|cbv}
  rintro N O ⟨rfl,rfl⟩;and_intros;show bC (by simp[gK];rw[NE];lia) ?_;ac_nf;and_intros;show{k+1,?_,Xr};rw[G,Ii]
  cbv
 .subst hk;and_intros;have(n1,n2,n3):=vU (S:=sL stem) (a:=a) (fn:=o) (m:=m.toNat) hS hSl (by lia);show q _ f n1 n2 n3
abbrev bg(p:Str×Ru):I:=.tup [.str p.1,tRu p.2]
abbrev aI(w wh:Int) (a:!(Str×Ru)):I:=.tup [.int w,.int wh,.tup (a.map bg)]
abbrev nk:Ru->Prop
 | .num _=>True
 | .rd _ _=>True
 | _=>False
def tK{r:Ru}(h:nk r):r.leaves=[r]:=by cases r<;>first|rfl|cases h
def mq:∀{rs:!Ru},(∀r∈rs,nk r)->rs.flatMap Ru.leaves=rs
 | [],_=>rfl
 | r::rs,h=>by rw[Ju,tK (h r ymS),mq λx a=>h x (ymC _ a)];rfl
abbrev Nm(ns:!Str)(w:Int):Ru->Prop
 | .num n=>0<=n/\n<=1000000000
 | .rd x a=>x∈ns/\a.length=w.toNat
 | _=>False
def Nm.leaf{ns:!Str}{w:Int}{r:Ru}(h:Nm ns w r):nk r:=by cases r<;>first|trivial|cases h
def zi{r:Ru}(h:nk r):r.ok:=by cases r<;>first|trivial|cases h
abbrev Cov(n:Nat)(rs:!Ru):Prop:=∃L:!(Str×!Int),L.length<=n/\∀x a,Ru.rd x a∈rs->(x,a)∈L
abbrev uH(c:Nat)(ns:!Str)(w:Int)(n:Nat)(r:Ru):Prop:=r.ok/\r.leaves.length<=c/\(∀l∈r.leaves,Nm ns w l)/\Cov n r.leaves
abbrev Nn(c:Nat)(w wh:Int)(a:!(Str×Ru)):Prop:=1<=w/\w<=3/\2<=wh/\wh<=1000000000/\1<=a.length/\a.length<=6/\(a.map (·.1)).Nodup/\(∀z∈a.map (·.1),kJ z)/\∃n,n*a.length<=16/\∀p∈a,uH c (a.map (·.1)) w n p.2
def nL:∀{l:!(Str×!Int)},I.doks (l.map λp=>tRu (.rd p.1 p.2))=T1/\I.deps (l.map λp=>tRu (.rd p.1 p.2))<=50
 | []=>{Xr,by decide}
 | p::l=>by
  have c:=nL (l:=l);have d:∀a:!Int,I.doks (a.map I.int)=T1/\I.deps (a.map I.int)=0:=λa=>by
   induction a with
   | nil=>show⟨Xr,Xr⟩
   | cons x a c=>show{by rw[Ir,I.doks,c.1];rfl,by rw[Ir,I.deps,c.2];rfl}
  show{?_,?_}
  .rw[Ir,I.doks,c.1];dsimp[tRu,I.dok,I.doks,(d p.2).1];rfl
  .rw[Ir,I.deps];have e:I.dep (tRu (.rd p.1 p.2))<=50:=by dsimp[tRu,I.dep,I.deps,(d p.2).2];decide
   have:=c.2
   lia
def jA{a:Type}{xs:!a}{v:Int}(h:0<=v):bS xs TU (TV v)=xs.take v.toNat:=by
 obtain⟨n,rfl⟩:∃n:Nat,v=n:={v.toNat,by lia};unfold bS;rw[HT.sIx_none,HT.sIx_nat,IA,Mf,Nat.sub_zero];rcases Nat.le_total n xs.length with h|h;rw[KO h];rw[Nat.min_eq_right h,Iu h,Iu (Ig _)]
def vy{f:Int×Int}{Q:T->T->Prop}(q:∀w wh G f',Nn 10 w wh G->Q (.im (aI w wh G)) (fT f')):C2 (jM [fT f]) Q:=by
 show MZ [TV {.io 0,fT f},TU,TU,TU,TU,TU,TU,TU,TU,TU] rfl rfl rfl ?_;unfold ig;and_intros;show xy λw m ls f hw1 hw2 hm1 hm2 hL=>?_;ac_nf;and_intros;show am (by lia) (by lia) λd1 f a1 b1=>?_;ac_nf;and_intros;show am (by lia) (by lia) λd2 f a2 b2=>?_;ac_nf;and_intros;show am (by lia) (by lia) λd3 f a3 b3=>?_;ac_nf;and_intros;show am (by lia) (by lia) λd4 f a4 b4=>?_;ac_nf;and_intros;show be (ns:=[2+d1,2+d2,1000000000-d3]) a4 (by exists b4) λwh hwh _=>?_;have U:2<=wh/\wh<=1000000000:=by simp at hwh;lia
 and_intros;have Y:((ls.map aD).length:Int)=m:=by rw[Ia,hL.1];lia
 rw[Y];show oO (by lia) hm2 λN f hzl hzn hzo=>?_;ac_nf;and_intros;show bY (λs:(Int×Int)×!(Str×Ru)=>[TV {.io 0,fT s.1},↥(.int w),⇑(.lst (ls.map aD)),↥(.int wh),⇑(.li (N.map .str)),⇑(.li (s.2.map bg)),TU,TU,TU,TU]) (λj s=>s.2.map (·.1)=N.take j/\∀p∈s.2,uH 10 N w (16 / m.toNat) p.2) ?_;and_intros;rw[Y];show{{by lia,by lia},(f,[]),by cbv,{Xr,by simp},λx s hx ⟨c,E⟩=>?_,λs ⟨c,E⟩=>?_}
 .have(f,G):=s;dsimp only at c E|-;have(l,hl,hl7,hlP):=hL.get (n:=x) (by lia);and_intros;show bo (λ_:Unit=>[TV {.io 0,fT f},↥(.int w),⇑(.lst (ls.map aD)),↥(.int wh),⇑(.li (N.map .str)),⇑(.li (G.map bg)),↥(.int x),TU,TU,TU]) (λp:Str×!Int=>tRu (.rd p.1 p.2)) (λj _ L=>L.length=j/\∀p∈L,p.1∈N/\p.2.length=w.toNat) ?_;and_intros;show qk (u:=aD l) (kd:=.vw (TV 2) (TV [.ix x])) (by lia) (by rw[IA,Io,hl];rfl) (fF l) rfl ?_;and_intros;rw[Y];rw[jA (Int.ediv_nonneg (by lia) (by lia)),<-Kf];show{(l.take (16 / m).toNat).map tRd,Xr,by simp;rw[NE];lia,by cbv,(),by cbv,{Xr,by simp},λj x' _ L J ⟨o,X⟩=>?_,λ_ L ⟨o,X⟩=>?_}
  .rw[Io]at J;cases e:(l.take (16 / m).toNat)[j]? with
   | none=>rw[e]at J;cases J
   | some p=>
    rw[e]at J;cases J;have hp:=hlP p (Je (ymG e));have(p0,p1,p2,p3):=hp;and_intros;show cR (emb:=I.str) (ns:=N) p0 (by lia) λz hz=>?_;and_intros;show{(z,p.2),(),Xr,by cbv,by simp[o],aN X {ymG hz,p2}}
  rw[Ia]at o;have hLn:L.length<=16 / m.toNat:=by
   rw[o,IJ];have:(16 / m).toNat=16 / m.toNat:=by
    obtain⟨n,rfl⟩:∃n:Nat,m=n:={m.toNat,by lia};rw[IA];show congrArg Int.toNat (Int.natCast_ediv 16 n).symm
   lia
  have hL7:L.length<=7:=by rw[o,IJ];lia
  and_intros;show bY (λs:(Int×Int)×!Ru=>[TV {.io 0,fT s.1},↥(.int w),⇑(.lst (ls.map aD)),↥(.int wh),⇑(.li (N.map .str)),⇑(.li (G.map bg)),↥(.int x),⇑(.li (s.2.map tRu)),TU,TU]) (λj s=>s.2.length=L.length+j/\(∀r∈s.2,Nm N w r)/\∀y B,Ru.rd y B∈s.2->(y,B)∈L) ?_;and_intros;show am (by lia) (by lia) λd f hd0 hd1'=>?_;ac_nf;and_intros;show FN (js:=[]) ⟨nL.1,Xr,nL.2⟩ ?_;and_intros;have hk:∀b:Bool,0<=(if b then 1 else 0:Int)/\(if b then 1 else 0:Int)<=1:=λb=>by cases b<;>decide
  have hk':=hk (decide (L.map (λp=>tRu (.rd p.1 p.2))=[]));have hk0:L=[]->(if(decide (L.map (λp=>tRu (.rd p.1 p.2))=[]))=T1 then 1 else 0:Int)=1:=λz=>by rw[z];rfl
  generalize (if(decide (L.map (λp=>tRu (.rd p.1 p.2))=[]))=T1 then 1 else 0:Int)=kk at *;show{{by lia,by lia},(f,L.map λp=>.rd p.1 p.2),by rw[JT];cbv,{by simp,λr a=>?_,λy B a=>?_},λj s hj ⟨i,g,h⟩=>?_,λs ⟨i,g,h⟩=>?_}
  .have(p,hp,rfl):=ID.mp a;show X p hp
  .have(p,hp,e):=ID.mp a;cases e;show hp
  .have(f,rs):=s;dsimp only at i g h|-;and_intros;show am (by lia) (by lia) λe1 f he0 he1=>?_;ac_nf;and_intros;show be (ns:=[9,1000000001]) he0 (by exists he1) λtop htop _=>?_;have htop':1<=top/\top<=1000000001:=by simp at htop;lia
   and_intros;show am (by lia) (by lia) λnum f hn0 hn1=>?_;ac_nf;and_intros;rw[Ia];show am (by lia) (by lia) λat0 f ha0 ha1=>?_;ac_nf;and_intros;show Br (is:=rs.map tRu) {ha0,by simp;lia,by simp;rw[NE];lia} ?_;ac_nf;and_intros;show{(f,rs.take at0.toNat++Ru.num num::rs.drop at0.toNat),?_,by clear o hLn hL7 hk' hj hd0 hd1';simp;lia,λr a=>?_,λy B a=>?_}
   .rw[Ii,Ir,Kf,KB]
    cbv
   .rcases yaM a with a|a;show g r (Je a)
    .rcases ycM a with rfl|a;show{hn0,by lia};show g r (Jt a)
   .rcases yaM a with a|a;show h y B (Je a)
    .rcases ycM a with a|a;cases a;show h y B (Jt a)
  .have(f,rs):=s;dsimp only at i g h|-;and_intros;show cR (emb:=I.str) (ns:=N) (by lia) (by lia) λz hz=>?_;and_intros;show om (rs:=rs) (λh0=>?_) (by lia) (λr a=>zi (g r a).leaf) λr f S hro=>?_
   .rw[h0]at i;have hL0:L=[]:=Jr (Nat.add_eq_zero_iff.mp i.symm).1;have:=hk0 hL0;simp at i
    lia
   rw[mq λr a=>(g r a).leaf]at S;ac_nf;and_intros;show bC (is:=G.map bg) (by
    have:G.length<=N.length:=by rw[<-Ia (f:=λp:Str×Ru=>p.1),c];simp;lia
    simp;rw[NE];lia) ?_
   ac_nf;and_intros;show{(f,G++[(z,r)]),?_,?_,aN E {hro,by rw[S];lia,by rw[S];show g,L,hLn,by rw[S];show h}}
   .rw[Ii]
    cbv
   .rw[Ii,c,Ks];rw[IA]at hz;rw[hz];rfl
 .have(f,G):=s;dsimp only at c E|-;and_intros;rw[Iu (by lia)]at c;have hlen:G.length=m.toNat:=by rw[<-hzl,<-c,Ia]
  show q w wh G f {hw1,hw2,U.1,U.2,by lia,by lia,by rw[c];show hzn,by rw[c];show hzo,16 / m.toNat,?_,by rw[c];show E};rw[hlen];show Nat.div_mul_le_self 16 m.toNat
abbrev tR2(p:Str×!Int):I:=.tup [.str p.1,.tup (p.2.map .int)]
def uQ:∀{bs:!Bool},bls (bs.map I.bl)*>bs
 | []=>rfl
 | b::bs=>by rw[Ir,bls,uQ];rfl
def FK{bs:!Bool}{Q:T->Prop}(q:Q (.im (.bl (bs.all id)))):W1 (pC [.li (bs.map I.bl)]) Q:=w1 (by dsimp[pC,uQ,JG]) q
abbrev ui:Ru->↑(Str×!Int)
 | .rd x a=>TV (x,a)
 | _=>TU
abbrev rds(r:Ru):!(Str×!Int):=r.leaves.filterMap ui
def iB:∀r:Ru,r.pre.filterMap ui=rds r
 | .num _=>rfl
 | .rd _ _=>rfl
 | .op s a b=>by
  have e:=iB a;have d:=iB b;unfold rds at e d|-;rw[Ru.pre,Ru.leaves,Lc rfl,IU,IU,e,d]
 | .cond a b c=>by
  have e:=iB a;have d:=iB b;have f:=iB c;unfold rds at e d f|-;rw[Ru.pre,Ru.leaves,Lc rfl,IU,IU,IU,IU,e,d,f]
def rZ(r:Ru):(rds r).length<=r.leaves.length:=List.length_filterMap_le _ _
def br{a:Type}{L:!a}{j:Nat}{x : a}(e:L[j]?*>x):L.take (j+1)=L.take j++[x]:=by rw[Ks,e];rfl
def t8{r:Ru}(o:r.leaves.length<=1000){Q:T->Prop}(q:Q (.im (.tup ((rds r).map tR2)))):C1 (jR [.im (tRu r)]) Q:=by
 have l:=gM r;show MM [↥(tRu r)] rfl rfl rfl ?_;unfold iq;and_intros;show pj (λ_:Unit=>[↥(tRu r)]) tR2 (λj _ L=>L=(r.pre.take j).filterMap ui) ?_;and_intros;show oS o ?_;show{r.pre.map tRu,Xr,by simp;rw[NE];lia,by cbv,(),by cbv,Xr,λj p _ L d f=>?_,λ_ L f=>?_}
 .rw[Io]at d;cases e:r.pre[j]? with
  | none=>rw[e]at d;cases d
  | some y=>
   rw[e]at d;cases d;have g:(r.pre.take (j+1)).filterMap ui=L++(ui y).toList:=by
    rw[br e,IU,<-f];cases y<;>rfl
   cases y with
   | num k=>
    rw[tRu];and_intros;clear_value h
    .show absurd h (by decide +kernel)
    .show{(),by cbv,by rw[g];show(Iw _).symm}
   | rd x i=>
    rw[tRu];and_intros;clear_value h
    .and_intros;show{(x,i),(),Xr,by cbv,by rw[g];rfl}
    .show absurd rfl h
   | op s a b=>
    rw[tRu];and_intros;clear_value h
    .show absurd h (by decide +kernel)
    .show{(),by cbv,by rw[g];show(Iw _).symm}
   | cond a b c=>
    rw[tRu];and_intros;clear_value h
    .show absurd h (by decide +kernel)
    .show{(),by cbv,by rw[g];show(Iw _).symm}
 .rw[Ia,Iu (Ig _),iB]at f;subst f;and_intros;show q
def lp:rds (.op s a b)=rds a++rds b:=by simp[rds,Ru.leaves,IU]
def gQ:rds (.cond a b c)=rds a++(rds b++rds c):=by simp[rds,Ru.leaves,IU]
abbrev Ru.mp(f:Str->!Int->!Int):Ru->Ru
 | .num n=>.num n
 | .rd x d=>.rd x (f x d)
 | .op s a b=>.op s (a.mp f) (b.mp f)
 | .cond a b c=>.cond (a.mp f) (b.mp f) (c.mp f)
abbrev wst(F:! !Int) (s:!Ru×Nat):Ru->↑(!Ru×Nat)
 | .num k=>TV (.num k::s.1,s.2)
 | .rd x _=>match s.2 with
  | 0=>TU
  | m+1=>match F[m]? with
   | some v=>TV (.rd x v::s.1,m)
   | none=>TU
 | .op z _ _=>match s.1 with
  | a::b::P=>TV (.op z a b::P,s.2)
  | _=>TU
 | .cond _ _ _=>match s.1 with
  | a::b::c::P=>TV (.cond a b c::P,s.2)
  | _=>TU
abbrev rF(f:Str->!Int->!Int) (p:Str×!Int):!Int:=f p.1 p.2
def iI(f:Str->!Int->!Int):∀(r:Ru) (F A B:! !Int) (P:!Ru),F=A++((rds r).map (rF f)++B)->r.pre.reverse.foldlM (wst F) (P,A.length+(rds r).length)*>(r.mp f::P,A.length)
 | .num k,F,A,B,P,h=>rfl
 | .rd x d,F,A,B,P,h=>by
  have e:F[A.length]?*>(f x d):=by
   rw[h,Jg (Ig _),LM];rfl
  change(wst F (P,A.length+1) (.rd x d)).bind _=_;dsimp[wst,e];rfl
 | .op s a b,F,A,B,P,h=>by
  rw[lp,Ii,Iy]at h;have g:=iI f b F (A++(rds a).map (rF f)) B P (by rw[h,Iy]);have i:=iI f a F A ((rds b).map (rF f)++B) (b.mp f::P) h;rw[Ij,Ia]at g;rw[Ru.pre,IG,JL,lp,Ij,<-K9,Jd,Jd,g];dsimp[KP,J4,i];rfl
 | .cond a b c,F,A,B,P,h=>by
  rw[gQ,Ii,Ii,Iy,Iy]at h;have j:=iI f c F (A++(rds a).map (rF f)++(rds b).map (rF f)) B P (by rw[h,Iy,Iy]);have g:=iI f b F (A++(rds a).map (rF f)) ((rds c).map (rF f)++B) (c.mp f::P) (by rw[h,Iy]);have i:=iI f a F A ((rds b).map (rF f)++((rds c).map (rF f)++B)) (b.mp f::c.mp f::P) h;rw[Ij,Ia,Ij,Ia]at j;rw[Ij,Ia]at g;rw[Ru.pre,IG,JL,JL,gQ,Ij,Ij,<-K9,<-K9,Jd,Jd,Jd,j];dsimp[KP,J4,g,i];rfl
def uG(f:Str->!Int->!Int)(r:Ru):r.pre.reverse.foldlM (wst ((rds r).map (rF f))) ([],(rds r).length)*>([r.mp f],0):=by
 have:=iI f r ((rds r).map (rF f)) [] [] [] ∅;exists this
def A9{F:! !Int}{s c:!Ru×Nat}{p:Ru}(h:wst F s p*>c):c.1.length<=s.1.length+1/\c.2<=s.2:=by
 have(P,n):=s;unfold wst at h;split at h;cases h;simp
 .split at h;cases h
  .delta m d;split at h;cases h;dsimp only at d|-;simp;omega;cases h
 .split at h;delta a;cases h;dsimp only at a|-;rw[a];simp;cases h
 .split at h;delta a;cases h;dsimp only at a|-;rw[a];simp;cases h
def tE{c g:Type}{st : g->c->↑g}{l:!c}{d f z : g}{j:Nat}{x : c}(h:l.foldlM st d*>z)(o:(l.take j).foldlM st d*>f)(i:l[j]?*>x):∃a,st f x*>a/\(l.take (j+1)).foldlM st d*>a:=by
 have(r,s):=Ib.mp i;have p:l.take (j+1)=l.take j++[x]:=by rw[Ks,i];rfl
 have q:l=l.take (j+1)++l.drop (j+1):=(I8 _ _).symm;rw[q,Jd,p,Jd,o]at h;rw[p,Jd,o];dsimp[KP,J4,List.foldlM_cons,List.foldlM_nil]at h|-;cases e:st f x with
 | none=>rw[e]at h;cases h
 | some a=>show⟨a,Xr,Xr⟩
abbrev xV(v:!Int):I:=.tup (v.map .int)
def n9{r:Ru}{f:Str->!Int->!Int}(hl:r.leaves.length<=1000){Q:T->Prop}(q:Q (.im (tRu (r.mp f)))):C1 (fg [.im (tRu r),.li (((rds r).map (rF f)).map xV)]) Q:=by
 have U:=gM r;have hrl:=rZ r;have J:=uG f r;have N:((rds r).map (rF f)).length=(rds r).length:=Ia _
 revert J N
 generalize (rds r).map (rF f)=F;intro J N;show MM [↥(tRu r),TV {.vw TU TU,.li (F.map xV)},TU,TU,TU] rfl rfl rfl ?_;unfold da;and_intros;show AU (λs:!Ru×Nat=>[↥(tRu r),TV {.vw TU TU,.li (F.map xV)},⇑(.li (s.1.reverse.map tRu)),↥(.int s.2),TU]) (λj s=>(r.pre.reverse.take j).foldlM (wst F) ([],(rds r).length)*>s/\s.1.length<=j/\s.2<=F.length) ?_;and_intros;show oS hl ?_;and_intros;show{_,r.pre.map tRu,Xr,by cbv,([],(rds r).length),?_,{Xr,Ig _,by omega},λj x s w S=>?_,λs S=>?_}
 .rw[Ia,N]
  cbv
 .rw[<-Ka,Io]at w;have(o,u,l):=S;cases e:r.pre.reverse[j]? with
  | none=>rw[e]at w;cases w
  | some p=>
   rw[e]at w;cases w;have hj:=(Ib.mp e).1;rw[Jz]at hj;have(s2,d,g):=tE J o e;have Y:=A9 d;have(P,n):=s;dsimp only at u l Y|-;cases p with
   | num k=>
    cases d;rw[tRu];and_intros
    (refine aF ?_;and_intros;clear_value h)
    .and_intros;show bC (is:=P.reverse.map tRu) (by simp;rw[NE];omega) ?_;ac_nf;and_intros;show{(.num k::P,n),?_,g,by simp;omega,l};rw[IG,Ii]
     cbv
    .show absurd rfl h
   | rd x row=>
    rw[tRu];and_intros
    (refine aF ?_;and_intros;clear_value h)
    .show absurd h (by decide +kernel)
    and_intros
    (refine aF ?_;and_intros;clear_value E)
    .cases n with
     | zero=>cases d
     | succ m=>
      have hm:m<F.length:=by omega
      and_intros;show G3 rfl ?_;and_intros;dsimp[show((m+1:Nat):Int)-1=(m:Int) by omega];ac_nf;show cR (emb:=xV) (Int.natCast_nonneg m) ⋯ λy X=>?_;rw[IA]at X;dsimp[wst,X]at d;cases d;and_intros;show bC (is:=P.reverse.map tRu) (i:=tRu (.rd x y)) (by simp;rw[NE];omega) ?_;ac_nf;and_intros;show{(.rd x y::P,m),?_,g,by simp;omega,by dsimp only;omega};rw[IG,Ii]
      cbv
    .show absurd rfl E
   | op z a b=>
    rw[tRu];and_intros
    (refine aF ?_;and_intros;clear_value h)
    .show absurd h (by decide +kernel)
    and_intros
    (refine aF ?_;and_intros;clear_value E)
    .show absurd E (by decide +kernel)
    and_intros
    (refine aF ?_;and_intros;clear_value L)
    .and_intros;cases P with
     | nil=>cases d
     | cons G P=>
      cases P with
      | nil=>cases d
      | cons B P=>
       cases d;dsimp[Im]at u;rw[IG,IG,Ii,Ii];show yE rfl rfl ?_;and_intros;show mJ ?_;ac_nf;and_intros;show mJ ?_;ac_nf;and_intros;show bC (is:=P.reverse.map tRu) (i:=tRu (.op z G B)) (by simp;rw[NE];omega) ?_;ac_nf;and_intros;show{(.op z G B::P,n),?_,g,by simp;omega,l};rw[IG,Ii]
       cbv
    .show absurd rfl L
   | cond a b c=>
    rw[tRu];and_intros
    (refine aF ?_;and_intros;clear_value h)
    .show absurd h (by decide +kernel)
    and_intros
    (refine aF ?_;and_intros;clear_value E)
    .show absurd E (by decide +kernel)
    and_intros
    (refine aF ?_;and_intros;clear_value L)
    .show absurd L (by decide +kernel)
    .and_intros;cases P with
     | nil=>cases d
     | cons G P=>
      cases P with
      | nil=>cases d
      | cons B P=>
       cases P with
       | nil=>cases d
       | cons c1 P=>
        cases d;dsimp[Im]at u;rw[IG,IG,IG,Ii,Ii,Ii];show yE rfl rfl ?_;and_intros;show mJ ?_;ac_nf;and_intros;show mJ ?_;ac_nf;and_intros;show mJ ?_;ac_nf;and_intros;show bC (is:=P.reverse.map tRu) (i:=tRu (.cond G B c1)) (by simp;rw[NE];omega) ?_;ac_nf;and_intros;show{(.cond G B c1::P,n),?_,g,by simp;omega,l};rw[IG,Ii]
        cbv
 .obtain⟨o,-,-⟩:=S;rw[Iu ∅,J]at o;cases o;and_intros;show q
mutual
noncomputable def I.fit:I->Bool
 | .tup is=>decide (is.length<=1000000)&&I.fits is
 | .ls _=>TZ
 | .fd _ _=>TZ
 | .exn _ _ _=>TZ
 | _=>T1
noncomputable def I.fits:!I->Bool
 | []=>T1
 | i::is=>i.fit&&I.fits is
end
def oj:∀{is:!I} {i:I},I.fits is=T1->i∈is->i.fit=T1
 | a::is,i,h,c=>by
  rw[I.fits,Ie]at h;rcases ycM c with rfl|c;show h.1;show oj h.2 c
def m9:∀{is:!I},(∀i∈is,i.fit=T1)->I.fits is=T1
 | [],_=>rfl
 | a::is,h=>by rw[I.fits,h a ymS,m9 λi c=>h i (ymC _ c)];rfl
def oh:∀{is:!I} {i:I},i∈is->i.dep<=I.deps is
 | a::is,i,c=>by
  rw[I.deps];rcases ycM c with rfl|c;omega;have:=oh c;omega
def m7:∀{is:!I},(∀i∈is,i.dep<=n)->I.deps is<=n
 | [],_=>Kn _
 | a::is,h=>by
  have e:=h a ymS;have d:=m7 λi c=>h i (ymC _ c);rw[I.deps];omega
def C8{l:!Unit}{Q:T->Prop}(q:Q (.im (.bl T1))):W1 (pC [.li (l.map λ_=>I.bl T1)]) Q:=by
 have e:(l.map λ_=>I.bl T1)=(l.map λ_=>T1).map I.bl:=by rw[JT];rfl
 rw[e];show FK ?_;have:(l.map λ_=>T1).all id=T1:=by simp
 rw[this];show q
def oa:∀(n:Nat) (i:I),i.dep<n->i.fit=T1->C1 (dQ n [.im i,.im i]) λt=>t=.im (.bl T1):=by
 intro n
 induction n with
 | zero=>intro i h;omega
 | succ n o=>
  intro i h a;show MM [↥i,↥i] rfl rfl rfl ?_;unfold ic;cases i with
  | tup c=>
   rw[I.fit,Ie,decide_eq_true_eq]at a;rw[I.dep]at h
   (repeat first|infer_instance|refine spT ?_|refine spF ?_|refine aF ?_)
   clear_value q
   .and_intros;show fG (λ_:Unit=>[↥(.tup c),↥(.tup c)]) (λ_:Unit=>I.bl T1) (λj _ l=>l.length=j) ?_;and_intros;show{_,_,TZ,TZ,c,c,Xr,Xr,Xr,by rw[NE];omega,by cbv,(),by cbv,Xr,λj x y _ l e f g=>?_,λ_ l g=>?_}
    .rw[e]at f;cases (f);have d:=ymG e;and_intros;show C1.mono (o x (by have:=oh d;omega) (oj a.2 d)) λt p=>?_;subst p;show{(),(),Xr,by cbv,by simp[g]}
    .and_intros;show C8 ?_;and_intros;try rfl
   .show absurd rfl q
  | non=>
   (repeat first|infer_instance|refine spT ?_|refine spF ?_|refine aF ?_)
   show w1 (x:=.im (.bl T1)) (by cbv) ?_;and_intros;try rfl
  | bl b=>
   (repeat first|infer_instance|refine spT ?_|refine spF ?_|refine aF ?_)
   show w1 (x:=.im (.bl T1)) (by unhygienic (cases b<;>rfl)) ?_;and_intros;try rfl
  | int z=>(repeat first|infer_instance|refine spT ?_|refine spF ?_|refine aF ?_);simp
  | str z=>(repeat first|infer_instance|refine spT ?_|refine spF ?_|refine aF ?_);simp
  | ls c=>rw[I.fit]at a;cases a
  | fd _ _=>rw[I.fit]at a;cases a
  | exn _ _ _=>rw[I.fit]at a;cases a
abbrev Hj(a b:!Int):!Int:=Mz (· + ·) a b
abbrev tPl(a:!Int):I:=.tup (a.map .int)
abbrev gU(c:Str×!Int):I:=.tup [.str c.1,tPl c.2]
abbrev mvF(g:Str->!Int) (z:Str) (o:Str) (row:!Int):!Int:=Hj (Hj row (g o)) ((g z).map λx=>-x)
abbrev mvD(g:Str->!Int) (p:Str×Ru):Str×Ru:=(p.1,p.2.mp (mvF g p.1))
abbrev zpl(t:Int) (a b:!Int):!Int:=Mz (λx y=>x+t*y) a b
def yM{t:Int}{a b:!Int}{j:Nat}{x y:Int}(c:a[j]?*>x)(d:b[j]?*>y):zpl t (a.take (j+1)) (b.take (j+1))=zpl t (a.take j) (b.take j)++[x+t*y]:=by
 unfold zpl;rw[br c,br d,List.zipWith_append];rfl
 .have f:=(Ib.mp c).1;have e:=(Ib.mp d).1;rw[IJ,IJ];omega
def Bc{t:Int}{a b:!Int}:zpl t (a.take (min a.length b.length)) (b.take (min a.length b.length))=zpl t a b:=by
 unfold zpl;rw[<-List.take_zipWith];rw[Iu ∅]
abbrev dot(a b:!Int):Int:=((a.zip b).map λp=>p.1*p.2).sum
abbrev Bnd(x:Int):Prop:=-1000000000<=x/\x<=1000000000
abbrev B0(n:Nat)(h:!Int×Int):Prop:=h.1.length=n/\(∀x∈h.1,Bnd x)/\Bnd h.2
abbrev ValOk(n:Nat)(v:Int×!(!Int×Int)):Prop:=Bnd v.1/\v.2.length<=6/\∀h∈v.2,B0 n h
def sZ{a:Type}{xs:!a}{v:Int}(h:0<=v)(c:v.toNat<=xs.length):bS xs (TV v) TU=xs.drop v.toNat:=by
 obtain⟨n,rfl⟩:∃n:Nat,v=(n:Int):={v.toNat,by omega};unfold bS;rw[HT.sIx_none,HT.sIx_nat,IA,KO (by exists c),Iu (by rw[I0];omega)]
section
abbrev BnW(x:Int):Prop:=-(2^60)<x/\x<2^60
def sQ{a b:!Int}(s:a.length<=1000)(i:∀x∈a,BnW x){Q:T->Prop}(q:Q (.im (.int (dot a b)))):C1 (jQ [.im (.tup (a.map .int)),.im (.tup (b.map .int))]) Q:=by
 show MM [↥(.tup (a.map .int)),↥(.tup (b.map .int))] rfl rfl rfl ?_;unfold ip;and_intros;show fG (λ_:Unit=>[↥(.tup (a.map .int)),↥(.tup (b.map .int))]) I.int (λj _ l=>l=((a.zip b).take j).map λp=>p.1*p.2) ?_;and_intros;show{_,_,TZ,TZ,a.map .int,b.map .int,Xr,Xr,Xr,by simp;rw[NE];omega,by cbv,(),by cbv,Xr,λj x y _ l h o d=>?_,λ_ l d=>?_}
 .have(f,c,rfl):=ar h;have(g,e,rfl):=ar o;and_intros;have r:=i f (ymG c);unfold BnW at r;show cS (gJ ⋯ ⋯) ?_;show{f*g,(),Xr,by cbv,?_};rw[d,Jc,show(a.zip b)[j]?*>(f,g)from by rw[IN];show⟨c,e⟩];simp
 .rw[Ia,Ia,<-JF,IK]at d;subst d;and_intros;show oR ?_;and_intros;show q
abbrev HsW(n:Nat)(hs:!(!Int×Int)):Prop:=hs.length<=6/\∀h∈hs,h.1.length=n/\∀x∈h.1,BnW x
def ValOk.w{n:Nat}{v:Int×!(!Int×Int)}(h:ValOk n v):HsW n v.2:={h.2.1,λx a=>{(h.2.2 x a).1,λy c=>by have:=(h.2.2 x a).2.1 y c;unfold Bnd at this;unfold BnW;omega}}
abbrev cx(t:! !Int) (p:!Int):!Int:=t.map λr=>dot r p
def mr{t:! !Int}{p:!Int}(i:t.length<=1000)(g:∀r∈t,r.length<=1000/\∀x∈r,BnW x){Q:T->Prop}(q:Q (.im (tPl (cx t p)))):C1 (f8 [.im (.tup (t.map tPl)),.im (tPl p)]) Q:=by
 show MM [↥(.tup (t.map tPl)),↥(tPl p)] rfl rfl rfl ?_;unfold fU;and_intros;show bo (λ_:Unit=>[↥(.tup (t.map tPl)),↥(tPl p)]) I.int (λj _ l=>l=cx (t.take j) p) ?_;and_intros;show{t.map tPl,Xr,by rw[Ia,NE];omega,by cbv,(),by cbv,Xr,λj x _ l e c=>?_,λ_ l c=>?_}
 .have(r,d,rfl):=ar e;have(h,f):=g r (ymG d);and_intros;show sQ (a:=r) (b:=p) h f ?_;show{dot r p,(),Xr,by cbv,?_};unfold cx at c|-;rw[c,Jc,d,Ii];rfl
 .rw[Ia,IK]at c;subst c;and_intros;show q
def lA{t:! !Int}{z:Str}{p:!Int}(a:t.length<=1000)(c:∀r∈t,r.length<=1000/\∀x∈r,BnW x){Q:T->Prop}(q:Q (.im (gU (z,cx t p)))):C1 (dw [.im (gU (z,p)),.im (.tup (t.map tPl))]) Q:=by
 show MM [↥(gU (z,p)),↥(.tup (t.map tPl)),TU,TU] rfl rfl rfl ?_;unfold cr;rw[gU];and_intros;show mr a c ?_;and_intros;show q
abbrev fK{a:Type} (j:Nat) (r:!a):!a:=r.take j++r.drop (j+1)
abbrev eY(t:! !Int) (i j:Nat):! !Int:=(fK i t).map (fK j)
abbrev sgn(k:Nat) (x:Int):Int:=if k % 2=0 then x else -x
abbrev bU:Nat->! !Int->Int
 | 0,_=>1
 | n+1,t=>match t with
  | []=>1
  | r::_=>((Ip r.length).map λj=>r.getD j 0*sgn j (bU n (eY t 0 j))).sum
def kq{a:Type}{j:Nat}{r:!a}(h:j<r.length):(fK j r).length=r.length-1:=by unfold fK;rw[Ij,IJ,I0];omega
def kr{a:Type}{j:Nat}{r:!a}{x : a}(h:x∈fK j r):x∈r:=(yaM h).elim Je Jt
abbrev Sq(t:! !Int):Prop:=t.length<=3/\∀r∈t,r.length=t.length/\∀x∈r,BnW x
def Sq.minor{t:! !Int}{i j:Nat}(h:Sq t)(hi:i<t.length)(o:j<t.length):Sq (eY t i j)/\(eY t i j).length=t.length-1:=by
 have c:(eY t i j).length=t.length-1:=by unfold eY;rw[Ia,kq hi]
 show{{by have:=h.1;omega,λr g=>?_},c};have(f,a,rfl):=ID.mp g;have(l,e):=h.2 f (kr a);show{by rw[c,kq ⋯,l],λx d=>e x (kr d)}
def ko{a:Type}{r:!a}{j:Nat}(h:j<r.length):bS r TU (TV (j:Int))++bS r (TV ((j:Int)+1)) TU=fK j r:=by
 unfold fK;rw[jA ⋯,sZ ⋯ ⋯];rw[show((j:Int)+1).toNat=j+1 by omega,IA]
def mZ{j n:Nat}(h:j<n):¬(HT.sIx n 0 TU=0/\HT.sIx n n (TV (j:Int))=n)/\¬(HT.sIx n 0 (TV ((j:Int)+1))=0/\HT.sIx n n TU=n):=by
 rw[show((j:Int)+1)=((j+1:Nat):Int) by omega,HT.sIx_nat,HT.sIx_nat];omega
def kA{a c:Type}{f : a->c}{j:Nat}{r:!a}:fK j (r.map f)=(fK j r).map f:=by unfold fK;rw[Ii,Kf,KB]
def rO{is:!I}{Q:Bool->Prop}(q:Q (~~~is.isEmpty)):W1 (tru (.im (.tup is))) Q:=w1 rfl q
def Et{n:Nat}{t:! !Int}{i j:Nat}(c:∀u:! !Int,Sq u->u.length<t.length->∀{Q:T->Prop},Q (.im (.int (bU n u)))->C1 (av n [.li (u.map tPl)]) Q)(f:Sq t)(hi:i<t.length)(B:j<t.length){Q:T->Prop}(q:Q (.im (.int (sgn (i+j) (bU n (eY t i j)))))):C1 (bc n [.im (.tup (t.map tPl)),.im (.int i),.im (.int j)]) Q:=by
 show MM [↥(.tup (t.map tPl)),↥(.int i),↥(.int j),TU] rfl rfl rfl ?_;unfold aZ;have a:=f.minor hi B;have s:=f.1;have w:=kq hi;and_intros;show bo (λ_:Unit=>[↥(.tup (t.map tPl)),↥(.int i),↥(.int j),TU]) tPl (λk _ l=>l=((fK i t).take k).map (fK j)) ?_;and_intros;show gr (is:=t.map tPl) (mZ (by rw[Ia];show hi)).1 ?_;and_intros;show gr (is:=t.map tPl) (mZ (by rw[Ia];show hi)).2 ?_;and_intros;show lb ?_ ?_
 .unfold bS;simp;rw[NE];omega
 rw[ko (by rw[Ia];show hi),kA];show{(fK i t).map tPl,Xr,by rw[Ia,NE];omega,by cbv,(),by cbv,Xr,λk x _ l p d=>?_,λ_ l d=>?_}
 .have(r,o,rfl):=ar p;have E:=(f.2 r (kr (ymG o))).1;have g:=mZ (show j<(r.map I.int).length by rw[Ia];omega);rw[tPl];and_intros;show gr (is:=r.map .int) g.1 ?_;and_intros;show gr (is:=r.map .int) g.2 ?_;and_intros;show lb ?_ ?_
  .unfold bS;simp;rw[NE];omega
  rw[ko (by rw[Ia];omega),kA];show{fK j r,(),Xr,by cbv,by rw[d,Jc,o,Ii];rfl}
 .rw[Ia,IK]at d;subst d;and_intros;have e:((i:Int)+(j:Int)) % 2=0↔(i+j) % 2=0:=by omega
  clear_value h
  .and_intros;show c _ a.1 (by rw[a.2];omega) ?_;and_intros;unfold sgn at q;rw[if_pos (e.mp h)]at q;show q
  .and_intros;show c _ a.1 (by rw[a.2];omega) ?_;and_intros;unfold sgn at q;rw[if_neg (λz=>h (e.mpr z))]at q;show q
def Es{n:Nat}{t:! !Int}{i j:Nat}(c:∀u:! !Int,Sq u->u.length<t.length->∀{Q:T->Prop},Q (.im (.int (bU n u)))->C1 (av n [.li (u.map tPl)]) Q)(f:Sq t)(hi:i<t.length)(B:j<t.length){Q:T->Prop}(q:Q (.im (.int (sgn (i+j) (bU n (eY t i j)))))):C1 (bc n [.li (t.map tPl),.im (.int i),.im (.int j)]) Q:=by
 show MM [TV {.vw TU TU,.li (t.map tPl)},↥(.int i),↥(.int j),TU] rfl rfl rfl ?_;unfold aZ;have a:=f.minor hi B;have s:=f.1;have w:=kq hi;and_intros;show bo (λ_:Unit=>[TV {.vw TU TU,.li (t.map tPl)},↥(.int i),↥(.int j),TU]) tPl (λk _ l=>l=((fK i t).take k).map (fK j)) ?_;and_intros;show jI ?_ ?_
 .unfold bS;simp;rw[NE];omega
 rw[ko (by rw[Ia];show hi),kA];show{(fK i t).map tPl,Xr,by rw[Ia,NE];omega,by cbv,(),by cbv,Xr,λk x _ l p d=>?_,λ_ l d=>?_}
 .have(r,o,rfl):=ar p;have E:=(f.2 r (kr (ymG o))).1;have g:=mZ (show j<(r.map I.int).length by rw[Ia];omega);rw[tPl];and_intros;show gr (is:=r.map .int) g.1 ?_;and_intros;show gr (is:=r.map .int) g.2 ?_;and_intros;show lb ?_ ?_
  .unfold bS;simp;rw[NE];omega
  rw[ko (by rw[Ia];omega),kA];show{fK j r,(),Xr,by cbv,by rw[d,Jc,o,Ii];rfl}
 .rw[Ia,IK]at d;subst d;and_intros;have e:((i:Int)+(j:Int)) % 2=0↔(i+j) % 2=0:=by omega
  clear_value h
  .and_intros;show c _ a.1 (by rw[a.2];omega) ?_;and_intros;unfold sgn at q;rw[if_pos (e.mp h)]at q;show q
  .and_intros;show c _ a.1 (by rw[a.2];omega) ?_;and_intros;unfold sgn at q;rw[if_neg (λz=>h (e.mpr z))]at q;show q
def i6:∀{is:!I} {k:Nat},(gC k is).length=is.length
 | [],_=>rfl
 | _::is,k=>congrArg (· + 1) (i6 (is:=is) (k:=k+1))
def rl{n:Nat}{t:! !Int}(f:∀u:! !Int,Sq u->u.length<t.length->∀{Q:T->Prop},Q (.im (.int (bU n u)))->C1 (av n [.li (u.map tPl)]) Q)(o:Sq t){Q:T->Prop}(q:Q (.im (.int (bU (n+1) t)))):C1 (av (n+1) [.im (.tup (t.map tPl))]) Q:=by
 show MM (m:=bu (bc n)) [↥(.tup (t.map tPl))] rfl rfl rfl ?_;unfold bu;cases t with
 | nil=>
  show lF (aF (lI (lJ ?_)));and_intros;show rO ?_
  (repeat first|infer_instance|refine spT ?_|refine spF ?_|refine aF ?_)
  show q
 | cons r rest=>
  show lF (aF (lI (lJ ?_)));and_intros;show rO ?_
  (repeat first|infer_instance|refine spT ?_|refine spF ?_|refine aF ?_)
  show jV (sM ?_);and_intros;show wa (emb:=tPl) (ns:=r::rest) (L5 0) (by rw[Im];omega) λy w=>?_;cases (w);and_intros;have(p,h):=o.2 r ymS;have z:=o.1;show{_,r.map .int,Xr,gu (by cbv) {by rw[i6,Ia,NE];omega,λi c O=>O=[↥(.tup ((r::rest).map tPl))]/\c=((Ip i).map λj=>r.getD j 0*sgn j (bU n (eY (r::rest) 0 j))).map (λx=>T.im (.int x)),{by cbv,Xr},?_,?_}}
  .rintro i x c O d ⟨rfl,rfl⟩;rw[gZ]at d;cases e:(r.map I.int)[i]? with
   | none=>rw[e]at d;cases d
   | some y=>
    rw[e]at d;dsimp[JG,IC.injEq,JS]at d;subst d;have(a,l,rfl):=ar e;have s:=(Ib.mp l).1;have g:=h a (ymG l);unfold BnW at g;and_intros;show spT ?_;and_intros;show Et (i:=0) f o ∅ (by rw[<-p];show s) ?_;and_intros;show cS (gJ ⋯ ⋯) ?_;show{_,Xr,by cbv,?_};rw[JW,Ii,Ii,JV,JV,IE,l,JS];rfl
  .rintro c O ⟨rfl,rfl⟩;rw[i6,Ia,cW];and_intros;show oR ?_;and_intros;show q
def yV{n:Nat}{t:! !Int}(f:∀u:! !Int,Sq u->u.length<t.length->∀{Q:T->Prop},Q (.im (.int (bU n u)))->C1 (av n [.li (u.map tPl)]) Q)(o:Sq t){Q:T->Prop}(q:Q (.im (.int (bU (n+1) t)))):C1 (av (n+1) [.li (t.map tPl)]) Q:=by
 show MM (m:=bu (bc n)) [TV {.vw TU TU,.li (t.map tPl)}] rfl rfl rfl ?_;unfold bu;cases t with
 | nil=>
  show lF (aF (lI (lJ ?_)));and_intros;show qs ?_
  (repeat first|infer_instance|refine spT ?_|refine spF ?_|refine aF ?_)
  show q
 | cons r rest=>
  show lF (aF (lI (lJ ?_)));and_intros;show qs ?_
  (repeat first|infer_instance|refine spT ?_|refine spF ?_|refine aF ?_)
  show jV (sM ?_);and_intros;show cR (emb:=tPl) (ns:=r::rest) (L5 0) (by rw[Im];omega) λy w=>?_;cases (w);and_intros;have(p,h):=o.2 r ymS;have z:=o.1;show{_,r.map .int,Xr,gu (by cbv) {by rw[i6,Ia,NE];omega,λi c O=>O=[TV {.vw TU TU,.li ((r::rest).map tPl)}]/\c=((Ip i).map λj=>r.getD j 0*sgn j (bU n (eY (r::rest) 0 j))).map (λx=>T.im (.int x)),{by cbv,Xr},?_,?_}}
  .rintro i x c O d ⟨rfl,rfl⟩;rw[gZ]at d;cases e:(r.map I.int)[i]? with
   | none=>rw[e]at d;cases d
   | some y=>
    rw[e]at d;dsimp[JG,IC.injEq,JS]at d;subst d;have(a,l,rfl):=ar e;have s:=(Ib.mp l).1;have g:=h a (ymG l);unfold BnW at g;and_intros;show spT ?_;and_intros;show Es (i:=0) f o ∅ (by rw[<-p];show s) ?_;and_intros;show cS (gJ ⋯ ⋯) ?_;show{_,Xr,by cbv,?_};rw[JW,Ii,Ii,JV,JV,IE,l,JS];rfl
  .rintro c O ⟨rfl,rfl⟩;rw[i6,Ia,cW];and_intros;show oR ?_;and_intros;show q
def u6:∀(n:Nat) (u:! !Int),Sq u->u.length<n->∀{Q:T->Prop},Q (.im (.int (bU n u)))->C1 (av n [.li (u.map tPl)]) Q:=by
 intro n
 induction n with
 | zero=>intro u _ h;show absurd h (KM _)
 | succ n a=>intro u d e Q q;show yV (λv c h=>a v c ⋯) d q
def u5{n:Nat}{a:Int}:bU (n+2) [[a]]=a:=by
 change a*1+0=a;omega
def yU{n:Nat}{a b c d:Int}:bU (n+3) [[a,b],[c,d]]=a*d-b*c:=by
 change a*bU (n+2) [[d]]+(b*(-bU (n+2) [[c]])+0)=_;rw[u5,u5];grind
def Cb{n:Nat}{a b c d e f g h i:Int}:bU (n+4) [[a,b,c],[d,e,f],[g,h,i]]=a*(e*i-f*h)-b*(d*i-f*g)+c*(d*h-e*g):=by
 have j:∀{p q r t:Int},bU (n+3) [[p,q],[r,t]]=p*t-q*r:=yU;rw[show n+4=(n+3)+1 from rfl,bU];simp[eY,fK,sgn,Ip,Ip.loop,j];grind
def ll1{c:Type}{l:!c}(h:l.length=1):∃a,l=[a]:=by
 cases l with
 | nil=>cases h
 | cons a l=>cases l with
  | nil=>show⟨a,Xr⟩
  | cons _ _=>cases h
def ll2{c:Type}{l:!c}(h:l.length=2):∃a b,l=[a,b]:=by
 cases l with
 | nil=>cases h
 | cons a l=>
  have(b,rfl):=ll1 (Jn.inj h);show⟨a,b,Xr⟩
def ll3{d:Type}{l:!d}(h:l.length=3):∃a b c,l=[a,b,c]:=by
 cases l with
 | nil=>cases h
 | cons a l=>
  have(b,c,rfl):=ll2 (Jn.inj h);show⟨a,b,c,Xr⟩
structure Good(t:! !Int):Prop where
 n:1<=t.length/\t.length<=3
 r:∀r∈t,r.length=t.length/\∀x∈r,-3<=x/\x<=3
 d:bU 24 t=1\/bU 24 t = -1
def uB{t:! !Int}(p:1<=t.length)(o:t.length<=3)(l:∀r∈t,r.length=t.length):(∃a,t=[[a]])\/(∃a b c d,t=[[a,b],[c,d]]) \/ ∃a b c d e f g h i,t=[[a,b,c],[d,e,f],[g,h,i]]:=by
 have j:t.length=1\/t.length=2\/t.length=3:=by omega
 rcases j with j|j|j
 .have(r,rfl):=ll1 j;have(a,rfl):=ll1 (l r ∅);show .inl ⟨a,Xr⟩
 .have(r,s,rfl):=ll2 j;have(a,b,rfl):=ll2 (l r ∅);have(c,d,rfl):=ll2 (l s ∅);show .inr (.inl ⟨a,b,c,d,Xr⟩)
 .have(r,s,u,rfl):=ll3 j;have(a,b,c,rfl):=ll3 (l r ∅);have(d,e,f,rfl):=ll3 (l s ∅);have(g,h,i,rfl):=ll3 (l u ∅);show .inr (.inr ⟨a,b,c,d,e,f,g,h,i,Xr⟩)
abbrev uni(n:Nat) (a x:Int):!Int:=(Ip n).map λk:Nat=>x*(if decide ((k:Int)=a)then 1 else 0)
def eT:(uni n a x).length=n:=by unfold uni;rw[Ia,K6]
def yx(n:Nat)(a x:Int):uni (n+1) a x=uni n a x++[x*(if decide ((n:Int)=a)then 1 else 0)]:=by unfold uni;rw[JW,Ii];rfl
def pl3:∀a∈[(0:Int),1,2],∀b∈[(0:Int),1,2],∀c∈[(0:Int),1,2],∀s∈[(1:Int),-1],∀t∈[(1:Int),-1],∀u∈[(1:Int),-1],a≠b->a≠c->b≠c->bU 24 [uni 3 a s,uni 3 b t,uni 3 c u]=1\/bU 24 [uni 3 a s,uni 3 b t,uni 3 c u] = -1:=by decide +kernel
def pl2:∀a∈[(0:Int),1],∀b∈[(0:Int),1],∀s∈[(1:Int),-1],∀t∈[(1:Int),-1],a≠b->bU 24 [uni 2 a s,uni 2 b t]=1\/bU 24 [uni 2 a s,uni 2 b t] = -1:=by decide +kernel
def pl1:∀s∈[(1:Int),-1],bU 24 [uni 1 0 s]=1\/bU 24 [uni 1 0 s] = -1:=by decide +kernel
abbrev eN(n:Nat):!Int:=(Ip n).map λi:Nat=>(i:Int)
def pN{l:!Int}{d:Nat}{x:Int}(h:l[d]?*>x):(x::l.eraseIdx d).Perm l:=by
 rw[JK];have e:l=l.take d++x::l.drop (d+1):=by
  have(a,rfl):=Ib.mp h;rw[<-Kb a,I8]
 conv=>rhs;rw[e]
 show List.perm_middle.symm
structure Nf(w:Nat)(ps:!(Int×Int)):Prop where
 p:(ps.map (·.1)).Perm (eN w)
 s:∀p∈ps,p.2=1\/p.2 = -1
abbrev plT(w:Nat) (ps:!(Int×Int)):! !Int:=ps.map λp=>uni w p.1 p.2
def Nf.good{w:Nat}{ps:!(Int×Int)}(h:Nf w ps)(E:1<=w)(B:w<=3):Good (plT w ps)/\(plT w ps).length=w:=by
 have l:ps.length=w:=by have:=h.p.length_eq;unfold eN at this;exists this
 have j:(plT w ps).length=w:=by unfold plT;rw[Ia,l]
 have d:(ps.map (·.1)).Nodup:=h.p.nodup_iff.mpr (by unfold eN;show List.Pairwise.map _ (λa b h e=>h ⋯) Lg);have f:∀p∈ps,p.1∈eN w:=λp i=>h.p.mem_iff.mp (ID.mpr ⟨p,i,Xr⟩);have g:∀p∈ps,p.2∈[(1:Int),-1]:=λp i=>by have:=h.s p i;exists this
 show{{by omega,λr z=>?_,?_},j}
 .have(p,i,rfl):=ID.mp z;show{by rw[eT,j],λx o=>?_};have(k,_,rfl):=ID.mp o;rcases h.s p i with e|e<;>rw[e]<;>split<;>decide
 .have q:w=1\/w=2\/w=3:=by omega
  rcases q with rfl|rfl|rfl
  .obtain⟨⟨a,s⟩,rfl⟩:=ll1 l;have:a=0:=by have:=f (a,s) ∅;simpa[eN,Ip,Ip.loop]using this
   subst this;show pl1 s (g (0,s) ∅)
  .obtain⟨⟨a,s⟩,⟨b,t⟩,rfl⟩:=ll2 l;show pl2 a (f (a,s) ∅) b (f (b,t) ∅) s (g (a,s) ∅) t (g (b,t) ∅) ?_;simp at d;show d
  .obtain⟨⟨a,s⟩,⟨b,t⟩,⟨c,u⟩,rfl⟩:=ll3 l;simp at d;show pl3 a (f (a,s) ∅) b (f (b,t) ∅) c (f (c,u) ∅) s (g (a,s) ∅) t (g (b,t) ∅) u (g (c,u) ∅) d.1.1 d.1.2 d.2
def gL{w:Int}{f:Int×Int}(Y:1<=w)(L:w<=3){Q:T->T->Prop}(q:∀ps B,Nf w.toNat ps->Q (.li ((plT w.toNat ps).map tPl)) (fT B)):C2 (cv [fT f,.im (.int w)]) Q:=by
 show MZ [TV {.io 0,fT f},↥(.int w),TU,TU,TU,TU,TU] rfl rfl rfl ?_;unfold cj;and_intros;show Dg {by omega,by omega} ?_;rw[show sk w.toNat=(eN w.toNat).map .int by unfold eN;rw[JT];rfl];ac_nf;and_intros;show bY (λz:(Int×Int)×!Int×!(Int×Int)=>[TV {.io 0,fT z.1},↥(.int w),⇑(.li (z.2.1.map .int)),⇑(.li ((plT w.toNat z.2.2).map tPl)),TU,TU,TU]) (λk z=>z.2.1.length+k=w.toNat/\z.2.2.length=k/\(z.2.2.map (·.1)++z.2.1).Perm (eN w.toNat)/\∀p∈z.2.2,p.2=1\/p.2 = -1) ?_;and_intros;show{{by omega,by omega},(f,eN w.toNat,[]),by cbv,{by unfold eN;simp,Xr,List.Perm.refl _,λp G=>nomatch G},λk z U a=>?_,λz a=>?_}
 .have(f,left,ps):=z;have(o,i,c,g):=a;dsimp only at o i c g|-;and_intros;rw[Ia];show am ⋯ ⋯ λd f E J=>?_;ac_nf;and_intros;obtain⟨x,u⟩:∃x,left[d.toNat]?*>x:={_,Ix (show d.toNat<left.length by omega)};show zC (is:=left.map .int) (x:=.int x) E ⋯ (by rw[Io,u];rfl) ?_;ac_nf;and_intros;show am ⋯ ⋯ λe f N X=>?_;ac_nf;and_intros;have h:1-2*e=1\/1-2*e = -1:=by omega
  generalize 1-2*e=sg at h|-;have s:(left.map I.int).eraseIdx d.toNat=(left.eraseIdx d.toNat).map I.int:=by rw[JK,JK,Ii,Kf,KB]
  rw[s];ac_nf;and_intros;show bp (λ_:Unit=>[TV {.io 0,fT f},↥(.int w),⇑(.li ((left.eraseIdx d.toNat).map .int)),⇑(.li ((plT w.toNat ps).map tPl)),↥(.int k),↥(.int x),↥(.int sg)]) I.int (λj _ l=>l=uni j x sg) ?_;and_intros;show{{by omega,by omega},by cbv,(),by cbv,Xr,λj _ l S a=>?_,λ_ l a=>?_}
  .subst a;and_intros;show cS (gJ ⋯ ⋯) ?_;show{_,(),Xr,by cbv,(yx _ _ _).symm}
  .subst a;and_intros;show bC (is:=(plT w.toNat ps).map tPl) (by unfold plT;rw[Ia,Ia,NE];omega) ?_;ac_nf;and_intros;have r:d.toNat<left.length:=by omega
   show{(f,left.eraseIdx d.toNat,ps++[(x,sg)]),?_,?_,?_,?_,aN g h}
   .dsimp only;unfold plT;rw[Ii (f:=λp:Int×Int=>uni w.toNat p.1 p.2),Ii (f:=tPl)]
    cbv
   .change(left.eraseIdx d.toNat).length+(k+1)=_;rw[List.length_eraseIdx_of_lt r];omega
   .change(ps++[(x,sg)]).length=_;rw[Ij,i];rfl
   .change((ps++[(x,sg)]).map (·.1)++left.eraseIdx d.toNat).Perm _;show List.Perm.trans ?_ c;rw[Ii,Iy];show List.Perm.append_left _ ?_;show pN u
 .have(f,left,ps):=z;have(o,i,c,g):=a;dsimp only at o i c g|-;have:left=[]:=Jr ⋯;subst this;rw[Iw]at c;and_intros;show q ps f ⟨c,g⟩
end
def mE(f d:Str->!Int->!Int):∀r:Ru,(r.mp f).mp d=r.mp λo row=>d o (f o row)
 | .num _=>rfl
 | .rd _ _=>rfl
 | .op s a b=>by rw[Ru.mp,Ru.mp,Ru.mp,mE f d a,mE f d b]
 | .cond a b c=>by rw[Ru.mp,Ru.mp,Ru.mp,mE f d a,mE f d b,mE f d c]
def mD{f:Str->!Int->!Int}:∀r:Ru,(∀p∈rds r,f p.1 p.2=p.2)->r.mp f=r
 | .num _,_=>rfl
 | .rd x e,h=>by rw[Ru.mp,h (x,e) (by simp[rds,Ru.leaves,ui])]
 | .op s a b,h=>by
  rw[lp]at h;rw[Ru.mp,mD a λp d=>h p (yaL _ d),mD b λp d=>h p (yaR _ d)]
 | .cond a b c,h=>by
  rw[gQ]at h;rw[Ru.mp,mD a λp d=>h p (yaL _ d),mD b λp d=>h p (yaR _ (yaL _ d)),mD c λp d=>h p (yaR _ (yaR _ d))]
def dP(f:Str->!Int->!Int):∀r:Ru,(r.mp f).leaves.length=r.leaves.length
 | .num _=>rfl
 | .rd _ _=>rfl
 | .op s a b=>by rw[Ru.mp,Ru.leaves,Ru.leaves,Ij,Ij,dP f a,dP f b]
 | .cond a b c=>by rw[Ru.mp,Ru.leaves,Ru.leaves,Ij,Ij,Ij,Ij,dP f a,dP f b,dP f c]
def jS(f:Str->!Int->!Int):∀r:Ru,rds (r.mp f)=(rds r).map λp=>(p.1,f p.1 p.2)
 | .num _=>rfl
 | .rd _ _=>rfl
 | .op s a b=>by rw[Ru.mp,lp,lp,jS f a,jS f b,Ii]
 | .cond a b c=>by rw[Ru.mp,gQ,gQ,jS f a,jS f b,jS f c,Ii,Ii]
def wy(r:1<=w)(p:w<=3)(q:∀pl l,pl.length=w.toNat->Q (.im (tPl pl)) (fT l)):C2 (jN [fT f,.im (.int w)]) Q:=by
 show MZ [TV {.io 0,fT f},↥(.int w),TU] rfl rfl rfl ?_;unfold ij;and_intros;show am ⋯ ⋯ λd f c a=>?_;ac_nf;and_intros;show be (ns:=[4,2001]) c a λy h _=>?_;have i:y=4\/y=2001:=by exists h
 and_intros;show bp (λf:Int×Int=>[TV {.io 0,fT f},↥(.int w),↥(.int y)]) I.int (λj _ e=>e.length=j) ?_;and_intros;show{{by omega,by omega},by cbv,f,by cbv,Xr,λj f e o g=>?_,λf e g=>?_}
 .and_intros;show am ⋯ ⋯ λd f c a=>?_;ac_nf;and_intros;show{_,f,Xr,by cbv,by simp[g]}
 .and_intros;show q e f g
def rL(h:p∈rds r):Ru.rd p.1 p.2∈r.leaves:=by
 have(l,c,e):=Kk.mp h;cases l with
 | rd x a=>cases e;show c
 | _=>cases e
abbrev RuL(r:Ru):Prop:=r.leaves.length<=22/\∀x a,Ru.rd x a∈r.leaves->a.length<=1000
abbrev H6(a:!(Str×Ru)):Prop:=a.length<=6/\(a.map (·.1)).Nodup/\∀p∈a,RuL p.2
def oo(row:!Int)(h:row.length<=1000000):(I.tup (row.map I.int)).fit=T1/\(I.tup (row.map I.int)).dep=1:=by
 have d:I.fits (row.map I.int)=T1:=m9 λi a=>by have(x,_,rfl):=ID.mp a;rfl
 have c:I.deps (row.map I.int)=0:=Nat.le_zero.mp (m7 λi a=>by have(x,_,rfl):=ID.mp a;show Ig _);rw[I.fit,I.dep,d,c];show{by simpa using h,Xr}
def Bg(c:a<=x+2)(d:b<=y+2):max 0 (max 0 (max a (max b 0)))+1<=max x y+1+2:=by
 show Kz ?_
 repeat' refine Nat.max_le.2 {?_,?_}
 all_goals omega
def Bf(d:a<=x+2)(e:b<=y+2)(f:c<=z+2):max 0 (max a (max b (max c 0)))+1<=max x (max y z)+1+2:=by
 show Kz ?_
 repeat' refine Nat.max_le.2 {?_,?_}
 all_goals omega
def iH:∀{r:Ru},(∀x row,Ru.rd x row∈r.leaves->row.length<=1000)->(tRu r).fit=T1/\(tRu r).dep<=r.depth+2
 | .num _,_=>{Xr,by simp[tRu,I.dep,I.deps,Ru.depth]}
 | .rd x row,h=>by
  have j:=h x row (by simp[Ru.leaves]);have g:=oo row ⋯;dsimp[tRu,I.fit,I.fits,I.dep,I.deps]at g|-;rw[g.1];show{by simp,by omega}
 | .op s a b,h=>by
  have e:=iH (r:=a) λx row d=>h x row (by rw[Ru.leaves];show yaL _ d);have f:=iH (r:=b) λx row d=>h x row (by rw[Ru.leaves];show yaR _ d);dsimp[tRu,I.fit,I.fits,I.dep,I.deps,Ru.depth,e.1,f.1];show{by simp,Bg e.2 f.2}
 | .cond a b c,h=>by
  have e:=iH (r:=a) λx row d=>h x row (by rw[Ru.leaves];show yaL _ d);have f:=iH (r:=b) λx row d=>h x row (by rw[Ru.leaves];show yaR _ (yaL _ d));have i:=iH (r:=c) λx row d=>h x row (by rw[Ru.leaves];show yaR _ (yaR _ d));dsimp[tRu,I.fit,I.fits,I.dep,I.deps,Ru.depth,e.1,f.1,i.1];show{by simp,Bf e.2 f.2 i.2}
def Di{s:Str}{b:Int}(h:1<=b/\b<=1000/\s.length<=1000){Q:T->Prop}(q:Q (.im (.str (oL (Ih b.toNat (sL s)).flatten)))):W1 (bW (.im (.str s)) (.im (.int b))) Q:=by unhygienic show{_,if_pos h,q}
def iR:∀ns:!Int,gE (ns.map .int)*>ns
 | []=>rfl
 | n::ns=>by rw[Ir,gE,iR ns];rfl
def FU{a b:!Int}{Q:T->Prop}(q:Q (.im (.bl (HT.lexLt a b)))):W1 (ltT (.im (tPl a)) (.im (tPl b))) Q:=by unhygienic
 show w1 (x:=.im (.bl (HT.lexLt a b))) ?_ q;change ltB (a.map .int) (b.map .int)=_;unfold ltB;rw[iR,iR]
abbrev abc:Str:="abcdef"
def qY:(sL abc).length=6:=by decide +kernel
def abc_len':abc.length=6:=by decide +kernel
def abc_nd:(sL abc).Nodup:=by decide +kernel
def yR{a:!Nat}{c:Nat}:oL a++({#[c]}:Str)=oL (a++[c]):=by
 change Str.mk _=Str.mk _;congr 1;simp[oL]
abbrev eig(z:Str) (c:Nat):Str:=oL ((Ih 7 (sL z)).flatten.take 7++[c])
abbrev En(k:Nat):!Int:=[(k:Int) % 5-2,(k:Int) / 5-2]
abbrev M7:! !Int:=(Ip 25).map En
abbrev Nu:! !Int:=M7.filter λr=>HT.lexLt r [0,0]
def mN:Nu.length=12:=by decide +kernel
def xX:∀r∈M7,r.length=2:=by decide +kernel
def qd{f:Int×Int}{Q:T->T->Prop}(q:∀wh B f',1<=B.length->H6 B->(∀p∈B,p.2.leaves.length<=11/\∀x row,Ru.rd x row∈p.2.leaves->x∈B.map (·.1)/\row.length=2)->Q (.im (aI 2 wh B)) (fT f')):C2 (eB [fT f]) Q:=by
 show MZ [TV {.io 0,fT f},TU,TU,TU,TU,TU,TU,TU,TU,TU,TU,TU,TU] rfl rfl rfl ?_;unfold cF;and_intros;show am ⋯ ⋯ λd1 f a1 b1=>?_;ac_nf;and_intros;show be (ns:=[1,2,6]) a1 b1 λm hm _=>?_;have hm':m=1\/m=2\/m=6:=by exists hm
 replace hm':1<=m/\m<=6:=by omega
 and_intros;show am ⋯ ⋯ λU f a2 b2=>?_;ac_nf;and_intros;show am ⋯ ⋯ λS f a3 b3=>?_;ac_nf;and_intros;show oO ⋯ ⋯ λzs f hzl hzn hzo=>?_;ac_nf;and_intros;show am ⋯ ⋯ λY f a4 b4=>?_;ac_nf;and_intros;show C2.mono (Q:=λX O=>X=.nx/\∃d:!Str,d.length=m.toNat/\d.Nodup/\O=[TV {.io 0,fT f},↥(.int m),↥(.int U),↥(.int S),⇑(.li (d.map .str)),↥(.int Y),TU,TU,TU,TU,TU,TU,TU]) ?_ ?_
 ·(refine aF ?_;and_intros;clear_value h)
  .and_intros;obtain⟨z0,hz0⟩:∃z0,zs[0]?*>z0:={_,Ix ⋯};have hzok:=hzo z0 (ymG hz0);show bp (λ_:Unit=>[TV {.io 0,fT f},↥(.int m),↥(.int U),↥(.int S),⇑(.li (zs.map .str)),↥(.int Y),TU,TU,TU,TU,TU,TU,TU]) I.str (λj _ L=>L=((sL abc).take j).map (eig z0)) ?_;and_intros;show{{by omega,by omega},by cbv,(),by cbv,Xr,λj _ L hj w=>?_,λ_ L w=>?_}
   .and_intros;show cR (emb:=I.str) (ns:=zs) ⋯ (by simp;omega) λz hz=>?_;have:z=z0:=by simp at hz hz0;rw[hz0]at hz;show(IC.inj hz).symm
    subst this;and_intros;show Di {by omega,by omega,by have:=hzok.2.1;omega} ?_;and_intros;show wg (by rw[show∀l:!Nat,(oL l).length=l.length from λl=>by rw[dB,cU]];simp;have h8:z.cps.size<=8:=hzok.2.1;rw[NE];omega) ?_;and_intros;show qm (s:=abc) (by rw[abc_len',NE];omega) ⋯ (by rw[qY];omega) λc hc=>?_;and_intros;rw[cU,jA ⋯];show k9 (by rw[show∀l:!Nat,(oL l).length=l.length from λl=>by rw[dB,cU]];simp;rw[NE];change _+1<=_;omega) ?_;show{eig z c,(),?_,by cbv,?_}
    .show congrArg (λz=>({.ow,.im (.str z)}:R)) yR
    .rw[w,br (by exists hc),Ii];rfl
   .and_intros;show{trivial,L,?_,?_,by cbv}
    .rw[w,Ia,IJ,qY];omega
    .rw[w];show List.Pairwise.map _ (λa b hab e=>hab ?_) (abc_nd.sublist (LC _ _));have:=k7 e;exists this
  .and_intros;show{Xr,zs,hzl,hzn,by cbv}
 rintro X O ⟨rfl,d,hzl',hzn',rfl⟩;and_intros;show bp (λ_:Unit=>[TV {.io 0,fT f},↥(.int m),↥(.int U),↥(.int S),⇑(.li (d.map .str)),↥(.int Y),TU,TU,TU,TU,TU,TU,TU]) tPl (λj _ L=>L=(Ip j).map En) ?_;and_intros;show{{by omega,by omega},by cbv,(),by cbv,Xr,λj _ L hj w=>?_,λ_ L w=>?_}
 .and_intros;show{En j,(),by cbv,by cbv,by rw[w,JW,Ii];rfl}
 have hL':L=M7:=w;subst hL';clear w;and_intros;show C2.mono (Q:=λX O=>X=.nx/\∃g:! !Int,1<=g.length/\g.length<=25/\(∀r∈g,r.length=2)/\O=[TV {.io 0,fT f},↥(.int m),↥(.int U),↥(.int S),⇑(.li (d.map .str)),↥(.int Y),⇑(.li (g.map tPl)),TU,TU,TU,TU,TU,TU]) ?_ ?_
 ·(refine aF ?_;and_intros;clear_value h)
  .and_intros;show pj (λ_:Unit=>[TV {.io 0,fT f},↥(.int m),↥(.int U),↥(.int S),⇑(.li (d.map .str)),↥(.int Y),⇑(.li (M7.map tPl)),TU,TU,TU,TU,TU,TU]) tPl (λj _ L=>L=(M7.take j).filter λr=>HT.lexLt r [0,0]) ?_;and_intros;show{M7.map tPl,Xr,by rw[Ia,NE];decide,by cbv,(),by cbv,Xr,λj x' _ L J w=>?_,λ_ L w=>?_}
   .rw[Io]at J;cases e:M7[j]? with
    | none=>rw[e]at J;cases J
    | some y=>
     rw[e]at J;cases J;and_intros;show FU (a:=y) (b:=[0,0]) ?_;have ht:(M7.take (j+1)).filter (λr=>HT.lexLt r [0,0])=L++[y].filter (λr=>HT.lexLt r [0,0]):=by rw[br e,List.filter_append,<-w]
     and_intros;clear_value c
     .and_intros;show{y,(),Xr,by cbv,by rw[ht,LY,if_pos c];rfl}
     .show{(),by cbv,by rw[ht,LY,c];simp}
   .rw[Ia,Iu (Ig _)]at w;and_intros;show{trivial,Nu,by rw[mN];omega,by rw[mN];omega,λr hr=>xX r (Kg.mp hr).1,?_};rw[show Nu=L from w.symm];try cbv
  .and_intros;show{Xr,M7,by decide,by decide,xX,by cbv}
 rintro X O ⟨rfl,g,hr1,hr25,hr2,rfl⟩;and_intros;have hzm:(d.length:Int)=m:=by omega
 show bY (λs:(Int×Int)×!(Str×Ru)=>[TV {.io 0,fT s.1},↥(.int m),↥(.int U),↥(.int S),⇑(.li (d.map .str)),↥(.int Y),⇑(.li (g.map tPl)),⇑(.li (s.2.map bg)),TU,TU,TU,TU,TU]) (λj s=>s.2.map (·.1)=d.take j/\∀p∈s.2,RuL p.2/\p.2.leaves.length<=11/\∀x row,Ru.rd x row∈p.2.leaves->x∈d/\row.length=2) ?_;and_intros;show{{by omega,by omega},(f,[]),by cbv,{Xr,by simp},λx s hx ⟨o,E⟩=>?_,λs ⟨o,E⟩=>?_}
 .have(f,B):=s;dsimp only at o E|-;have hdl:B.length=x:=by
   have:=congrArg JR o;rw[Ia,IJ]at this;omega
  and_intros;show am (by simp;omega) (by simp;omega) λfi f hf0 hf1=>?_;ac_nf;and_intros;show be (ns:=[11,8]) (by split<;>omega) (by split<;>(simp;try omega)) λy hy _=>?_;have hy':y=11\/y=8:=by exists hy
  replace hy':8<=y/\y<=11:=by omega
  and_intros;show am ⋯ ⋯ λc3 f hc0 hc1=>?_;ac_nf;and_intros;show C2.mono (Q:=λX O=>X=.nx/\∃cn:Int,1<=cn/\cn<=11/\O=[TV {.io 0,fT f},↥(.int m),↥(.int U),↥(.int S),⇑(.li (d.map .str)),↥(.int Y),⇑(.li (g.map tPl)),⇑(.li (B.map bg)),↥(.int x),↥(.int fi),↥(.int cn),TU,TU]) ?_ ?_
  .show aF ?_;and_intros;clear_value c1
   .and_intros;clear_value c2
    .and_intros;show{trivial,1,by omega,by omega,by cbv}
    .and_intros;show{Xr,y-c3,by omega,by omega,by cbv}
   .and_intros;show spF ?_;and_intros;show{Xr,y-c3,by omega,by omega,by cbv}
  rintro X O ⟨rfl,cn,hcn1,hcn2,rfl⟩;and_intros;show bY (λs:(Int×Int)×!Ru=>[TV {.io 0,fT s.1},↥(.int m),↥(.int U),↥(.int S),⇑(.li (d.map .str)),↥(.int Y),⇑(.li (g.map tPl)),⇑(.li (B.map bg)),↥(.int x),↥(.int fi),↥(.int cn),⇑(.li (s.2.map tRu)),TU]) (λj s=>s.2.length=j/\∀r∈s.2,∃y row,r=Ru.rd y row/\row.length=2/\y∈d) ?_;and_intros;show{{by omega,by omega},(f,[]),by cbv,{Xr,by simp},λk s hk ⟨G,u⟩=>?_,λs ⟨G,u⟩=>?_}
  .have(f,ls):=s;dsimp only at G u|-;and_intros;show am ⋯ ⋯ λdn f hn0 hn1=>?_;ac_nf;and_intros;show cR (emb:=I.str) (ns:=d) hn0 ⋯ λz hz=>?_;and_intros;show cR (emb:=tPl) (ns:=g) (JH _ (by first|omega|(simp;omega))) (by have:=Jp (fi+k) (show(0:Int)<(g.length:Int) by omega);exists this) λrow hrow=>?_;and_intros;show bC (is:=ls.map tRu) (i:=tRu (.rd z row)) (by simp;rw[NE];omega) ?_;ac_nf;and_intros;show{(f,ls++[Ru.rd z row]),?_,by simp;omega,aN u {z,row,Xr,hr2 row (ymG hrow),ymG hz}};dsimp only;rw[Ii];try cbv
  have(f,ls):=s;dsimp only at G u|-;have hfl:∀l:!Ru,(∀r∈l,∃y row,r=Ru.rd y row/\row.length=2/\y∈d)->l.flatMap Ru.leaves=l:=λl h=>by
   induction l with
   | nil=>rfl
   | cons r l ih=>
    have(y,row,rfl,_):=h r ymS;rw[Ju,ih λr hr=>h r (ymC _ hr)];rfl
  and_intros;show cR (emb:=I.str) (ns:=d) ⋯ ⋯ λz hz=>?_;and_intros;show om (rs:=ls) (λe=>by rw[e]at G;simp at G;omega) ⋯ (λr hr=>by have(y,row,rfl,_):=u r hr;trivial) λr f N hok=>?_;rw[hfl ls u]at N;ac_nf;and_intros;show bC (is:=B.map bg) (i:=bg (z,r)) (by simp;rw[NE];omega) ?_;ac_nf;and_intros;show{(f,B++[(z,r)]),?_,?_,aN E {{by rw[N];omega,λy row hm=>?_},by rw[N];omega,λy row hm=>?_}}
  .dsimp only;rw[Ii];try cbv
  .dsimp only;rw[Ii,o,br (by exists hz)];rfl
  .rw[N]at hm;have(y',row',e,h2,_):=u _ hm;cases e;omega
  .rw[N]at hm;have(y',row',e,h2,h3):=u _ hm;cases e;show⟨h3,h2⟩
 .have(f,B):=s;dsimp only at o E|-;rw[Iu ⋯]at o;have hdl:B.length=d.length:=by have:=congrArg JR o;rwa [Ia]at this
  and_intros;show am ⋯ ⋯ λwh f hw0 hw1=>?_;ac_nf;and_intros;show q _ B f ⋯ {by omega,by rw[o];show hzn',λp hp=>(E p hp).1} (by rw[o];show λp hp=>(E p hp).2)
def yZ{ns:!Int}{k:Int}(j:ns.length<=1000)(h:0<=k)(o:k<=1000000){Q:T->Prop}(q:∀f,Q (fT f)):C1 (ln [.li (ns.map .int),.im (.int k)]) Q:=by
 show MM [TV {.vw TU TU,.li (ns.map .int)},↥(.int k),TU,TU] rfl rfl rfl ?_;unfold jh;and_intros;show C2.mono (Q:=λc O=>c=.nx/\∃cell:Int,O=[TV {.vw TU TU,.li (ns.map .int)},↥(.int k),↥(.int cell),TU]) ?_ ?_
 ·(refine aF ?_;and_intros;clear_value d)
  .rw[Ia]at d;and_intros;show be (ns:=ns) h d λy e _=>?_;and_intros;show{by trivial,y,by first|trivial|cbv}
  ·(refine aF ?_;and_intros;clear_value g)
   .rw[Ia]at g;and_intros;rw[Ia];show wd ⋯ ?_;and_intros;show be (ns:=ns) (JH _ ⋯) (Jp _ ⋯) λy e _=>?_;and_intros;show{by trivial,_,by first|trivial|cbv}
   .and_intros;show{by trivial,_,by first|trivial|cbv}
 rintro c O ⟨rfl,cell,rfl⟩;and_intros;show C2.mono (Q:=λc O=>c=.nx/\∃a:Int,O=[TV {.vw TU TU,.li (ns.map .int)},↥(.int k),↥(.int cell),↥(.int a)]) ?_ ?_
 .show aF ?_;and_intros;show Bu {by omega,by omega,by decide} ?_;and_intros;clear_value i
  .and_intros;show{by trivial,_,by first|trivial|cbv}
  .and_intros;show{by trivial,_,by first|trivial|cbv}
 rintro c O ⟨rfl,a,rfl⟩;and_intros;have p:=JH cell (show(2147483629:Int)≠0 by omega);have l:=Jp cell (show(0:Int)<2147483629 by omega);show Bu {by omega,by omega,by omega} ?_;and_intros;show q (a,_)
def fA:∀row:!Int,I.doks (row.map I.int)=T1/\I.deps (row.map I.int)=0
 | []=>⟨Xr,Xr⟩
 | x::row=>{by rw[Ir,I.doks,(fA row).1];rfl,by rw[Ir,I.deps,(fA row).2];rfl}
def rn:∀{is:!I},(∀i∈is,i.dok=T1)->I.doks is=T1
 | [],_=>rfl
 | a::is,h=>by rw[I.doks,h a ymS,rn λi c=>h i (ymC _ c)];rfl
def AM(row:!Int):(tPl row).dok=T1/\(tPl row).dep=1:=by
 have:=fA row;unfold tPl;rw[I.dok,I.dep,this.1,this.2];show⟨Xr,Xr⟩
def iG:∀r:Ru,(tRu r).dok=T1
 | .num _=>rfl
 | .rd x d=>by
  have:=(fA d).1;dsimp[tRu,I.dok,I.doks,this];rfl
 | .op s a b=>by dsimp[tRu,I.dok,I.doks,iG a,iG b];rfl
 | .cond a b c=>by dsimp[tRu,I.dok,I.doks,iG a,iG b,iG c];rfl
def uA(p:Str×Ru):(bg p).dok=T1:=by dsimp[bg,I.dok,I.doks,iG];rfl
def uz(c:Str×!Int):(gU c).dok=T1/\(gU c).dep=2:=by
 have:=AM c.2;dsimp[gU,I.dok,I.doks,I.dep,I.deps,this.1,this.2];show{Xr,by simp}
abbrev HM(W:Nat)(a:!(Str×Ru)):Prop:=1<=a.length/\a.length<=6/\(a.map (·.1)).Nodup/\∀p∈a,p.2.leaves.length<=11/\∀e∈rds p.2,e.1∈a.map (·.1)/\e.2.length=W
def AN(r:Ru):(tRu r).dep<=r.depth+2:=by
 induction r with
 | num=>simp[tRu,I.dep,I.deps,Ru.depth]
 | rd x e=>
  have:=(fA e).2;dsimp[tRu,I.dep,I.deps,this];omega
 | op s a b d f=>dsimp[tRu,I.dep,I.deps,Ru.depth];show Bg d f
 | cond a b c d f g=>dsimp[tRu,I.dep,I.deps,Ru.depth];show Bf d f g
def l7{w wh:Int}{a:!(Str×Ru)}(h:∀p∈a,p.2.leaves.length<=11):I.doks [.int w,.int wh,.tup (a.map bg)]=T1/\I.deps [.int w,.int wh,.tup (a.map bg)]<=15:=by
 have e:I.doks (a.map bg)=T1:=rn λi c=>by have(p,_,rfl):=ID.mp c;show uA p
 have f:I.deps (a.map bg)<=14:=m7 λi c=>by
  have(p,d,rfl):=ID.mp c;have:=h p d;have:=Ru.depth_lt p.2;have:=AN p.2;dsimp[bg,I.dep,I.deps];omega
 dsimp[I.doks,I.dok,I.deps,I.dep,e];show{Xr,by omega}
def Dk{is js:!I}{Q:T->Prop}(h:I.doks is=T1/\I.doks js=T1/\I.deps is<=50)(q:Q (.im (.bl (~~~decide (is=js))))):W1 (neT (.im (.tup is)) (.im (.tup js))) Q:={_,by dsimp[neT,eqB,eqI];rw[if_pos h];rfl,q}
def tH{w wh:Int}{W:Nat}{a:!(Str×Ru)}(h:HM W a)(j:W<=1000):(aI w wh a).fit=T1:=by
 have f:I.fits (a.map bg)=T1:=m9 λi g=>by
  have(p,e,rfl):=ID.mp g;have:=(iH (r:=p.2) λx c d=>by
   have:=((h.2.2.2 p e).2 (x,c) (Kk.mpr {_,d,Xr})).2;dsimp only at this;omega).1
  dsimp[bg,I.fit,I.fits,this];rfl
 have l:=h.2.1;dsimp[aI,I.fit,I.fits,f,Ia];simp;omega
structure Tb(w:Nat)(t:! !Int):Prop where
 n:1<=w/\w<=3
 l:t.length=w
 r:∀r∈t,r.length=w/\∀x∈r,-4<=x/\x<=4
def Tb.sq(h:Tb w t):Sq t:={by rw[h.l];show h.n.2,λr a=>{by rw[h.l];show(h.r r a).1,λx c=>by have:=(h.r r a).2 x c;unfold BnW;omega}}
def Tb.bw(h:Tb w t):t.length<=1000/\∀r∈t,r.length<=1000/\∀x∈r,BnW x:={by have:=h.n;rw[h.l];omega,λr a=>{by have:=h.n;rw[(h.r r a).1];omega,(h.sq.2 r a).2}}
abbrev One(t:! !Int):Prop:=bU 24 t=1\/bU 24 t = -1
abbrev tuR(t:! !Int) (r:Ru):Ru:=r.mp λ_ a=>cx t a
abbrev tuD(t:! !Int) (p:Str×Ru):Str×Ru:=(p.1,tuR t p.2)
section
variable {w:Nat}{W wh:Int}{t:! !Int}{ds:!(Str×Ru)}{r:Ru}{Q:T->Prop}{QX:Str->Prop}
def lB(h:Tb w t)(d:r.leaves.length<=1000)(q:Q (.im (tRu (tuR t r)))):C1 (dy [.im (tRu r),.im (.tup (t.map tPl))]) Q:=by
 have f:=rZ r;show MM [↥(tRu r),↥(.tup (t.map tPl))] rfl rfl rfl ?_;unfold cu;and_intros;show bo (λ_:Unit=>[↥(tRu r),↥(.tup (t.map tPl))]) xV (λj _ L=>L=((rds r).take j).map (rF λ_ c=>cx t c)) ?_;and_intros;show t8 d ?_;show{(rds r).map tR2,Xr,by simp;rw[NE];omega,by cbv,(),by cbv,Xr,λj x _ l e a=>?_,λ_ l a=>?_}
 .have(p,g,rfl):=ar e;rw[tR2];and_intros;show mr (p:=p.2) h.bw.1 h.bw.2 ?_;show{cx t p.2,(),Xr,by cbv,by rw[a,br g,Ii];rfl}
 .rw[Ia,IK]at a;subst a;and_intros;show n9 d ?_;and_intros;show q
def vK(h:Tb w t)(d:One t)(q:Q (.im .non)):C1 (eD [.im (.tup (t.map tPl))]) Q:=by
 show MM [↥(.tup (t.map tPl))] rfl rfl rfl ?_;unfold dW;show aF ?_;and_intros;show rl (n:=23) (λv a c=>u6 23 v a (by have:=a.1;omega)) h.sq ?_;and_intros;show qq (is:=[.int 1,.int (-1)]) {Xr,by decide,by decide} ?_;have:decide (I.int (bU (23+1) t)∈[I.int 1,.int (-1)])=T1:=decide_eq_true (by rcases d with e|e<;>rw[e]<;>simp);rw[this]
 (repeat first|infer_instance|refine spT ?_|refine spF ?_|refine aF ?_)
 show q
def vJ(h:Tb w t)(d:¬One t)(q:QX "NoTurn"):C1 (cX [.im (.tup (t.map tPl))]) QX:=by
 show C1.of {Xr,?_};change WS bV [↥(.tup (t.map tPl))] _;unfold bV;show aF ?_;and_intros;show rl (n:=23) (λv a c=>u6 23 v a (by have:=a.1;omega)) h.sq ?_;and_intros;show qq (is:=[.int 1,.int (-1)]) {Xr,by decide,by decide} ?_;have:decide (I.int (bU (23+1) t)∈[I.int 1,.int (-1)])=TZ:=decide_eq_false λz=>d (by simpa[One]using z);rw[this]
 (repeat first|infer_instance|refine spT ?_|refine spF ?_|refine aF ?_)
 show HV (Bh q)
def pQ(h:Tb w t)(d:¬One t)(q:QX "NoTurn"):C1 (f9 [.im (aI W wh ds),.im (.tup (t.map tPl))]) QX:=by
 show C1.of {Xr,?_};change WS dL [↥(aI W wh ds),↥(.tup (t.map tPl)),TU,TU,TU] _;unfold dL;and_intros;show AS ?_;and_intros;show vJ h d (rz ?_);show Bh q
def jD(h:Tb w t)(d:One t)(g:ds.length<=1000)(f:∀p∈ds,p.2.leaves.length<=1000)(q:Q (.im (aI W wh (ds.map (tuD t))))):C1 (eE [.im (aI W wh ds),.im (.tup (t.map tPl))]) Q:=by
 show MM [↥(aI W wh ds),↥(.tup (t.map tPl)),TU,TU,TU] rfl rfl rfl ?_;unfold fV;and_intros;show vK h d ?_;rw[aI];and_intros;show bo (λ_:Unit=>[↥(.tup [.int W,.int wh,.tup (ds.map bg)]),↥(.tup (t.map tPl)),↥(.int W),↥(.int wh),↥(.tup (ds.map bg))]) bg (λj _ L=>L=(ds.take j).map (tuD t)) ?_;and_intros;show{ds.map bg,Xr,by simp;rw[NE];omega,by cbv,(),by cbv,Xr,λj x _ l e a=>?_,λ_ l a=>?_}
 .have(p,c,rfl):=ar e;rw[bg];and_intros;show lB h (f p (ymG c)) ?_;and_intros;show{tuD t p,(),Xr,by cbv,by rw[a,br c,Ii];rfl}
 .rw[Ia,IK]at a;subst a;and_intros;show q
def HM.turned(h:HM w ds)(s:Tb w t):HM w (ds.map (tuD t)):=by
 have f:(ds.map (tuD t)).map (·.1)=ds.map (·.1):=by rw[JT];rfl
 have(J,E,j,i):=h;show{by rw[Ia];show J,by rw[Ia];show E,by rw[f];show j,λp g=>?_};have(d,B,rfl):=ID.mp g;have(G,q):=i d B;show{by change(d.2.mp _).leaves.length<=11;rw[dP];show G,λe z=>?_};have a:e∈rds (d.2.mp λ_ c=>cx t c):=z;rw[jS]at a;have(o,u,rfl):=ID.mp a;rw[f];show{(q o u).1,by change(cx t o.2).length=w;unfold cx;rw[Ia];show s.l}
end
def oy{a b:!Int}(s:a.length<=1000)(h:∀x∈a,BnW x){Q:T->Prop}(q:Q (.im (.int (dot a b)))):C1 (iA [.im (.tup (a.map .int)),.im (.tup (b.map .int))]) Q:=by
 show MM [↥(.tup (a.map .int)),↥(.tup (b.map .int))] rfl rfl rfl ?_;unfold ji;and_intros;show fG (λ_:Unit=>[↥(.tup (a.map .int)),↥(.tup (b.map .int))]) I.int (λj _ l=>l=((a.zip b).take j).map λp=>p.1*p.2) ?_;and_intros;show{_,_,TZ,TZ,a.map .int,b.map .int,Xr,Xr,Xr,by simp;rw[NE];omega,by cbv,(),by cbv,Xr,λj x y _ l i o d=>?_,λ_ l d=>?_}
 .have(f,c,rfl):=ar i;have(g,e,rfl):=ar o;and_intros;have r:=h f (ymG c);unfold BnW at r;show cS (gJ ⋯ ⋯) ?_;show{f*g,(),Xr,by cbv,?_};rw[d,Jc,show(a.zip b)[j]?*>(f,g)from by rw[IN];show⟨c,e⟩];simp
 .rw[Ia,Ia,<-JF,IK]at d;subst d;and_intros;show oR ?_;and_intros;show q
def vM{a b:!Int}(s:a.length<=1000)(h:∀x∈a,BnW x){Q:T->Prop}(q:Q (.im (.int (dot a b)))):C1 (iA [.im (.tup (a.map .int)),.li (b.map .int)]) Q:=by
 show MM [↥(.tup (a.map .int)),TV {.vw TU TU,.li (b.map .int)}] rfl rfl rfl ?_;unfold ji;and_intros;show fG (λ_:Unit=>[↥(.tup (a.map .int)),TV {.vw TU TU,.li (b.map .int)}]) I.int (λj _ l=>l=((a.zip b).take j).map λp=>p.1*p.2) ?_;and_intros;show{_,_,TZ,T1,a.map .int,b.map .int,Xr,Xr,Xr,by simp;rw[NE];omega,by cbv,(),by cbv,Xr,λj x y _ l i o d=>?_,λ_ l d=>?_}
 .have(f,c,rfl):=ar i;have(g,e,rfl):=ar o;and_intros;have r:=h f (ymG c);unfold BnW at r;show cS (gJ ⋯ ⋯) ?_;show{f*g,(),Xr,by cbv,?_};rw[d,Jc,show(a.zip b)[j]?*>(f,g)from by rw[IN];show⟨c,e⟩];simp
 .rw[Ia,Ia,<-JF,IK]at d;subst d;and_intros;show oR ?_;and_intros;show q
def nr{w:Nat}{t:! !Int}(p:Tb w t):∀(n:Nat) (r:Ru),r.depth<n->∀{Q:T->Prop},Q (.im (tRu (tuR t r)))->C1 (eA n [.im (tRu r),.im (.tup (t.map tPl))]) Q
 | 0,r,u,Q,q=>absurd u (KM _)
 | n+1,r,u,Q,q=>by
  show MM [↥(tRu r),↥(.tup (t.map tPl)),TU] rfl rfl rfl ?_;unfold fS;cases r with
  | num k=>
   rw[tRu];and_intros
   (refine aF ?_;and_intros;clear_value h)
   .and_intros;show q
   .show absurd rfl h
  | rd x f=>
   rw[tRu];and_intros
   (refine aF ?_;and_intros;clear_value h)
   .show absurd h (by decide +kernel)
   and_intros
   (refine aF ?_;and_intros;clear_value o)
   .and_intros;show bo (λ_:Unit=>[↥(.tup [.str "at",.str x,.tup (f.map .int)]),↥(.tup (t.map tPl)),TU]) I.int (λj _ l=>l=cx (t.take j) f) ?_;and_intros;show{t.map tPl,Xr,by rw[Ia,NE];have:=p.bw.1;omega,by cbv,(),by cbv,Xr,λj x _ l J i=>?_,λ_ l i=>?_}
    .have(r,B,rfl):=ar J;have(G,S):=p.bw.2 r (ymG B);and_intros;show oy (a:=r) (b:=f) G S ?_;show{dot r f,(),Xr,by cbv,?_};unfold cx at i|-;rw[i,Jc,B,Ii];rfl
    .rw[Ia,IK]at i;subst i;and_intros;show q
   .show absurd rfl o
  | op s a b=>
   have E:a.depth<n/\b.depth<n:=by
    show Mi.1 (Lj u)
   rw[tRu];and_intros
   (refine aF ?_;and_intros;clear_value h)
   .show absurd h (by decide +kernel)
   and_intros
   (refine aF ?_;and_intros;clear_value o)
   .show absurd o (by decide +kernel)
   and_intros;dsimp[decide_true,if_true,Int.reduceAdd];show gr (is:=[.str "op",.str s,tRu a,tRu b]) (show ¬((0:Nat)=0/\2=4) by decide) ?_;and_intros;show bo (λ_:Unit=>[↥(.tup [.str "op",.str s,tRu a,tRu b]),↥(.tup (t.map tPl)),↥(.int 2)]) tRu (λj _ L=>L=([a,b].take j).map (tuR t)) ?_;and_intros;show gr (is:=[.str "op",.str s,tRu a,tRu b]) (show ¬((2:Nat)=0/\4=4) by decide) ?_;show{[a,b].map tRu,Xr,by simp;rw[NE];omega,by cbv,(),by cbv,Xr,λj N _ L g d=>?_,λ_ L d=>?_}
   .have(y,e,rfl):=ar g;have z:y=a\/y=b:=by have:=ymG e;exists this
    and_intros;show nr p n y (by rcases z with rfl|rfl<;>omega) ?_;show{tuR t y,(),Xr,by cbv,by rw[d,Ks,e];simp}
   .rw[Ia,Iu (Ig _)]at d;subst d;and_intros;show lb (by simp[bS];rw[NE];omega) ?_;and_intros;show q
  | cond a b c=>
   have E:a.depth<n/\b.depth<n/\c.depth<n:=by
    have:=Mi.1 (Lj u);show{this.1,Mi.1 this.2}
   rw[tRu];and_intros
   (refine aF ?_;and_intros;clear_value h)
   .show absurd h (by decide +kernel)
   and_intros
   (refine aF ?_;and_intros;clear_value o)
   .show absurd o (by decide +kernel)
   and_intros;rw[show decide (("if" : Str) = "op")=TZ by decide +kernel];dsimp[JC,if_false,Int.add_zero];show gr (is:=[.str "if",tRu a,tRu b,tRu c]) (show ¬((0:Nat)=0/\1=4) by decide) ?_;and_intros;show bo (λ_:Unit=>[↥(.tup [.str "if",tRu a,tRu b,tRu c]),↥(.tup (t.map tPl)),↥(.int 1)]) tRu (λj _ L=>L=([a,b,c].take j).map (tuR t)) ?_;and_intros;show gr (is:=[.str "if",tRu a,tRu b,tRu c]) (show ¬((1:Nat)=0/\4=4) by decide) ?_;show{[a,b,c].map tRu,Xr,by simp;rw[NE];omega,by cbv,(),by cbv,Xr,λj N _ L g d=>?_,λ_ L d=>?_}
   .have(y,e,rfl):=ar g;have z:y=a\/y=b\/y=c:=by have:=ymG e;exists this
    and_intros;show nr p n y (by rcases z with rfl|rfl|rfl<;>omega) ?_;show{tuR t y,(),Xr,by cbv,by rw[d,Ks,e];simp}
   .rw[Ia,Iu (Ig _)]at d;subst d;and_intros;show lb (by simp[bS];rw[NE];omega) ?_;and_intros;show q
abbrev Sm(x:Int):Prop:=-4<=x/\x<=4
def pK{a b c d e f:Int}(i:Sm a)(p:Sm b)(o:Sm c){Q:T->Prop}(q:Q (.li ([b*f-c*e,c*d-a*f,a*e-b*d].map .int))):C1 (gO [.im (.tup ([a,b,c].map .int)),.im (.tup ([d,e,f].map .int))]) Q:=by
 unfold Sm at i p o;show MM [↥(.tup ([a,b,c].map .int)),↥(.tup ([d,e,f].map .int)),TU] rfl rfl rfl ?_;unfold eP;and_intros;show bo (λ_:Unit=>[↥(.tup ([a,b,c].map .int)),↥(.tup ([d,e,f].map .int)),⇑(.li [.tup [.int 1,.int 2],.tup [.int 2,.int 0],.tup [.int 0,.int 1]])]) I.int (λj _ l=>l=[b*f-c*e,c*d-a*f,a*e-b*d].take j) ?_;and_intros;show{_,Xr,by rw[NE];decide,by cbv,(),by cbv,Xr,λj x _ l g h=>?_,λ_ l h=>?_}
 .match j,g with
  | 0,g=>
   cases g;and_intros;show cS (gJ ⋯ ⋯) ?_;and_intros;show cS (gJ ⋯ ⋯) ?_;and_intros;show{_,(),Xr,by cbv,by rw[h];rfl}
  | 1,g=>
   cases g;and_intros;show cS (gJ ⋯ ⋯) ?_;and_intros;show cS (gJ ⋯ ⋯) ?_;and_intros;show{_,(),Xr,by cbv,by rw[h];rfl}
  | 2,g=>
   cases g;and_intros;show cS (gJ ⋯ ⋯) ?_;and_intros;show cS (gJ ⋯ ⋯) ?_;and_intros;show{_,(),Xr,by cbv,by rw[h];rfl}
  | j+3,g=>cases g
 .subst h;and_intros;show q
def zh{w:Nat}{t:! !Int}(s:Tb w t){Q:T->Prop}(q:Q (.im (.int (bU 24 t)))):C1 (du [.im (.tup (t.map tPl))]) Q:=by
 have(G,u,j):=s;show MM [↥(.tup (t.map tPl))] rfl rfl rfl ?_;unfold cg;rcases uB (t:=t) ⋯ ⋯ (λr B=>by rw[(j r B).1,u])with⟨a,rfl⟩|⟨a,b,c,d,rfl⟩|⟨a,b,c,d,e,f,g,h,i,rfl⟩
 .and_intros
  (refine aF ?_;and_intros;clear_value z)
  .and_intros;rw[u5]at q;show q
  .show absurd rfl z
 .and_intros
  (refine aF ?_;and_intros;clear_value z)
  .show absurd z ∅
  and_intros
  (refine aF ?_;and_intros;clear_value z)
  .have o:=(j [a,b] ∅).2 a ∅;have E:=(j [a,b] ∅).2 b ∅;and_intros;show cS (gJ ⋯ ⋯) ?_;and_intros;show cS (gJ ⋯ ⋯) ?_;and_intros;rw[yU]at q;show q
  .show absurd rfl z
 .and_intros
  (refine aF ?_;and_intros;clear_value z)
  .show absurd z ∅
  and_intros
  (refine aF ?_;and_intros;clear_value z)
  .show absurd z ∅
  have o:=(j [a,b,c] ∅).2;have l:=(j [d,e,f] ∅).2;and_intros;show pK (l d ∅) (l e ∅) (l f ∅) ?_;and_intros;show vM (a:=[a,b,c]) ∅ (λx p=>by have:=o x p;unfold BnW;omega) ?_;and_intros;rw[Cb]at q;have:dot [a,b,c] [e*i-f*h,f*g-d*i,d*h-e*g]=a*(e*i-f*h)-b*(d*i-f*g)+c*(d*h-e*g):=by simp[dot];grind
  rw[this];show q
def sP{t y:Int}:∀{a b:!Int},y∈zpl t a b->∃u v,u∈a/\v∈b/\y=u+t*v
 | [],_,h=>by simp[zpl]at h
 | _::_,[],h=>by simp[zpl]at h
 | u::a,v::b,h=>by
  rw[show zpl t (u::a) (v::b)=(u+t*v)::zpl t a b from rfl]at h;rcases ycM h with e|h;show⟨u,v,ymS,ymS,e⟩
  .have(p,q,f,d,c):=sP h;show{p,q,ymC _ f,ymC _ d,c}
def rP{w:Nat}{ps:!(Int×Int)}(h:Nf w ps):∀r∈plT w ps,r.length=w/\∀x∈r,-1<=x/\x<=1:=λr c=>by
 have(p,d,rfl):=ID.mp c;show{eT,λx a=>?_};have(k,_,rfl):=ID.mp a;rcases h.s p d with e|e<;>rw[e]<;>split<;>decide
def Nf.tb{w:Nat}{ps:!(Int×Int)}(h:Nf w ps)(d:1<=w)(a:w<=3):Tb w (plT w ps):={⟨d,a⟩,(h.good d a).2,λr c=>{(rP h r c).1,λx e=>by have:=(rP h r c).2 x e;omega}}
def yp{w:Int}{f:Int×Int}(h1:1<=w)(h3:w<=3){Q:T->T->Prop}(q:∀t f',Tb w.toNat t->Q (.im (.tup (t.map tPl))) (fT f')):C2 (jP [fT f,.im (.int w)]) Q:=by
 show MZ [TV {.io 0,fT f},↥(.int w),TU,TU,TU,TU,TU] rfl rfl rfl ?_;unfold il;and_intros;show am ⋯ ⋯ λE f m0 m1=>?_;ac_nf;and_intros;show gL h1 h3 λc f hp=>?_;have hpl:=(hp.tb ⋯ ⋯).l;have o:=rP hp;ac_nf;and_intros;show am ⋯ ⋯ λi f i0 i1=>?_;ac_nf;and_intros;show am ⋯ ⋯ λj f j0 j1=>?_;ac_nf;and_intros;show am ⋯ ⋯ λx f x0 x1=>?_;ac_nf;and_intros;show C2.mono (Q:=λG O=>G=.nx/\∃f t,Tb w.toNat t/\(¬E=0->t=plT w.toNat c)/\O=[TV {.io 0,fT f},↥(.int w),↥(.int E),⇑(.li (t.map tPl)),↥(.int i),↥(.int j),↥(.int (x-3))]) ?_ ?_
 .show aF ?_;and_intros;clear_value hz
  .and_intros;show bp (λf:Int×Int=>[TV {.io 0,fT f},↥(.int w),↥(.int E),⇑(.li ((plT w.toNat c).map tPl)),↥(.int i),↥(.int j),↥(.int (x-3))]) tPl (λk _ L=>L.length=k/\∀r∈L,r.length=w.toNat/\∀y∈r,-4<=y/\y<=4) ?_;and_intros;show{{by omega,by omega},by cbv,f,by cbv,{Xr,by simp},λk f L hk hL=>?_,λf L hL=>?_}
   .have(h,g):=hL;and_intros;show bp (λf:Int×Int=>[TV {.io 0,fT f},↥(.int w),TU,TU,TU,TU,TU,↥(.int k)]) I.int (λk _ l=>l.length=k/\∀y∈l,-4<=y/\y<=4) ?_;and_intros;show{{by omega,by omega},by cbv,f,by cbv,{Xr,by simp},λm f l hm hl=>?_,λf l hl=>?_}
    .have(N,e):=hl;and_intros;show am ⋯ ⋯ λd f d0 d1=>?_;ac_nf;and_intros;show{d-3,f,Xr,by cbv,by simp[N],aN e ⋯}
    .have(N,e):=hl;and_intros;show{l,f,Xr,by cbv,by simp[h],aN g {by omega,e}}
   have(h,g):=hL;and_intros;show{by trivial,f,L,{{by omega,by omega},h,g},λz=>absurd hz z,by cbv}
  .and_intros;show{by trivial,f,plT w.toNat c,hp.tb ⋯ ⋯,λ_=>rfl,by cbv}
 rintro G O ⟨rfl,f,t,X,hz,rfl⟩;and_intros;show C2.mono (Q:=λG O=>G=.nx/\∃f t,Tb w.toNat t/\O=[TV {.io 0,fT f},↥(.int w),↥(.int E),⇑(.li (t.map tPl)),↥(.int i),↥(.int j),↥(.int (x-3))]) ?_ ?_
 .show aF ?_;and_intros;clear_value c1
  ·(repeat first|infer_instance|refine spT ?_|refine spF ?_|refine aF ?_)
   clear_value c2
   ·(repeat first|infer_instance|refine spT ?_|refine spF ?_|refine aF ?_)
    clear_value c3
    .have htt:=hz ⋯;subst htt
     (repeat first|infer_instance|refine spT ?_|refine spF ?_|refine aF ?_)
     show fG (λ_:Unit=>[TV {.io 0,fT f},↥(.int w),↥(.int E),⇑(.li ((plT w.toNat c).map tPl)),↥(.int i),↥(.int j),↥(.int (x-3))]) I.int (λm _ l=>∃r s,(plT w.toNat c)[i.toNat]?*>r/\(plT w.toNat c)[j.toNat]?*>s/\l=zpl (x-3) (r.take m) (s.take m)) ?_;and_intros;show cR (emb:=tPl) (ns:=plT w.toNat c) i0 ⋯ λr B=>?_;and_intros;show cR (emb:=tPl) (ns:=plT w.toNat c) j0 ⋯ λs J=>?_;and_intros;have Y:=o r (ymG B);have S:=o s (ymG J);show{_,_,TZ,TZ,r.map .int,s.map .int,Xr,Xr,Xr,by simp;rw[NE];omega,by cbv,(),by cbv,⟨r,s,B,J,Xr⟩,λm y y' _ l U hy' hP=>?_,λ_ l hP=>?_}
     .have(a,ha,rfl):=ar U;have(b,hb,rfl):=ar hy';have(r',s',p,es,hQ):=hP;rw[B]at p;rw[J]at es;cases (p);cases (es);and_intros;show cS (gJ ⋯ ⋯) ?_;and_intros;show{a+(x-3)*b,(),Xr,by cbv,r,s,B,J,by rw[hQ,yM ha hb]}
     .have(r',s',p,es,hQ):=hP;rw[B]at p;rw[J]at es;cases (p);cases (es);rw[Ia,Ia,Bc]at hQ;subst hQ;and_intros;have hir:i.toNat<(plT w.toNat c).length:=by omega
      show qr (n:=i.toNat) (by change i=_;omega) (by rw[Ia];show hir) ?_;rw[show((plT w.toNat c).map tPl).set i.toNat (.tup ((zpl (x-3) r s).map .int))=((plT w.toNat c).set i.toNat (zpl (x-3) r s)).map tPl from LL.symm];ac_nf;and_intros;show{by trivial,f,(plT w.toNat c).set i.toNat (zpl (x-3) r s),{{by omega,by omega},by rw[IF];show hpl,λu hu=>?_},by cbv};rcases List.mem_or_eq_of_mem_set hu with hu|rfl
      .have(g1,g2):=o u hu;show{g1,λy U=>by have:=g2 y U;omega}
      .show{by unfold zpl;rw[List.length_zipWith,Y.1,S.1];omega,λy U=>?_};have(a,b,ha,hb,rfl):=sP U;have h1:=Y.2 a ha;have h2:=S.2 b hb;have:b = -1\/b=0\/b=1:=by omega
       rcases this with rfl|rfl|rfl<;>omega
    ·(repeat first|infer_instance|refine spT ?_|refine spF ?_|refine aF ?_)
     show{by trivial,f,t,X,by cbv}
   ·(repeat first|infer_instance|refine spT ?_|refine spF ?_|refine aF ?_)
    show{by trivial,f,t,X,by cbv}
  ·(repeat first|infer_instance|refine spT ?_|refine spF ?_|refine aF ?_)
   show{by trivial,f,t,X,by cbv}
 rintro G O ⟨rfl,f,t,X,rfl⟩;and_intros;show q t f X
section
variable {w:Nat}{W wh:Int}{t:! !Int}{ds:!(Str×Ru)}
def ee{a:!Str}{x y:Str}{b:Bool}{Q:T->Prop}(h:(a.contains x&&a.contains y)=T1)(e:oq x y=b)(q:Q (.im (.bl b))):W1 (gF a y (.im (exI x))) Q:=FT h (by rw[e];show q)
def uX{z:Str}{pl:!Int}(h:pl.length<=1000):(gU (z,pl)).fit=T1:=by
 have a:=oo pl ⋯;dsimp[gU,tPl,I.fit,I.fits]at a|-;rw[a.1];simp
def qF(h:Tb w t)(d:¬One t){Q:T->Prop}(q:Q (.im (.bl T1))):C1 (gP [.im (aI W wh ds),.im (.tup (t.map tPl))]) Q:=by
 show MM [↥(aI W wh ds),↥(.tup (t.map tPl)),TU,TU,TU] rfl rfl rfl ?_;unfold gH;and_intros;show Hd ?_;and_intros;show pQ h d ?_;show gu (by rfl') ?_;and_intros;show y6 ?_;and_intros;show ee (b:=TZ) (by decide) (by decide) ?_;and_intros;show ee (b:=TZ) (by decide) (by decide) ?_;and_intros;show ee (b:=TZ) (by decide) (by decide) ?_;and_intros;show ee (b:=TZ) (by decide) (by decide) ?_;and_intros;show ee (b:=TZ) (by decide) (by decide) ?_;and_intros;show ee (b:=TZ) (by decide) (by decide) ?_;and_intros;show jI (by rw[NE];decide) ?_;and_intros;show ee (b:=TZ) (by decide) (by decide) ?_;and_intros;show ee (b:=TZ) (by decide) (by decide) ?_;and_intros;show ee (b:=TZ) (by decide) (by decide) ?_;and_intros;show jI (by rw[NE];decide) ?_;and_intros;show aF ?_;and_intros;show FQ {by decide,by decide,by decide} ?_;and_intros;show spF ?_;and_intros;show ee (b:=TZ) (by decide) (by decide) ?_;and_intros;show spF ?_;and_intros;show ee (b:=T1) (by decide) (by decide) ?_;and_intros;show spT ?_;and_intros;show FS (by decide) ?_;and_intros;show q
def qG{ps:! !Int}(h:Tb w t)(J:HM w ds)(s:∀p∈ps,p.length=w){Q:T->Prop}(q:Q (.im (.bl T1))):C1 (f7 [.im (aI W wh ds),.im (.tup (t.map tPl)),.li (ps.map tPl)]) Q:=by
 have(d1,d6,dn,dr):=id J;have hw:=h.n;show MM [↥(aI W wh ds),↥(.tup (t.map tPl)),TV {.vw TU TU,.li (ps.map tPl)},TU,TU,TU] rfl rfl rfl ?_;unfold dI;show lF (aF ?_);and_intros;show zh h ?_;and_intros;show qq (is:=[.int 1,.int (0-1)]) {Xr,by decide,by decide} ?_;by_cases d:One t
 .have:decide (I.int (bU 24 t)∈[I.int 1,.int (0-1)])=T1:=decide_eq_true (by rcases d with e|e<;>rw[e]<;>simp);rw[this]
  (repeat first|infer_instance|refine spT ?_|refine spF ?_|refine aF ?_)
  show bo (λ_:Unit=>[↥(aI W wh ds),↥(.tup (t.map tPl)),TV {.vw TU TU,.li (ps.map tPl)},TU,TU,TU]) bg (λj _ L=>L=(ds.take j).map (tuD t)) ?_;rw[aI];and_intros;show{ds.map bg,Xr,by simp;rw[NE];omega,by cbv,(),by cbv,Xr,λj x _ l B c=>?_,λ_ l c=>?_}
  .have(p,g,rfl):=ar B;have hl:=(dr p (ymG g)).1;have:=Ru.depth_lt p.2;rw[bg];and_intros;show nr h 24 p.2 ⋯ ?_;and_intros;show{tuD t p,(),Xr,by cbv,by rw[c,br g,Ii];rfl}
  rw[Ia,IK]at c;subst c;and_intros;show aF ?_;and_intros;show jD h d ⋯ (λp g=>by have:=(dr p g).1;omega) ?_;have N:=J.turned h;and_intros;show C1.mono (oa 24 (aI W wh (ds.map (tuD t))) (by have:=(l7 (w:=W) (wh:=wh) λp g=>(N.2.2.2 p g).1).2;rw[aI,I.dep];omega) (tH N ⋯)) λt E=>?_;subst E;and_intros;show spF ?_;and_intros;show n5 (λ_:Unit=>[↥(aI W wh ds),↥(.tup (t.map tPl)),TV {.vw TU TU,.li (ps.map tPl)},↥(aI W wh (ds.map (tuD t))),TU,TU]) (λ_ _=>True) ?_;rw[show aI W wh ds=.tup [.int W,.int wh,.tup (ds.map bg)]from rfl];and_intros;show{ps.map tPl,Xr,by cbv,(),by cbv,trivial,λi y _ Y _=>?_,λ_ _=>?_}
  .have(f,o,rfl):=ar Y;have S:=s f (ymG o);and_intros;show wa (emb:=bg) (ns:=ds) (L5 0) ⋯ λu hdk=>?_;rw[bg];and_intros;show aF ?_;and_intros;show lA (z:=u.1) (p:=f) h.bw.1 h.bw.2 ?_;and_intros;show bo (λ_:Unit=>[↥(aI W wh ds),↥(.tup (t.map tPl)),TV {.vw TU TU,.li (ps.map tPl)},↥(aI W wh (ds.map (tuD t))),↥(tPl f),↥(gU (u.1,f))]) I.int (λk _ L=>L=cx (t.take k) f) ?_;and_intros;show{t.map tPl,Xr,by rw[Ia,NE];have:=h.bw.1;omega,by cbv,(),by cbv,Xr,λk x _ l B c=>?_,λ_ l c=>?_}
   .have(r,G,rfl):=ar B;have(U,X):=h.bw.2 r (ymG G);and_intros;show oy (a:=r) (b:=f) U X ?_;show{dot r f,(),Xr,by cbv,?_};unfold cx at c|-;rw[c,Jc,G,Ii];rfl
   rw[Ia,IK]at c;subst c;and_intros;show C1.mono (oa 24 (gU (u.1,cx t f)) (by rw[(uz _).2];decide) (uX (by unfold cx;rw[Ia];have:=h.bw.1;omega))) λt E=>?_;subst E;and_intros;show spF ?_;and_intros;show{(),by cbv,trivial}
  .and_intros;show q
 .have:decide (I.int (bU 24 t)∈[I.int 1,.int (0-1)])=TZ:=decide_eq_false λz=>d (by simpa[One]using z);rw[this]
  (repeat first|infer_instance|refine spT ?_|refine spF ?_|refine aF ?_)
  show qF h d ?_;and_intros;show q
end
abbrev trL(t:! !Int):! !Int:=(Ip t.length).map λj=>t.map λr=>r.getD j 0
abbrev grm(t:! !Int):! !Int:=(trL t).map λp=>(trL t).map λr=>dot p r
def og3:∀a∈[(0:Int),1,2],∀b∈[(0:Int),1,2],∀c∈[(0:Int),1,2],∀s∈[(1:Int),-1],∀t∈[(1:Int),-1],∀u∈[(1:Int),-1],a≠b->a≠c->b≠c->grm [uni 3 a s,uni 3 b t,uni 3 c u]=[[1,0,0],[0,1,0],[0,0,1]]:=by decide +kernel
def og2:∀a∈[(0:Int),1],∀b∈[(0:Int),1],∀s∈[(1:Int),-1],∀t∈[(1:Int),-1],a≠b->grm [uni 2 a s,uni 2 b t]=[[1,0],[0,1]]:=by decide +kernel
def og1:∀s∈[(1:Int),-1],grm [uni 1 0 s]=[[1]]:=by decide +kernel
def og3'{a b c d e f g h i x y z:Int}(o:grm [[a,b,c],[d,e,f],[g,h,i]]=[[1,0,0],[0,1,0],[0,0,1]]):cx (trL [[a,b,c],[d,e,f],[g,h,i]]) (cx [[a,b,c],[d,e,f],[g,h,i]] [x,y,z])=[x,y,z]:=by
 simp[grm,trL,dot,Ip,Ip.loop]at o;obtain⟨⟨u,q,j⟩,⟨s,w,l⟩,p,B,r⟩:=o;simp[cx,trL,dot,Ip,Ip.loop];show{?_,?_,?_}
 .have:a*(a*x+(b*y+c*z))+(d*(d*x+(e*y+f*z))+g*(g*x+(h*y+i*z)))=(a*a+(d*d+g*g))*x+(a*b+(d*e+g*h))*y+(a*c+(d*f+g*i))*z:=by grind
  rw[this,u,q,j];omega
 .have:b*(a*x+(b*y+c*z))+(e*(d*x+(e*y+f*z))+h*(g*x+(h*y+i*z)))=(b*a+(e*d+h*g))*x+(b*b+(e*e+h*h))*y+(b*c+(e*f+h*i))*z:=by grind
  rw[this,s,w,l];omega
 .have:c*(a*x+(b*y+c*z))+(f*(d*x+(e*y+f*z))+i*(g*x+(h*y+i*z)))=(c*a+(f*d+i*g))*x+(c*b+(f*e+i*h))*y+(c*c+(f*f+i*i))*z:=by grind
  rw[this,p,B,r];omega
def og2'{a b c d x y:Int}(o:grm [[a,b],[c,d]]=[[1,0],[0,1]]):cx (trL [[a,b],[c,d]]) (cx [[a,b],[c,d]] [x,y])=[x,y]:=by
 simp[grm,trL,dot,Ip,Ip.loop]at o;obtain⟨⟨h,f⟩,e,g⟩:=o;simp[cx,trL,dot,Ip,Ip.loop];show{?_,?_}
 .have:a*(a*x+b*y)+c*(c*x+d*y)=(a*a+c*c)*x+(a*b+c*d)*y:=by grind
  rw[this,h,f];omega
 .have:b*(a*x+b*y)+d*(c*x+d*y)=(b*a+d*c)*x+(b*b+d*d)*y:=by grind
  rw[this,e,g];omega
def og1'{a x:Int}(o:grm [[a]]=[[1]]):cx (trL [[a]]) (cx [[a]] [x])=[x]:=by
 simp[grm,trL,dot,Ip,Ip.loop]at o;simp[cx,trL,dot,Ip,Ip.loop];rw[<-Int.mul_assoc,o,Int.one_mul]
def Nf.back{w:Nat}{ps:!(Int×Int)}(h:Nf w ps)(L:1<=w)(Y:w<=3):Tb w (trL (plT w ps))/\One (trL (plT w ps))/\∀row:!Int,row.length=w->cx (trL (plT w ps)) (cx (plT w ps) row)=row:=by
 have X:ps.length=w:=by have:=h.p.length_eq;unfold eN at this;exists this
 have f:(ps.map (·.1)).Nodup:=h.p.nodup_iff.mpr (by unfold eN;show List.Pairwise.map _ (λa b h e=>h ⋯) Lg);have j:∀p∈ps,p.1∈eN w:=λp S=>h.p.mem_iff.mp (ID.mpr ⟨p,S,Xr⟩);have q:∀p∈ps,p.2∈[(1:Int),-1]:=λp S=>by have:=h.s p S;exists this
 have(hg,E):=h.good L Y;have G:=rP h;show{{⟨L,Y⟩,by unfold trL;rw[Ia,K6,E],λr i=>?_},?_}
 .have(k,hk,rfl):=ID.mp i;show{by rw[Ia,E],λx hx=>?_};have(r,i,rfl):=ID.mp hx;have(l,b2):=G r i;rw[IE];cases e:r[k]? with
  | none=>change -4<=(0:Int)/\(0:Int)<=4;decide
  | some v=>have:=b2 v (ymG e);change -4<=v/\v<=4;omega
 have g:=hg.d;have U:w=1\/w=2\/w=3:=by omega
 rcases U with rfl|rfl|rfl
 .obtain⟨⟨a,s⟩,rfl⟩:=ll1 X;have:a=0:=by have:=j (a,s) ∅;simpa[eN,Ip,Ip.loop]using this
  subst this;have o:=og1 s (q (0,s) ∅);have e:plT 1 [((0:Int),s)]=[uni 1 0 s]:=rfl;rw[e]at g|-;have(a,B):=ll1 (show(uni 1 0 s).length=1 from eT);rw[B]at g o|-;show{by unfold One;rw[u5]at g;rw[show trL [[a]]=[[a]]from rfl,u5];show g,λrow i=>?_};have(x,rfl):=ll1 i;show og1' o
 .obtain⟨⟨a,s⟩,⟨b,t⟩,rfl⟩:=ll2 X;simp at f;have o:=og2 a (j (a,s) ∅) b (j (b,t) ∅) s (q (a,s) ∅) t (q (b,t) ∅) f;have e:plT 2 [(a,s),(b,t)]=[uni 2 a s,uni 2 b t]:=rfl;rw[e]at g|-;have(N,l,B):=ll2 (show(uni 2 a s).length=2 from eT);have(c1,J,G):=ll2 (show(uni 2 b t).length=2 from eT);rw[B,G]at g o|-;show{by unfold One;rw[yU]at g;rw[show trL [[N,l],[c1,J]]=[[N,c1],[l,J]]from rfl,yU,My c1];show g,λrow i=>?_};have(x,y,rfl):=ll2 i;show og2' o
 .obtain⟨⟨a,s⟩,⟨b,t⟩,⟨c,u⟩,rfl⟩:=ll3 X;simp at f;have o:=og3 a (j (a,s) ∅) b (j (b,t) ∅) c (j (c,u) ∅) s (q (a,s) ∅) t (q (b,t) ∅) u (q (c,u) ∅) f.1.1 f.1.2 f.2;have e:plT 3 [(a,s),(b,t),(c,u)]=[uni 3 a s,uni 3 b t,uni 3 c u]:=rfl;rw[e]at g|-;have(N,l,c1,B):=ll3 (show(uni 3 a s).length=3 from eT);have(J,e1,f1,G):=ll3 (show(uni 3 b t).length=3 from eT);have(g1,L,i1,U):=ll3 (show(uni 3 c u).length=3 from eT);rw[B,G,U]at g o|-;show{by unfold One;rw[Cb]at g;rw[show trL [[N,l,c1],[J,e1,f1],[g1,L,i1]]=[[N,J,g1],[l,e1,L],[c1,f1,i1]]from rfl,Cb];show g.imp (λe=>by grind) (λe=>by grind),λrow i=>?_};have(x,y,z,rfl):=ll3 i;show og3' o
def yr{w:Nat}{t u:! !Int}{a:!(Str×Ru)}(h:HM w a)(d:∀row:!Int,row.length=w->cx u (cx t row)=row):(a.map (tuD t)).map (tuD u)=a:=by
 have(o,l,j,f):=h;rw[JT];show(List.map_congr_left λp c=>?_).trans (List.map_id a);have i:=f p c;have(z,r):=p;change(z,(r.mp λ_ row=>cx t row).mp λ_ row=>cx u row)=(z,r);rw[mE,mD r λe g=>d _ (i.2 e g).2]
def Nn.hm{w wh:Int}{c:!(Str×Ru)}(h:Nn 10 w wh c):HM w.toNat c:=by
 obtain⟨r,u,q,s,g,f,j,l,n,o,a⟩:=h;show{g,f,j,λp d=>{by have:=(a p d).2.1;omega,λe i=>?_}};show(a p d).2.2.1 _ (rL i)
abbrev twin(a:!(Str×Ru)):!(Str×Ru):=(a.map (·.1)).zip (a.map (·.2)).reverse
def lC(a:!(Str×Ru)):(twin a).map (·.1)=a.map (·.1):=by
 unfold twin;have:((a.map (·.1)).zip (a.map (·.2)).reverse).map Prod.fst=a.map (·.1):=List.map_fst_zip ∅;show this
def HM.twin{W:Nat}{a:!(Str×Ru)}(h:HM W a):HM W (twin a):=by
 have(q,o,g,c):=h;have l:(L2.twin a).length=a.length:=by unfold L2.twin;simp
 show{by omega,by omega,by rw[lC];show g,λp j=>?_};rw[lC];have f:p.2∈(a.map (·.2)).reverse:=(KJ (show(p.1,p.2)∈_ from j)).2;have(d,i,e):=ID.mp (LV.mp f);rw[<-e];show c d i
abbrev tTb(t:! !Int):I:=.tup (t.map tPl)
def k47_law{ns:!Int}(hn:ns.length<=63):C1 (r_l_law_v15 [.li (ns.map .int)]) λt=>t=.im (.bl T1):=by
 show MM [TV {.vw TU TU,.li (ns.map .int)},TU,TU,TU,TU,TU,TU,TU,TU,TU,TU,TU,TU,TU,TU,TU] rfl rfl rfl ?_;unfold eQ;and_intros;show bY (λ_:Unit=>[TV {.vw TU TU,.li (ns.map .int)},TU,TU,TU,TU,TU,TU,TU,TU,TU,TU,TU,TU,TU,TU,TU]) (λ_ _=>True) ?_;and_intros;rw[Ia];generalize hc:(if(if(6:Int)<(ns.length:Int)then 6 else(ns.length:Int))>2 then(if(6:Int)<(ns.length:Int)then 6 else(ns.length:Int))else 2)=c;have hc5:2<=c/\c<=6:=by subst hc;split<;>split<;>omega
 show{{by omega,by omega},(),by cbv,trivial,λj _ hj _=>?_,λ_ _=>?_}
 .and_intros;show yZ (ns:=ns) ⋯ ⋯ ⋯ λf=>?_;and_intros;show bp (λf:Int×Int=>[TV {.vw TU TU,.li (ns.map .int)},↥(.int j),⇑(fT f),TU,TU,TU,TU,TU,TU,TU,TU,TU,TU,TU,TU,TU]) tTb (λk _ L=>L.length=k/\∀i t,L[i]?*>t->Tb (i+1) t) ?_;and_intros;show{{by omega,by omega},by cbv,f,by cbv,{Xr,by simp},λk f L hk J=>?_,λf X hts=>?_}
  .have(S,N):=J;and_intros;show yp ⋯ ⋯ λt f ht=>?_;ac_nf;and_intros;show{t,f,Xr,by cbv,by simp[S],λi u o=>?_};rw[KD]at o;split at o
   .show N i u o
   .delta h1;have h2:=(Ib.mp o).1;rw[Kv]at h2;have:i=L.length:=by omega
    subst this;rw[LM]at o;cases o;rw[show(1+(k:Int)).toNat=L.length+1 by omega]at ht;show ht
  and_intros;show bp (λf:Int×Int=>[TV {.vw TU TU,.li (ns.map .int)},↥(.int j),⇑(fT f),⇑(.li (X.map tTb)),TU,TU,TU,TU,TU,TU,TU,TU,TU,TU,TU,TU]) tTb (λk _ L=>L.length=k/\∀i t,L[i]?*>t->∃ps,Nf (i+1) ps/\t=plT (i+1) ps) ?_;and_intros;show{{by omega,by omega},by cbv,f,by cbv,{Xr,by simp},λk f L hk J=>?_,λf us hus=>?_}
  .have(S,N):=J;and_intros;show gL ⋯ ⋯ λps f s=>?_;ac_nf;and_intros;show{_,f,Xr,by cbv,by rw[Ij,S];rfl,λi u o=>?_};rw[KD]at o;split at o
   .show N i u o
   .delta h1;have h2:=(Ib.mp o).1;rw[Kv]at h2;have:i=L.length:=by omega
    subst this;rw[LM]at o;cases o;rw[show(1+(k:Int)).toNat=L.length+1 by omega]at s|-;show⟨ps,s,Xr⟩
  and_intros;show am ⋯ ⋯ λg f m0 m1=>?_;ac_nf;and_intros;show vy λw B a f hH=>?_;ac_nf;and_intros;show C2.mono (Q:=λfl O=>fl=.nx/\∃f w B a,(1<=w/\w<=3)/\HM w.toNat a/\O=[TV {.vw TU TU,.li (ns.map .int)},↥(.int j),⇑(fT f),⇑(.li (X.map tTb)),⇑(.li (us.map tTb)),↥(.int g),↥(aI w B a),TU,TU,TU,TU,TU,TU,TU,TU,TU]) ?_ ?_
  .show aF ?_;and_intros;clear_value G
   .and_intros;show qd λB a f g1 g2 g3=>?_;ac_nf;and_intros;show{by trivial,f,2,B,a,by omega,{g1,g2.1,g2.2.1,λp s=>{(g3 p s).1,λe he=>(g3 p s).2 _ _ (rL he)}},by cbv}
   .and_intros;show{by trivial,f,w,B,a,⟨hH.1,hH.2.1⟩,hH.hm,by cbv}
  clear hH;rintro fl O ⟨rfl,f,w,B,a,hw,G,rfl⟩;have hd6:=G.2.1;have hd1:=G.1;rw[aI];and_intros;show cR (emb:=tTb) (ns:=X) ⋯ ⋯ λt ht=>?_;and_intros;show cR (emb:=tTb) (ns:=us) ⋯ ⋯ λu o=>?_;have ht:=hts.2 _ t ht;have(ps,s,o):=hus.2 _ u o;rw[show(w-1).toNat+1=w.toNat by omega]at ht s o;have E:=s.tb ⋯ ⋯;have hpg:=(s.good ⋯ ⋯).1.d;have(hbt,hbo,hbb):=s.back ⋯ ⋯;rw[<-o]at E hpg hbt hbo hbb;have hul:=E.l;clear o;and_intros;ac_nf;show bp (λf:Int×Int=>[TV {.vw TU TU,.li (ns.map .int)},↥(.int j),⇑(fT f),⇑(.li (X.map tTb)),⇑(.li (us.map tTb)),↥(.int g),↥(aI w B a),↥(tTb t),↥(tTb u),TU,TU,TU,TU,TU,TU,TU]) tPl (λk _ L=>L.length=k/\∀p∈L,p.length=w.toNat) ?_;and_intros;show{{by omega,by omega},by cbv,f,by cbv,{Xr,by simp},λk f L hk J=>?_,λf U hpls=>?_}
  .have(S,N):=J;rw[aI];and_intros;show wy hw.1 hw.2 λpl f hpl=>?_;ac_nf;and_intros;show{pl,f,Xr,by cbv,by simp[S],aN N hpl}
  and_intros;show bp (λ_:Unit=>[TV {.vw TU TU,.li (ns.map .int)},↥(.int j),⇑(fT f),⇑(.li (X.map tTb)),⇑(.li (us.map tTb)),↥(.int g),↥(aI w B a),↥(tTb t),↥(tTb u),⇑(.li (U.map tPl)),TU,TU,TU,TU,TU,TU]) tPl (λk _ L=>L=(Ip k).map λi=>u.map λr=>r.getD i 0) ?_;rw[tTb];and_intros;rw[Ia];show{{by omega,by omega},by cbv,(),by cbv,Xr,λk _ L hk J=>?_,λ_ L J=>?_}
  .and_intros;show bo (λ_:Unit=>[TU,TU,TU,TU,TU,TU,TU,TU,↥(tTb u),TU,TU,TU,TU,TU,TU,TU,↥(.int k)]) I.int (λm _ l=>l=(u.take m).map λr=>r.getD k 0) ?_;rw[tTb];and_intros;show{u.map tPl,Xr,by rw[Ia,NE];omega,by cbv,(),by cbv,Xr,λm x _ l Y h=>?_,λ_ l h=>?_}
   .have(r,hr,rfl):=ar Y;have(g1,_):=E.r r (ymG hr);and_intros;show mI (ns:=r) ⋯ ⋯ λy _ hy=>?_;and_intros;show{y,(),Xr,by cbv,by rw[h,br hr,Ii,JV,IE,show r[k]?*>y from hy];rfl}
   .rw[Ia,IK]at h;subst h;and_intros;show{_,(),Xr,by cbv,by rw[J,JW,Ii];rfl}
  rw[show(u.length:Int).toNat=u.length by omega]at J;rw[show((Ip u.length).map λi=>u.map λr=>r.getD i 0)=trL u from rfl]at J;subst J;and_intros;show aF ?_;and_intros;show jD E hpg ⋯ (λp s=>by have:=(G.2.2.2 p s).1;omega) ?_;have hM:=G.turned E;and_intros;show jD hbt hbo (by rw[Ia];omega) (λp s=>by have:=(hM.2.2.2 p s).1;omega) ?_;rw[yr G hbb];have hdk:=l7 (w:=w) (wh:=B) λp s=>(G.2.2.2 p s).1;and_intros;show Dk {hdk.1,hdk.1,by omega} ?_;and_intros;rw[decide_eq_true rfl];show spF ?_;and_intros;show bo (λ_:Unit=>[TV {.vw TU TU,.li (ns.map .int)},↥(.int j),⇑(fT f),⇑(.li (X.map tTb)),⇑(.li (us.map tTb)),↥(.int g),↥(aI w B a),↥(tTb t),↥(tTb u),⇑(.li (U.map tPl)),↥(tTb (trL u)),TU,TU,TU,TU,TU]) I.str (λk _ L=>L=(a.take k).map (·.1)) ?_;rw[aI];and_intros;show{a.map bg,Xr,by simp;rw[NE];omega,by cbv,(),by cbv,Xr,λk x _ l Y h=>?_,λ_ l h=>?_}
  .have(d,hd,rfl):=ar Y;rw[bg];and_intros;show{d.1,(),Xr,by cbv,by rw[h,br hd,Ii];rfl}
  rw[Ia,IK]at h;subst h;and_intros;show bo (λ_:Unit=>[TV {.vw TU TU,.li (ns.map .int)},↥(.int j),⇑(fT f),⇑(.li (X.map tTb)),⇑(.li (us.map tTb)),↥(.int g),↥(aI w B a),↥(tTb t),↥(tTb u),⇑(.li (U.map tPl)),↥(tTb (trL u)),TU,TU,TU,TU,TU]) tRu (λk _ L=>L=(a.take k).map (·.2)) ?_;rw[aI];and_intros;show{a.map bg,Xr,by simp;rw[NE];omega,by cbv,(),by cbv,Xr,λk x _ l Y h=>?_,λ_ l h=>?_}
  .have(d,hd,rfl):=ar Y;rw[bg];and_intros;show{d.2,(),Xr,by cbv,by rw[h,br hd,Ii];rfl}
  rw[Ia,IK]at h;subst h;and_intros;ac_nf;show fG (λ_:Unit=>[TV {.vw TU TU,.li (ns.map .int)},↥(.int j),⇑(fT f),⇑(.li (X.map tTb)),⇑(.li (us.map tTb)),↥(.int g),↥(aI w B a),↥(tTb t),↥(tTb u),⇑(.li (U.map tPl)),↥(tTb (trL u)),⇑(.li ((a.map (·.1)).map I.str)),⇑(.li ((a.map (·.2)).map tRu)),TU,TU,TU]) bg (λk _ l=>l=(twin a).take k) ?_;and_intros;show Dn ?_;and_intros;show{_,_,T1,T1,(a.map (·.1)).map I.str,((a.map (·.2)).map tRu).reverse,Xr,Xr,Xr,by simp;rw[NE];omega,by cbv,(),by cbv,Xr,λk x y _ l Y hy h=>?_,λ_ l h=>?_}
  .have(z,hz,rfl):=ar Y;rw[<-Ka]at hy;have(r,hr,rfl):=ar hy;have e:(twin a)[k]?*>(z,r):=by unfold twin;rw[IN];show⟨hz,hr⟩
   and_intros;show{(z,r),(),Xr,by cbv,by rw[h,br e]}
  rw[show min ((a.map (·.1)).map I.str).length ((a.map (·.2)).map tRu).reverse.length=(twin a).length by unfold twin;simp,IK]at h;subst h;and_intros;show n5 (λ_:Unit=>[TV {.vw TU TU,.li (ns.map .int)},↥(.int j),⇑(fT f),⇑(.li (X.map tTb)),⇑(.li (us.map tTb)),↥(.int g),↥(aI w B a),↥(tTb t),↥(tTb u),⇑(.li (U.map tPl)),↥(tTb (trL u)),⇑(.li ((a.map (·.1)).map I.str)),⇑(.li ((a.map (·.2)).map tRu)),↥(aI w B (twin a)),TU,TU]) (λ_ _=>True) ?_;and_intros;show{[(a,t),(a,u),(twin a,u),(twin a,t),(a,t)].map λq=>.tup [aI w B q.1,tTb q.2],Xr,by cbv,(),by cbv,trivial,λk x _ Y _=>?_,λ_ _=>?_}
  .have(q,hq,rfl):=ar Y;have hq':HM w.toNat q.1/\Tb w.toNat q.2:=by
    have hqm:=ymG hq;dsimp[IH,II,or_false]at hqm;rcases hqm with rfl|rfl|rfl|rfl|rfl;show⟨G,ht⟩;show⟨G,E⟩;show⟨G.twin,E⟩;show⟨G.twin,ht⟩;show⟨G,ht⟩
   and_intros;show aF ?_;and_intros;show qG hq'.2 hq'.1 hpls.2 ?_;and_intros;try refine spF ?_
   and_intros;show{(),by cbv,trivial}
  .and_intros;show{(),by cbv,trivial}
 .and_intros;trivial
end L2
namespace K47
open PySem PySem.Spec PyProof.Rows L2
local macro_rules|`(tactic| exfalso)=>`(tactic| exact⟨rfl,rfl,rfl,by decide +kernel,rfl,by decide +kernel,by decide +kernel⟩)
structure Adr(mg:Str->↑Nz)(K:yF):Prop where
 d0:ML K mg "_law_feed" gR ["_law_script","_law_k"]
 d1:ML K mg "_law_take" gS ["_law_feed_here","_law_many"]
 d2:ML K mg "_law_plain_table" cB ["_law_feed_here","_law_ways"]
 d3:ML K mg "_law_table" gk ["_law_feed_here","_law_ways"]
 d4:ML K mg "_law_turned_row" cP ["_law_row_here","_law_way","_law_signs"]
 d5:ML K mg "_law_row" iY ["_law_feed_here","_law_ways"]
 d6:ML K mg "_law_opposed_reads" bP ["_law_feed_here","_law_ways","_law_many"]
 d7:ML K mg "_law_free_reads" cL ["_law_feed_here","_law_ways","_law_many"]
 d8:ML K mg "_law_back_row" dD ["_law_feed_here","_law_ways"]
 d9:ML K mg "_law_late_reads" cM ["_law_feed_here","_law_ways","_law_many"]
 d10:ML K mg "_law_ring_reads" cO ["_law_feed_here","_law_ways","_law_many"]
 d11:ML K mg "_law_reads" gi ["_law_feed_here"]
 d12:ML K mg "_law_names" gf ["_law_feed_here","_law_many"]
 d13:ML K mg "_law_grown" gc ["_law_feed_here","_law_leaves"]
 d14:ML K mg "_law_house" ge ["_law_feed_here"]
 d15:ML K mg "_law_many_house" cN ["_law_feed_here"]
 d16:ML K mg "_law_place" gh ["_law_feed_here","_law_ways"]
 d17:ML K mg "determinant" fj ["table"]
 d18:ML K mg "signed_minor" eI ["table","line","at"]
 d19:ML K mg "look_table" gl ["table"]
 d20:ML K mg "inner_parts" fk ["part"]
 d21:ML K mg "parts_of" i3 ["rule"]
 d22:ML K mg "with_rows" gT ["rule","rows"]
 d23:ML K mg "along" nQ ["row","place"]
 d24:ML K mg "led_by" lv ["table","numbers"]
 d25:ML K mg "reads" nR ["rule"]
 d26:ML K mg "turned_rule" fq ["rule","table"]
 d27:ML K mg "turned" lw ["house","table"]
 d28:ML K mg "_law_sum" iZ ["_law_row_here","_law_place_here"]
 d29:ML K mg "_law_crossed" eG ["_law_one","_law_other"]
 d30:ML K mg "_law_determinant" cA ["_law_table_here"]
 d31:ML K mg "_law_refused" eH ["_law_house_here","_law_table_here"]
 d32:ML K mg "_law_alike" gb ["_law_found","_law_due"]
 d33:ML K mg "turned_cell" fo ["cell","table"]
 d34:ML K mg "_law_led" iX ["_law_rule","_law_table_here"]
 d35:ML K mg "_law_right" gj ["_law_house_here","_law_table_here","_law_places"]
 d36:ML K mg "law" s_law ["_law_script"]
 m_NoTurn:MkF K mg "NoTurn" "NoTurn.__init__" jT ["self"]
 H:HEf K mg ft
 E:iK K mg EXN
 T:Bi mg
 G:GT K mg
def adr0(w:NP)(mg:Str->↑Nz)(h:Heap)(X:(KF w.params).In h)(G:h.Ns NO mg):Adr mg (KF w.params):=
 {ML.mkO X G 327 pm0 326 (by2 λ_ _ _ _ _ _ _ _=>rfl),
   ML.mkO X G 334 pm0 333 (by2 λ_ _ _ _ _ _ _ _=>rfl),
   ML.mkO X G 437 pm0 436 (by2 λ_ _ _ _ _ _ _ _=>rfl),
   ML.mkO X G 442 pm0 441 (by2 λ_ _ _ _ _ _ _ _=>rfl),
   ML.mkO X G 366 pm0 365 (by3 λ_ _ _ _ _ _ _ _ _=>rfl),
   ML.mkO X G 344 pm0 343 (by2 λ_ _ _ _ _ _ _ _=>rfl),
   ML.mkO X G 371 pm0 370 (by3 λ_ _ _ _ _ _ _ _ _=>rfl),
   ML.mkO X G 354 pm0 353 (by3 λ_ _ _ _ _ _ _ _ _=>rfl),
   ML.mkO X G 349 pm0 348 (by2 λ_ _ _ _ _ _ _ _=>rfl),
   ML.mkO X G 359 pm0 358 (by3 λ_ _ _ _ _ _ _ _ _=>rfl),
   ML.mkO X G 376 pm0 375 (by3 λ_ _ _ _ _ _ _ _ _=>rfl),
   ML.mkO X G 383 pm0 382 (by1 λ_ _ _ _ _ _ _=>rfl),
   ML.mkO X G 339 pm0 338 (by2 λ_ _ _ _ _ _ _ _=>rfl),
   ML.mkO X G 390 pm0 389 (by2 λ_ _ _ _ _ _ _ _=>rfl),
   ML.mkO X G 395 pm0 394 (by1 λ_ _ _ _ _ _ _=>rfl),
   ML.mkO X G 400 pm0 399 (by1 λ_ _ _ _ _ _ _=>rfl),
   ML.mkO X G 410 pm0 409 (by2 λ_ _ _ _ _ _ _ _=>rfl),
   ML.mkO X G 315 pm1 314 (by1 λ_ _ _ _ _ _ _=>rfl),
   ML.mkO X G 320 pm1 319 (by3 λ_ _ _ _ _ _ _ _ _=>rfl),
   ML.mkO X G 310 pm1 309 (by1 λ_ _ _ _ _ _ _=>rfl),
   ML.mkO X G 257 pm2 256 (by1 λ_ _ _ _ _ _ _=>rfl),
   ML.mkO X G 264 pm2 263 (by1 λ_ _ _ _ _ _ _=>rfl),
   ML.mkO X G 276 pm2 275 (by2 λ_ _ _ _ _ _ _ _=>rfl),
   ML.mkO X G 281 pm3 280 (by2 λ_ _ _ _ _ _ _ _=>rfl),
   ML.mkO X G 303 pm1 302 (by2 λ_ _ _ _ _ _ _ _=>rfl),
   ML.mkO X G 269 pm2 268 (by1 λ_ _ _ _ _ _ _=>rfl),
   ML.mkO X G 291 pm1 290 (by2 λ_ _ _ _ _ _ _ _=>rfl),
   ML.mkO X G 286 pm1 285 (by2 λ_ _ _ _ _ _ _ _=>rfl),
   ML.mkO X G 415 pm0 414 (by2 λ_ _ _ _ _ _ _ _=>rfl),
   ML.mkO X G 425 pm0 424 (by2 λ_ _ _ _ _ _ _ _=>rfl),
   ML.mkO X G 432 pm0 431 (by1 λ_ _ _ _ _ _ _=>rfl),
   ML.mkO X G 449 pm0 448 (by2 λ_ _ _ _ _ _ _ _=>rfl),
   ML.mkO X G 405 pm0 404 (by2 λ_ _ _ _ _ _ _ _=>rfl),
   ML.mkO X G 298 pm1 297 (by2 λ_ _ _ _ _ _ _ _=>rfl),
   ML.mkO X G 420 pm0 419 (by2 λ_ _ _ _ _ _ _ _=>rfl),
   ML.mkO X G 454 pm0 453 (by3 λ_ _ _ _ _ _ _ _ _=>rfl),
   ML.mkO X G 459 pm0 458 (by1 λ_ _ _ _ _ _ _=>rfl),
   MkF.mkO X G 191 188 pm4 187 (by1 λ_ _ _ _ _ _ _=>rfl),
   {MkF.mkO X G 38 35 pm4 34 (by1 λ_ _ _ _ _ _ _=>rfl),Fd 38 35,bN X G},
   AO X G (bN X G) (by rfl'),
   {bN X G,bN X G,bN X G,bN X G,bN X G,bN X G,bN X G,bN X G,bN X G,bN X G,bN X G,bN X G,bN X G,bN X G,bN X G,bN X G,bN X G,bN X G,bN X G,bN X G,bN X G},⟨trivial⟩}
def c0:td ["_law_script","_law_k","_law_cell","_law_own"] ["_law_script","_law_k"] (ai gR):=by exfalso
def c1:td ["_law_feed_here","_law_many","_law_digit","_law_one"] ["_law_feed_here","_law_many"] (ai gS):=by exfalso
def c2:td ["_law_feed_here","_law_ways","_law_left","_law_table_here","_law_k","_law_at","_law_sign"] ["_law_feed_here","_law_ways"] (ai cB):=by exfalso
def c3:td ["_law_feed_here","_law_ways","_law_form","_law_table_here","_law_one","_law_other","_law_times"] ["_law_feed_here","_law_ways"] (ai gk):=by exfalso
def c4:td ["_law_row_here","_law_way","_law_signs","_law_found","_law_k"] ["_law_row_here","_law_way","_law_signs"] (ai cP):=by exfalso
def c5:td ["_law_feed_here","_law_ways"] ["_law_feed_here","_law_ways"] (ai iY):=by exfalso
def c6:td ["_law_feed_here","_law_ways","_law_many","_law_far","_law_some","_law_way","_law_signs","_law_looks","_law_x","_law_other","_law_row_here"] ["_law_feed_here","_law_ways","_law_many"] (ai bP):=by exfalso
def c7:td ["_law_feed_here","_law_ways","_law_many","_law_looks","_law_x","_law_k"] ["_law_feed_here","_law_ways","_law_many"] (ai cL):=by exfalso
def c8:td ["_law_feed_here","_law_ways","_law_at","_law_more"] ["_law_feed_here","_law_ways"] (ai dD):=by exfalso
def c9:td ["_law_feed_here","_law_ways","_law_many","_law_looks","_law_x","_law_k"] ["_law_feed_here","_law_ways","_law_many"] (ai cM):=by exfalso
def c10:td ["_law_feed_here","_law_ways","_law_many","_law_looks","_law_long","_law_rest","_law_k","_law_row_here"] ["_law_feed_here","_law_ways","_law_many"] (ai cO):=by exfalso
def c11:td ["_law_feed_here","_law_form","_law_wide","_law_ways","_law_many"] ["_law_feed_here"] (ai gi):=by exfalso
def c12:td ["_law_feed_here","_law_many","_law_letters","_law_stem","_law_first","_law_at","_law_found","_law_k","_law_name"] ["_law_feed_here","_law_many"] (ai gf):=by exfalso
def c13:td ["_law_feed_here","_law_leaves","_law_found","_law_at","_law_sign"] ["_law_feed_here","_law_leaves"] (ai gc):=by exfalso
def c14:td ["_law_feed_here","_law_ways","_law_looks","_law_wheel","_law_names_here","_law_desks","_law_x","_law_leaves","_law_k","_law_number"] ["_law_feed_here"] (ai ge):=by exfalso
def c15:td ["_law_feed_here","_law_many","_law_backward","_law_eights","_law_names_here","_law_wide","_law_rows","_law_desks","_law_x","_law_first","_law_count","_law_leaves","_law_k"] ["_law_feed_here"] (ai cN):=by exfalso
def c16:td ["_law_feed_here","_law_ways","_law_far"] ["_law_feed_here","_law_ways"] (ai gh):=by exfalso
def c17:td ["table"] ["table"] (ai fj):=by exfalso
def c18:td ["table","line","at","left"] ["table","line","at"] (ai eI):=by exfalso
def c19:td ["table"] ["table"] (ai gl):=by exfalso
def c20:td ["part"] ["part"] (ai fk):=by exfalso
def c21:td ["rule","parts","due","part"] ["rule"] (ai i3):=by exfalso
def c22:td ["rule","rows","pile","reads_left","part"] ["rule","rows"] (ai gT):=by exfalso
def c23:td ["row","place"] ["row","place"] (ai nQ):=by exfalso
def c24:td ["table","numbers"] ["table","numbers"] (ai lv):=by exfalso
def c25:td ["rule"] ["rule"] (ai nR):=by exfalso
def c26:td ["rule","table"] ["rule","table"] (ai fq):=by exfalso
def c27:td ["house","table","ways","wheel","desks"] ["house","table"] (ai lw):=by exfalso
def c28:td ["_law_row_here","_law_place_here"] ["_law_row_here","_law_place_here"] (ai iZ):=by exfalso
def c29:td ["_law_one","_law_other","_law_some"] ["_law_one","_law_other"] (ai eG):=by exfalso
def c30:td ["_law_table_here"] ["_law_table_here"] (ai cA):=by exfalso
def c31:td ["_law_house_here","_law_table_here","_law_caught","e","_law_others"] ["_law_house_here","_law_table_here"] (ai eH):=by exfalso
def c32:td ["_law_found","_law_due"] ["_law_found","_law_due"] (ai gb):=by exfalso
def c33:td ["cell","table","name","place"] ["cell","table"] (ai fo):=by exfalso
def c34:td ["_law_rule","_law_table_here","_law_begun"] ["_law_rule","_law_table_here"] (ai iX):=by exfalso
def c35:td ["_law_house_here","_law_table_here","_law_places","_law_due","_law_place_here","_law_cell"] ["_law_house_here","_law_table_here","_law_places"] (ai gj):=by exfalso
def c36:td ["_law_script","_law_k","_law_feed_here","_law_tables","_law_plains","_law_many","_law_house_here","_law_table_here","_law_plain","_law_places","_law_back","_law_names_here","_law_rules","_law_twin","_law_some","_law_one"] ["_law_script"] (ai s_law):=by exfalso
def lN:td ["self"] ["self"] (ai ft):=by exfalso
def sX:td ["self"] ["self"] (ai jT):=by exfalso
local macro_rules|`(tactic| ac_nf)=>`(tactic| first|exact az|exact CK.blk az|exact CK.blk (CK.blk az))
local macro_rules|`(tactic| injection $x:ident)=>`(tactic| refine $x ?_)
local macro_rules|`(tactic| infer_instance)=>`(tactic| first
 | ((with_reducible change QE _ _ _ _);first|exact gt|exact BC|refine Bz ?_ ?_ ?_|exact bt _|exact Gn|exact DM|refine Gg nofun ?_ ?_|refine xb _ ?_|refine rS _ ?_|refine j8 nofun ?_ ?_|refine Go nofun ?_ ?_|refine BB nofun ?_ ?_|refine BA nofun ?_ ?_|refine DN nofun ?_ ?_|refine Gj nofun ?_ ?_|refine Gc _ nofun (by with_reducible assumption) ?_|refine By nofun (by with_reducible first|exact b_len|exact b_max|exact b_min|exact b_all|exact b_sum) ?_ ?_|refine HK nofun (by with_reducible first|exact b_tuple|exact b_int|exact b_list) ?_ ?_|refine mK nofun (by with_reducible assumption) ?_|refine xa nofun ?_ ?_ ?_|refine Gk nofun ?_|refine DS nofun ?_|refine DR _ _ nofun (by with_reducible first|exact oE|exact oG|exact oH|exact rK) ?_|refine Gh _ _ nofun (by with_reducible first|exact oE|exact oG|exact oH|exact rK) ?_ ?_|refine DQ _ nofun FA ?_|refine DP nofun (by with_reducible first|exact CD) ?_ ?_|refine Gb nofun ?_ ?_ ?_ (by unhygienic rfl)|refine Gd nofun (Bi.b_isinstance (by assumption)) (by with_reducible first|exact Bi.b_bool (by assumption)|exact Bi.b_list (by assumption)|exact Bi.b_str (by assumption)|exact Bi.b_tuple (by assumption)) (by with_reducible first|exact Kt|exact JA|exact Kx|exact JP) (by decide) ?_|refine Ge nofun (Bi.b_isinstance (by assumption)) (by with_reducible first|exact Bi.b_bool (by assumption)|exact Bi.b_list (by assumption)|exact Bi.b_str (by assumption)|exact Bi.b_tuple (by assumption)) (by with_reducible first|exact Kt|exact JA|exact Kx|exact JP) (by decide) (by with_reducible first|exact Bi.b_bool (by assumption)|exact Bi.b_list (by assumption)|exact Bi.b_str (by assumption)|exact Bi.b_tuple (by assumption)) (by with_reducible first|exact Kt|exact JA|exact Kx|exact JP) (by decide) ?_|refine DO nofun ?_ ?_|injection Gi|injection rT|refine Bx ?_ ?_|injection BD)
 | ((with_reducible change QA _ _ _ _);first|exact cz|refine cc _ ?_|refine bA ?_ ?_)
 | ((with_reducible change QSs _ _ _ _);first|exact nG|exact iw|refine z6 _ ?_|refine dM ?_ ?_|injection fZ)
 | ((with_reducible change QS _ _ _ _);first|refine jL _ ?_ ?_|refine zY _ ?_ ?_|exact oZ|injection jK|injection zZ|refine DW ?_ ?_|refine DY _ _ nofun ?_ ?_|refine z5 _ _ _ nofun ?_ ?_|refine rW ?_ ?_ ?_|refine DX nofun (λ_=>Su) ?_ ?_ ?_|refine xh (λ_=>Su) ?_ ?_|refine qs_fgt _ ?_)
 | ((with_reducible change QT _ _ _ _);first|refine lj nofun ?_ ?_ ?_ (by unhygienic rfl)|injection xi|refine xj nofun ?_|injection xk|refine QW.t ?_)
 | ((with_reducible change QW _ _ _ _);first|refine D3 ?_ ?_|refine BE ?_ ?_|injection z8|injection xl)
 | ((with_reducible change QG _ _ _ _ _);first|refine kE _ ?_|refine qA nofun (eh ?_ (eh ?_ nF))|refine qA nofun (eh ?_ (eh ?_ (eh ?_ nF)))|refine DT _ ?_ ?_|refine xc _ ?_ ?_ ?_)
 | ((with_reducible change QI _ _ _ _ _);first|refine uf nofun ?_ ?_|refine ug nofun ?_ ?_|refine DV nofun ?_ ?_|refine DU nofun ?_ ?_|refine rV nofun ?_ ?_|refine xg nofun ?_)
 | ((with_reducible change QO _ _ _ _);first|exact jo|injection jp)
 | ((with_reducible change QTs _ _ _ _);first|exact nH|injection z7)
 | ((with_reducible change gm _ _);first|exact Fa|exact Hs|exact Ht|exact Hu|exact Bd|exact Hv|exact Fb|exact Hw|exact uR)
 | ((with_reducible show∀_,List.Nodup _);intro _;first|assumption|exact dE (by rfl'))
 | with_reducible first|assumption|exact Bi.b_all (by assumption)|exact Bi.b_bool (by assumption)|exact Bi.b_int (by assumption)|exact Bi.b_isinstance (by assumption)|exact Bi.b_len (by assumption)|exact Bi.b_list (by assumption)|exact Bi.b_max (by assumption)|exact Bi.b_min (by assumption)|exact Bi.b_str (by assumption)|exact Bi.b_sum (by assumption)|exact Bi.b_tuple (by assumption))
local macro_rules|`(tactic| and_intros)=>`(tactic| repeat' (first|infer_instance|fail))
section
variable {P:NM}{W:NP}{K:yF}{mg:Str->↑Nz}{base:Heap}(A:Adr mg K)
include A
def HB{k:Nat}:HEr P W K mg base (k+1):=Fj A.H lN rfl rfl (by first|show PR rfl|show O7 (PR rfl)|show O7 (O7 rfl)) (λ_=>{_,Xr})
def tO:uK P W K mg base 2 "NoTurn" :=CF A.m_NoTurn (HB A) sX rfl rfl (by first|show PR rfl|show O7 (PR rfl)|show O7 (O7 rfl)) (λ_=>{_,Xr})
def v0:Has P W K mg base 1 "_law_feed" ["_law_script","_law_k"] (spP K ln):=by
 have:=c0.nd;have:=A.T;show Def.qp A.d0.to c0 (m:=jh) ?_ (λ_ _ h=>h);unfold jh;and_intros
def v1:Has P W K mg base 1 "_law_take" ["_law_feed_here","_law_many"] (spI K 0 aj):=by
 have:=c1.nd;have:=A.T;show Def.qi A.d1.to c1 (m:=jk) ?_ (λ_ _ h=>h);unfold jk;and_intros
def v2:Has P W K mg base 2 "_law_plain_table" ["_law_feed_here","_law_ways"] (spI K 0 cv):=by
 have:=@v1 P W K mg base A;have:=c2.nd;have:=A.T;show Def.qi A.d2.to c2 (m:=cj) ?_ (λ_ _ h=>h);unfold cj;and_intros
 .show aQ (N':=["_law_feed_here","_law_ways","_law_left","_law_table_here","_law_k","_law_at","_law_sign","_law_j"]) (by ac_nf) (λ_=>Blk.of (by rfl')) ?_ ?_ ?_ ?_<;>and_intros
def v3:Has P W K mg base 3 "_law_table" ["_law_feed_here","_law_ways"] (spI K 0 jP):=by
 have:=@v1 P W K mg base A;have:=@v2 P W K mg base A;have:=c3.nd;have:=A.T;show Def.qi A.d3.to c3 (m:=il) ?_ (λ_ _ h=>h);unfold il;and_intros
 .show ba _ (N':=["_law_feed_here","_law_ways","_law_form","_law_table_here","_law_one","_law_other","_law_times","_law_k"]) (by ac_nf) (λ_=>(by first|assumption|show dE (by rfl'))) (λ_=>Blk.of (by rfl')) ?_ ?_ ?_ ?_<;>and_intros;show aQ (N':=["_law_feed_here","_law_ways","_law_form","_law_table_here","_law_one","_law_other","_law_times","_law_k","_law_j"]) (by ac_nf) (λ_=>Blk.of (by rfl')) ?_ ?_ ?_ ?_<;>and_intros
 .show aQ (N':=["_law_feed_here","_law_ways","_law_form","_law_table_here","_law_one","_law_other","_law_times","_law_mine","_law_more"]) (by ac_nf) (λ_=>Blk.of (by rfl')) ?_ ?_ ?_ ?_<;>and_intros
def v4:Has P W K mg base 1 "_law_turned_row" ["_law_row_here","_law_way","_law_signs"] (spP K cK):=by
 have:=c4.nd;have:=A.T;show Def.qp A.d4.to c4 (m:=cH) ?_ (λ_ _ h=>h);unfold cH;and_intros
def v5:Has P W K mg base 2 "_law_row" ["_law_feed_here","_law_ways"] (spI K 0 kF):=by
 have:=@v1 P W K mg base A;have:=c5.nd;have:=A.T;show Def.qi A.d5.to c5 (m:=kz) ?_ (λ_ _ h=>h);unfold kz;and_intros
 .show aQ (N':=["_law_feed_here","_law_ways","_law_k"]) (by ac_nf) (λ_=>Blk.of (by rfl')) ?_ ?_ ?_ ?_<;>and_intros
def v6:Has P W K mg base 3 "_law_opposed_reads" ["_law_feed_here","_law_ways","_law_many"] (spI K 0 cJ):=by
 have:=@v1 P W K mg base A;have:=@v4 P W K mg base A;have:=@v5 P W K mg base A;have:=c6.nd;have:=A.T;show Def.qi A.d6.to c6 (m:=bK) ?_ (λ_ _ h=>h);unfold bK;and_intros
 .show aQ (N':=["_law_feed_here","_law_ways","_law_many","_law_far","_law_some","_law_way","_law_signs","_law_looks","_law_x","_law_other","_law_row_here","_law_k"]) (by ac_nf) (λ_=>Blk.of (by rfl')) ?_ ?_ ?_ ?_<;>and_intros
 .show ba _ (N':=["_law_feed_here","_law_ways","_law_many","_law_far","_law_some","_law_way","_law_signs","_law_looks","_law_x","_law_other","_law_row_here"]) (by ac_nf) (λ_=>(by first|assumption|show dE (by rfl'))) (λ_=>Blk.of (by rfl')) ?_ ?_ ?_ ?_<;>and_intros
def v7:Has P W K mg base 3 "_law_free_reads" ["_law_feed_here","_law_ways","_law_many"] (spI K 0 eu):=by
 have:=@v1 P W K mg base A;have:=@v5 P W K mg base A;have:=c7.nd;have:=A.T;show Def.qi A.d7.to c7 (m:=cD) ?_ (λ_ _ h=>h);unfold cD;and_intros
 .show ba _ (N':=["_law_feed_here","_law_ways","_law_many","_law_looks","_law_x","_law_k"]) (by ac_nf) (λ_=>(by first|assumption|show dE (by rfl'))) (λ_=>Blk.of (by rfl')) ?_ ?_ ?_ ?_<;>and_intros
def v8:Has P W K mg base 2 "_law_back_row" ["_law_feed_here","_law_ways"] (spI K 0 dN):=by
 have:=@v1 P W K mg base A;have:=c8.nd;have:=A.T;show Def.qi A.d8.to c8 (m:=dH) ?_ (λ_ _ h=>h);unfold dH;and_intros
 .show ba _ (N':=["_law_feed_here","_law_ways","_law_at","_law_more","_law_k"]) (by ac_nf) (λ_=>(by first|assumption|show dE (by rfl'))) (λ_=>Blk.of (by rfl')) ?_ ?_ ?_ ?_<;>and_intros
def v9:Has P W K mg base 3 "_law_late_reads" ["_law_feed_here","_law_ways","_law_many"] (spI K 0 cI):=by
 have:=@v1 P W K mg base A;have:=@v8 P W K mg base A;have:=c9.nd;have:=A.T;show Def.qi A.d9.to c9 (m:=cE) ?_ (λ_ _ h=>h);unfold cE;and_intros
 .show ba _ (N':=["_law_feed_here","_law_ways","_law_many","_law_looks","_law_x","_law_k"]) (by ac_nf) (λ_=>(by first|assumption|show dE (by rfl'))) (λ_=>Blk.of (by rfl')) ?_ ?_ ?_ ?_<;>and_intros
def v10:Has P W K mg base 4 "_law_ring_reads" ["_law_feed_here","_law_ways","_law_many"] (spI K 0 eC):=by
 have:=@v9 P W K mg base A;have:=@v1 P W K mg base A;have:=c10.nd;have:=A.T;show Def.qi A.d10.to c10 (m:=cG) ?_ (λ_ _ h=>h);unfold cG;and_intros
 .show aQ (N':=["_law_feed_here","_law_ways","_law_many","_law_looks","_law_long","_law_rest","_law_k","_law_row_here","_law_j"]) (by ac_nf) (λ_=>Blk.of (by rfl')) ?_ ?_ ?_ ?_<;>and_intros
 .show aQ (N':=["_law_feed_here","_law_ways","_law_many","_law_looks","_law_long","_law_rest","_law_k","_law_row_here","_law_j"]) (by ac_nf) (λ_=>Blk.of (by rfl')) ?_ ?_ ?_ ?_<;>and_intros
 .show aQ (N':=["_law_feed_here","_law_ways","_law_many","_law_looks","_law_long","_law_rest","_law_k","_law_row_here","_law_number"]) (by ac_nf) (λ_=>Blk.of (by rfl')) ?_ ?_ ?_ ?_<;>and_intros
 .show aQ (N':=["_law_feed_here","_law_ways","_law_many","_law_looks","_law_long","_law_rest","_law_k","_law_row_here","_law_j"]) (by ac_nf) (λ_=>Blk.of (by rfl')) ?_ ?_ ?_ ?_<;>and_intros
def v11:Has P W K mg base 5 "_law_reads" ["_law_feed_here"] (spI K 0 jO):=by
 have:=@v1 P W K mg base A;have:=@v7 P W K mg base A;have:=@v9 P W K mg base A;have:=@v10 P W K mg base A;have:=@v6 P W K mg base A;have:=c11.nd;have:=A.T;show Def.qi A.d11.to c11 (m:=ik) ?_ (λ_ _ h=>h);unfold ik;and_intros
def v12:Has P W K mg base 2 "_law_names" ["_law_feed_here","_law_many"] (spI K 0 iz):=by
 have:=@v1 P W K mg base A;have:=c12.nd;have:=A.T;show Def.qi A.d12.to c12 (m:=ii) ?_ (λ_ _ h=>h);unfold ii;and_intros
 .show aQ (N':=["_law_feed_here","_law_many","_law_letters","_law_stem","_law_first","_law_at","_law_found","_law_k","_law_name"]) (by ac_nf) (λ_=>Blk.of (by rfl')) ?_ ?_ ?_ ?_<;>and_intros
def v13:Has P W K mg base 2 "_law_grown" ["_law_feed_here","_law_leaves"] (spI K 0 iy):=by
 have:=@v1 P W K mg base A;have:=c13.nd;have:=A.T;show Def.qi A.d13.to c13 (m:=ie) ?_ (λ_ _ h=>h);unfold ie;and_intros
def v14:Has P W K mg base 6 "_law_house" ["_law_feed_here"] (spI K 0 jM):=by
 have:=@v11 P W K mg base A;have:=@v1 P W K mg base A;have:=@v12 P W K mg base A;have:=@v13 P W K mg base A;have:=c14.nd;have:=A.T;show Def.qi A.d14.to c14 (m:=ig) ?_ (λ_ _ h=>h);unfold ig;and_intros
 .show ba _ (N':=["_law_feed_here","_law_ways","_law_looks","_law_wheel","_law_names_here","_law_desks","_law_x","_law_leaves","_law_k","_law_number","_law_other","_law_row_here"]) (by ac_nf) (λ_=>(by first|assumption|show dE (by rfl'))) (λ_=>Blk.of (by rfl')) ?_ ?_ ?_ ?_<;>and_intros
def v15:Has P W K mg base 3 "_law_many_house" ["_law_feed_here"] (spI K 0 eB):=by
 have:=@v1 P W K mg base A;have:=@v12 P W K mg base A;have:=@v13 P W K mg base A;have:=c15.nd;have:=A.T;show Def.qi A.d15.to c15 (m:=cF) ?_ (λ_ _ h=>h);unfold cF;and_intros
 .show aQ (N':=["_law_feed_here","_law_many","_law_backward","_law_eights","_law_names_here","_law_wide","_law_rows","_law_desks","_law_x","_law_first","_law_count","_law_leaves","_law_k"]) (by ac_nf) (λ_=>Blk.of (by rfl')) ?_ ?_ ?_ ?_<;>and_intros
 .show ba _ (N':=["_law_feed_here","_law_many","_law_backward","_law_eights","_law_names_here","_law_wide","_law_rows","_law_desks","_law_x","_law_first","_law_count","_law_leaves","_law_k"]) (by ac_nf) (λ_=>(by first|assumption|show dE (by rfl'))) (λ_=>Blk.of (by rfl')) ?_ ?_ ?_ ?_<;>and_intros
 .show ba _ (N':=["_law_feed_here","_law_many","_law_backward","_law_eights","_law_names_here","_law_wide","_law_rows","_law_desks","_law_x","_law_first","_law_count","_law_leaves","_law_k","_law_row_here"]) (by ac_nf) (λ_=>(by first|assumption|show dE (by rfl'))) (λ_=>Blk.of (by rfl')) ?_ ?_ ?_ ?_<;>and_intros
def v16:Has P W K mg base 2 "_law_place" ["_law_feed_here","_law_ways"] (spI K 0 jN):=by
 have:=@v1 P W K mg base A;have:=c16.nd;have:=A.T;show Def.qi A.d16.to c16 (m:=ij) ?_ (λ_ _ h=>h);unfold ij;and_intros
 .show aQ (N':=["_law_feed_here","_law_ways","_law_far","_law_k"]) (by ac_nf) (λ_=>Blk.of (by rfl')) ?_ ?_ ?_ ?_<;>and_intros
def v17:∀n,Has P W K mg base (1+2*n) "determinant" ["table"] (spP K (av n))
 | 0=>Def.qp A.d17.to c17 (m:=dh) iw (λ_ _ h=>h)
 | n+1=>by
  have a:=v17 n;have c:Has P W K mg base (1+2*n+1) "signed_minor" ["table","line","at"] (spP K (bc n)):=Def.qp (k:=1+2*n) A.d18.to c18 (m:=aZ (av n)) (dM (ba 3 (N':=["table","line","at","left","row"]) (f:=[TU,TU,TV 2,TU,TU]) az (λ_=>c18.nd) (λ_=>Blk.of (by rfl')) (xg az (j8 az (xa az (bt 0) jo (jp (bt 1))) (xa az (bt 0) (jp (j8 az (bt 1) gt)) jo))) (kE 4 (λ_=>dE (by rfl'))) nH (j8 (CK.blk az) (xa (CK.blk az) (bt 4) jo (jp (bt 2))) (xa (CK.blk az) (bt 4) (jp (j8 (CK.blk az) (bt 2) gt)) jo)))
  (fZ (jK (Bz (lj az Fa (BA az (j8 az (bt 1) (bt 2)) gt) gt (CL _)) (mK az a (cc 3 cz)) (rT (mK az a (cc 3 cz))))))) (λ_ _ h=>h)
  show Def.qp (k:=1+2*n+1) A.d17.to c17 (m:=bu (bc n)) (dM (rW (xi (xj az (bt 0))) (fZ (jK gt)) nG)
  (fZ (jK (By az b_sum A.T.b_sum (bA (aQ (N':=["table","at","number"]) (f:=[TV 0,TU,TU]) az (λ_=>Blk.of (by rfl')) (rV az A.T (bA (Gg az (bt 0) gt) cz)) (qA (CK.blk az) (eh (kE 1 (λ_=>dE (by rfl'))) (eh (kE 2 (λ_=>dE (by rfl'))) nF))) nH (BB (CK.blk az) (bt 2) (mK (CK.blk az) c (cc 0 (bA gt (cc 1 cz)))))) cz))))) (λ_ _ h=>h)
def v18:Has P W K mg base 50 "signed_minor" ["table","line","at"] (spP K (bc 24)):=by
 have:=@v17 P W K mg base A 24;have:=c18.nd;have:=A.T;show Def.qp A.d18.to c18 (m:=aZ (av 24)) ?_ (λ_ _ h=>h);unfold aZ;and_intros
 .show ba _ (N':=["table","line","at","left","row"]) (by ac_nf) (λ_=>(by first|assumption|show dE (by rfl'))) (λ_=>Blk.of (by rfl')) ?_ ?_ ?_ ?_<;>and_intros
def v19:Has P W K mg base 50 "look_table" ["table"] (spP K eD):=
 Def.qp A.d19.to c19 (m:=dW) (fZ (rW (lj az uR (mK az (v17 A 24) (cc 0 cz)) (xb [] (bA gt (bA (rT gt) cz))) (by unhygienic rfl)) (fZ oZ) nG)) (λ_ _ h=>h)
def jC:uI P W K mg base 50 "look_table" ["table"] (spX K cX):=
 Def.qx A.d19.to c19 (m:=bV) (rY (Gp (lj ckX uR (mK ckX (v17 A 24) (cc 0 cz)) (xb [] (bA gt (bA (rT gt) cz))) (by unhygienic rfl)) (rY (xm ckX (tO A))) Ab)) (λ_ _ h=>h)
def v20:Has P W K mg base 1 "inner_parts" ["part"] (spP K dv):=by
 have:=c20.nd;have:=A.T;show Def.qp A.d20.to c20 (m:=cq) ?_ (λ_ _ h=>h);unfold cq;and_intros
def v21:Has P W K mg base 2 "parts_of" ["rule"] (spP K dO):=by
 have:=@v20 P W K mg base A;have:=c21.nd;have:=A.T;show Def.qp A.d21.to c21 (m:=dJ) ?_ (λ_ _ h=>h);unfold dJ;and_intros
def v22:Has P W K mg base 3 "with_rows" ["rule","rows"] (spP K fg):=by
 have:=@v21 P W K mg base A;have:=c22.nd;have:=A.T;show Def.qp A.d22.to c22 (m:=da) ?_ (λ_ _ h=>h);unfold da;and_intros
def v23:Has P W K mg base 1 "along" ["row","place"] (spP K jQ):=by
 have:=c23.nd;have:=A.T;show Def.qp A.d23.to c23 (m:=ip) ?_ (λ_ _ h=>h);unfold ip;and_intros
 .show aQ (N':=["row","place","number","other"]) (by ac_nf) (λ_=>Blk.of (by rfl')) ?_ ?_ ?_ ?_<;>and_intros
def v24:Has P W K mg base 2 "led_by" ["table","numbers"] (spP K f8):=by
 have:=@v23 P W K mg base A;have:=c24.nd;have:=A.T;show Def.qp A.d24.to c24 (m:=fU) ?_ (λ_ _ h=>h);unfold fU;and_intros
 .show aQ (N':=["table","numbers","line"]) (by ac_nf) (λ_=>Blk.of (by rfl')) ?_ ?_ ?_ ?_<;>and_intros
def v25:Has P W K mg base 3 "reads" ["rule"] (spP K jR):=by
 have:=@v21 P W K mg base A;have:=c25.nd;have:=A.T;show Def.qp A.d25.to c25 (m:=iq) ?_ (λ_ _ h=>h);unfold iq;and_intros
 .show aQ (N':=["rule","part"]) (by ac_nf) (λ_=>Blk.of (by rfl')) ?_ ?_ ?_ ?_<;>and_intros
def v26:Has P W K mg base 4 "turned_rule" ["rule","table"] (spP K dy):=by
 have:=@v22 P W K mg base A;have:=@v25 P W K mg base A;have:=@v24 P W K mg base A;have:=c26.nd;have:=A.T;show Def.qp A.d26.to c26 (m:=cu) ?_ (λ_ _ h=>h);unfold cu;and_intros
 .show aQ (N':=["rule","table","other","row"]) (by ac_nf) (λ_=>Blk.of (by rfl')) ?_ ?_ ?_ ?_<;>and_intros
def v27:Has P W K mg base 51 "turned" ["house","table"] (spP K eE):=by
 have:=@v19 P W K mg base A;have:=@v26 P W K mg base A;have:=c27.nd;have:=A.T;show Def.qp A.d27.to c27 (m:=fV) ?_ (λ_ _ h=>h);unfold fV;and_intros
 .show aQ (N':=["house","table","ways","wheel","desks","name","rule"]) (by ac_nf) (λ_=>Blk.of (by rfl')) ?_ ?_ ?_ ?_<;>and_intros
def ng:uI P W K mg base 51 "turned" ["house","table"] (spX K f9):=
 Def.qx A.d27.to c27 (m:=dL) (xn (Aa ckX (jC A) (cc 1 cz)) uh) (λ_ _ h=>h)
def v28:Has P W K mg base 1 "_law_sum" ["_law_row_here","_law_place_here"] (spP K iA):=by
 have:=c28.nd;have:=A.T;show Def.qp A.d28.to c28 (m:=ji) ?_ (λ_ _ h=>h);unfold ji;and_intros
 .show aQ (N':=["_law_row_here","_law_place_here","_law_one","_law_at"]) (by ac_nf) (λ_=>Blk.of (by rfl')) ?_ ?_ ?_ ?_<;>and_intros
def v29:Has P W K mg base 1 "_law_crossed" ["_law_one","_law_other"] (spP K gO):=by
 have:=c29.nd;have:=A.T;show Def.qp A.d29.to c29 (m:=eP) ?_ (λ_ _ h=>h);unfold eP;and_intros
 .show aQ (N':=["_law_one","_law_other","_law_some","_law_j","_law_k"]) (by ac_nf) (λ_=>Blk.of (by rfl')) ?_ ?_ ?_ ?_<;>and_intros
def v30:Has P W K mg base 2 "_law_determinant" ["_law_table_here"] (spP K du):=by
 have:=@v28 P W K mg base A;have:=@v29 P W K mg base A;have:=c30.nd;have:=A.T;show Def.qp A.d30.to c30 (m:=cg) ?_ (λ_ _ h=>h);unfold cg;and_intros
def v31:Has P W K mg base 52 "_law_refused" ["_law_house_here","_law_table_here"] (spP K gP):=
 Def.qp A.d31.to c31 (m:=gH) (dM (jL 2 (λ_=>c31.nd) BC)
  (dM (DZ 3 az A.E (ng A) (cc 0 (cc 1 cz)) (fZ (jL 2 (λ_=>c31.nd) (bt 3))) (λ_=>c31.nd))
  (dM (jL 4 (λ_=>c31.nd) (rS [] (bA (gN az A.E A.T.b_isinstance (by decide) (bt 2)) (bA (gN az A.E A.T.b_isinstance (by decide) (bt 2)) (bA (gN az A.E A.T.b_isinstance (by decide) (bt 2)) cz)))))
  (dM (jL 4 (λ_=>c31.nd) (j8 az (bt 4) (rS [] (bA (gN az A.E A.T.b_isinstance (by decide) (bt 2)) (bA (gN az A.E A.T.b_isinstance (by decide) (bt 2)) (bA (gN az A.E A.T.b_isinstance (by decide) (bt 2)) cz))))))
  (dM (jL 4 (λ_=>c31.nd) (j8 az (bt 4) (rS [] (bA (gN az A.E A.T.b_isinstance (by decide) (bt 2)) (bA (gN az A.E A.T.b_isinstance (by decide) (bt 2)) (bA (gN az A.E A.T.b_isinstance (by decide) (bt 2)) cz))))))
  (dM (rW (QW.t (BE (lj az Bd DM (bt 4) (by unhygienic rfl)) (xl (xk (gN az A.E A.T.b_isinstance (by decide) (bt 2)))))) (fZ (jK DM)) nG)
  (fZ (jK (Bx (gN az A.E A.T.b_isinstance (by decide) (bt 2)) (BD (Gf az A.E A.T.b_isinstance (bt 2)))))))))))) (λ_ _ h=>h)
def v32:∀n,Has P W K mg base (1+n) "_law_alike" ["_law_found","_law_due"] (spP K (dQ n))
 | 0=>Def.qp A.d32.to c32 (m:=dh) iw (λ_ _ h=>h)
 | n+1=>by
  have a:=v32 n;have:=c32.nd;have:=A.T;show Def.qp (k:=1+n) A.d32.to c32 (m:=ic (dQ n)) ?_ (λ_ _ h=>h);unfold ic;and_intros
  .show aQ (N':=["_law_found","_law_due","_law_one","_law_other"]) (by ac_nf) (λ_=>Blk.of (by rfl')) ?_ ?_ ?_ ?_<;>and_intros
def v33:Has P W K mg base 3 "turned_cell" ["cell","table"] (spP K dw):=by
 have:=@v24 P W K mg base A;have:=c33.nd;have:=A.T;show Def.qp A.d33.to c33 (m:=cr) ?_ (λ_ _ h=>h);unfold cr;and_intros
def v34:∀n,Has P W K mg base (2+n) "_law_led" ["_law_rule","_law_table_here"] (spP K (eA n))
 | 0=>Def.qp A.d34.to c34 (m:=dh) iw (λ_ _ h=>h)
 | n+1=>by
  have a:=v34 n;have:=@v28 P W K mg base A;have:=c34.nd;have:=A.T;show Def.qp (k:=2+n) A.d34.to c34 (m:=fS (eA n)) ?_ (λ_ _ h=>h);unfold fS;and_intros
  .show aQ (N':=["_law_rule","_law_table_here","_law_begun","_law_row_here"]) (by ac_nf) (λ_=>Blk.of (by rfl')) ?_ ?_ ?_ ?_<;>and_intros
  .show aQ (N':=["_law_rule","_law_table_here","_law_begun","_law_part"]) (by ac_nf) (λ_=>Blk.of (by rfl')) ?_ ?_ ?_ ?_<;>and_intros
def v35:Has P W K mg base 53 "_law_right" ["_law_house_here","_law_table_here","_law_places"] (spP K f7):=by
 have:=@v30 P W K mg base A;have:=@v31 P W K mg base A;have:=@v34 P W K mg base A 24;have:=@v32 P W K mg base A 24;have:=@v27 P W K mg base A;have:=@v33 P W K mg base A;have:=@v28 P W K mg base A;have:=c35.nd;have:=A.T;show Def.qp A.d35.to c35 (m:=dI) ?_ (λ_ _ h=>h);unfold dI;and_intros
 .show aQ (N':=["_law_house_here","_law_table_here","_law_places","_law_due","_law_place_here","_law_cell","_law_name","_law_rule"]) (by ac_nf) (λ_=>Blk.of (by rfl')) ?_ ?_ ?_ ?_<;>and_intros
 .show aQ (N':=["_law_house_here","_law_table_here","_law_places","_law_due","_law_place_here","_law_cell","_law_row_here"]) (by ac_nf) (λ_=>Blk.of (by rfl')) ?_ ?_ ?_ ?_<;>and_intros
def v36:Has P W K mg base 54 "law" ["_law_script"] (spP K r_l_law_v15):=by
 have:=@v0 P W K mg base A;have:=@v3 P W K mg base A;have:=@v2 P W K mg base A;have:=@v1 P W K mg base A;have:=@v14 P W K mg base A;have:=@v15 P W K mg base A;have:=@v16 P W K mg base A;have:=@v27 P W K mg base A;have:=@v35 P W K mg base A;have:=c36.nd;have:=A.T;show Def.qp A.d36.to c36 (m:=eQ) ?_ (λ_ _ h=>h);unfold eQ;and_intros
 .show ba _ (N':=["_law_script","_law_k","_law_feed_here","_law_tables","_law_plains","_law_many","_law_house_here","_law_table_here","_law_plain","_law_places","_law_back","_law_names_here","_law_rules","_law_twin","_law_some","_law_one","_law_j"]) (by ac_nf) (λ_=>(by first|assumption|show dE (by rfl'))) (λ_=>Blk.of (by rfl')) ?_ ?_ ?_ ?_<;>and_intros
 .show ba _ (N':=["_law_script","_law_k","_law_feed_here","_law_tables","_law_plains","_law_many","_law_house_here","_law_table_here","_law_plain","_law_places","_law_back","_law_names_here","_law_rules","_law_twin","_law_some","_law_one","_law_j"]) (by ac_nf) (λ_=>(by first|assumption|show dE (by rfl'))) (λ_=>Blk.of (by rfl')) ?_ ?_ ?_ ?_<;>and_intros
 .show ba _ (N':=["_law_script","_law_k","_law_feed_here","_law_tables","_law_plains","_law_many","_law_house_here","_law_table_here","_law_plain","_law_places","_law_back","_law_names_here","_law_rules","_law_twin","_law_some","_law_one","_law_j"]) (by ac_nf) (λ_=>(by first|assumption|show dE (by rfl'))) (λ_=>Blk.of (by rfl')) ?_ ?_ ?_ ?_<;>and_intros
 .show aQ (N':=["_law_script","_law_k","_law_feed_here","_law_tables","_law_plains","_law_many","_law_house_here","_law_table_here","_law_plain","_law_places","_law_back","_law_names_here","_law_rules","_law_twin","_law_some","_law_one","_law_j"]) (by ac_nf) (λ_=>Blk.of (by rfl')) ?_ ?_ ?_ ?_<;>and_intros;show aQ (N':=["_law_script","_law_k","_law_feed_here","_law_tables","_law_plains","_law_many","_law_house_here","_law_table_here","_law_plain","_law_places","_law_back","_law_names_here","_law_rules","_law_twin","_law_some","_law_one","_law_j","_law_row_here"]) (by ac_nf) (λ_=>Blk.of (by rfl')) ?_ ?_ ?_ ?_<;>and_intros
 .show aQ (N':=["_law_script","_law_k","_law_feed_here","_law_tables","_law_plains","_law_many","_law_house_here","_law_table_here","_law_plain","_law_places","_law_back","_law_names_here","_law_rules","_law_twin","_law_some","_law_one","_law_desk"]) (by ac_nf) (λ_=>Blk.of (by rfl')) ?_ ?_ ?_ ?_<;>and_intros
 .show aQ (N':=["_law_script","_law_k","_law_feed_here","_law_tables","_law_plains","_law_many","_law_house_here","_law_table_here","_law_plain","_law_places","_law_back","_law_names_here","_law_rules","_law_twin","_law_some","_law_one","_law_desk"]) (by ac_nf) (λ_=>Blk.of (by rfl')) ?_ ?_ ?_ ?_<;>and_intros
 .show aQ (N':=["_law_script","_law_k","_law_feed_here","_law_tables","_law_plains","_law_many","_law_house_here","_law_table_here","_law_plain","_law_places","_law_back","_law_names_here","_law_rules","_law_twin","_law_some","_law_one","_law_name","_law_rule"]) (by ac_nf) (λ_=>Blk.of (by rfl')) ?_ ?_ ?_ ?_<;>and_intros
end
end K47
open PySem PySem.W PyProof.Rows
set_option maxRecDepth 100000 in
set_option maxHeartbeats 0 in
theorem PySem.Challenge.cw_clockhouse_k47_houses_turned_holds : PySem.Challenge.rw_clockhouse_k47_houses_turned.Holds := by
 show holds_law K47.ws λsaid=>?_;show holds_open (q:=K47.KQ) (loose:=K47.KL) (XP:=XL K47.KQ []) (YP:=K47.KH.says) K47.left K47.KH.of K47.KH.keeps (λs e=>xl_of s (J1.mp e).1) XL.keeps (by rfl) (by rfl) (by rfl) (λs e=>recFacts_of (J1.mp e).2) (by rfl) said (by rfl') {Xr,Xr,Xr,Xr,Xr,by decide +kernel} ?hw ?hc
 case hw=>w_witness2
 show L2.walkN (l:=PySem.Challenge.rw_clockhouse_k47_houses_turned) (k:=54) (x:="_law_script") (st:=K47.s_law) (run:=L2.r_l_law_v15) (A:=K47.Adr) (K:=K47.KF) rfl rfl {Xr,Xr,by decide,by decide} (λw h Y=>Y) K47.adr0 (λP=>by rfl') (λmg K A=>A.d36.to) (λ_ _ _ _ _ _ s v=>.of_eq rfl) (λw mg K base A=>K47.v36 A) (λns hn=>L2.k47_law (ns:=ns) hn)
