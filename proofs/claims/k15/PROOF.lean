import PyProof.Rows.All
import KE.KPairComp
import KE.KEqDict
import KE.KFromBytes
import KE.KIsAll
import KE.KRevIter
import KE.KDictOf
import KE.KSortTup
import PySem.Challenge.RW_clockhouse_k15_what_a_cell_needs
set_option Elab.async false
set_option linter.all false
set_option maxRecDepth 100000
set_option maxHeartbeats 4000000
set_option genSizeOf false
set_option bootstrap.genMatcherCode false
set_option compiler.extract_closed false
set_option hygiene false
open Lean in
local macro_rules|`(tactic| ext $p:rintroPat*)=>do
 let i:=p.map fun p=>(⟨p.raw[0][0]⟩:Ident)
 let h:=i[0]!
 let s<-`(tactic| (split at $h:ident<;>first|(cases $h:ident;done)|skip))
 if i.size<2 then return s
 let r:=i.extract 1 i.size
 `(tactic| ($s:tactic;rename_i $[$r:ident]*))
local macro_rules(kind:=«term{_}»)|`({$x:term,*})=>`(⟨$x,*⟩)
open Option renaming none->TF,some->TH
open Bool renaming true->TK,false->TJ
local macro_rules|`(nofun)=>`(by ac_nf)
def X02{P Q:Prop}{G:Prop}(h:P/\Q)(k:P->Q->G):G:=by rcases h with⟨p,q⟩;exact k p q
def X03{P Q R:Prop}{G:Prop}(h:P/\Q/\R)(k:P->Q->R->G):G:=by rcases h with⟨p,q,r⟩;exact k p q r
def X04{P Q R S:Prop}{G:Prop}(h:P/\Q/\R/\S)(k:P->Q->R->S->G):G:=by rcases h with⟨p,q,r,s⟩;exact k p q r s
def X05{P Q R S T:Prop}{G:Prop}(h:P/\Q/\R/\S/\T)(k:P->Q->R->S->T->G):G:=by rcases h with⟨p,q,r,s,t⟩;exact k p q r s t
def X06{P Q R S T U:Prop}{G:Prop}(h:P/\Q/\R/\S/\T/\U)(k:P->Q->R->S->T->U->G):G:=by rcases h with⟨p,q,r,s,t,u⟩;exact k p q r s t u
def X11{P:α->Prop}{G:Prop}(h:∃a,P a)(k:∀a,P a->G):G:=by rcases h with⟨a,p⟩;exact k a p
def X12{P Q:α->Prop}{G:Prop}(h:∃a,P a/\Q a)(k:∀a,P a->Q a->G):G:=by rcases h with⟨a,p,q⟩;exact k a p q
def X13{P Q R:α->Prop}{G:Prop}(h:∃a,P a/\Q a/\R a)(k:∀a,P a->Q a->R a->G):G:=by rcases h with⟨a,p,q,r⟩;exact k a p q r
def X14{P Q R S:α->Prop}{G:Prop}(h:∃a,P a/\Q a/\R a/\S a)(k:∀a,P a->Q a->R a->S a->G):G:=by rcases h with⟨a,p,q,r,s⟩;exact k a p q r s
def X15{P Q R S T:α->Prop}{G:Prop}(h:∃a,P a/\Q a/\R a/\S a/\T a)(k:∀a,P a->Q a->R a->S a->T a->G):G:=by rcases h with⟨a,p,q,r,s,t⟩;exact k a p q r s t
def X21{P:α->β->Prop}{G:Prop}(h:∃a b,P a b)(k:∀a b,P a b->G):G:=by rcases h with⟨a,b,p⟩;exact k a b p
def X22{P Q:α->β->Prop}{G:Prop}(h:∃a b,P a b/\Q a b)(k:∀a b,P a b->Q a b->G):G:=by rcases h with⟨a,b,p,q⟩;exact k a b p q
def X23{P Q R:α->β->Prop}{G:Prop}(h:∃a b,P a b/\Q a b/\R a b)(k:∀a b,P a b->Q a b->R a b->G):G:=by rcases h with⟨a,b,p,q,r⟩;exact k a b p q r
def X24{P Q R S:α->β->Prop}{G:Prop}(h:∃a b,P a b/\Q a b/\R a b/\S a b)(k:∀a b,P a b->Q a b->R a b->S a b->G):G:=by rcases h with⟨a,b,p,q,r,s⟩;exact k a b p q r s
def X25{P Q R S T:α->β->Prop}{G:Prop}(h:∃a b,P a b/\Q a b/\R a b/\S a b/\T a b)(k:∀a b,P a b->Q a b->R a b->S a b->T a b->G):G:=by rcases h with⟨a,b,p,q,r,s,t⟩;exact k a b p q r s t
def X26{P Q R S T U:α->β->Prop}{G:Prop}(h:∃a b,P a b/\Q a b/\R a b/\S a b/\T a b/\U a b)(k:∀a b,P a b->Q a b->R a b->S a b->T a b->U a b->G):G:=by rcases h with⟨a,b,p,q,r,s,t,u⟩;exact k a b p q r s t u
def X32{P Q:α->β->γ->Prop}{G:Prop}(h:∃a b c,P a b c/\Q a b c)(k:∀a b c,P a b c->Q a b c->G):G:=by rcases h with⟨a,b,c,p,q⟩;exact k a b c p q
def X33{P Q R:α->β->γ->Prop}{G:Prop}(h:∃a b c,P a b c/\Q a b c/\R a b c)(k:∀a b c,P a b c->Q a b c->R a b c->G):G:=by rcases h with⟨a,b,c,p,q,r⟩;exact k a b c p q r
def X34{P Q R S:α->β->γ->Prop}{G:Prop}(h:∃a b c,P a b c/\Q a b c/\R a b c/\S a b c)(k:∀a b c,P a b c->Q a b c->R a b c->S a b c->G):G:=by rcases h with⟨a,b,c,p,q,r,s⟩;exact k a b c p q r s
def X35{P Q R S T:α->β->γ->Prop}{G:Prop}(h:∃a b c,P a b c/\Q a b c/\R a b c/\S a b c/\T a b c)(k:∀a b c,P a b c->Q a b c->R a b c->S a b c->T a b c->G):G:=by rcases h with⟨a,b,c,p,q,r,s,t⟩;exact k a b c p q r s t
def X43{P Q R:α->β->γ->δ->Prop}{G:Prop}(h:∃a b c d,P a b c d/\Q a b c d/\R a b c d)(k:∀a b c d,P a b c d->Q a b c d->R a b c d->G):G:=by rcases h with⟨a,b,c,d,p,q,r⟩;exact k a b c d p q r
def X44{P Q R S:α->β->γ->δ->Prop}{G:Prop}(h:∃a b c d,P a b c d/\Q a b c d/\R a b c d/\S a b c d)(k:∀a b c d,P a b c d->Q a b c d->R a b c d->S a b c d->G):G:=by rcases h with⟨a,b,c,d,p,q,r,s⟩;exact k a b c d p q r s
def X45{P Q R S T:α->β->γ->δ->Prop}{G:Prop}(h:∃a b c d,P a b c d/\Q a b c d/\R a b c d/\S a b c d/\T a b c d)(k:∀a b c d,P a b c d->Q a b c d->R a b c d->S a b c d->T a b c d->G):G:=by rcases h with⟨a,b,c,d,p,q,r,s,t⟩;exact k a b c d p q r s t
def Xr{c:Sort _}{a:c}:a=a:=rfl
def Xn{a:α}{C:Prop}(h:none=some a):C:=nomatch h
def Xb{C:Prop}(h:false=true):C:=nomatch h
def Xs{a b:α}{C:Prop}(h:some a=some b)(k:b=a->C):C:=k (Option.some.inj h).symm
def Xt{a b:α}{c d:β}{C:Prop}(h:some (a,c)=some (b,d))(k:b=a->d=c->C):C:=by cases h;exact k rfl rfl
local macro_rules|`(tactic| cases $h:ident)=>`(tactic| first|exact Xn $h|exact Xb $h|subst $h:ident|(refine Xt $h fun e_1 e_2=>?_;clear $h;subst e_1;subst e_2)|(refine Xs $h fun e_1=>?_;clear $h;subst e_1)|cases ($h))
open Lean Parser.Tactic in
local macro_rules|`(tactic| have($x,$y,*):=$t)=>do
 let e:=#[x]++y.getElems
 let mut b:=#[]
 let mut u:=#[]
 let mut p:=#[]
 for x in e do
  let i:Ident:=⟨x.raw⟩
  p:=p.push (<-if i.raw.isIdent then `(rcasesPatLo|$i:ident) else `(rcasesPatLo|_))
  if i.getId==`rfl then
   let j:=mkIdent (.mkSimple s!"e_{b.size}")
   b:=b.push j;u:=u.push (<-`(tactic| subst $j:ident))
  else b:=b.push i
 let f<-`(tactic| rcases $t:term with⟨$p,*⟩)
 if t.raw.isIdent&&e.any (·.raw.getId==t.raw.getId) then return f
 if t.raw.isIdent then u:=u.push (<-`(tactic| try clear $(⟨t.raw⟩):ident))
 let n:=e.size
 let mut c<-`(tactic| fail)
 for k in [0:n] do
  let q:=n-1-k
  c<-`(tactic| first|refine $(mkIdent (.mkSimple s!"X{q}{n-q}")) $t fun $b*=>?_|$c:tactic)
 for v in u do c<-`(tactic| ($c:tactic;$v:tactic))
 `(tactic| first|$c:tactic|$f:tactic)
open Lean Parser.Tactic in
local macro_rules|`(tactic| rcases $t:term with $p:rcasesPatLo)=>do
 let s:=p.raw[0][0].getSepArgs
 if s.size != 2 then Macro.throwUnsupported
 let g(a:Syntax):MacroM (Ident×TSyntax `tactic):=do
  if a.getKind==`Lean.Parser.Tactic.rcasesPat.one then
   let i:Ident:=⟨a[0]⟩
   if i.getId==`rfl then return (mkIdent `h_9,<-`(tactic| subst h_9))
   return (i,<-`(tactic| skip))
  if a.getKind != `Lean.Parser.Tactic.rcasesPat.tuple then Macro.throwUnsupported
  let mut r:Array Term:=#[]
  for e in a[1].getSepArgs do
   let x:=e[0][0]
   if e[1].getNumArgs==0&&x.getNumArgs==1&&x[0].getKind==`Lean.Parser.Tactic.rcasesPat.one then r:=r.push ⟨x[0][0]⟩
  if r.size==a[1].getSepArgs.size&&r.size>1 then
   let y:=r.extract 1 r.size
   return (mkIdent `h_9,<-`(tactic| have($(r[0]!),$y,*):=h_9))
  let q:TSyntax ``rcasesPatLo:=⟨mkNode ``rcasesPatLo #[mkNode ``rcasesPatMed #[mkNullNode #[a]],mkNullNode]⟩
  return (mkIdent `h_9,<-`(tactic| rcases h_9 with $q:rcasesPatLo))
 let (i,c)<-g s[0]!
 let (j,d)<-g s[1]!
 `(tactic| (refine Or.elim $t (fun $i=>?_) (fun $j=>?_);$c:tactic;rotate_left;$d:tactic;rotate_right))
local macro_rules|`(~~~$x)=>`(not $x)
local macro_rules|`(!$x)=>`(List $x)
local macro_rules|`(↑$x)=>`(Option $x)
local macro_rules|`($x*>$y)=>`($x=some $y)
local macro_rules|`(abbrev $i:declId $s:optDeclSig $v:declVal)=>`(noncomputable def $i:declId $s:optDeclSig $v:declVal)
local macro_rules|`(private def $i:declId $s:optDeclSig $v:declVal)=>`(@[irreducible] noncomputable def $i:declId $s:optDeclSig $v:declVal)
local macro_rules|`(protected def $i:declId $s:optDeclSig $v:declVal)=>`(@[reducible] def $i:declId $s:optDeclSig $v:declVal)
local macro_rules|`(def $i:declId $b:bracketedBinder* : $t $v:declVal)=>`(theorem $i:declId $b:bracketedBinder* : $t $v:declVal)
local macro_rules|`(↥$x)=>`(some ⟨.ow,.im $x⟩)
local macro_rules|`(⇑$x)=>`(some ⟨.ow,$x⟩)
local macro_rules|`(⋯)=>`(by omega)
local macro_rules|`(∅)=>`(by simp)
local macro_rules|`(tactic| dsimp[$l,*]$[at $h]?)=>`(tactic| simp only[$l,*]$[at $h]?)
local macro_rules|`(tactic| exists $e)=>`(tactic| simpa using $e)
local macro_rules|`(tactic| delta $i*)=>`(tactic| rename_i $[$i:ident]*)
local macro_rules|`(tactic| show $e)=>`(tactic| refine $e)
open PySem renaming wpAny_bind->Nj,Value->Nk,wpAny_pure->Nl,Shared->Nm,sizeLine_eq->No,wpAny->Np,Builtin->Nq,model->Nu,Program->Nv,NameKind->Ny,wpAny_newObj_type->Nz,World->NB,starEach->NG,wpAny_call_entry->NH,wpAny_holding->NI,wpAny_field->NL,Around->NM,cLine->NN,wpAny_callSpecial?_slot->NO,cellsFrom->NQ,wpAny_mono->NR,compareOp->NT,wpAny_seqItems->NX,foldedSetIterable->NY,mainGlobals->NZ,binaryOp->N1,call_meets->N4,sysModules->N6,wpAny_truthy_bool->N7,holding->N8,bootBuiltins->Oc,wpAny_standAt->Od,wpAny_setField->Oe,assignEach->Og,attributeBase->Oh,wpAny_isInstance->Ol,PassesOwn->Oo,wpAny_passesOwn->Op,wpAny_specialOf->Oq,wpAny_dictEntries->Ot,wpAny_rule->Ou,wpAny_comprehension_free->Ov,FuncData->Ox,IsPair->Oy,sliceBounds->OA,wpAny_typeNameOfWhole_keyiter->OB,codeAny->OD,wpAny_typeOf->OE,letOwnedTupleGo->OG,behindInMarks->OI,assign->OJ,wpAny_forIn_list->OP,wpAny_binaryOp_repeat_ref->OQ,rawInt->OS,wpAny_typeNameOf_keyiter->OW,standAt->OX,wpAny_pyIter_tuple->OY,getattributeRaised->O6,Scope->O8,backTo->O9,pyNext->Pa,newFunctionEnv->Pc,wpAny_notOrdered_dict->Pf,isSubtype_tuple_tuple->Pg,swapsWith->Pi,typeIs_int->Pk,PlainAttrs->Pl,wpAny_updateSeq_pair->Pq,wpAny_execs_nil->Ps,wpAny_dictEpoch->Px,getItem->Pz,wpAny_Call_Name_kw->PK,fitsIndex_both->PP,firstArgMember->PU,wpAny_tupleItemsOf->PY,setItem->P5,wpAny_assign_Name->P6,wpAny_pyIter_list->P7,wpAny_sequenceKey->P8,swapsWithSole->Qb,swappedStores->Qc,IsPart->Qd,evalPart_none->Qe,wpAny_attempt->Qh,wpAny_onRaise->Qi,wpAny_pyNext_tuple_item->Qk,noFill_tuple_add->Ql,seqItems?->Qp,wpAny_pyNext_list_item->Qq,wpAny_pyNext_tuple_end->Qr,relabel->Qv,pushCells_keeps->QB,Draws->QD,size_of_entries->QH,wpAny_isTrue_Compare1->QJ,wpAny_pyNext_list_end->QK,int___rmul___int_list->QL,exec_Assign_Name_used->QM,wpAny_nextOf_list_end->QU,wpAny_isOneOf_keyiter->QV,subscripted->QX,wpAny_listPart->QY,wpAny_letGo->QZ,isSubtype_stop->Q0,carriedByValue->Q4,atKey->Q5,storedH_new->Q6,storedH_old->Q7,DictEntry->Ra,BindsTo->Rb,callerA->Rc,valueAt->Re,eqIsQuiet->Rf,assignInOrder->Rk,seq_tuple_add->Rl,dictSetHashed->Ro,builtinsNs->Rt,isTrue->Rv,typeLookup->Rx,typeOf->RA,sub_AttributeError->RC,stored->RD,isInstance->RE,wpAny_dictSet_heap->RF,codeAny_mono->RH,concat_meets->RJ,slot_list_getitem->RK,slot_list_setitem->RM,dictSet->RT,eqIsQuiet_byValue->RU,wpAny_pyIter_enum->RV,wpAny_execs_cons->RY,pyIter->RZ,Result->R3,wpAny_pyIter_zip->R8,wpAny_Slice->Sa,seqIndex_of->Sb,wpAny_of_eq->Sc,field->Sd,noFill_list_mul->Sh,wpAny_updateSeq->Sj,theTreesLotGoes->Sk,post_val_or_str->Sl,am_miss_of_fast->Sm,codeAny_builtin->Sn,release->Sq,Keyword->Sr,wpAny_Name->Sv,CmpOp->Sw,truthy->Sx,bindName->Sy,wpAny_bindName->SA,recursionLimit->SB,bindArgs->SC,bindL->SD,bindC->SE,typeIs_str->SF,sliceRange_one->SG,compPost->SH,IsZip->SK,setField->SM,getAttr?->SN,IsTupleKey->SO,seqIndex?->SX,Params->Tb,storedH->Tf,Walks->Tj,pick_run->Tk,compEnvC->Tn,newExc->Tt
open PySem.Heap renaming get?_push_of_some->Nn,lt_size->Nr,get?_push_size->Nt,SameBut->Nw,get?_update_self->NV,size_push->N9,ExtBut->Qa,get?_update_other->Qt,push->TC
open PySem.Value renaming ref->Nx,none->N5,ellipsis->OO,builtin->Po,bool->PF,int->RW,str->RX,type->Su,isStrOf->SS,isInt->Th
open Ne renaming symm->NA
open PySem.Heap.SameBut renaming update->NC,refl->Tx
open PySem.Str renaming ofString->ND,length->Tq
open PySem.Builtin.Tuple renaming tupleExact->NE,tupleHashOf->N0,tupleItemsOf->OM,tupleTooMany->PR
open PySem.NameKind renaming cell->NF,free->Oj
open PySem.Builtin.SmallTypes renaming nextOf->NJ,ownedTupleIsFree->OU,ownedTupleHandOut->Ri
open PySem.SeqAt renaming EqAt->NK,notIn_tupleAt->Rh,notIn_listAt->Rz,RcNeAt->RN,in_tupleAt->R4,in_listAt->Sf,RcAt->SI
open PySem.Builtin.Slice renaming slicePlaces->NP,sliceAdjust->N3,sliceApplied->Om,sliceFields->PZ,slicePartIndex->Se
open PySem.Builtin.List renaming listTooLong->NS,listSubscript?->PB,listAllItems->P0,listSameRef->Qg,listItems->Ta
open PySem.Builtin.Str renaming strSliceIndices->NU,occurrences->Of,tooLong->Tp
open PySem.Obj renaming mapFields->NW,data_mapFields->OZ,mapSeq->Pj,isFreed_of_fields->QN,data_mapDictKeys->Q8,isFreed_of_dict->Rj,cls_mapFields->RQ,data_mapDict->R9
open PySem.PassesOwn renaming never->Oa
open PySem.F renaming slot_tuple_iterator_next->On,slot_int_rmul->OH,slot_tuple_getattribute->OR,slot_list_getattribute->OV,slot_tuple_hash->Pe,slot_tuple_mul->Pm,args_list_extend_2->Pp,args_tuple_iterator_next_1->Pu,slot_zip_next->Pv,slot_tuple_eq->Pw,entry_list_extend->Py,entry_tuple_iterator_next->PD,slot_list_extend->PN,args_int_rmul_2->P9,slot_int_index->Qm,entry_int_rmul->Qn,fills_int_mul->Qz,slot_enumerate_next->QP,args_tuple_mul_2->RB,args_list_mul_2->RL,slot_tuple_rmul->RO,entry_tuple_mul->RP,args_zip_next_1->RS,entry_list_pop->R5,entry_list_mul->R6,entry_zip_next->R7,slot_list_pop->Sg,slot_list_mul->Si
open ForInStep renaming yield->Os
open PySem.AutoSeq1 renaming wpAny_loadPart'->Ow,list_extend_list_list_0->Pb,idx_int->Qo
open PySem.Builtin.Dict renaming updateFrom->Oz,showsAll->Ph,selfAndRest->Qj,pairItems->Qw,mergeDict->Qx,readDirectly->SQ,dictSlotNone->SR,addKeywords->SU,merge->Tv
open False renaming elim->OC
open Sum renaming inr->OL,inl->P3
open True renaming intro->ON
open Or renaming inr->OT,inl->PV
open PySem.AutoListH renaming list___mul___list_int_3->O7
open PySem.Txt renaming join->Pd,slice->SY
open Classical renaming choose->Pn
open PyProof.Rows renaming envOfC->Pt,assignInOrder_cons->PJ,slicePart_none->PL,AllBare->P4,subscriptTail->Qf,subscriptTail_builtinR->Qs,entry_tuple_getitem->Rg,tupleItemsOf_->Rn,args_tuple_getitem->Rw,Subscript_->Ry,assignInOrder_nil->RG,IntsAre->Ss,IsTup->SV,tail_any->Tl
open PySem.Calls renaming Name_function_global->PH,callWith_builtin->Qu
open PySem.Heap.IsSliceOf renaming new->PM
open PySem.Code renaming quiet_builtin->PX
open PUnit renaming unit->Qy
open PySem.Around renaming under_plainId->Q3
open Std.Legacy.Range renaming forIn_eq_forIn_range'->Q9,size->Tg
open PySem.SeqAt.EqAt renaming int_str->Rq,str_int->Rs
open PySem.Builtin.Dict_items renaming ownsTuple->So
open PySem.SeqAt.RcNeAt renaming lists_lengths->SJ,tuples->To,lists->Ts
open PySem.Builtin.Range renaming rangeSize->SW
open PySem.W renaming specialIn->SZ,OpenLaw->Tc,WShape->Td,findIn->Te,WData->Tw
open Sum.inr renaming inj->Ti
open PySem.W.WShape renaming has->Tr
open PySem.Draws renaming list->Tu
open PySem.Flow renaming next->Tz
open PySem.W.WData renaming int->TB
open PySem.Heap.DictOf renaming new->TD
open List renaming length_map->Ih,getElem?_eq_some_iff->Ii,size_toArray->Ij,replicate->Ik,nodup_append->Im,map_cons->Io,length_append->Ip,mem_map->Is,map_append->Iu,length_cons->Iv,getElem?_map->Iw,mem_filter->Ix,flatMap_cons->Iy,flatMap_append->Iz,append_assoc->IC,getElem?_set_ne->ID,take_of_length_le->IF,getElem?_eq_getElem->II,filterMap_cons->IK,filterMap_append->IL,append_nil->IM,map_map->IN,mem_cons->IP,length_take->IR,cons_append->IT,perm_middle->IU,not_mem_nil->IV,nodup_cons->IW,mem_map_of_mem->IX,filter_append->IY,range->I8,mem_filterMap->I9,getD_eq_getElem?_getD->Ja,replicate_succ->Jb,lookup_cons->Jc,exists_cons_of_length_eq_add_one->Jd,getElem?_cons_succ->Jg,take_length->Ji,getElem?_append_left->Jj,take_succ->Jk,length_drop->Jl,nodup_nil->Jn,getElem?_set_self->Jp,filter_sublist->Jq,nil_append->Jr,mem_flatMap->Ju,filter_cons->Jv,length_eq_zero_iff->Jw,contains_eq_mem->Jy,getElem?_append_right->JA,flatten_cons->JB,drop_eq_getElem_cons->JC,mem_singleton->JD,all_eq_true->JE,mem_range->JJ,length->JL,mem_of_mem_take->JM,cons->JN,getElem?_cons_zero->JO,filter_eq_self->JQ,getElem_cons_drop->JR,getElem?_zip_eq_some->JT,ext_getElem?->JW,mem_of_mem_drop->JX,all_cons->JY,eq_nil_of_length_eq_zero->J1,mem_replicate->Ka,mem_append->Kb,foldl_cons->Kc,forIn_cons->Ke,take_append_drop->Kh,reverse_cons->Ki,map_take->Km,length_set->Kn,length_nil->Ko,find?_cons->Kq,filterMap_map->Kr,append_of_mem->Ks,eraseIdx_cons_succ->Kt,length_range->Kv,eraseIdxIfInBounds_toArray->Kw,eraseIdx_eq_take_drop_succ->Kx,mem_iff_getElem?->Ky,getElem?_eq_none->Kz,drop_length->KB,flatMap_nil->KC,map_drop->KD,lookup->KI,getLast?_append->KJ,filter_map->KN,length_zip->KO,countP_eq_length_filter->KP,map_congr_left->KR,map_nil->KS,filter_filter->KW,perm_ext_iff_of_nodup->KY,getElem?_eq_none_iff->K2,filter_congr->K5,foldl_append->K6,append_cancel_right->K7,filterMap_cons_none->K8,getElem?_replicate->K9,flatMap_eq_nil_iff->Le,map_reverse->Lf,foldl->Lh,sublist_cons_self->Lk,map_set->Ll,of_mem_zip->Ln,head?_drop->Lq,sum_append->Lr,range_succ->Lu,dropLast_eq_take->Lv,eq_nil_or_concat->Lx,length_filter_le->Ly,forIn_nil->LA,set_append_left->LC,drop_drop->LF,length_reverse->LK,map_eq_nil_iff->LL,reverse_append->LM,length_flatMap->LN,zipWith_append->LO,any_cons->LP,set_cons_succ->LS,all_nil->LY,eraseIdx_nil->L0,mem_flatten->L8,range'_succ->Ma,sum_reverse->Mb,drop_zero->Mh,take_zero->Mi,range'->MF
open Bool renaming and_eq_true->Il,false_ne_true->Ir,false_eq_true->IQ,not_eq_true'->I0,eq_iff_iff->Jo,not_true->Kf,and_self->Kl,or_eq_true->Lo,and_false->Lz,not_false->LD,and_eq_true_iff->LI,true_and->LQ,not_eq_true->L7,false_and->Mg,false_bne->Mj,false_or->Mk,and_true->Ml,true_bne->Mm,true_or->Mr
open Nat renaming le_refl->Iq,ne_of_lt->IA,lt_of_lt_of_le->IB,le_trans->IS,zero_add->IZ,zero_le->Jm,lt_of_le_of_lt->Js,le_add_right->Jt,lt_irrefl->JG,le_of_lt->JH,succ->JS,zero_lt_succ->JZ,ne_of_gt->J3,succ_le_succ->KA,le_succ->KG,mod_lt->K0,lt_succ_of_lt->K4,lt_succ_self->Lc,le_max_right->Ld,lt_trans->Li,le_max_left->Lp,min_eq_left->Ls,le_of_ble_eq_true->Lw,mul_le_mul->LB,pow_le_pow_right->LH,add_le_add_left->LJ,add_assoc->LR,mul_comm->LW,lt_of_succ_lt->LZ,le_succ_of_le->L5,le_antisymm->Md,not_lt_zero->Me,zero_lt_one->Mf,le_of_eq->Ms,min_self->Mt,sub_zero->Mw,lt_or_ge->Mx
open Option renaming map_eq_some_iff->IE,some->IG,bind_eq_some_iff->IH,bind_some->Jh,map_some->JU,isSome_iff_exists->Kk,getD_none->La,map->LU
open Int renaming toNat_natCast->IJ,emod_lt_of_pos->JF,emod_nonneg->JV,nonneg_of_mul_nonneg_left->KM,fdiv_eq_ediv_of_nonneg->KT,eq_ofNat_of_zero_le->Lb,ediv_one->Mq,zero_add->Mv,mul_zero->My,add_mul->MH
open PyProof.Rows renaming slot_tuple_getitem->Je,callWith_type1->Jz,boot_list->J4,boot_dict->Lm,callWith_builtin1->L6,boot_tuple->Mn,boot_min->Mz,boot_max->MB,boot_int->MC,boot_sum->MD
open Array renaming length_toList->Jf,getElem?_toList->Kg,forIn_toList->KZ,size_append->LX,toList->Mo
open PySem.W renaming fnOf->JI,keepIn->JK,codeIn->Kj,cellsFrom_some->Ku,findIn->KU,methodObj->K3,nsIn->Lj,kitOne->LG,specialIn->LV,instObj->Mc,isFn->Mp
open PySem renaming mem_of_lookup->JP,seqSlot_of->L9
local macro_rules|`(tactic| unhygienic $t)=>`(tactic| with_unfolding_all $t)
local macro_rules|`(tactic| rfl')=>`(tactic| kernel_rfl)
def K15.ws:PySem.Challenge.rw_clockhouse_k15_what_a_cell_needs.wellSaid=TK:=by rfl'
def yaR{a:Type}{b : a}(x:!a){y:!a}(h:b∈y):b∈x++y:=List.mem_append_right x h
def yaL{a:Type}{b : a}{x:!a}(y:!a)(h:b∈x):b∈x++y:=List.mem_append_left y h
def ymS{a:Type}{b : a}{x:!a}:b∈b::x:=List.mem_cons_self
def ymC{a:Type}{b : a}(y : a){x:!a}(h:b∈x):b∈y::x:=List.mem_cons_of_mem y h
def yaM{a:Type}{b : a}{x y:!a}(h:b∈x++y):b∈x\/b∈y:=Kb.mp h
def ycM{c:Type}{b a : c}{x:!c}(h:b∈a::x):b=a\/b∈x:=IP.mp h
def ysM{c:Type}{b a : c}(h:b∈[a]):b=a:=JD.mp h
def ymG{c:Type}{x:!c}{i:Nat}{a : c}(h:x[i]?*>a):a∈x:=List.mem_of_getElem? h
protected def yF:=PySem.W.Frag
namespace L2
open PySem PySem.Spec PyProof.Rows
protected def Key:=Sum Int Str
abbrev mF:Key->Nk->Bool
 | .inl k,v=>Th k v
 | .inr x,v=>SS x v
abbrev HN(w:NB):Key->Int
 | .inl k=>hashInt k
 | .inr x=>hashStr w x
def bj:∀{k:Key} {v:Nk},mF k v=TK->(∃i t,k=P3 i/\v=RW i t)\/(∃x t,k=OL x/\v=RX x t)
 | .inl i,v,h=>by
  have(t,e):=Nk.isInt_shape (k:=i) (v:=v) h;show .inl ⟨i,t,Xr,e⟩
 | .inr x,v,h=>by
  have(t,e):=Nk.isStrOf_shape (x:=x) (v:=v) h;show .inr ⟨x,t,Xr,e⟩
def uj(i:Int)(t:Tok):mF (.inl i) (.int i t)=TK:=by simp[mF,Th]
def uk(x:Str)(t:Tok):mF (.inr x) (.str x t)=TK:=by simp[mF,SS]
def C1(a b:Int):decide ((P3 a:Key)=P3 b)=(a==b):=by
 by_cases e:a=b;subst e;simp
 .have h:¬ (P3 a:Key)=P3 b:=λq=>e (P3.inj q);rw[decide_eq_false h];show(beq_eq_false_iff_ne.mpr e).symm
def C4(a b:Str):decide ((OL a:Key)=OL b)=decide (a=b):=by
 by_cases e:a=b;subst e;simp
 .have h:¬ (OL a:Key)=OL b:=λq=>e (Ti q);rw[decide_eq_false h,decide_eq_false e]
def C2(a:Int)(b:Str):decide ((P3 a:Key)=OL b)=TJ:=decide_eq_false (λq=>nomatch q)
def C3(a:Str)(b:Int):decide ((OL a:Key)=P3 b)=TJ:=decide_eq_false (λq=>nomatch q)
abbrev bf(prog:Nv) (w:NB):PySem.KeyKind prog w Key where
 is:=mF
 hash:=HN w
 inj:=λv a b ha hb=>by
  rcases bj ha with⟨i,t,rfl,rfl⟩|⟨x,t,rfl,rfl⟩
  .rcases bj hb with⟨j,u,rfl,e⟩|⟨y,u,rfl,e⟩;injection e with e1 _;rw[e1];show nomatch e
  .rcases bj hb with⟨j,u,rfl,e⟩|⟨y,u,rfl,e⟩;show nomatch e;injection e with e1 _;rw[e1]
 byValue:=λk v h=>by
  rcases bj h with⟨i,t,rfl,rfl⟩|⟨x,t,rfl,rfl⟩<;>rfl
 pyHash:=λhv h=>by
  rcases bj hv with⟨i,t,rfl,rfl⟩|⟨x,t,rfl,rfl⟩;show wpAny_pyHash_int h;show wpAny_pyHash_str h
 eqBool:=λhu hv h=>by
  rcases bj hu with⟨i,t,rfl,rfl⟩|⟨x,t,rfl,rfl⟩
  .rcases bj hv with⟨j,u,rfl,rfl⟩|⟨y,u,rfl,rfl⟩;rw[C1]at h;show wpAny_eqBool_int h;rw[C2]at h;show Rq i t y u _ _ _ _ h
  .rcases bj hv with⟨j,u,rfl,rfl⟩|⟨y,u,rfl,rfl⟩;rw[C3]at h;show Rs x t j u _ _ _ _ h;rw[C4]at h;show wpAny_eqBool_str h
 «strs»:=λk x t v h=>by
  rcases bj h with⟨i,u,rfl,e⟩|⟨y,u,rfl,e⟩;show nomatch e
  .injection e with e1 _;subst e1;cases v<;>rfl
def pv(prog:Nv)(w:NB)(i:Int)(t:Tok):(bf prog w).is (.inl i) (.int i t)=TK:=uj i t
def pw(prog:Nv)(w:NB)(x:Str)(t:Tok):(bf prog w).is (.inr x) (.str x t)=TK:=uk x t
inductive V where
 | non|bl (b:Bool)|int (i:Int)|str (x:Str)|byt (b:Array UInt8)|flt (b:UInt64)|ref (a:Addr)|ty (n:String)
 deriving DecidableEq
abbrev RelV:V->Nk->Prop
 | .non,u=>u=N5
 | .bl b,u=>u=PF b
 | .int i,u=>∃t,u=RW i t
 | .str x,u=>∃t,u=RX x t
 | .byt b,u=>∃t,u=Nk.bytes b t
 | .flt b,u=>∃t,u=Nk.float b t
 | .ref a,u=>u=Nx a
 | .ty n,u=>u=Su n
protected def Vals:!V->!Nk->Prop:=Paired RelV
def Vals.length{xs:!V}{a:!Nk}(r:Vals xs a):xs.length=a.length:=Paired.length r
def Vals.get:∀{xs:!V} {a:!Nk} {i:Nat} {x:V},Vals xs a->xs[i]?*>x->∃u,a[i]?*>u/\RelV x u
 | _,_,_,_,.nil,e=>by simp at e
 | _,_,0,_,.cons r _,e=>by simp at e;subst e;show{_,Xr,r}
 | _,_,i+1,x,.cons _ t,e=>by
  have(u,d,c):=Vals.get (i:=i) (x:=x) t (by exists e);show{u,by simpa using d,c}
def Vals.set{x:V}{u:Nk}(r:RelV x u):∀{xs:!V} {a:!Nk} (i:Nat),Vals xs a->Vals (xs.set i x) (a.set i u)
 | _,_,_,.nil=>.nil
 | _,_,0,.cons _ t=>.cons r t
 | _,_,i+1,.cons q t=>.cons q (Vals.set r i t)
def Vals.append:∀{xs ys:!V} {a ws:!Nk},Vals xs a->Vals ys ws->Vals (xs++ys) (a++ws):=by
 intro xs ys a ws h k
 induction h with
 | nil=>show k
 | cons r t c=>show .cons r c
def Vals.take:∀{xs:!V} {a:!Nk} (n:Nat),Vals xs a->Vals (xs.take n) (a.take n)
 | _,_,0,_=>.nil
 | _,_,_+1,.nil=>.nil
 | _,_,n+1,.cons r t=>.cons r (Vals.take n t)
def Vals.drop:∀{xs:!V} {a:!Nk} (n:Nat),Vals xs a->Vals (xs.drop n) (a.drop n)
 | _,_,0,r=>r
 | _,_,_+1,.nil=>.nil
 | _,_,n+1,.cons _ t=>Vals.drop n t
abbrev RelO:↑V->↑Nk->Prop
 | some v,TH u=>RelV v u
 | none,TF=>True
 | _,_=>False
abbrev KV{a : Type}:!(a×V)->!(a×Nk)->Prop:=Paired λ(p : a×V) (q : a×Nk)=>p.1=q.1/\RelV p.2 q.2
abbrev kV:Key->V
 | .inl i=>.int i
 | .inr x=>.str x
protected def K1:=Sum Key !Key
section
variable (P:Nv)(w:NB)
abbrev hk1:K1->Int
 | .inl k=>(bf P w).hash k
 | .inr a=>tupleKeyHash (bf P w) a
abbrev hk2(ks:!K1):Int:=reduceHash (N0 (ks.map (hk1 P w)))
abbrev enK(x:!K1×Addr×Nk):Ra:={hk2 P w x.1,.ref x.2.1,x.2.2}
end
inductive HO where
 | lst (xs:!V)
 | tup (xs:!V)
 | dK (kvs:!(Key×V))|dT (kvs:!(!K1×Addr×V))
 | set (S:Int->Bool) (n:Nat)
 | ins (C dx:Addr) (fs:!(Str×V))
 | own (x:Addr)
 | xd (fs:!(Str×V))
 | met (f x:Addr)
 | rng (lo hi:Int)
 | frz (o:Obj) (u:HO)
 | tbl (ps:Array Nk)
 | ext (φ : Heap->Prop)
protected def Hp:=Addr->↑HO
abbrev upd(H:Hp) (a:Addr) (o:HO):Hp:=λb=>if b=a then TH o else H b
def au{H:Hp}{a:Addr}{o:HO}:upd H a o a*>o:=by unfold upd;rw[if_pos rfl]
def aZ{H:Hp}{a b:Addr}{o:HO}(h:b≠a):upd H a o b=H b:=by unfold upd;rw[if_neg h]
def Bj{H:Hp}{a:Addr}{o u:HO}:upd (upd H a o) a u=upd H a u:=by
 funext b;unfold upd;split<;>rfl
def bq{H:Hp}{a b:Addr}{o:HO}(h:H a*>o)(h':H b=TF):a≠b:=by
 intro e;subst e;rw[h]at h';cases h'
abbrev MX(h:Heap)(a:Addr)(items:Array Nk):Prop:=∃o,h.get? a*>o/\(o.cls=.type "tuple" /\ o.dict=TF)/\∃n,o.data=.seq items n
def MX.to{h:Heap}{a:Addr}{items:Array Nk}(x:MX h a items):SV h a items:=let ⟨o,e,c,d⟩:=x;⟨o,e,c.1,d⟩
def MX.new(h:Heap)(items:Array Nk):MX (h.push {cls:=.type "tuple",data:=.seq items}) h.objs.size items:={_,Nt _ rfl,⟨Xr,Xr⟩,_,Xr}
section
variable (P:Nv)(w:NB)
abbrev ML(H:Hp)(h:Heap)(a:Addr):HO->Prop
 | .lst e=>e.length<=sizeLine/\∃(d:!Nk) (n:Nat),Vals e d/\h.get? a=TH {cls:=.type "list",data:=.seq d.toArray n}
 | .tup e=>e.length<=sizeLine/\∃d:!Nk,Vals e d/\MX h a d.toArray
 | .dK c=>c.length<=sizeLine/\(a==N6)=TJ/\∃vs,KV c vs/\h.DictOf (bf P w) a vs
 | .dT c=>c.length<=sizeLine/\(a==N6)=TJ/\∃e:!(!K1×Addr×Nk),
   Paired (λ(p:!K1×Addr×V) (q:!K1×Addr×Nk)=>p.1=q.1/\p.2.1=q.2.1/\RelV p.2.2 q.2.2) c e /\
   ∃o l s,h.get? a*>o/\o.ExactDict/\o.data=.dict l s/\l.toList=e.map (enK P w)/\(e.map (·.1)).Nodup
 | .set S n=>h.SetOf (intKind P w) a S n
 | .ins C j i=>H j*>(.own a)/\i.length<=1000/\j≠a/\h.get? a*>(Mc C j) /\
   ∃g,h.Ns1 j g/\(∀f,RelO (i.lookup f) (g f))/\PySem.Within g (i.map (·.1))
 | .own _=>∃o,h.get? a*>o
 | .xd i=>∃g,h.Ns1 a g/\∀f,RelO (i.lookup f) (g f)
 | .rng lo y=>∃t u v,h.get? a=TH {cls:=.type "range",data:=.fields #[.int lo t,.int y u,.int 1 v]}
 | .frz o u=>h.get? a*>o/\ML H h a u
 | .tbl z=>h.get? a=TH {cls:=.none,data:=.fields z}
 | .met f x=>h.get? a*>(K3 (.ref f) (.ref x))
 | .ext k=>k h/\(∃o,h.get? a*>o)/\∀r m:Heap,k r->(∀o,r.get? a*>o->m.get? a*>o)->k m
abbrev HOk(H:Hp)(h:Heap):Prop:=∀a o,H a*>o->ML P w H h a o
end
section
variable {P:Nv}{w:NB}{H H':Hp}{h h':Heap}{a:Addr}{o:HO}
def ML.lt(x:ML P w H h a o):a<h.objs.size:=by
 cases o with
 | lst d=>have(_,_,_,_,e):=x;show Nr e
 | tup d=>have(_,_,_,p):=x;show p.to.lt
 | dK c=>have(_,_,_,_,o,_,_,e,_):=x;show Nr e
 | dT c=>have(_,_,_,_,o,_,_,e,_):=x;show Nr e
 | set S n=>have(o,_,_,_,e,_):=x;show Nr e
 | ins C j g=>have(_,_,_,e,_):=x;show Nr e
 | own y=>have(_,e):=x;show Nr e
 | xd g=>obtain⟨_,⟨_,_,_,e,_⟩,_⟩:=x;show Nr e
 | rng lo i=>have(_,_,_,e):=x;show Nr e
 | frz m u=>have(e,_):=x;show Nr e
 | tbl k=>show Nr (show h.get? a*>_ from x)
 | met f y=>show Nr (show h.get? a*>_ from x)
 | ext l=>obtain⟨_,⟨_,e⟩,_⟩:=x;show Nr e
def Paired.mapP{d e:Type}{F G : d->e->Prop}:∀{l₁ : !d} {c : !e},Paired F l₁ c->(∀a b,F a b->G a b)->Paired G l₁ c:=by
 intro l₁ c h f
 induction h with
 | nil=>show .nil
 | cons r t g=>show .cons (f _ _ r) g
def ML.stay(x:ML P w H h a o)(k:∀b u,(b=a\/H b*>(.own a))->h.get? b*>u->h'.get? b*>u)
  (ho:∀b,H b*>(.own a)->H' b*>(.own a)) (O:∀b xs,H b*>(.tup xs)->H' b*>(.tup xs)):ML P w H' h' a o:=by
 induction o with
 | lst xs=>have(z,l,n,r,e):=x;show{z,l,n,r,k _ _ (.inl rfl) e}
 | tup xs=>have(z,l,r,g,e,c):=x;show{z,l,r,g,k _ _ (.inl rfl) e,c}
 | dK m=>have(z,y,vs,r,g,i,j,e,c):=x;show{z,y,vs,r,g,i,j,k _ _ (.inl rfl) e,c}
 | dT m=>
  have(z,y,xs,r,g,i,j,e,c):=x;show{z,y,xs,r,g,i,j,k _ _ (.inl rfl) e,c}
 | set S n=>have(g,i,j,t,e,c):=x;show{g,i,j,t,k _ _ (.inl rfl) e,c}
 | ins C M G=>
  obtain⟨d,z,J,e,s,⟨A,i,j,K,c⟩,r⟩:=x;show{ho _ d,z,J,k _ _ (.inl rfl) e,s,{A,i,j,k _ _ (.inr d) K,c},r}
 | own y=>have(g,e):=x;show{g,k _ _ (.inl rfl) e}
 | xd G=>obtain⟨s,⟨A,i,j,e,c⟩,r⟩:=x;show{s,{A,i,j,k _ _ (.inl rfl) e,c},r}
 | rng lo L=>have(t,u,v,e):=x;show{t,u,v,k _ _ (.inl rfl) e}
 | frz g u E=>have(e,q):=x;show{k _ _ (.inl rfl) e,E q}
 | tbl B=>
  have e:h.get? a=TH {cls:=.none,data:=.fields B}:=x;change h'.get? a=TH {cls:=.none,data:=.fields B};show k a _ (.inl rfl) e
 | met f y=>
  have e:h.get? a*>(K3 (.ref f) (.ref y)):=x;change h'.get? a*>(K3 (.ref f) (.ref y));show k a _ (.inl rfl) e
 | ext N=>obtain⟨p,⟨o,e⟩,st⟩:=x;show{st _ _ p λo q=>k _ _ (.inl rfl) q,{o,k _ _ (.inl rfl) e},st}
def HOk.lt(x:HOk P w H h)(e:H a*>o):a<h.objs.size:=(x a o e).lt
def HOk.fresh(x:HOk P w H h)(e:h.objs.size<=a):H a=TF:=by
 cases q:H a with
 | none=>rfl
 | some u=>show absurd (IB (x.lt q) e) (JG _)
def HOk.kept(x:HOk P w H h)(k:∀b u,h.get? b*>u->h'.get? b*>u):HOk P w H h':=λa o e=>
 (x a o e).stay (λb u _ q=>k b u q) (λ_ q=>q) λ_ _ q=>q
def HOk.laid(x:HOk P w H h)(k:∀b u,h.get? b*>u->h'.get? b*>u)(g:h.objs.size<=a)(new:ML P w (upd H a o) h' a o):HOk P w (upd H a o) h':=λb u e=>by
 have d:=x.fresh g;by_cases f:b=a;subst f;rw[au]at e;cases e;show new
 .rw[aZ f]at e;show(x b u e).stay (λc v _ q=>k c v q) (λc q=>by rw[aZ (bq q d)];show q) λc i q=>by rw[aZ (bq q d)];show q
end
abbrev Rd(H:Hp)(a:Addr)(u:HO):Prop:=H a*>u \/ ∃o,H a*>(.frz o u)
def Rd.ok{P:Nv}{w:NB}{H:Hp}{h:Heap}{a:Addr}{u:HO}(r:Rd H a u)(x:HOk P w H h):ML P w H h a u:=by
 rcases r with r|⟨o,r⟩;show x a u r
 .have(_,q):=x a _ r;show q
abbrev Mut:↑HO->Prop
 | some (.lst _)=>True
 | some (.dK _)=>True
 | some (.dT _)=>True
 | some (.set _ _)=>True
 | some (.ins _ _ _)=>True
 | some (.ext _)=>True
 | _=>False
section
variable {P:Nv}{w:NB}{H:Hp}{h h':Heap}{x e:Addr}{o':HO}
def HOk.write(t:HOk P w H h)(i:Mut (H x))(o:e=x\/H e*>(.own x))(k:∀b u,b≠e->h.get? b*>u->h'.get? b*>u)(m:∃u,h'.get? e*>u)
  (new:ML P w (upd H x o') h' x o'):HOk P w (upd H x o') h':=λb u q=>by
 have d:∀c y,H c*>(.own y)->c≠x:=λc y r z=>by subst z;rw[r]at i;show i
 have f:∀c j,H c*>(.tup j)->c≠x:=λc j r z=>by subst z;rw[r]at i;show i
 by_cases l:b=x;subst l;rw[au]at q;cases q;show new
 .rw[aZ l]at q;by_cases a:b=e
  .have p:H b*>(.own x):=by
    rcases o with z|z;show absurd (a.trans z) l;rw[a];show z
   rw[q]at p;cases p;have(v,s):=m;show{v,by rw[a];show s}
  .show(t b u q).stay (λc v g r=>k c v ?_ r) (λc r=>by rw[aZ (d c b r)];show r) λc j r=>by rw[aZ (f c j r)];show r
   rcases g with rfl|g;show a
   .rintro rfl;rcases o with z|z;show d c b g z;rw[g]at z;cases z;show l rfl
end
structure Un(fs ex:!Addr)(H H':Hp)(h h':Heap):Prop where
 keep:∀b o,h.get? b*>o->H b=TF->b∉fs->b∉ex->h'.get? b*>o
 slot:∀b o,h.get? b*>o->H b=TF->b∈fs->b∉ex->∃sl,h'.get? b=TH {o with slots:=sl}
 free:∀b o,h.get? b*>o->H b=TF->b∉ex->H' b=TF
 there:∀b o,h.get? b*>o->b∉ex->∃o',h'.get? b*>o'
 tups:∀b xs,H b*>(.tup xs)->H' b*>(.tup xs)
 frzs:∀b o u,H b*>(.frz o u)->H' b*>(.frz o u)
 tbls:∀b ps,H b*>(.tbl ps)->∃more,H' b*>(.tbl (ps++more))
section
variable {fs fs' ex ex':!Addr}{H H1 H2:Hp}{h h1 h2 h':Heap}{a x e:Addr}{o:HO}
def Un.any(u:Un fs ex H H1 h h1){b:Addr}{c:Obj}(q:h.get? b*>c)(n:H b=TF)(f:b∉ex):∃sl,h1.get? b=TH {c with slots:=sl}:=by
 by_cases g:b∈fs;show u.slot b c q n g f;show{c.slots,u.keep b c q n g f}
def Un.kept(k:∀b u,h.get? b*>u->h'.get? b*>u):Un fs ex H H h h':=
 {λb c q _ _ _=>k b c q,λb c q _ _ _=>{c.slots,k b c q},λ_ _ _ n _=>n,λb c q _=>{c,k b c q},λ_ _ q=>q,λ_ _ _ q=>q,λ_ d q=>{#[],by rw[q];simp}}
def Un.refl:Un fs ex H H h h:=Un.kept λ_ _ q=>q
def Un.laid(k:∀b u,h.get? b*>u->h'.get? b*>u)(hp:h.objs.size<=a)(hn:H a=TF):Un fs ex H (upd H a o) h h' where
 keep:=λb u q _ _ _=>k b u q
 slot:=λb u q _ _ _=>{u.slots,k b u q}
 free:=λb u q n _=>by rw[aZ (IA (IB (Nr q) hp))];show n
 there:=λb u q _=>{u,k b u q}
 tups:=λb xs q=>by rw[aZ (bq q hn)];show q
 frzs:=λb u xs q=>by rw[aZ (bq q hn)];show q
 tbls:=λb ps q=>{#[],by rw[aZ (bq q hn),q];simp}
def Un.write(d:Mut (H x))(m:e=x\/H e*>(.own x))(k:∀b u,b≠e->h.get? b*>u->h'.get? b*>u)(f:∃u,h'.get? e*>u):Un fs ex H (upd H x o) h h':=by
 have i:∀b,H b=TF->b≠x:=λb n z=>by subst z;rw[n]at d;show d
 have j:∀b,H b=TF->b≠e:=λb n z=>by
  subst z;rcases m with r|r;show i b n r;rw[n]at r;cases r
 have g:∀b u,H b*>u->¬ Mut (TH u)->b≠x:=λb u q p z=>by subst z;rw[q]at d;show p d
 show{λb u q n _ _=>k b u (j b n) q,λb u q n _ _=>{u.slots,k b u (j b n) q},λb u q n _=>by rw[aZ (i b n)];show n,λb u q _=>?_,
  λb l q=>by rw[aZ (g b _ q λz=>z)];show q,λb u l q=>by rw[aZ (g b _ q λz=>z)];show q,λb s q=>{#[],by rw[aZ (g b _ q λz=>z),q];simp}}
 by_cases c:b=e;subst c;show f;show{u,k b u c q}
end
abbrev trk(h:Heap) (H:Hp):!Addr:=(I8 h.objs.size).filter λa=>(H a).isSome
abbrev nJ(h:Heap) (H:Hp):Heap:=PySem.W.hideAll h (trk h H)
def ug(h:Heap)(H:Hp):(nJ h H).objs.size=h.objs.size:=PySem.W.hideAll_size _ _
def vU{h:Heap}{H:Hp}{b:Addr}{o:Obj}(e:h.get? b*>o)(n:H b=TF):(nJ h H).get? b*>o:=
 PySem.W.hideAll_get _ e λa=>by
  have q:(H b).isSome=TK:=(Ix.mp a).2;rw[n]at q;simp at q
def zT{h:Heap}{H:Hp}{b:Addr}{o:Obj}(e:(nJ h H).get? b*>o):h.get? b*>o/\H b=TF:=by
 have a:h.get? b*>o:=PySem.W.of_hideAll (trk h H) e;show{a,?_};cases q:H b with
 | none=>rfl
 | some x=>
  have c:b∈trk h H:=Ix.mpr {JJ.mpr (Nr a),by simp[q]};have z:(nJ h H).get? b=TF:=PySem.W.hideAll_none (trk h H) c;rw[z]at e;cases e
abbrev y4(g h:Heap) (L:Addr):!(Addr×Obj):=(I8 h.objs.size).filterMap λa=>if a=L\/(g.get? a).isSome=TK then TF else(h.get? a).map λo=>(a,o)
abbrev rest(g h:Heap) (L d:Addr):!(Addr×Obj):=(y4 g h L).filter λp=>decide (p.1≠d)
structure Mod(K:yF)(mg:Str->↑Nk)(base:Heap):Prop where
 kin:K.In base
 glob:base.Ns NZ mg
 blt:∃mb,base.Ns Rt mb/\∀x:Str,x ≠ "__name__" -> mb x=Oc x
 nolimit:base.NoLimit
structure Cx where
 prog:Nv
 w:NB
 K:yF
 mg:Str->↑Nk
 base:Heap
 A:NM
 N:!Str
 s₀ : Nm
 H₀ : Hp
 env:Env
 outer:!Env
 stack:!Env
 ex:!Addr
 fn:Str->Bool
 calm:Bool
 pn:!(Addr×Obj)
 xe:Nk->Nm->Prop
abbrev frs(l:!Env):!Addr:=l.filterMap (·.frame)
noncomputable abbrev Cx.fs(X:Cx):!Addr:=frs X.outer
abbrev Vis(a:O8)(x:Str):Prop:=a.names.lookup x*>.local\/a.names.lookup x*>.cell\/a.names.lookup x*>.free
abbrev Loc(a:O8)(x:Str):Prop:=a.names.lookup x*>.local\/a.names.lookup x*>.cell
abbrev Hr(env:Env)(h:Heap)(m:Str->↑Nk)(x:Str)(u:Nk):Prop:=
 (env.kindOf x*>.local/\m x*>u)\/((env.kindOf x*>.cell\/env.kindOf x*>.free)/\∃c,env.cells.lookup x*>c/\h.IsCell c (TH u))
structure Cx.Ok(X:Cx):Prop where
 mod:Mod X.K X.mg X.base
 kind:X.env.scope.kind=.function
 glob:X.env.globals=NZ
 blt:X.env.builtins=Rt
 above:X.s₀.heap.objs.size<=X.env.locals
 inj:∀x y c,X.env.cells.lookup x*>c->X.env.cells.lookup y*>c->x=y
 has:∀x,(X.env.kindOf x*>.cell\/X.env.kindOf x*>.free)->∃c,X.env.cells.lookup x*>c
 cab:∀x c,X.fn x=TK->X.env.cells.lookup x*>c->X.s₀.heap.objs.size<=c
 hd:X.calm=TK->X.A.handled=TF
 gd:X.calm=TK->X.A.guards=TH []
 frames:X.A.frames*>X.stack
 stk:X.stack=X.outer\/(X.stack=X.env::X.outer/\X.env.frame*>X.env.locals)
 exf:∀b∈X.ex,b≠X.env.locals/\∀x c,X.env.cells.lookup x*>c->c≠b
 bs:∀b o,X.base.get? b*>o->X.s₀.heap.get? b*>o/\X.H₀ b=TF
 bsz:X.base.objs.size<=X.s₀.heap.objs.size
 noex:∀b o,X.base.get? b*>o->b∉X.ex
 exfs:∀b∈X.ex,b∉X.fs
 funs:X.s₀.heap.FunFrames X.base X.outer
 frf:∀b∈X.fs,X.H₀ b=TF
structure Inv(X:Cx)(OK:!(Addr×Obj))(Z:! ↑V)(H:Hp)(s:Nm):Prop where
 ok:X.Ok
 os:s.os=X.s₀.os
 bare:P4 s.gens
 base:Un X.fs X.ex X.H₀ H X.s₀.heap s.heap
 loc:∃m,s.heap.Ns X.env.locals m/\∀(i:Nat) (x:Str) (v:V),X.N[i]?*>x->Z[i]?*>(TH v)->Vis X.env.scope x->∃u,RelV v u/\Hr X.env s.heap m x u
 cell:∀x c,X.env.cells.lookup x*>c->∃v,s.heap.IsCell c v
 free:H X.env.locals=TF
 freeC:∀x c,X.env.cells.lookup x*>c->H c=TF
 pin:∀p∈X.pn++OK,s.heap.get? p.1*>p.2/\H p.1=TF/\p.1≠X.env.locals/\p.1∉X.fs/\∀v,p.2.data ≠ .cell v
 hok:HOk X.prog X.w H s.heap
 len:Z.length=X.N.length
section
variable {X:Cx}{OK:!(Addr×Obj)}{Z:! ↑V}{H H':Hp}{s:Nm}{h':Heap}
def Cx.Ok.nofr(a:X.Ok){b:Addr}{o:Obj}(e:X.base.get? b*>o):b∉X.fs:=λc=>by
 have:=(a.funs.mem c).1;rw[e]at this;cases this
def Inv.bs(I:Inv X OK Z H s):∀b o,X.base.get? b*>o->s.heap.get? b*>o/\H b=TF:=λb o e=>
 {I.base.keep b o (I.ok.bs b o e).1 (I.ok.bs b o e).2 (I.ok.nofr e) (I.ok.noex b o e),I.base.free b o (I.ok.bs b o e).1 (I.ok.bs b o e).2 (I.ok.noex b o e)}
def Inv.bk(I:Inv X OK Z H s):∀b o,X.base.get? b*>o->s.heap.get? b*>o:=λb o e=>(I.bs b o e).1
def Inv.mod(I:Inv X OK Z H s):Mod X.K X.mg X.base:=I.ok.mod
def Inv.kIn(I:Inv X OK Z H s):X.K.In s.heap:=I.ok.mod.kin.keeps I.bk
def Inv.fr(I:Inv X OK Z H s):∃m,Fr X.base X.env.locals s.heap m:=
 let ⟨m,a,_⟩:=I.loc
 {m,a,I.bk,IS I.ok.bsz I.ok.above}
def Inv.lt(I:Inv X OK Z H s):X.env.locals<s.heap.objs.size:=let ⟨_,a,_⟩:=I.loc;a.lt
def Inv.sz(I:Inv X OK Z H s):X.s₀.heap.objs.size<=s.heap.objs.size:=IS I.ok.above (JH I.lt)
def Inv.nofs(I:Inv X OK Z H s){a:Addr}(h:s.heap.objs.size<=a):a∉X.fs:=λd=>by
 have(_,o,c,_):=I.ok.funs.mem d;show absurd (IB (Nr c) (IS I.sz h)) (JG _)
def Inv.cne(I:Inv X OK Z H s):∀x c,X.env.cells.lookup x*>c->c≠X.env.locals:=λx c e z=>by
 have(v,o,g,f):=I.cell x c e;obtain⟨m,⟨i,h,j,a,d,_⟩,_⟩:=I.loc;rw[z,a]at g;cases g;rw[d]at f;cases f
def Inv.funs(I:Inv X OK Z H s):s.heap.FunFrames X.base X.outer:=by
 have all:∀(l:!Env),(∀b∈frs l,b∈X.fs)->X.s₀.heap.FunFrames X.base l->s.heap.FunFrames X.base l:=by
  intro l
  induction l with
  | nil=>intro _ _;trivial
  | cons j r i=>
   intro f g;obtain⟨q,⟨L,o,c,p,m,h⟩,k⟩:=g;have a:L∈X.fs:=f L (by unfold frs;rw[IK,c];show ymS);have(t,e):=I.base.slot L o m (I.ok.frf L a) a λz=>I.ok.exfs L z a;show{q,{L,_,c,p,e,h},i (λb d=>f b (by unfold frs;rw[IK,c];show ymC _ d)) k}
 show all X.outer (λ_ d=>d) I.ok.funs
def Inv.stack(I:Inv X OK Z H s):s.heap.FunFrames X.base X.stack:=by
 rcases I.ok.stk with e|⟨e,c⟩;rw[e];show I.funs
 .rw[e];have(m,a,_):=I.loc;show .cons (by rw[I.ok.kind];decide) c a ?_ I.funs;show Heap.get?_none_of_le (IS I.ok.bsz I.ok.above)
def Inv.stkSub(I:Inv X OK Z H s):∀b∈frs X.stack,b∈X.env.locals::X.fs:=λb a=>by
 rcases I.ok.stk with e|⟨e,c⟩;rw[e]at a;show ymC _ a
 .rw[e]at a;unfold frs at a;rw[IK,c]at a;show a
def Inv.stkFree(I:Inv X OK Z H s):∀b∈frs X.stack,H b=TF:=λb a=>by
 rcases ycM (I.stkSub b a)with e|a;rw[e];show I.free
 .have(_,o,c,_):=I.ok.funs.mem a;show I.base.free b o c (I.ok.frf b a) λz=>I.ok.exfs b z a
def Inv.step{g':Array GenState}{t':Nat}{d':Drawn}{ch:!Addr}(I:Inv X OK Z H s)
  (h:∀b∈ch,(b∈X.ex\/X.s₀.heap.objs.size<=b)/\b≠X.env.locals/\(∀x c,X.env.cells.lookup x*>c->c≠b)/\∀p∈X.pn++OK,p.1≠b)
  (f:∀b o,b≠X.env.locals->b∉X.fs->b∉ch->s.heap.get? b*>o->H b=TF->h'.get? b*>o)
  (A:∀b o,b≠X.env.locals->b∈X.fs->b∉ch->s.heap.get? b*>o->H b=TF->∃sl,h'.get? b=TH {o with slots:=sl}) (free:∀b o,b∉ch->s.heap.get? b*>o->H b=TF->H' b=TF)
  (B:∀b o,b∉ch->s.heap.get? b*>o->∃L,h'.get? b*>L)
  (J:∀b xs,H b*>(.tup xs)->H' b*>(.tup xs)) (K:∀b o u,H b*>(.frz o u)->H' b*>(.frz o u)) (G:∀b O,H b*>(.tbl O)->∃more,H' b*>(.tbl (O++more)))
  (ns:∀m,s.heap.Ns X.env.locals m->h'.Ns X.env.locals m) (S:HOk X.prog X.w H' h') (hg:P4 g') :
  Inv X OK Z H' {s with heap:=h',gens:=g',drawn:=d',toks:=t'}:=by
 have M:∀b o,X.s₀.heap.get? b*>o->b≠X.env.locals:=λb o e=>IA (IB (Nr e) I.ok.above);have y:∀b o,X.s₀.heap.get? b*>o->b∉X.ex->b∉ch:=λb o e a C=>by
  rcases(h b C).1 with z|z;show a z;show absurd (IB (Nr e) z) (JG _)
 have g:∀x c,X.env.cells.lookup x*>c->∀v,s.heap.IsCell c v->h'.IsCell c v:=λx c e v ⟨o,E,P⟩=>by
  have j:c∉ch:=λz=>(h c z).2.2.1 x c e rfl;by_cases hc:c∈X.fs
  .have(sl,q):=A c o (I.cne x c e) hc j E (I.freeC x c e);show{_,q,P}
  .show{o,f c o (I.cne x c e) hc j E (I.freeC x c e),P}
 show{I.ok,I.os,hg,{λb o e n C a=>?_,λb o e n C a=>?_,λb o e n a=>?_,λb o e a=>?_,λb xs e=>J b xs (I.base.tups b xs e),λb o xs e=>K b o xs (I.base.frzs b o xs e),λb O e=>?_},?_,λx c e=>?_,?_,λx c e=>?_,λp hp=>?_,S,I.len};show f b o (M b o e) C (y b o e a) (I.base.keep b o e n C a) (I.base.free b o e n a)
 .have(sl,t):=I.base.slot b o e n C a;have(U,N):=A b _ (M b o e) C (y b o e a) t (I.base.free b o e n a);show⟨U,N⟩
 .have(L,t):=I.base.there b o e a;show free b L (y b o e a) t (I.base.free b o e n a)
 .have(L,t):=I.base.there b o e a;show B b L (y b o e a) t
 .have(m1,t):=I.base.tbls b O e;have(m2,N):=G b _ t;show{m1++m2,by rw[N,Array.append_assoc]}
 .have(m,hn,hl):=I.loc;show{m,ns m hn,λi x v t N e3=>?_};have(u,r,l):=hl i x v t N e3;show{u,r,?_};rcases l with l|⟨k,c,e,z⟩;show .inl l;show .inr {k,c,e,g x c e _ z}
 .have(v,z):=I.cell x c e;show{v,g x c e v z}
 .obtain⟨m,⟨o,_,_,E,_⟩,_⟩:=I.loc;show free _ o (λz=>(h _ z).2.1 rfl) E I.free
 .have(v,o,E,P):=I.cell x c e;show free c o (λz=>(h c z).2.2.1 x c e rfl) E (I.freeC x c e)
 .have(e,n,ne,Y,d):=I.pin p hp;have j:p.1∉ch:=λz=>(h p.1 z).2.2.2 p hp rfl;show{f p.1 p.2 ne Y j e n,free p.1 p.2 j e n,ne,Y,d}
def Inv.un{t':Nat}(I:Inv X OK Z H s)(u:Un X.fs [] H H' s.heap h')(d:HOk X.prog X.w H' h'):Inv X OK Z H' {s with heap:=h',toks:=t'}:=by
 obtain⟨m,⟨o,t,x,i,r⟩,_⟩:=id I.loc;have(q,j):=u.any i I.free ∅;show I.step (g':=s.gens) (d':=s.drawn) (ch:=[]) (λ_ z=>nomatch z) (λb o _ g _ e n=>u.keep b o e n g ∅) (λb o _ g _ e n=>u.slot b o e n g ∅) (λb o _ e n=>u.free b o e n ∅) (λb o _ e=>u.there b o e ∅) u.tups u.frzs u.tbls (λp k=>by
  have(v,f,c,a,l):=k;rw[i]at a;cases a;show{_,f,c,j,l}) d I.bare
def Inv.call{g':Array GenState}{t':Nat}{d':Drawn}{ch:!Addr}(I:Inv X OK Z H s)(u:Un (frs X.stack) ch H H' s.heap h')(i:HOk X.prog X.w H' h')(q:P4 g')
  (f:∀b∈ch,(b∈X.ex\/X.s₀.heap.objs.size<=b)/\b≠X.env.locals/\(∀x c,X.env.cells.lookup x*>c->c≠b)/\∀p∈X.pn++OK,p.1≠b) :
  Inv X OK Z H' {s with heap:=h',gens:=g',drawn:=d',toks:=t'}:=by
 obtain⟨m,⟨o,C,G,l,r⟩,_⟩:=id I.loc;have(B,g):=u.any l I.free λz=>(f _ z).2.1 rfl;show I.step (ch:=ch) f (λb o g y a e n=>u.keep b o e n (λz=>(ycM (I.stkSub b z)).elim g y) a) (λb o _ _ a e n=>u.any e n a) (λb o a e n=>u.free b o e n a) (λb o a e=>u.there b o e a) u.tups u.frzs u.tbls (λA t=>by
  have(E,j,h,d,v):=t;rw[l]at d;cases d;show{_,j,h,g,v}) i q
def Inv.turned{t':Nat}{it:Addr}(I:Inv X OK Z H s)(k:∀b o,b≠it->s.heap.get? b*>o->h'.get? b*>o)(A:H it=TF)(g:it≠X.env.locals)
  (h:it∈X.ex\/X.s₀.heap.objs.size<=it) (w:∀x c,X.env.cells.lookup x*>c->c≠it) (i:∀p∈X.pn++OK,p.1≠it):Inv X OK Z H {s with heap:=h',toks:=t'}:=by
 have d:∀b u,H b*>u->b≠it:=λb u e z=>by rw[z,A]at e;cases e
 show I.step (g':=s.gens) (d':=s.drawn) (ch:=[it]) (λb B=>?_) (λb o _ _ a e _=>k b o (λz=>a (by simp[z])) e) (λb o _ _ a e _=>{o.slots,k b o (λz=>a (by simp[z])) e}) (λ_ _ _ _ n=>n)
  (λb o a e=>{o,k b o (λz=>a (by simp[z])) e}) (λ_ _ e=>e) (λ_ _ _ e=>e) (λb C e=>{#[],by rw[e];simp}) (λm j=>?_) (λb u e=>?_) I.bare
 .have e:b=it:=by exists B
  subst e;show⟨h,g,w,i⟩
 .have(o,l,y,t,r):=j;show{o,l,y,k _ o (NA g) t,r}
 .show(I.hok b u e).stay (λc v a q=>k c v ?_ q) (λ_ q=>q) λ_ _ q=>q;rcases a with z|z;rw[z];show d b u e;show d c _ z
def Inv.tok(I:Inv X OK Z H s)(t:Nat):Inv X OK Z H {s with toks:=t}:=I.un (h':=s.heap) (t':=t) Un.refl I.hok
def Inv.kept{t':Nat}(I:Inv X OK Z H s)(k:∀b u,s.heap.get? b*>u->h'.get? b*>u):Inv X OK Z H {s with heap:=h',toks:=t'}:=I.un (Un.kept k) (I.hok.kept k)
def Inv.laid{a:Addr}{o:HO}{t':Nat}(I:Inv X OK Z H s)(k:∀b u,s.heap.get? b*>u->h'.get? b*>u)(c:s.heap.objs.size<=a)(new:ML X.prog X.w (upd H a o) h' a o) :
  Inv X OK Z (upd H a o) {s with heap:=h',toks:=t'}:=I.un (Un.laid k c (I.hok.fresh c)) (I.hok.laid k c new)
def Inv.write{x e:Addr}{o:HO}{t':Nat}(I:Inv X OK Z H s)(d:Mut (H x))(f:e=x\/H e*>(.own x))(k:∀b u,b≠e->s.heap.get? b*>u->h'.get? b*>u)(a:∃u,h'.get? e*>u)
  (new:ML X.prog X.w (upd H x o) h' x o):Inv X OK Z (upd H x o) {s with heap:=h',toks:=t'}:=I.un (Un.write d f k a) (I.hok.write d f k a new)
def Inv.weak{c:! ↑V}(I:Inv X OK Z H s)(d:c.length=Z.length)(w:∀(i:Nat) v,c[i]?*>(TH v)->Z[i]?*>(TH v)):Inv X OK c H s:=
 {I.ok,I.os,I.bare,I.base,let ⟨m,g,a⟩:=I.loc;{m,g,λi x v e f h=>a i x v e (w i v f) h},I.cell,I.free,I.freeC,I.pin,I.hok,d.trans I.len}
def Inv.pins_of{a:!(Addr×Obj)}(I:Inv X OK Z H s)(h:∀p∈a,s.heap.get? p.1*>p.2/\H p.1=TF/\p.1≠X.env.locals/\p.1∉X.fs/\∀v,p.2.data ≠ .cell v):Inv X a Z H s:=
 {I.ok,I.os,I.bare,I.base,I.loc,I.cell,I.free,I.freeC,λp c=>(yaM c).elim (λz=>I.pin p (yaL _ z)) (h p),I.hok,I.len}
def pA{N:!Str}(e:N.Nodup){i j:Nat}{x:Str}(a:N[i]?*>x)(b:N[j]?*>x):i=j:=by
 have(g,c):=Ii.mp a;have(f,d):=Ii.mp b;show(List.getElem_inj e).mp (c.trans d.symm)
def jP{M:Model}{A:NM}{E:Nk->Nm->Prop}{i:Nat}{x:Str}{v:V}{u:Nk}{Q:Unit->Nm->Prop}(I:Inv X OK Z H s)(hN:X.N.Nodup)(hi:X.N[i]?*>x)(B:Loc X.env.scope x)(r:RelV v u)
  (h:∀s',Inv X OK (Z.set i (TH v)) H s'->(∃a,Nw a s.heap s'.heap/\(a=X.env.locals\/X.env.cells.lookup x*>a))->Q () s') (hf:X.fn x=TK\/X.env.scope.names.lookup x*>.local:=by first|show .inl rfl|show .inr rfl|assumption):Np M A (storeName X.env x u) Q E s:=by
 have(m,hn,hl):=id I.loc;have hcls:(X.env.scope.kind == .class||(X.env.scope.kind == .module&&X.env.locals != X.env.globals))=TJ:=by rw[I.ok.kind];rfl
 have hiZ:i<Z.length:=by rw[I.len];show(Ii.mp hi).1
 have L:=I.cne;have l:∀{a:Addr} {h':Heap},(∃o,s.heap.get? a*>o/\H a=TF)->Nw a s.heap h'->HOk X.prog X.w H h':=λ{a h'} ha f b ob e=>by
  have(_,_,C):=ha;show(I.hok b ob e).stay (λc w' t q=>(f.2 c ?_).trans q) (λ_ q=>q) λ_ _ q=>q;rintro rfl;rcases t with rfl|t;rw[C]at e;cases e;rw[C]at t;cases t
 rcases B with J|J
 .show wpAny_storeName_local J hn (λh' hn' f=>?_) hcls;have(oL,_,_,hoL,_):=id hn;show h _ {I.ok,I.os,I.bare,{λb o e n P B=>?_,λb o e n P B=>?_,I.base.free,λb o e B=>?_,I.base.tups,I.base.frzs,I.base.tbls},{_,hn',λj y v' g G e3=>?_},λy c e=>?_,I.free,I.freeC,λp hp=>?_,l ⟨oL,hoL,I.free⟩ f,by simpa using I.len} {_,f,.inl rfl};show(f.2 b (IA (IB (Nr e) I.ok.above))).trans (I.base.keep b o e n P B)
  .have(sl,g):=I.base.slot b o e n P B;show{sl,(f.2 b (IA (IB (Nr e) I.ok.above))).trans g}
  .have(o',g):=I.base.there b o e B;show{o',(f.2 b (IA (IB (Nr e) I.ok.above))).trans g}
  .by_cases O:j=i
   .subst O;rw[hi]at g;cases g;rw[Jp hiZ]at G;cases G;show{u,r,.inl {J,by simp}}
   .rw[ID (NA O)]at G;have(u',r',q):=hl j y v' g G e3;show{u',r',?_};rcases q with⟨k,e⟩|⟨k,c,e,z⟩
    .show .inl {k,?_};have:y≠x:=λe=>O (pA hN g (e▸hi));simp[this,e]
    .show .inr {k,c,e,z.sameBut f (L y c e)}
  .have(w',z):=I.cell y c e;show{w',z.sameBut f (L y c e)}
  .have(e,n,ne,nf,d):=I.pin p hp;show{(f.2 p.1 ne).trans e,n,ne,nf,d}
 .have K:X.fn x=TK:=by
   rcases hf with z|z;show z;rw[z]at J;cases J
  have(c,t):=I.ok.has x (.inl J);have(w',z):=I.cell x c t;show wpAny_storeName_cell I.ok.kind J t z (λh' hc' f=>?_);have(oc,Y,U):=id z;show h {s with heap:=h'} {I.ok,I.os,I.bare,{λb o e n P B=>?_,λb o e n P B=>?_,I.base.free,λb o e B=>?_,I.base.tups,I.base.frzs,I.base.tbls},{m,hn.sameBut f (NA (L x c t)),λj y v' g G e3=>?_},λy c' e=>?_,I.free,I.freeC,λp hp=>?_,l {oc,Y,I.freeC x c t} f,by simpa using I.len} {c,f,.inr t};show(f.2 b (IA (IB (Nr e) (I.ok.cab x c K t)))).trans (I.base.keep b o e n P B)
  .have(sl,g):=I.base.slot b o e n P B;show{sl,(f.2 b (IA (IB (Nr e) (I.ok.cab x c K t)))).trans g}
  .have(o',g):=I.base.there b o e B;show{o',(f.2 b (IA (IB (Nr e) (I.ok.cab x c K t)))).trans g}
  .by_cases O:j=i
   .subst O;rw[hi]at g;cases g;rw[Jp hiZ]at G;cases G;show{u,r,.inr {.inl J,c,t,hc'}}
   .rw[ID (NA O)]at G;have(u',r',q):=hl j y v' g G e3;show{u',r',?_};rcases q with q|⟨k,c',e,z'⟩;show .inl q
    .show .inr {k,c',e,z'.sameBut f ?_};rintro rfl;show O (pA hN g (I.ok.inj _ _ _ e t▸hi))
  .by_cases S:c'=c;subst S;show{_,hc'}
   .have(w2,z2):=I.cell y c' e;show{w2,z2.sameBut f S}
  .have(e,n,ne,nf,d):=I.pin p hp;show{(f.2 p.1 ?_).trans e,n,ne,nf,d};intro q;rw[q,Y]at e;have q':oc=p.2:=IG.inj e;show d w' (by rw[<-q'];show U)
def jh{M:Model}{A:NM}{E:Nk->Nm->Prop}{i:Nat}{x:Str}{v:V}{u:Nk}{Q:Unit->Nm->Prop}(I:Inv X OK Z H s)(d:X.N.Nodup)(g:X.N[i]?*>x)(f:Loc X.env.scope x)(r:RelV v u)
  (h:∀a,Inv X OK (Z.set i (TH v)) H a->Q () a) (e:X.fn x=TK\/X.env.scope.names.lookup x*>.local:=by first|show .inl rfl|show .inr rfl|assumption):Np M A (storeName X.env x u) Q E s:=
 jP I d g f r (λa c _=>h a c) e
def Inv.call'{a:Nm}{ch:!Addr}(I:Inv X OK Z H s)(ho:a.os=s.os)(u:Un (frs X.stack) ch H H' s.heap a.heap)(d:HOk X.prog X.w H' a.heap)(k:P4 a.gens)
  (f:∀b∈ch,(b∈X.ex\/X.s₀.heap.objs.size<=b)/\b≠X.env.locals/\(∀x c,X.env.cells.lookup x*>c->c≠b)/\∀p∈X.pn++OK,p.1≠b):Inv X OK Z H' a:=by
 have(h',h,i,g,j):=a;have e:j=s.os:=ho;subst e;show I.call (g':=h) (t':=g) (d':=i) u d k f
end
protected def XK:=Nk->↑Addr->Hp->Prop
protected def St:=! ↑V
protected def VK:=V->Hp->Prop
protected def TE:=St->Hp->VK->Prop
protected def TT:=St->Hp->(Bool->Hp->Prop)->Prop
protected def TA:=St->Hp->(!V->Hp->Prop)->Prop
structure M6 where
 nx:St->Hp->Prop
 rt:VK
 bk:St->Hp->Prop:=λ_ _=>False
 ct:St->Hp->Prop:=λ_ _=>False
protected def TS:=M6->St->Hp->Prop
abbrev EP(X:Cx)(c:!(Addr×Obj))(Z:St)(Q:VK)(u:Nk)(d:Nm):Prop:=∃v a,Inv X c Z a d/\RelV v u/\Q v a
abbrev TP(X:Cx)(c:!(Addr×Obj))(Z:St)(Q:Bool->Hp->Prop)(b:Bool)(d:Nm):Prop:=∃a,Inv X c Z a d/\Q b a
abbrev AP(X:Cx)(d:!(Addr×Obj))(Z:St)(Q:!V->Hp->Prop)(c:!Nk)(e:Nm):Prop:=∃vs a,Inv X d Z a e/\Vals vs c/\Q vs a
abbrev SP(X:Cx)(d:!(Addr×Obj))(D:M6)(f:Flow)(e:Nm):Prop:=
 match f with
 | .next=>∃c a,Inv X d c a e/\D.nx c a
 | .brk=>∃c a,Inv X d c a e/\D.bk c a
 | .cont=>∃c a,Inv X d c a e/\D.ct c a
 | .ret u=>∃v c a,Inv X d c a e/\RelV v u/\D.rt v a
abbrev PE(X:Cx)(e:Expr)(t:TE):Prop:=
 ∀(a:!(Addr×Obj)) (s:Nm) (Z:St) (H:Hp) (Q:VK),Inv X a Z H s->t Z H Q->Np (Nu X.prog X.w) X.A (eval e X.env) (EP X a Z Q) X.xe s
abbrev PT(X:Cx)(e:Expr)(t:TT):Prop:=
 ∀(a:!(Addr×Obj)) (s:Nm) (Z:St) (H:Hp) (Q:Bool->Hp->Prop),Inv X a Z H s->t Z H Q->Np (Nu X.prog X.w) X.A (Rv e X.env (eval e X.env)) (TP X a Z Q) X.xe s
abbrev PW(X:Cx)(e:Expr)(t:TT):Prop:=
 ∀(a:Sem Nk) (c:!(Addr×Obj)) (s:Nm) (Z:St) (H:Hp) (Q:Bool->Hp->Prop),Inv X c Z H s->t Z H Q->Np (Nu X.prog X.w) X.A (Rv e X.env a) (TP X c Z Q) X.xe s
def PW.pt{X:Cx}{e:Expr}{t:TT}(h:PW X e t):PT X e t:=h _
abbrev PA(X:Cx)(d:!Expr)(t:TA):Prop:=
 ∀(a:Pos) (c:!(Addr×Obj)) (s:Nm) (Z:St) (H:Hp) (Q:!V->Hp->Prop),Inv X c Z H s->t Z H Q->Np (Nu X.prog X.w) X.A (spliced (O9 a (NG d X.env))) (AP X c Z Q) X.xe s
abbrev PS(X:Cx)(st:Stmt)(t:TS):Prop:=
 ∀(a:!(Addr×Obj)) (s:Nm) (Z:St) (H:Hp) (D:M6),Inv X a Z H s->t D Z H->Np (Nu X.prog X.w) X.A (exec st X.env) (SP X a D) X.xe s
abbrev PSs(X:Cx)(st:!Stmt)(t:TS):Prop:=
 ∀(a:!(Addr×Obj)) (s:Nm) (Z:St) (H:Hp) (D:M6),Inv X a Z H s->t D Z H->Np (Nu X.prog X.w) X.A (execs st X.env) (SP X a D) X.xe s
def thn{c:Type}{t:Sem c}{Q d : c->Nm->Prop}{M:Model}{A:NM}{E:Nk->Nm->Prop}{s:Nm}(h:Np M A t Q E s)(e:∀a s,Q a s->d a s):Np M A t d E s:=NR h e λ_ _ x=>x
section
variable {X:Cx}
abbrev vj(i:Nat):TE:=λZ H Q=>∃v,Z[i]?*>(TH v)/\Q v H
abbrev tC(v:V):TE:=λ_ H Q=>Q v H
def lq{i:Nat}{x:Str}{pos:Pos}(t:X.N[i]?*>x)(p:Vis X.env.scope x)(g:(x==("__debug__" : Str))=TJ:=by decide)(j:(x==("__classdict__" : Str))=TJ:=by decide):PE X (.Name x pos) (vj i):=by
 intro q s Z H Q I h;obtain⟨v,e,h⟩:=h;obtain⟨m,y,o⟩:=I.loc;obtain⟨u,r,l⟩:=o i x v t e p;have d:EP X q Z Q u s:=⟨v,H,I,r,h⟩;rcases l with⟨f,w⟩|⟨f,c,k,a⟩;show Sv (wpAny_loadName_local I.ok.kind f y w d) g
 .rcases f with f|f;show Sv (wpAny_loadName_cell I.ok.kind f k a d) g;show Sv (wpAny_loadName_free I.ok.kind f k a d j) g
def wO{i j pos}:PE X (.Constant (.int i) j pos) (tC (.int i)):=λ_ _ _ H _ I h=>wpAny_Constant_int {.int i,H,I.tok _,{_,Xr},h}
def BW{b j pos}:PE X (.Constant (.bool b) j pos) (tC (.bl b)):=λ_ _ _ H _ I h=>Constant_bool {.bl b,H,I,Xr,h}
def D0{x j pos}:PE X (.Constant (.str x) j pos) (tC (.str x)):=λ_ _ _ H _ I h=>Calls.Constant_str {.str x,H,I.tok _,{_,Xr},h}
abbrev Gl(X:Cx)(x:Str):Prop:=X.env.kindOf x*>.globalImplicit
def zC{E:Nk->Nm->Prop}{c:!(Addr×Obj)}{s:Nm}{Z:St}{H:Hp}{x:Str}{u:Nk}{pos:Pos}{Q:Nk->Nm->Prop}(I:Inv X c Z H s)(e:Gl X x)(d:X.mg x*>u)(h:Q u s)
  (a:(x==("__debug__" : Str))=TJ:=by decide):Np (Nu X.prog X.w) X.A (eval (.Name x pos) X.env) Q E s:=
 PH I.ok.kind e (Calls.loadGlobal_global (by rw[I.ok.glob];show I.mod.glob.keeps I.bk) d h) a
def iz{E:Nk->Nm->Prop}{d:!(Addr×Obj)}{s:Nm}{Z:St}{H:Hp}{x:Str}{u:Nk}{pos:Pos}{Q:Nk->Nm->Prop}(I:Inv X d Z H s)(j:Gl X x)(f:X.mg x=TF)(c:Oc x*>u)(h:Q u s)
  (i:x ≠ "__name__" :=by decide) (a:(x==("__debug__" : Str))=TJ:=by decide):Np (Nu X.prog X.w) X.A (eval (.Name x pos) X.env) Q E s:=by
 have(k,e,g):=I.mod.blt;show PH I.ok.kind j (Calls.loadGlobal_builtin (by rw[I.ok.glob];show I.mod.glob.keeps I.bk) f (by rw[I.ok.blt];show e.keeps I.bk) ((g x i).trans c) h) a
def Ab{x:Str}{v:V}{u:Nk}{pos:Pos}(f:Gl X x)(e:X.mg x=TF)(c:Oc x*>u)(r:RelV v u)(d:x ≠ "__name__" :=by decide)(a:(x==("__debug__" : Str))=TJ:=by decide):PE X (.Name x pos) (tC v):=
 λ_ _ _ H _ I h=>iz I f e c ⟨v,H,I,r,h⟩ d a
variable {a b:Expr}{ta tb:TE}{pos:Pos}
abbrev PC(X:Cx)(op:Sw)(a b:Expr)(t:TE):Prop:=
 ∀(e:!(Addr×Obj)) (s:Nm) (Z:St) (H:Hp) (Q:VK),Inv X e Z H s->t Z H Q ->
  Np (Nu X.prog X.w) X.A (eval a X.env) (λv c=>Np (Nu X.prog X.w) X.A (eval b X.env) (λu d=>Np (Nu X.prog X.w) X.A (NT op v u) (EP X e Z Q) X.xe d) X.xe c) X.xe s
abbrev tB(t:TE):TT:=λZ H Q=>t Z H λx d=>∃c,x=.bl c/\Q c d
def pt_cmp{op:Sw}{t:TE}(h:PC X op a b t)(e:OI op b=TJ:=by first|show nobehind _ (by decide) (by decide)|rfl):PT X (.Compare a [op] [b] pos) (tB t):=by
 intro f s Z H Q I i;show QJ (thn (h f s Z H _ I i) λv r e=>thn e λu p k=>thn k λc o ⟨x,g,l,m,j⟩=>?_) e;have(d,rfl,q):=j;cases m;show N7 ⟨g,l,q⟩
def Eh{e:Expr}{t:TE}(h:PE X e t)(j:∀c,Rv e X.env c=(do let v <-c;OX e.pos;N8 [v] (Sx v)):=by intro _;rfl):PT X e (tB t):=by
 intro f s Z H Q I i;show isTrue_plain (thn (h f s Z H _ I i) λv o ⟨x,g,l,m,k⟩=>?_) (j _);have(d,rfl,q):=k;cases m;show N7 ⟨g,l,q⟩
variable {tA tB':TT}{rest:!Expr}
abbrev GO(t u:TT):TT:=λZ H Q=>t Z H λc d=>if c=TK then u Z d Q else Q TJ d
abbrev tOr(t u:TT):TT:=λZ H Q=>t Z H λc d=>if c=TK then Q TK d else u Z d Q
abbrev GX(t:TT):TT:=λZ H Q=>t Z H λc d=>Q (~~~c) d
def AG(d:PT X a tA):PW X (.BoolOp .And [a] pos) tA:=by
 intro g f s Z H Q I h;show isTrue_and (thn (d f s Z H Q I h) λc i e=>?_);cases c with
 | true=>show isTrue_and_nil e
 | false=>show e
def Ek(d:PT X a tA):PW X (.BoolOp .Or [a] pos) tA:=by
 intro g f s Z H Q I h;show isTrue_or (thn (d f s Z H Q I h) λc i e=>?_);cases c with
 | false=>show isTrue_or_nil e
 | true=>show e
def Ej(i:PT X a tA)(k:PW X (.BoolOp .And (b::rest) pos) tB'):PW X (.BoolOp .And (a::b::rest) pos) (GO tA tB'):=by
 intro j f s Z H Q I h;show isTrue_and (thn (i f s Z H _ I h) λc l ⟨g,e,d⟩=>?_);cases c with
 | true=>show k j f l Z g Q e d
 | false=>show⟨g,e,d⟩
def Gk(i:PT X a tA)(k:PW X (.BoolOp .Or (b::rest) pos) tB'):PW X (.BoolOp .Or (a::b::rest) pos) (tOr tA tB'):=by
 intro j f s Z H Q I h;show isTrue_or (thn (i f s Z H _ I h) λc l ⟨g,e,d⟩=>?_);cases c with
 | true=>show⟨g,e,d⟩
 | false=>show k j f l Z g Q e d
def Eg(d:PT X a tA):PT X (.UnaryOp .Not a pos) (GX tA):=by
 intro e s Z H Q I h;show isTrue_not (d e s Z H (λc f=>Q (~~~c) f) I h)
abbrev GY(ta tb:TE):TE:=λZ H Q=>ta Z H λx d=>∃c,x=.bl c/\if c=TK then Q (.bl TK) d else tb Z d Q
def DZ{op}{t:TE}(h:PE X a t):PE X (.BoolOp op [a] pos) t:=λc s Z H Q I d=>BoolOp_one (h c s Z H Q I d)
def Gg(i:PE X a ta)(l:PE X (.BoolOp .Or (b::rest) pos) tb):PE X (.BoolOp .Or (a::b::rest) pos) (GY ta tb):=by
 intro e s Z H Q I h;show BoolOp_or (thn (i e s Z H _ I h) λv m j=>?_);have(x,f,g,k,d):=j;have(c,rfl,d):=d;cases k;show N7 ?_;cases c with
 | false=>show l e m Z f Q g d
 | true=>show{.bl TK,f,g,Xr,d}
end
abbrev SqL(K:yF)(H:Hp)(a:Addr)(xs:!V):Prop:=
 Rd H a (.lst xs) \/
  ∃(o:Obj) (c:Array Nk) (n:Nat),K.lookup a*>o/\o.cls=.type "list" /\ o.dict=TF/\o.data=.seq c n/\c.size<=sizeLine/\Vals xs c.toList
abbrev SqT(K:yF)(H:Hp)(a:Addr)(xs:!V):Prop:=
 Rd H a (.tup xs) \/
  ∃(o:Obj) (c:Array Nk) (n:Nat),K.lookup a*>o/\(o.cls=.type "tuple" /\ o.dict=TF)/\o.data=.seq c n/\c.size<=sizeLine/\Vals xs c.toList
abbrev Hu:Nk->↑V
 | .none=>TH .non
 | .bool b=>TH (.bl b)
 | .int i _=>TH (.int i)
 | .str x _=>TH (.str x)
 | .bytes b _=>TH (.byt b)
 | .float b _=>TH (.flt b)
 | .ref a=>TH (.ref a)
 | .type n=>TH (.ty n)
 | _=>TF
def RelV.abs{x:V}{u:Nk}(r:RelV x u):Hu u*>x:=by
 cases x with
 | non=>cases r;rfl
 | bl _=>cases r;rfl
 | int _=>have(t,rfl):=r;rfl
 | str _=>have(t,rfl):=r;rfl
 | byt _=>have(t,rfl):=r;rfl
 | flt _=>have(t,rfl):=r;rfl
 | ref _=>cases r;rfl
 | ty _=>cases r;rfl
def RelV.inj{x y:V}{u:Nk}(r:RelV x u)(q:RelV y u):x=y:=IG.inj (r.abs.symm.trans q.abs)
def Vals.inj:∀{xs ys:!V} {a:!Nk},Vals xs a->Vals ys a->xs=ys:=by
 intro xs ys a h k
 induction h generalizing ys with
 | nil=>cases k;rfl
 | cons r t e=>
  cases k with
  | cons c d=>rw[r.inj c,e d]
section
variable {X:Cx}{OK:!(Addr×Obj)}{Z:St}{H:Hp}{s:Nm}{a:Addr}{xs ys:!V}
def SqL.of{K:yF}(h:H a*>(.lst xs)):SqL K H a xs:=.inl (.inl h)
def SqT.of{K:yF}(h:H a*>(.tup xs)):SqT K H a xs:=.inl (.inl h)
def Inv.list(I:Inv X OK Z H s)(h:SqL X.K H a xs):∃c:!Nk,Vals xs c/\PlainL s.heap a c.toArray/\xs.length<=sizeLine:=by
 rcases h with h|⟨o,c,n,i,g,d,f,j,r⟩
 .have(z,c,n,r,e):=h.ok I.hok;show{c,r,{_,n,e,Xr,Xr,Xr},z}
 .show{c.toList,r,{o,n,I.kIn a o i,g,d,by simpa using f},?_};have e:=r.length;dsimp[Jf]at e
  lia
def Inv.tuple(I:Inv X OK Z H s)(h:SqT X.K H a xs):∃c:!Nk,Vals xs c/\SV s.heap a c.toArray/\xs.length<=sizeLine:=by
 rcases h with h|⟨o,c,n,g,f,d,i,r⟩
 .have(z,c,r,p):=h.ok I.hok;show⟨c,r,p.to,z⟩
 .show{c.toList,r,{o,I.kIn a o g,f.1,n,by simpa using d},?_};have e:=r.length;dsimp[Jf]at e
  lia
def Inv.list_inj(I:Inv X OK Z H s)(h:SqL X.K H a xs)(h':SqL X.K H a ys):xs=ys:=by
 obtain⟨f,r,⟨o,n,e,_,_,d⟩,_⟩:=I.list h;obtain⟨c,k,⟨l,m,g,_,_,i⟩,_⟩:=I.list h';rw[e]at g;cases g;rw[d]at i;injection i with j _;have:f=c:=by simpa using congrArg Mo j
 subst this;show r.inj k
def Inv.tuple_inj(I:Inv X OK Z H s)(h:SqT X.K H a xs)(h':SqT X.K H a ys):xs=ys:=by
 obtain⟨f,r,⟨o,e,_,n,d⟩,_⟩:=I.tuple h;obtain⟨c,k,⟨l,g,_,m,i⟩,_⟩:=I.tuple h';rw[e]at g;cases g;rw[d]at i;injection i with j _;have:f=c:=by simpa using congrArg Mo j
 subst this;show r.inj k
end
noncomputable abbrev Cx.wish(X:Cx) (E:Nk->Nm->Prop):Cx:={X with xe:=E}
noncomputable abbrev Cx.nox(X:Cx):Cx:=X.wish λ_ _=>False
def Cx.Ok.wish{X:Cx}(a:X.Ok)(E:Nk->Nm->Prop):(X.wish E).Ok:=
 ⟨a.mod,a.kind,a.glob,a.blt,a.above,a.inj,a.has,a.cab,a.hd,a.gd,a.frames,a.stk,a.exf,a.bs,a.bsz,a.noex,a.exfs,a.funs,a.frf⟩
def Cx.Ok.unwish{X:Cx}{E:Nk->Nm->Prop}(a:(X.wish E).Ok):X.Ok:=
 ⟨a.mod,a.kind,a.glob,a.blt,a.above,a.inj,a.has,a.cab,a.hd,a.gd,a.frames,a.stk,a.exf,a.bs,a.bsz,a.noex,a.exfs,a.funs,a.frf⟩
section
variable {X:Cx}{OK:!(Addr×Obj)}{Z:St}{H:Hp}{s:Nm}{E:Nk->Nm->Prop}
def Inv.wish(I:Inv X OK Z H s)(E:Nk->Nm->Prop):Inv (X.wish E) OK Z H s:={I.ok.wish E,I.os,I.bare,I.base,I.loc,I.cell,I.free,I.freeC,I.pin,I.hok,I.len}
def Inv.unwish(I:Inv (X.wish E) OK Z H s):Inv X OK Z H s:=⟨I.ok.unwish,I.os,I.bare,I.base,I.loc,I.cell,I.free,I.freeC,I.pin,I.hok,I.len⟩
def SP.unwish{D:M6}{f:Flow}{d:Nm}(h:SP (X.wish E) OK D f d):SP X OK D f d:=by
 cases f with
 | next=>have(c,a,I,q):=h;show⟨c,a,I.unwish,q⟩
 | brk=>have(c,a,I,q):=h;show⟨c,a,I.unwish,q⟩
 | cont=>have(c,a,I,q):=h;show⟨c,a,I.unwish,q⟩
 | ret u=>have(v,c,a,I,r,q):=h;show⟨v,c,a,I.unwish,r,q⟩
def PSs.nox{st:!Stmt}{t:TS}(h:PSs X.nox st t):PSs X st t:=λOK s Z H D I a=>
 NR (h OK s Z H D (I.wish _) a) (λ_ _ q=>q.unwish) λ_ _ z=>OC z
end
section
variable {X:Cx}{st:Stmt}{rest:!Stmt}{t u:TS}{e:Expr}{te:TE}{pos:Pos}
abbrev Ci:TS:=λD Z H=>D.nx Z H
abbrev G4(t u:TS):TS:=λD Z H=>t {D with nx:=u D} Z H
def AB:PSs X [] Ci:=λ_ _ Z H _ I h=>Ps ⟨Z,H,I,h⟩
def xm(d:PS X st t)(i:PSs X rest u):PSs X (st::rest) (G4 t u):=by
 intro a s Z H D I h;show RY (thn (d a s Z H {D with nx:=u D} I h) λf k q=>?_);cases f with
 | next=>
  obtain⟨g,j,c,q⟩:=q;show i a k g j D c q
 | ret v=>show q
 | brk=>show q
 | cont=>show q
def AC(c:PS X st t):PSs X [st] t:=by
 intro a s Z H D I h;show RY (thn (c a s Z H D I h) λf d q=>?_);cases f with
 | next=>show Ps q
 | ret v=>show q
 | brk=>show q
 | cont=>show q
def Inv.quiet{a:!(Addr×Obj)}{Z:St}{H:Hp}{s:Nm}(I:Inv X a Z H s):interactive X.env=TJ:=by simp[interactive,I.ok.kind]
abbrev Ch(te:TE):TS:=λD Z H=>te Z H λ_ a=>D.nx Z a
def Az(g:PE X e te)(hs:Pi e TF pos.line X.env=pure TJ:=by rfl):PS X (.Expr e pos) (Ch te):=by
 intro d s Z H D I h;show wpAny_Expr_any (thn (g d s Z H _ I h) λv j ⟨x,f,c,i,a⟩=>⟨Z,f,c,a⟩) I.quiet hs
abbrev G3(te:TE):TS:=λD Z H=>te Z H D.rt
def Ee(i:PE X e te):PS X (.Return (TH e) pos) (G3 te):=by
 intro f s Z H D I h;show wpAny_Return_some (thn (i f s Z H _ I h) λv j ⟨x,g,c,d,a⟩=>⟨x,Z,g,c,d,a⟩)
abbrev GS(c:TT)(t u:TS):TS:=λD Z H=>c Z H λb a=>if b=TK then t D Z a else u D Z a
def Gj{c:Expr}{a b:!Stmt}{i:TT}(o:PT X c i)(m:PSs X a t)(p:PSs X b u):PS X (.If c a b pos) (GS i t u):=by
 intro f s Z H D I h;show wpAny_If (thn (o f s Z H _ I h) λd l ⟨g,k,j⟩=>?_);cases d with
 | true=>show m f l Z g D k j
 | false=>show p f l Z g D k j
end
protected def TG:=V->St->Hp->(St->Hp->Prop)->Prop
protected def TGs:=!V->St->Hp->(St->Hp->Prop)->Prop
abbrev PG(X:Cx)(a:Expr)(t:TG):Prop:=
 ∀(c:!(Addr×Obj)) (s:Nm) (Z:St) (H:Hp) (v:V) (u:Nk) (Q:St->Hp->Prop),Inv X c Z H s->RelV v u->t v Z H Q ->
  Np (Nu X.prog X.w) X.A (OJ a X.env u) (λ_ f=>∃e d,Inv X c e d f/\Q e d) X.xe s
abbrev PGs(X:Cx)(ts:!Expr)(t:TGs):Prop:=
 ∀(c:!(Addr×Obj)) (s:Nm) (Z:St) (H:Hp) (vs:!V) (a:!Nk) (Q:St->Hp->Prop),Inv X c Z H s->Vals vs a->t vs Z H Q ->
  Np (Nu X.prog X.w) X.A (Rk ((Og ts X.env).map (·.2)) a) (λ_ f=>∃e d,Inv X c e d f/\Q e d) X.xe s
protected def yZ:=V->V->V->Hp->(Hp->Prop)->Prop
abbrev Cr(X:Cx)(t:yZ):Prop:=
 ∀(a:!(Addr×Obj)) (s:Nm) (Z:St) (H:Hp) (o i v:V) (d c u:Nk) (Q:Hp->Prop),Inv X a Z H s->RelV o d->RelV i c->RelV v u->t o i v H Q ->
  Np (Nu X.prog X.w) X.A (P5 d c u) (λ_ f=>∃e,Inv X a Z e f/\Q e) X.xe s
section
variable {X:Cx}{pos:Pos}
abbrev jW(i:Nat):TG:=λv Z H Q=>Q (Z.set i (TH v)) H
def Ak{i:Nat}{x:Str}(e:X.N.Nodup)(f:X.N[i]?*>x)(d:Loc X.env.scope x)(c:X.fn x=TK\/X.env.scope.names.lookup x*>.local:=by first|show .inl rfl|show .inr rfl|assumption):PG X (.Name x pos) (jW i):=by
 intro g s Z H v u Q I r h;show P6 (jh I e f d r (λj a=>{_,H,a,h}) c)
abbrev CO:TGs:=λvs Z H Q=>vs=[]/\Q Z H
abbrev vQ(t:TG)(u:TGs):TGs:=λvs Z H Q=>∃v r,vs=v::r/\t v Z H λc a=>u r c a Q
def Al:PGs X [] CO:=by
 intro c s Z H vs a Q I r h;obtain⟨e,h⟩:=h;subst e;cases r;show RG ⟨Z,H,I,h⟩
def wT{e:Expr}{a:!Expr}{t:TG}{u:TGs}(i:PG X e t)(k:PGs X a u)
  (hs:(Og (e::a) X.env).map (·.2)=OJ e X.env::(Og a X.env).map (·.2):=by rfl):PGs X (e::a) (vQ t u):=by
 intro c s Z H vs p Q I r h;obtain⟨v,vr,d,h⟩:=h;subst d;cases r with
 | cons r f=>
  rw[hs];show PJ (thn (i c s Z H _ _ _ I r h) λ_ o ⟨l,g,m,j⟩=>?_);show k c o l g _ _ Q m f j
abbrev zi(K:yF)(n:Nat)(t:TGs):TG:=λv Z H Q=>∃a c,v=.ref a/\SqT K H a c/\c.length=n/\t c Z H Q
def D4{c:!Expr}{k:Nat}{t:TGs}{n:Nat}(p:X.calm=TK)(h:PGs X c t)
  (B:(Og c X.env).length=n:=by rfl) (f:(Og c X.env).findIdx? (·.1)=TF:=by rfl):PG X (.Tuple c k pos) (zi X.K n t):=by
 intro j s Z H v u Q I r d;obtain⟨a,q,m,C,l,d⟩:=d;subst m;cases r;obtain⟨y,i,w,E⟩:=I.tuple C;show assign_Tuple_tuple (I.ok.hd p) w (by simp[B,<-l,i.length]) f λz A=>?_;have x:Inv X j Z H {s with heap:=z}:=I.kept (t':=s.toks) λb o e=>A b o (IA (Nr e)) e;show h j _ Z H q _ Q x (by exists i) d
abbrev CP(c f:TE)(t:yZ):TG:=λv Z H Q=>c Z H λo e=>f Z e λi a=>t o i v a λd=>Q Z d
def wR{o i:Expr}{g f:TE}{t:yZ}(ho:PE X o g)(z:PE X i f)(hs:Cr X t)
  (A:∀v,OJ (.Subscript o i pos) X.env v=(do
   let a <-N8 [v] (eval o X.env)
   let c <-N8 [v,a] (eval i X.env)
   OX pos
   N8 [v,a,c] (P5 a c v)
   Sq [v,a,c] []):=by intro _;rfl):PG X (.Subscript o i pos) (CP g f t):=by
 intro d s Z H v u Q I r h;rw[A];show Nj (NI (thn (ho d s Z H _ I h) λa w e=>?_));have(x,C,k,l,j):=e;show Nj (NI (thn (z d w Z C _ k j) λc E e=>?_));have(y,B,G,K,m):=e;show Nj (Od (Nj (NI (thn (hs d E Z B x y v a c u _ G l K r m) λ_ L ⟨J,p,q⟩=>?_))));show wpAny_release ⟨Z,J,p,q⟩
abbrev yr(c:TE)(g:TG):TS:=λD Z H=>c Z H λx a=>g x Z a D.nx
def Eb{a e:Expr}{d:TE}{g:TG}(i:PE X e d)(p:PG X a g)(hs:Qb [a] e pos.line X.env=pure TJ:=by rfl)(j:Qc [a] e X.env=pure TF:=by rfl)
  (k:(Og [a] X.env).map (·.2)=[OJ a X.env]:=by rfl):PS X (.Assign [a] e pos) (yr d g):=by
 intro c s Z H D I h;show wpAny_Assign_stores (thn (i c s Z H _ I h) λv r ⟨x,f,m,o,l⟩=>?_) hs j;rw[k];show thn (p c r Z f x v _ m o l) λ_ t q=>q
def Ef{i:Nat}{x:Str}{e:Expr}{a:TE}{pos':Pos}(g:X.N.Nodup)(q:X.N[i]?*>x)(p:Loc X.env.scope x)(f:PE X e a)(hs:Pi e (TH (.Name x pos')) pos.line X.env=pure TJ:=by rfl)(o:X.fn x=TK\/X.env.scope.names.lookup x*>.local:=by first|show .inl rfl|show .inr rfl|assumption) :
  PS X (.Assign [.Name x pos'] e pos) (yr a (jW i)):=by
 intro c s Z H D I h;show wpAny_Assign_Name (thn (f c s Z H _ I h) λv t ⟨y,d,l,m,j⟩=>?_) hs;show jh l g q p m (λr k=>{_,d,k,j}) o
abbrev GZ(i j:Nat)(a:TA):TS:=λD Z H=>a Z H λvs c=>∃v w,vs=[v,w]/\D.nx ((Z.set i (TH v)).set j (TH w)) c
def Ed{i j:Nat}{x y:Str}{a b:Expr}{K:TA}{t k pt:Pos}{kt k2 pt2}(hc:X.calm=TK)(B:X.N.Nodup)(hi:X.N[i]?*>x)(hj:X.N[j]?*>y)(r:i≠j)
  (M:X.env.scope.names.lookup x*>.local) (J:X.env.scope.names.lookup y*>.local) (ha:PA X [a,b] K)
  (hw:Qc [.Tuple [.Name x t,.Name y k] kt pt] (.Tuple [a,b] k2 pt2) X.env=pure (TH [x,y]))
  (hs:Qb [.Tuple [.Name x t,.Name y k] kt pt] (.Tuple [a,b] k2 pt2) pos.line X.env=pure TJ:=by rfl) :
  PS X (.Assign [.Tuple [.Name x t,.Name y k] kt pt] (.Tuple [a,b] k2 pt2) pos) (GZ i j K):=by
 intro z s Z H D I h;rw[exec_Assign_arm];show Nj (Od ?_);rw[hs];show Nj (Nl ?_);rw[if_neg (by decide)];show Nj (Tuple_ (thn (ha _ z s Z H _ I h) λus f z9=>?_));have(vs,G,P,Q,l):=z9;obtain⟨v,w,O,l⟩:=l;subst O;obtain⟨g,d,rfl,rv,m⟩:∃g d,us=[g,d]/\RelV v g/\RelV w d:=by
  cases Q with
  | cons p q=>
   cases q with
   | cons U Y=>
    cases Y;show{_,_,Xr,p,U}
 show Nz ?_ (by change 2<=sizeLine;decide);have I2:Inv X z Z G {f with heap:=f.heap.push {cls:=.type "tuple",data:=.seq [g,d].toArray}}:=P.kept (t':=f.toks) λb o e=>Nn _ e;rw[hw];show Nj (Nl ?_);change Np (Nu X.prog X.w) X.A (do rule "assign.swapped-stores";let c <-unpackItems (.ref f.heap.objs.size) 2 TF;Rk [λv=>Sy X.env y v,λv=>Sy X.env x v] c.reverse;pure Tz) _ _ _;show Nj (Ou (Nj (unpackItems_tuple (items:=#[g,d]) (I.ok.hd hc) (SV.new f.heap _) λL u=>?_)));have S:=I2.kept (h':=L) (t':=f.toks) λb o e=>u b o (IA (Nr e)) e;change Np _ _ (Rk [λv=>Sy X.env y v,λv=>Sy X.env x v] [d,g] >>= λ_=>pure Tz) _ _ _;show Nj (PJ (SA (jh S B hj (.inl J) m (λs2 I4=>?_) (.inr J))));show PJ (SA (jh I4 B hi (.inl M) rv (λs3 C=>RG (Nl ?_)) (.inr M)));rw[List.set_comm _ _ (NA r)]at C;show{_,G,C,l}
end
section
variable {X:Cx}{pos:Pos}
abbrev yv(c:TT)(g:TS):TS:=λD Z H=>∃W:Nat->St->Hp->Prop,(∃m,W m Z H)/\∀m Z H,W m Z H ->
 c Z H λb d=>if b=TK then∃N:St->Hp->Prop,(∀f e,N f e->∃a,a<m/\W a f e)/\g {D with nx:=N,ct:=N,bk:=D.nx} Z d else D.nx Z d
def xl{c:Expr}{a:!Stmt}{z:TT}{B:TS}(G:Oo (Nu X.prog X.w) X.A X.env X.xe)(O:PT X c z)(S:PSs X a B):PS X (.While c a [] pos) (yv z B):=by
 intro m s Z H D I h;obtain⟨W,⟨K,L⟩,e⟩:=h;show wpAny_While (codeAny_whileLoop (λn Q=>∃y E,Inv X m y E Q/\W n y E) ?_ K ⟨Z,H,I,L⟩);rintro n M ⟨i,x,J,w1⟩;show Op G (thn (O m M i x _ J (e n i x w1)) λb P ⟨u,C,j⟩=>?_);cases b with
 | true=>
  obtain⟨N,t,j⟩:=j;rw[if_pos rfl];show Op G (thn (S m P i u _ C j) λf U k=>?_);cases f with
  | next=>
   have(d,g,r,p):=k;have(l,o,q):=t d g p;show⟨l,o,d,g,r,q⟩
  | cont=>
   have(d,g,r,p):=k;have(l,o,q):=t d g p;show⟨l,o,d,g,r,q⟩
  | brk=>show k
  | ret v=>show k
 | false=>
  rw[if_neg Ir];show Ps ⟨i,u,C,j⟩
end
structure It where
 go:Nat->Hp->Prop
 yld:Nat->Hp->V->Hp->Prop
 stop:Nat->Hp->Prop
abbrev eQ(X:Cx)(a:!(Addr×Obj))(H:Hp)(b:Addr):Prop:=
 H b=TF/\b≠X.env.locals/\b∉X.fs/\(b∈X.ex\/X.s₀.heap.objs.size<=b)/\(∀x c,X.env.cells.lookup x*>c->c≠b)/\∀p∈X.pn++a,p.1≠b
def Inv.fpOk{X:Cx}{d:!(Addr×Obj)}{Z:St}{H H':Hp}{s:Nm}{b:Addr}(I:Inv X d Z H s)(a:s.heap.objs.size<=b)(g:H' b=TF):eQ X d H' b:=by
 show{g,J3 (IB I.lt a),I.nofs a,.inr (IS I.sz a),λx c e z=>?_,λp f z=>?_}
 .have(v,q):=I.cell x c e;show absurd (IB q.lt (by rw[z];show a)) (JG _)
 .show absurd (IB (Nr (I.pin p f).1) (by rw[z];show a)) (JG _)
structure Nb(P:Nv)(w:NB)(K:yF)(tg:Expr)(J:It)(fp:!Addr)(it:Addr)(tn:Nat->Heap->Prop):Prop where
 mem:it∈fp
 obj:∀i h,tn i h->∀b∈fp,∃o,h.get? b*>o/\∀v,o.data ≠ .cell v
 keep:∀i h h',tn i h->(∀b∈fp,∀o,h.get? b*>o->h'.get? b*>o)->tn i h'
 item:∀(X:Cx),X.prog=P->X.w=w->X.K=K->X.calm=TK->∀(i:Nat) (OK:!(Addr×Obj)) (s:Nm) (Z:St) (H:Hp) (E:Nk->Nm->Prop),Inv X OK Z H s->(∀b∈fp,eQ X OK H b)->tn i s.heap->J.go i H ->
  Np (Nu P w) X.A (Pa (.ref it)) (λr s1=>∃u,r*>u /\
   Np (Nu P w) X.A (OG tg (.ref it) u) (λ_ s2=>∃x H',Inv X OK Z H' s2/\RelV x u/\J.yld i H x H'/\tn (i+1) s2.heap/\∀b∈fp,H' b=TF) E s1) E s
 done:∀(X:Cx),X.prog=P->X.w=w->X.K=K->X.calm=TK->∀(i:Nat) (OK:!(Addr×Obj)) (s:Nm) (Z:St) (H:Hp) (E:Nk->Nm->Prop),Inv X OK Z H s->(∀b∈fp,eQ X OK H b)->tn i s.heap->J.stop i H ->
  Np (Nu P w) X.A (Pa (.ref it)) (λr s1=>r=TF/\Inv X OK Z H s1) E s
 self:∀(A:NM) (i:Nat) (s:Nm) (Q:Nk->Nm->Prop) (E:Nk->Nm->Prop),tn i s.heap->Q (.ref it) s->Np (Nu P w) A (RZ (.ref it)) Q E s
protected def TI:=St->Hp->(It->Hp->Prop)->Prop
abbrev PIE(X:Cx)(e:!(Addr×Obj))(Z:St)(h:Expr)(R:It->Hp->Prop)(a:Nk)(d:Nm):Prop:=
 ∃(it:Addr) (g:!Addr) (f:Nat->Heap->Prop) (J:It) (c:Hp),a=.ref it/\Inv X e Z c d/\Nb X.prog X.w X.K h J g it f/\f 0 d.heap/\(∀b∈g,eQ X e c b)/\R J c
abbrev PI(X:Cx)(c iter:Expr)(d:TI):Prop:=
 ∀(a:!(Addr×Obj)) (s:Nm) (Z:St) (H:Hp) (R:It->Hp->Prop),Inv X a Z H s->d Z H R ->
  Np (Nu X.prog X.w) X.A (eval iter X.env) (λv e=>Np (Nu X.prog X.w) X.A (RZ v) (PIE X a Z c R) X.xe e) X.xe s
def sH{M:Model}{A:NM}{E:Nk->Nm->Prop}{s:Nm}{c:Expr}{it:Addr}{u:Nk}{o:Obj}{n:String}{vs:Array Nk}{Q:Unit->Nm->Prop}(ho:s.heap.get? it*>o)(e:o.cls=.type n)(d:o.data=.fields vs)
  (f:["enumerate","zip","dict_itemiterator","dict_reverseitemiterator","odict_iterator","itertools.zip_longest","itertools.pairwise"].contains n=TJ) (a:Q () s):Np M A (OG c (.ref it) u) Q E s:=by
 unfold OG;cases c<;>first
  | show Nl a
  | (cases u<;>first
    | show Nl a
    | (refine Nj (wpAny_load ho ?_)
       rw[e,d];change Np M A (if(["enumerate","zip","dict_itemiterator","dict_reverseitemiterator","odict_iterator","itertools.zip_longest","itertools.pairwise"].contains n&&vs[0]? == TH (OS _))=TK then _ else _) Q E s;rw[if_neg (by intro h;rw[f,Mg]at h;cases h)];show Nl a))
abbrev Itl(K:yF) (a:Addr):It:=
 {λi H=>∃c x,SqL K H a c/\c[i]?*>x,λi H x d=>d=H/\∀c,SqL K H a c->c[i]?*>x,λi H=>∃c,SqL K H a c/\c.length<=i}
abbrev Itt(K:yF) (a:Addr):It:=
 {λi H=>∃c x,SqT K H a c/\c[i]?*>x,λi H x d=>d=H/\∀c,SqT K H a c->c[i]?*>x,λi H=>∃c,SqT K H a c/\c.length<=i}
abbrev Itr(lo:Int) (n:Nat):It:={λi _=>i<n,λi H x a=>a=H/\x=.int (lo+i),λi _=>n<=i}
def vk{P:Nv}{w:NB}{K:yF}{tg:Expr}(a it:Addr):Nb P w K tg (Itl K a) [it] it (λi h=>h.IsListIter it a i) where
 mem:=by simp
 obj:=λi h st b hb=>by
  have e:b=it:=by exists hb
  subst e;have(o,e,c,d):=st;show{o,e,λv z=>by rw[d]at z;cases z}
 keep:=λi h h' st k=>st.at λo e=>k it ∅ o e
 item:=by
  intro X hP hw hK hc i OK s Z H E I hf st hg;subst hP hw hK;have(xs,x,hq,hx):=hg;have(its,rv,p,hz):=I.list hq;have(u,hu,ru):=rv.get hx;have(f0,f1,f2,f3,f4,f5):=hf it ∅;show Qq st p.isList (x:=u) (by exists hu) λh' st' sb=>?_;have I1:Inv X OK Z H {s with heap:=h'}:=I.turned (t':=s.toks) (λb o hb e=>(sb.2 b hb).trans e) f0 f1 f3 f4 f5;have(o,e,c,d):=id st';show{u,Xr,sH (s:={s with heap:=h'}) e c d (by decide) {x,H,I1,ru,{Xr,λys hy=>by rw[I.list_inj hy hq];show hx},st',λb hb=>(hf b hb).1}}
 done:=by
  intro X hP hw hK hc i OK s Z H E I hf st hg;subst hP hw hK;have(xs,hq,hx):=hg;have(its,rv,p,hz):=I.list hq;have(f0,f1,f2,f3,f4,f5):=hf it ∅;have hl:=rv.length;show QK (I.ok.hd hc) st p.isList (by simp;lia) λh' eb=>{Xr,I.turned (t':=s.toks) (λb o hb e=>eb b o hb e) f0 f1 f3 f4 f5}
 self:=λ_ _ _ _ _ st h=>wpAny_pyIter_listiter st h
def r6{P:Nv}{w:NB}{K:yF}{tg:Expr}(a it:Addr):Nb P w K tg (Itt K a) [it] it (λi h=>h.IsTupleIter it a i) where
 mem:=by simp
 obj:=λi h st b hb=>by
  have e:b=it:=by exists hb
  subst e;have(o,e,c,d):=st;show{o,e,λv z=>by rw[d]at z;cases z}
 keep:=λi h h' st k=>st.at λo e=>k it ∅ o e
 item:=by
  intro X hP hw hK hc i OK s Z H E I hf st hg;subst hP hw hK;have(xs,x,hq,hx):=hg;have(its,rv,p,hz):=I.tuple hq;have(u,hu,ru):=rv.get hx;have(f0,f1,f2,f3,f4,f5):=hf it ∅;show Qk st (show s.heap.IsTuple a its.toArray from p) (x:=u) (by exists hu) λh' st' sb=>?_;have I1:Inv X OK Z H {s with heap:=h'}:=I.turned (t':=s.toks) (λb o hb e=>(sb.2 b hb).trans e) f0 f1 f3 f4 f5;have(o,e,c,d):=id st';show{u,Xr,sH (s:={s with heap:=h'}) e c d (by decide) {x,H,I1,ru,{Xr,λys hy=>by rw[I.tuple_inj hy hq];show hx},st',λb hb=>(hf b hb).1}}
 done:=by
  intro X hP hw hK hc i OK s Z H E I hf st hg;subst hP hw hK;have(xs,hq,hx):=hg;have(its,rv,p,hz):=I.tuple hq;have(f0,f1,f2,f3,f4,f5):=hf it ∅;have hl:=rv.length;show Qr (I.ok.hd hc) st (show s.heap.IsTuple a its.toArray from p) (by simp;lia) λh' eb=>{Xr,I.turned (t':=s.toks) (λb o hb e=>eb b o hb e) f0 f1 f3 f4 f5}
 self:=λ_ _ _ _ _ st h=>wpAny_pyIter_tupleiter st h
def rZ{P:Nv}{w:NB}{K:yF}{tg:Expr}(it:Addr)(lo:Int)(n:Nat):Nb P w K tg (Itr lo n) [it] it (λi h=>IsRangeIter h it (lo+(i:Nat)*1) ((n:Int)-(i:Nat)) 1) where
 mem:=by simp
 obj:=λi h st b hb=>by
  have e:b=it:=by exists hb
  subst e;show{_,st,λv z=>by
   have z':Data.fields _=Data.cell v:=z;cases z'}
 keep:=λi h h' st k=>k it ∅ _ st
 item:=by
  intro X hP hw hK hc i OK s Z H E I hf st hg;subst hP hw hK;have(f0,f1,f2,f3,f4,f5):=hf it ∅;have W:=Tj.range (prog:=X.prog) (w:=X.w) (I.ok.hd hc) it lo 1 n;show W.item i s _ _ hg st λv h' tk hv st' kk=>?_;have(t,rfl):=hv;have I1:Inv X OK Z H {s with heap:=h',toks:=tk}:=I.turned (λb o hb e=>kk b o (by exists hb) e) f0 f1 f3 f4 f5;show{_,Xr,sH (s:={s with heap:=h',toks:=tk}) (n:="range_iterator") st' rfl rfl (by decide) {.int (lo+i),H,I1,{t,?_},⟨Xr,Xr⟩,st',λb hb=>(hf b hb).1}};rw[Int.mul_one]
 done:=by
  intro X hP hw hK hc i OK s Z H E I hf st hg;subst hP hw hK;have(f0,f1,f2,f3,f4,f5):=hf it ∅;show wpAny_pyNext_range_end (I.ok.hd hc) st (by have:n<=i:=hg;lia) λh' eb=>{Xr,I.turned (t':=s.toks) (λb o hb e=>eb b o hb e) f0 f1 f3 f4 f5}
 self:=λ_ _ _ _ _ st h=>wpAny_pyIter_rangeiter st h
section
variable {X:Cx}{tg:Expr}
abbrev sI(K:yF)(d:TE):TI:=λZ H R=>d Z H λx c=>∃a,x=.ref a/\(∃e,SqL K c a e)/\R (Itl K a) c
abbrev zm(K:yF)(d:TE):TI:=λZ H R=>d Z H λx c=>∃a,x=.ref a/\(∃e,SqT K c a e)/\R (Itt K a) c
def An{l:Expr}{f:TE}(g:PE X l f):PI X tg l (sI X.K f):=by
 intro i s Z H R I h;show thn (g i s Z H _ I h) λv d k=>?_;have(x,j,c,r,m):=k;obtain⟨a,e,⟨A,u⟩,q⟩:=m;subst e;cases r;have(t,y,p,z):=c.list u;show P7 p.isList ?_;show{d.heap.objs.size,[d.heap.objs.size],_,_,j,Xr,c.kept (t':=d.toks) λb o e=>Nn _ e,vk a _,{_,Nt _ rfl,Xr,Xr},λb w=>?_,q};have e:b=d.heap.objs.size:=by exists w
 subst e;show c.fpOk (Iq _) (c.hok.fresh (Iq _))
def D6{l:Expr}{g:TE}(i:PE X l g):PI X tg l (zm X.K g):=by
 intro j s Z H R I h;show thn (i j s Z H _ I h) λv c m=>?_;have(x,k,d,t,r):=m;obtain⟨a,e,⟨A,u⟩,q⟩:=r;subst e;cases t;have(f,y,p,z):=d.tuple u;show OY (show c.heap.IsTuple a f.toArray from p) ?_;show{c.heap.objs.size,[c.heap.objs.size],_,_,k,Xr,d.kept (t':=c.toks) λb o e=>Nn _ e,r6 a _,{_,Nt _ rfl,Xr,Xr},λb w=>?_,q};have e:b=c.heap.objs.size:=by exists w
 subst e;show d.fpOk (Iq _) (d.hok.fresh (Iq _))
def pN{d:!(Addr×Obj)}{Z:St}{H:Hp}{s:Nm}{R:It->Hp->Prop}{E:Nk->Nm->Prop}{lo a:Int}{t u v:Tok}{g:Nat}(I:Inv X d Z H s)(i : -(2^62)<=lo)(k:lo<2^62)(j : -(2^62)<=a)(l:a<2^62)
  (q:R (Itr lo (a-lo).toNat) H):Np (Nu X.prog X.w) X.A (RZ (.ref s.heap.objs.size)) (PIE X d Z tg R) E {s with heap:=s.heap.push {cls:=.type "range",data:=.fields #[.int lo t,.int a u,.int 1 v]},toks:=g}:=by
 show wpAny_pyIter_range (IsRange.new ..) (small_one i k j l) ?_;have f:Inv X d Z H {s with heap:=s.heap.push {cls:=.type "range",data:=.fields #[.int lo t,.int a u,.int 1 v]},toks:=g}:=I.kept λb o e=>Nn _ e;show{(s.heap.push {cls:=.type "range",data:=.fields #[.int lo t,.int a u,.int 1 v]}).objs.size,[(s.heap.push {cls:=.type "range",data:=.fields #[.int lo t,.int a u,.int 1 v]}).objs.size],_,_,H,Xr,
  f.kept (t':=g) λb o e=>Nn _ e,rZ _ lo (a-lo).toNat,?_,λb p=>?_,q}
 .have h:lo+((0:Nat):Int)*1=lo:=by simp
  have m:(((a-lo).toNat:Nat):Int)-((0:Nat):Int)=SW lo a 1:=by rw[rangeSize_one];split<;>lia
  change IsRangeIter _ _ (lo+((0:Nat):Int)*1) ((((a-lo).toNat:Nat):Int)-((0:Nat):Int)) 1;rw[h,m];show Nt _ rfl
 .have e:b=(s.heap.push {cls:=.type "range",data:=.fields #[.int lo t,.int a u,.int 1 v]}).objs.size:=by exists p
  subst e;show f.fpOk (Iq _) (f.hok.fresh (Iq _))
abbrev BI(c:TA):TI:=λZ H R=>c Z H λvs a=>∃j:Int,vs=[.int j]/\-(2^62)<=j/\j<2^62/\R (Itr 0 j.toNat) a
abbrev BJ(c:TA):TI:=λZ H R=>c Z H λvs a=>∃i j:Int,vs=[.int i,.int j]/\(-(2^62)<=i/\i<2^62/\-(2^62)<=j/\j<2^62)/\R (Itr i (j-i).toNat) a
def uI{a:Expr}{d:TA}{p pos:Pos}(u:Gl X "range")(k:X.mg "range" = TF)(f:PA X [a] d)(hs:NG [a] X.env=[(TJ,eval a X.env)]:=by rfl):PI X tg (.Call (.Name "range" p) [a] [] pos) (BI d):=by
 intro i s Z H R I h;show Call_ (iz I u k boot_range (Jz (thn (f pos i s Z H _ I h) λv x ⟨vs,w,l,m,c⟩=>?_) hs rfl));obtain⟨j,e,c,o,q⟩:=c;subst e;cases m with
 | cons r g=>
  cases g;obtain⟨t,rfl⟩:=r;show call_range_1 (pN l (by lia) (by lia) c o (by exists q))
def uJ{a b:Expr}{g:TA}{p pos:Pos}(x:Gl X "range")(l:X.mg "range" = TF)(y:PA X [a,b] g)(hs:NG [a,b] X.env=[(TJ,eval a X.env),(TJ,eval b X.env)]:=by rfl)(c:NG [b] X.env=[(TJ,eval b X.env)]:=by rfl) :
  PI X tg (.Call (.Name "range" p) [a,b] [] pos) (BJ g):=by
 intro k s Z H R I h;show Call_ (iz I x l boot_range (Jz (thn (y pos k s Z H _ I h) λC B ⟨vs,E,o,u,d⟩=>?_) (by rw[hs,c]) (by rw[c];rfl)));obtain⟨i,j,e,⟨d,v,w,z⟩,q⟩:=d;subst e;cases u with
 | cons r f=>
  cases f with
  | cons m f=>
   cases f;have(t,rfl):=r;have(A,rfl):=m;show call_range_2 (pN o d v w z q)
abbrev GQ(j:TI)(g:TG)(h:TS):TS:=λD Z H=>j Z H λJ f=>∃W:Nat->Nat->St->Hp->Prop,(∃m,W 0 m Z f)/\∀i m Z H,W i m Z H ->
 (J.stop i H/\D.nx Z H)\/(J.go i H/\∃N:St->Hp->Prop,(∀d a,N d a->∃c,c<m/\W (i+1) c d a)/\∀x a,J.yld i H x a->g x Z a λk e=>h {D with nx:=N,ct:=N,bk:=D.nx} k e)
abbrev dA(a:!Addr) (h:Heap):!(Addr×Obj):=a.filterMap λb=>(h.get? b).map λo=>(b,o)
def iD{a:!Addr}{h:Heap}{b:Addr}{o:Obj}(c:b∈a)(e:h.get? b*>o):(b,o)∈dA a h:=I9.mpr {b,c,by rw[e];rfl}
def uB{a:!Addr}{h:Heap}{p:Addr×Obj}(d:p∈dA a h):p.1∈a/\h.get? p.1*>p.2:=by
 have(b,f,e):=I9.mp d;cases q:h.get? b with
 | none=>rw[q]at e;cases e
 | some o=>
  rw[q]at e;have c:(b,o)=p:=IG.inj e;subst c;show⟨f,q⟩
def Inv.pinned{a:!(Addr×Obj)}{Z:St}{H:Hp}{s:Nm}{c:!Addr}(I:Inv X a Z H s)(i:∀b∈c,eQ X a H b)(ho:∀b∈c,∃o,s.heap.get? b*>o/\∀v,o.data ≠ .cell v):Inv X (a++dA c s.heap) Z H s:=
 I.pins_of λp j=>(yaM j).elim (λz=>I.pin p (yaR _ z)) λz=>by
  have(f,e):=uB z;have(h,l,k,_):=i p.1 f;have(o,g,d):=ho p.1 f;rw[e]at g;cases g;show⟨e,h,l,k,d⟩
def Inv.unpinned{a d:!(Addr×Obj)}{Z:St}{H:Hp}{s:Nm}(I:Inv X (a++d) Z H s):Inv X a Z H s:=I.pins_of λp c=>I.pin p (yaR _ (yaL _ c))
def Ec{iter:Expr}{q:!Stmt}{wi:TI}{g:TG}{tb:TS}{pos:Pos}(K:Oo (Nu X.prog X.w) X.A X.env X.xe)(hc:X.calm=TK)(hi:PI X tg iter wi)(hg:PG X tg g)(l:PSs X q tb)
  (hs:∀x,NY iter X.env x=pure x:=by intro _;rfl):PS X (.For tg iter q [] pos) (GQ wi g tb):=by
 intro y s Z H D I h;show wpAny_For (thn (hi y s Z H _ I h) λv s1 h1=>thn h1 λitv s2 h2=>?_) hs;obtain⟨it,L,tn,J,H2,e,I2,T,S,f2,W,⟨m0,w0⟩,M⟩:=h2;subst e;have a:∀{p:Hp},(∀b∈L,p b=TF)->∀b∈L,eQ X y p b:=λhn b l=>{hn b l,(f2 b l).2};show codeAny_forLoop_any (λn s'=>∃i P p,Inv X y P p s'/\tn i s'.heap/\(∀b∈L,p b=TF)/\W i n P p) ?_ m0 {0,Z,H2,I2,S,λb l=>(f2 b l).1,w0};rintro n s3 ⟨i,B,Q,I3,G,E,w3⟩;rcases M i n B Q w3 with⟨O,qn⟩|⟨go,N,hN,step⟩
 .show Op K (thn (T.done X rfl rfl rfl hc i y s3 B Q X.xe I3 (a E) G O) λr s4 ⟨Y,I4⟩=>?_);subst Y;show Ps ⟨B,Q,I4,qn⟩
 .show Op K (thn (T.item X rfl rfl rfl hc i y s3 B Q X.xe I3 (a E) G go) λr s4 ⟨u,Y,h4⟩=>?_);subst Y;show Op K (thn h4 λ_ s5 z9=>?_);have(x,H5,I5,r5,y5,z,fr5):=z9;have U:=I5.pinned (a fr5) (T.obj _ _ z);show Op K (thn (hg _ s5 B H5 x u _ U r5 (step x H5 y5)) λ_ s6 ⟨Z6,H6,I6,q6⟩=>?_);show Op K (thn (l _ s6 Z6 H6 _ I6 q6) λf s7 t=>?_);have again:∀{c:St} {k:Hp},Inv X (y++dA L s5.heap) c k s7->N c k->∃m,m<n/\∃i P p,Inv X y P p s7/\tn i s7.heap/\(∀b∈L,p b=TF)/\W i m P p:=λ{c k} j C=>by
   have(m',hm,w7):=hN c k C;show{m',hm,i+1,c,k,j.unpinned,T.keep _ _ _ z λb l o e=>(j.pin (b,o) (yaR _ (yaR _ (iD l e)))).1,λb l=>?_,w7};have(o,e,d):=T.obj _ _ z b l;show(j.pin (b,o) (yaR _ (yaR _ (iD l e)))).2.1
  cases f with
  | next=>have(c,k,j,C):=t;show again j C
  | cont=>have(c,k,j,C):=t;show again j C
  | brk=>obtain⟨c,k,j,t⟩:=t;show⟨c,k,j.unpinned,t⟩
  | ret v=>obtain⟨x7,c,k,j,r7,t⟩:=t;show⟨x7,c,k,j.unpinned,r7,t⟩
end
protected def R2:=V->V->Hp->VK->Prop
abbrev OpR(X:Cx)(f:Nk->Nk->Sem Nk)(r:R2):Prop:=
 ∀(a:!(Addr×Obj)) (s:Nm) (Z:St) (H:Hp) (x y:V) (v u:Nk) (Q:VK),Inv X a Z H s->RelV x v->RelV y u->r x y H Q ->
  Np (Nu X.prog X.w) X.A (f v u) (EP X a Z Q) X.xe s
abbrev UnR(X:Cx)(f:Nk->Sem Nk)(r:V->Hp->VK->Prop):Prop:=
 ∀(a:!(Addr×Obj)) (s:Nm) (Z:St) (H:Hp) (x:V) (v:Nk) (Q:VK),Inv X a Z H s->RelV x v->r x H Q ->
  Np (Nu X.prog X.w) X.A (f v) (EP X a Z Q) X.xe s
abbrev MQ(X:Cx)(f:Nk)(r:!V->Hp->VK->Prop):Prop:=
 ∀(c:!(Addr×Obj)) (s:Nm) (Z:St) (H:Hp) (d:!V) (a:!Nk) (Q:VK),Inv X c Z H s->Vals d a->r d H Q ->
  Np (Nu X.prog X.w) X.A (call f a) (EP X c Z Q) X.xe s
abbrev Ht(X:Cx)(r:V->Hp->(Bool->Hp->Prop)->Prop):Prop:=
 ∀(a:!(Addr×Obj)) (s:Nm) (Z:St) (H:Hp) (x:V) (v:Nk) (Q:Bool->Hp->Prop),Inv X a Z H s->RelV x v->r x H Q ->
  Np (Nu X.prog X.w) X.A (Sx v) (TP X a Z Q) X.xe s
abbrev tOp(r:R2)(c e:TE):TE:=λZ H Q=>c Z H λx d=>e Z d λy a=>r x y a Q
abbrev tUn(r:V->Hp->VK->Prop)(c:TE):TE:=λZ H Q=>c Z H λx a=>r x a Q
abbrev rI(C:Int->Int->Prop)(g:Int->Int->V):R2:=λx y H Q=>∃i j,x=.int i/\y=.int j/\C i j/\Q (g i j) H
abbrev rI0(g:Int->Int->V):R2:=λx y H Q=>∃i j,x=.int i/\y=.int j/\Q (g i j) H
abbrev rU(g:Int->V):V->Hp->VK->Prop:=λx H Q=>∃i,x=.int i/\Q (g i) H
section
variable {X:Cx}{a b c:Expr}{ta tb tc:TE}{pos:Pos}
def Cy(m:PE X a ta)(o:PE X b tb){i:!(Addr×Obj)}{s:Nm}{Z:St}{H:Hp}{R:V->V->Hp->Prop}(I:Inv X i Z H s)
  (h:ta Z H λx k=>tb Z k λy d=>R x y d) {Q:Nk->Nm->Prop} {f:Nk->Nk->Sem Nk}
  (B:∀v u j x y d,Inv X i Z d j->RelV x v->RelV y u->R x y d->Np (Nu X.prog X.w) X.A (f v u) Q X.xe j) :
  Np (Nu X.prog X.w) X.A (eval a X.env) (λv e=>Np (Nu X.prog X.w) X.A (eval b X.env) (λu g=>Np (Nu X.prog X.w) X.A (f v u) Q X.xe g) X.xe e) X.xe s:=by
 show thn (m i s Z H _ I h) λv E l=>?_;have(x,k,r,t,p):=l;show thn (o i E Z k _ r p) λu j l=>?_;have(y,d,q,C,z):=l;show B v u j x y d q t C z
def Gf{op:Operator}{r:R2}(ho:OpR X (N1 op) r)(d:PE X a ta)(l:PE X b tb):PE X (.BinOp a op b pos) (tOp r ta tb):=by
 intro g s Z H Q I h;show wpAny_BinOp (Cy d l I h λv u j x y e k f i q=>ho g j Z e x y v u Q k f i q)
def Gi{op:UnaryOp}{r:V->Hp->VK->Prop}(ho:UnR X (unaryOp op) r)(e:PE X a ta):PE X (.UnaryOp op a pos) (tUn r ta):=by
 intro d s Z H Q I h;show UnaryOp_ (thn (e d s Z H _ I h) λv k ⟨x,j,g,i,f⟩=>ho d k Z j x v Q g i f)
def opI{f:Nk->Nk->Sem Nk}{C:Int->Int->Prop}{g:Int->Int->Int}
  (rule:∀(i j:Int) (t u:Tok) (s:Nm) (Q:Nk->Nm->Prop) (E:Nk->Nm->Prop),C i j->Q (.int (g i j) s.toks) {s with toks:=s.toks+1}->Np (Nu X.prog X.w) X.A (f (.int i t) (.int j u)) Q E s) :
  OpR X f (rI C λi j=>.int (g i j)):=by
 intro o s Z H x y v u Q I e l h;have(i,j,rfl,rfl,k,q):=h;have(t,rfl):=e;have(m,rfl):=l;show rule i j t m s _ _ k {.int (g i j),H,I.tok _,{_,Xr},q}
def FM{f:Nk->Nk->Sem Nk}{g:Int->Int->Int}
  (rule:∀(i j:Int) (t u:Tok) (s:Nm) (Q:Nk->Nm->Prop) (E:Nk->Nm->Prop),Q (.int (g i j) s.toks) {s with toks:=s.toks+1}->Np (Nu X.prog X.w) X.A (f (.int i t) (.int j u)) Q E s) :
  OpR X f (rI0 λi j=>.int (g i j)):=by
 intro m s Z H x y v u Q I e k h;have(i,j,rfl,rfl,q):=h;have(t,rfl):=e;have(l,rfl):=k;show rule i j t l s _ _ {.int (g i j),H,I.tok _,{_,Xr},q}
def Di{f:Nk->Nk->Sem Nk}{g:Int->Int->Bool}
  (rule:∀(i j:Int) (t u:Tok) (s:Nm) (Q:Nk->Nm->Prop) (E:Nk->Nm->Prop),Q (.bool (g i j)) s->Np (Nu X.prog X.w) X.A (f (.int i t) (.int j u)) Q E s) :
  OpR X f (rI0 λi j=>.bl (g i j)):=by
 intro l s Z H x y v u Q I d e h;have(i,j,rfl,rfl,q):=h;have(t,rfl):=d;have(k,rfl):=e;show rule i j t k s _ _ {.bl (g i j),H,I,Xr,q}
abbrev Ho(i j:Int):Prop:=0<j/\j<1073741824
abbrev Cp(i j:Int):Prop:=0<=j/\j<=1000000/\i.natAbs<2^64
abbrev Nf(i j:Int):Prop:=(-(2^64)<i/\i<2^64)\/(-(2^64)<j/\j<2^64)
def Nf.ok{i j:Int}(h:Nf i j):IntMulOk i j:=by
 rcases h with⟨d,e⟩|⟨d,e⟩;show .of_left (intBits_le_64 d e);show .of_right (intBits_le_64 d e)
def op_add:OpR X (N1 .Add) (rI0 λi j=>.int (i+j)):=FM λ_ _ _ _ _ _ _ q=>add_int q
def Du:OpR X (N1 .Sub) (rI0 λi j=>.int (i-j)):=FM λ_ _ _ _ _ _ _ q=>sub_int q
def op_mul:OpR X (N1 .Mult) (rI Nf λi j=>.int (i*j)):=opI λ_ _ _ _ _ _ _ d q=>mul_int q d.ok
def op_fdiv:OpR X (N1 .FloorDiv) (rI Ho λi j=>.int (i / j)):=opI λi j _ _ _ _ _ d q=>by
 have e:(0:Int)<j:=d.1;have f:j<1073741824:=d.2;show floordiv_int (by lia) (by rw[KT i (by lia)];show q) (.inl (PyProof.noPylong_small (by lia)))
def Dp:OpR X (N1 .Mod) (rI (λ_ j=>0<j) λi j=>.int (i % j)):=opI λi j _ _ _ _ _ d q=>by
 have e:(0:Int)<j:=d;show mod_int' (by lia) (by rw[Int.fmod_eq_emod_of_nonneg i (by lia)];show q)
def Dt:OpR X (N1 .Pow) (rI Cp λi j=>.int (i^j.toNat)):=opI λ_ _ _ _ _ _ _ d q=>pow_int_small d.1 d.2.1 d.2.2 q
def unI{f:Nk->Sem Nk}{g:Int->Int}
  (rule:∀(i:Int) (t:Tok) (s:Nm) (Q:Nk->Nm->Prop) (E:Nk->Nm->Prop),Q (.int (g i) s.toks) {s with toks:=s.toks+1}->Np (Nu X.prog X.w) X.A (f (.int i t)) Q E s) :
  UnR X f (rU λi=>.int (g i)):=by
 intro j s Z H x v Q I e h;have(i,rfl,q):=h;have(t,rfl):=e;show rule i t s _ _ {.int (g i),H,I.tok _,{_,Xr},q}
def EU:UnR X (unaryOp .USub) (rU λi=>.int (-i)):=unI λ_ _ _ _ _ q=>neg_int q
end
abbrev yk:V->V->Bool
 | .non,.non=>TK|.non,.int _=>TK|.int _,.non=>TK|.non,.bl _=>TK|.bl _,.non=>TK|.non,.str _=>TK|.str _,.non=>TK
 | .int _,.int _=>TK|.bl _,.bl _=>TK|.str _,.str _=>TK|.byt _,.byt _=>TK
 | .int _,.str _=>TK|.str _,.int _=>TK|.bl _,.str _=>TK|.str _,.bl _=>TK
 | _,_=>TJ
abbrev rEq:R2:=λx y H Q=>yk x y=TK/\Q (.bl (decide (x=y))) H
abbrev rNe:R2:=λx y H Q=>yk x y=TK/\Q (.bl (~~~decide (x=y))) H
def sw{i j:Int}:decide (V.int i=V.int j)=(i==j):=by
 rw[Jo];simp
def vH{i j:Bool}:decide (V.bl i=V.bl j)=(i==j):=by
 rw[Jo];simp
def sx{i j:Str}:decide (V.str i=V.str j)=(i==j):=by
 rw[Jo];simp
def sv{i j:Array UInt8}:decide (V.byt i=V.byt j)=(i.toList==j.toList):=by
 rw[Jo];cases i;cases j;simp
section
variable {X:Cx}{a b c:Expr}{ta tb tc:TE}{pos:Pos}
def bc{d:!(Addr×Obj)}{Z:St}{H:Hp}{s:Nm}{Q:VK}{k f:Bool}(I:Inv X d Z H s)(q:Q (.bl k) H)(e:k=f):EP X d Z Q (.bool f) s:=by
 subst e;show{.bl k,H,I,Xr,q}
def op_eq:OpR X (NT .Eq) rEq:=by
 intro k s Z H x y v u Q I g d h;have(f,q):=h;cases x with
 | non=>
  cases g;cases y with
  | non=>cases d;show PySem.EqNone.eq_none_none (bc I q ∅)
  | bl j=>cases d;show PySem.EqNone.eq_none_bool (bc I q ∅)
  | int j=>have(e,rfl):=d;show PySem.EqNone.eq_none_int (bc I q ∅)
  | str j=>have(e,rfl):=d;show PySem.EqNone.eq_none_str (bc I q ∅)
  | _=>show absurd (show TJ=TK from f) Ir
 | bl i=>
  cases g;cases y with
  | non=>cases d;show PySem.EqNone.eq_bool_none (bc I q ∅)
  | bl j=>cases d;show eq_bool (bc I q vH)
  | str j=>have(e,rfl):=d;show PySem.EqMixed.eq_bool_str (bc I q ∅)
  | _=>show absurd (show TJ=TK from f) Ir
 | int i=>
  have(t,rfl):=g;cases y with
  | non=>cases d;show PySem.EqNone.eq_int_none (bc I q ∅)
  | int j=>have(e,rfl):=d;show eq_int (bc I q sw)
  | str j=>have(e,rfl):=d;show PySem.EqMixed.eq_int_str (bc I q ∅)
  | _=>show absurd (show TJ=TK from f) Ir
 | str i=>
  have(t,rfl):=g;cases y with
  | non=>cases d;show PySem.EqNone.eq_str_none (bc I q ∅)
  | bl j=>cases d;show PySem.EqMixed.eq_str_bool (bc I q ∅)
  | int j=>have(e,rfl):=d;show PySem.EqMixed.eq_str_int (bc I q ∅)
  | str j=>have(e,rfl):=d;show eq_str (bc I q sx)
  | _=>show absurd (show TJ=TK from f) Ir
 | byt i=>
  have(t,rfl):=g;cases y with
  | byt j=>have(e,rfl):=d;show PySem.W.eq_bytes (bc I q sv)
  | _=>show absurd (show TJ=TK from f) Ir
 | _=>cases y<;>show absurd (show TJ=TK from f) Ir
def op_ne:OpR X (NT .NotEq) rNe:=by
 intro k s Z H x y v u Q I g d h;have(f,q):=h;cases x with
 | non=>
  cases g;cases y with
  | non=>cases d;show PySem.EqNone.ne_none_none (bc I q ∅)
  | bl j=>cases d;show PySem.EqNone.ne_none_bool (bc I q ∅)
  | int j=>have(e,rfl):=d;show PySem.EqNone.ne_none_int (bc I q ∅)
  | str j=>have(e,rfl):=d;show PySem.EqNone.ne_none_str (bc I q ∅)
  | _=>show absurd (show TJ=TK from f) Ir
 | bl i=>
  cases g;cases y with
  | non=>cases d;show PySem.EqNone.ne_bool_none (bc I q ∅)
  | bl j=>cases d;show ne_bool (bc I q (congrArg not vH))
  | str j=>have(e,rfl):=d;show PySem.EqMixed.ne_bool_str (bc I q ∅)
  | _=>show absurd (show TJ=TK from f) Ir
 | int i=>
  have(t,rfl):=g;cases y with
  | non=>cases d;show PySem.EqNone.ne_int_none (bc I q ∅)
  | int j=>have(e,rfl):=d;show ne_int (bc I q (congrArg not sw))
  | str j=>have(e,rfl):=d;show PySem.EqMixed.ne_int_str (bc I q ∅)
  | _=>show absurd (show TJ=TK from f) Ir
 | str i=>
  have(t,rfl):=g;cases y with
  | non=>cases d;show PySem.EqNone.ne_str_none (bc I q ∅)
  | bl j=>cases d;show PySem.EqMixed.ne_str_bool (bc I q ∅)
  | int j=>have(e,rfl):=d;show PySem.EqMixed.ne_str_int (bc I q ∅)
  | str j=>have(e,rfl):=d;show ne_str (bc I q (congrArg not sx))
  | _=>show absurd (show TJ=TK from f) Ir
 | byt i=>
  have(t,rfl):=g;cases y with
  | byt j=>have(e,rfl):=d;show PySem.W.ne_bytes (bc I q (congrArg not sv))
  | _=>show absurd (show TJ=TK from f) Ir
 | _=>cases y<;>show absurd (show TJ=TK from f) Ir
def FP:OpR X (NT .Lt) (rI0 λi j=>.bl (decide (i<j))):=Di λ_ _ _ _ _ _ _ q=>lt_int q
def FO:OpR X (NT .Gt) (rI0 λi j=>.bl (decide (j<i))):=Di λ_ _ _ _ _ _ _ q=>gt_int q
def FN:OpR X (NT .GtE) (rI0 λi j=>.bl (decide (j<=i))):=Di λ_ _ _ _ _ _ _ q=>ge_int q
def op_in_str:OpR X (NT .In) (λx y H Q=>∃i j,x=.str i/\y=.str j/\Q (.bl (~~~(Of j i 0 j.length 1).isEmpty)) H):=by
 intro f s Z H x y v u Q I d e h;have(i,j,rfl,rfl,q):=h;have(t,rfl):=d;have(g,rfl):=e;show in_str (bc I q rfl)
def OpR.or{f:Nk->Nk->Sem Nk}{r d:R2}(h:OpR X f r)(h':OpR X f d):OpR X f (λx y H Q=>r x y H Q\/d x y H Q):=by
 intro g s Z H x y v u Q I e i q;rcases q with q|q;show h g s Z H x y v u Q I e i q;show h' g s Z H x y v u Q I e i q
def iE(b:Expr){op:Sw}(h:op ≠ .In:=by decide)(e:op ≠ .NotIn:=by decide):OI op b=TJ:=by
 have f:(op==Sw.In)=TJ:=by cases op<;>first|rfl|show absurd rfl h
 have d:(op==Sw.NotIn)=TJ:=by cases op<;>first|rfl|show absurd rfl e
 cases b<;>simp[OI,f,d]
def Ae{op:Sw}{r:R2}(ho:OpR X (NT op) r)(d:PE X a ta)(m:PE X b tb)(j:OI op b=TJ):PE X (.Compare a [op] [b] pos) (tOp r ta tb):=by
 intro g s Z H Q I h;show wpAny_Compare1 (Cy d m I h λv u k x y e l f i q=>ho g k Z e x y v u Q l f i q) j
abbrev Cj(t:TE):TT:=λZ H Q=>t Z H λx d=>∃k,x=.bl k/\Q k d
def AD{op:Sw}{r:R2}(ho:OpR X (NT op) r)(f:PE X a ta)(i:PE X b tb)(l:OI op b=TJ):PT X (.Compare a [op] [b] pos) (Cj (tOp r ta tb)):=by
 intro d s Z H Q I h;show QJ (thn (f d s Z H _ I h) λv J ⟨x,j,q,t,m⟩=>thn (i d J Z j _ q m) λu o ⟨y,g,p,G,w⟩=>
  thn (ho d o Z g x y v u _ p t G w) λc K ⟨z,E,A,C,k,e,B⟩=>?_) l
 subst e;cases C;show N7 ⟨E,A,B⟩
abbrev y3(K:yF)(x:V)(H:Hp)(k:Bool):Prop:=
 match x with
 | .non=>k=TJ
 | .bl b=>k=b
 | .int i=>k=(i != 0)
 | .str y=>y.length<=sizeLine/\k=((y.length:Int) != 0)
 | .byt y=>y.size<=sizeLine/\k=((y.size:Int) != 0)
 | .ref p=>(∃d,SqL K H p d/\k =  ~~~d.isEmpty)\/(∃d,SqT K H p d/\k =  ~~~d.isEmpty) \/ ∃e,H p*>(.dK e)/\k =  ~~~e.isEmpty
 | _=>False
def qK{d : Type}{kvs:!(d×V)}{vs:!(d×Nk)}(r:KV kvs vs):(~~~vs.isEmpty) =  ~~~kvs.isEmpty:=by
 cases r<;>rfl
def kU{xs:!V}{d:!Nk}(r:Vals xs d):(~~~d.toArray.isEmpty) =  ~~~xs.isEmpty:=by
 cases r<;>simp
def iA:(sizeLine:Nat)<2^63:=by rw[No];decide
def EO:Ht X (λx H Q=>∃k,y3 X.K x H k/\Q k H):=by
 intro J s Z H x v Q I l h;have(k,e,q):=h;have E:=iA;have G:sizeLine=16777216:=No;cases x with
 | non=>
  cases l;have d:k=TJ:=e;subst d;show truthy_none ⟨H,I,q⟩
 | bl b=>
  cases l;have d:k=b:=e;subst d;show N7 ⟨H,I,q⟩
 | int i=>
  have(t,rfl):=l;have d:k=(i != 0):=e;subst d;show PySem.P.truthy_int ⟨H,I,q⟩
 | str y=>
  have(t,rfl):=l;obtain⟨B,d⟩:y.length<=sizeLine/\k=((y.length:Int) != 0):=e;subst d;show PySem.P.truthy_str (by lia) {H,I.tok _,q}
 | byt y=>
  have(t,rfl):=l;obtain⟨B,d⟩:y.size<=sizeLine/\k=((y.size:Int) != 0):=e;subst d;show PySem.W.truthy_bytes (by lia) {H,I.tok _,q}
 | ref p=>
  cases l;have d:(∃j,SqL X.K H p j/\k =  ~~~j.isEmpty)\/(∃j,SqT X.K H p j/\k =  ~~~j.isEmpty) \/ ∃f,H p*>(.dK f)/\k =  ~~~f.isEmpty:=e;rcases d with⟨j,o,d⟩|⟨j,o,d⟩|⟨f,o,d⟩
  .subst d;have(u,r,z,A):=I.list o;have g:=r.length;show wpAny_truthy_list z.isList (by dsimp[Ij];lia) {H,I.tok _,by rw[kU r];show q}
  .subst d;have(u,r,z,A):=I.tuple o;have g:=r.length;show truthy_tuple z (by dsimp[Ij];lia) {H,I.tok _,by rw[kU r];show q}
  .subst d;obtain⟨A,C,vs,r,m⟩:f.length<=sizeLine/\(p==N6)=TJ/\∃vs,KV f vs/\s.heap.DictOf (bf X.prog X.w) p vs:=I.hok p _ o;have g:f.length=vs.length:=Paired.length r;show wpAny_truthy_dict C m (by lia) {H,I.tok _,by rw[qK r];show q}
 | _=>show(show False from e).elim
def xn(f:PE X a ta)(i:∀d,Rv a X.env d=(do let v <-d;OX a.pos;N8 [v] (Sx v))) :
  PT X a (λZ H Q=>ta Z H λx H'=>∃k,y3 X.K x H' k/\Q k H'):=by
 intro e s Z H Q I h;show isTrue_plain (thn (f e s Z H _ I h) λv o ⟨x,g,l,m,j⟩=>EO e o Z g x v Q l m j) (i _)
def op_add_str:OpR X (N1 .Add) (λx y H Q=>∃i j,x=.str i/\y=.str j/\i.length+j.length<=sizeLine/\Q (.str (i++j)) H):=by
 intro k s Z H x y v u Q I e f h;have(i,j,rfl,rfl,d,q):=h;have(t,rfl):=e;have(g,rfl):=f;show add_str (λg l=>{.str (i++j),H,I.tok _,{_,Xr},q}) d
def gp{x:V}{d:!Nk}(r:Vals [x] d):∃u,d=[u]/\RelV x u:=by
 cases r with
 | cons f e=>cases e;show{_,Xr,f}
def qc{x y:V}{d:!Nk}(r:Vals [x,y] d):∃u e,d=[u,e]/\RelV x u/\RelV y e:=by
 cases r with
 | cons g i=>
  cases i with
  | cons f h=>cases h;show{_,_,Xr,g,f}
def t3(e:X.calm=TK):MQ X (.builtin "max") (λxs H Q=>∃i j,xs=[.int i,.int j]/\Q (.int (if j>i then j else i)) H):=by
 intro g s Z H xs f Q I r h;have(i,j,rfl,q):=h;obtain⟨u,l,rfl,⟨t,rfl⟩,⟨m,rfl⟩⟩:=qc r;show max_two_ints (I.ok.hd e) λo p k=>{_,H,I.kept k,?_,q};by_cases d:j>i;rw[if_pos d,if_pos d];show{_,Xr};rw[if_neg d,if_neg d];show{_,Xr}
def t5(e:X.calm=TK):MQ X (.builtin "min") (λxs H Q=>∃i j,xs=[.int i,.int j]/\Q (.int (if j<i then j else i)) H):=by
 intro g s Z H xs f Q I r h;have(i,j,rfl,q):=h;obtain⟨u,l,rfl,⟨t,rfl⟩,⟨m,rfl⟩⟩:=qc r;show min_two_ints (I.ok.hd e) λo p k=>{_,H,I.kept k,?_,q};by_cases d:j<i;rw[if_pos d,if_pos d];show{_,Xr};rw[if_neg d,if_neg d];show{_,Xr}
def tY:MQ X (.type "int") (λxs H Q=>(∃i,xs=[.int i]/\Q (.int i) H) \/ ∃k,xs=[.bl k]/\Q (.int (if k then 1 else 0)) H):=by
 intro f s Z H xs e Q I r h;rcases h with⟨i,rfl,q⟩|⟨k,rfl,q⟩
 .have(u,rfl,t,rfl):=gp r;show call_int_int {.int i,H,I,{_,Xr},q}
 .have(u,rfl,d):=gp r;cases d;show call_int_bool {.int (if k then 1 else 0),H,I.tok _,{_,Xr},q}
end
structure ObjM(h:Heap)(x dx C:Addr)(mA:Str->↑Nk):Prop where
 obj:h.get? x*>(Mc C dx)
 ns:h.Ns1 dx mA
 ne:dx≠x
def RelO.some_of{v:V}{o:↑Nk}(r:RelO (TH v) o):∃u,o*>u/\RelV v u:=by
 cases o with
 | none=>show(show False from r).elim
 | some u=>show⟨u,Xr,r⟩
structure Cls(K:yF)(C:Addr):Prop where
 pg:PySem.W.plainGet K C Str.empty=TK
 hd:PySem.W.hasDictIn K C=TK
 po:PySem.W.plainOver K C=TK
 sa:KU K (.ref C) "__setattr__" = TH (TH (.builtin "object.__setattr__"))
structure Con(K:yF)(C:Addr)(f:Str)(v:V)(u:Nk):Prop where
 at_:KU K (.ref C) f*>(TH u)
 rel:RelV v u
 get:LV K u "__get__" = TH TF
 cp:PySem.W.copiedNames.contains f=TJ
structure Meth(K:yF)(C:Addr)(m:Str)(f:Addr):Prop where
 at_:KU K (.ref C) m*>(TH (.ref f))
 fn:Mp K (.ref f)=TK
 kp:JK K (.ref f)=TK
section
variable {X:Cx}{OK:!(Addr×Obj)}{Z:St}{H:Hp}{s:Nm}{A:NM}{E:Nk->Nm->Prop}{Q:Nk->Nm->Prop}{c:Nk}{b:Bool}
inductive M5(K:yF) (H:Hp):V->Nk->Prop where
 | non:M5 K H .non (.type "NoneType")
 | bl (x:Bool):M5 K H (.bl x) (.type "bool")
 | int (i:Int):M5 K H (.int i) (.type "int")
 | str (x:Str):M5 K H (.str x) (.type "str")
 | flt (x:UInt64):M5 K H (.flt x) (.type "float")
 | lst {a:Addr} {xs:!V} (e:H a*>(.lst xs)):M5 K H (.ref a) (.type "list")
 | frz {a:Addr} {o:Obj} {xs:!V} (e:H a*>(.frz o (.lst xs))):M5 K H (.ref a) (.type "list")
 | tup {a:Addr} {xs:!V} (e:H a*>(.tup xs)):M5 K H (.ref a) (.type "tuple")
 | dK {a:Addr} {kvs:!(Key×V)} (e:H a*>(.dK kvs)):M5 K H (.ref a) (.type "dict")
 | dT {a:Addr} {kvs:!(!K1×Addr×V)} (e:H a*>(.dT kvs)):M5 K H (.ref a) (.type "dict")
 | ins {a C dx:Addr} {fs:!(Str×V)} (e:H a*>(.ins C dx fs)) (cl:Cls K C) (ha:KU K (.ref C) "__class__" = TH (TH (.builtin "object.__class__")))
   (hn:LV K (.builtin "object.__class__") "__get__" = TH (TH (.builtin "getset_descriptor.__get__"))) (htk:PySem.W.takesIn K (.builtin "object.__class__")*>TK)
   (hm:PySem.W.mroIn K C (.type "object")*>TK):M5 K H (.ref a) (.ref C)
end
structure MV(k:Nat)(A:NM):Prop where
 hd:A.handled=TF
 gd:A.guards=TH []
 dp:A.depth+3*k+5<SB
 un:A.units+16*k+200<NN
def MV.mono{j k:Nat}{A:NM}(r:MV k A)(h:j<=k):MV j A:={r.hd,r.gd,by have:=r.dp;lia,by have:=r.un;lia}
def MV.deeper{k:Nat}{A:NM}(r:MV (k+1) A)(env:Env):MV k (A.deeper env):=
 {r.hd,r.gd,by have:=r.dp;change A.depth+1+3*k+5<_;lia,by have:=r.un;change A.units+3+16*k+200<_;lia}
def MV.depth{k:Nat}{A:NM}(r:MV k A):A.depth<SB:=by have:=r.dp;lia
def MV.units{k:Nat}{A:NM}(r:MV k A):A.units+64<NN:=by have:=r.un;lia
abbrev GV:TA:=λ_ H Q=>Q [] H
abbrev tK(d:TE)(c:TA):TA:=λZ H Q=>d Z H λx e=>c Z e λf a=>Q (x::f) a
section
variable {X:Cx}{e:Expr}{es:!Expr}{te:TE}{t:TA}{pos:Pos}
def wK:PA X [] GV:=λ_ _ _ _ H Q I h=>Calls.spliced_nil {[],H,I,.nil,h}
def Aa(c:PE X e te)(i:PA X es t)(hs:NG (e::es) X.env=(TJ,eval e X.env)::NG es X.env:=by rfl):PA X (e::es) (tK te t):=by
 intro pos a s Z H Q I h;rw[hs];change Np _ _ (spliced ((TJ,eval e X.env)::O9 pos (NG es X.env))) _ _ s;show Calls.spliced_cons (thn (c a s Z H _ I h) λu r g=>?_);have(x,f,m,o,k):=g;show thn (i pos a r Z f _ m k) λv w ⟨j,d,l,q,p⟩=>⟨x::j,d,l,.cons o q,p⟩
abbrev G6(t:TA):TE:=λZ H Q=>t Z H λc a=>c.length<=sizeLine/\∀p,a p=TF->Q (.ref p) (upd a p (.tup c))
abbrev GU(t:TA):TE:=λZ H Q=>t Z H λc a=>c.length<=sizeLine/\∀p,a p=TF->Q (.ref p) (upd a p (.lst c))
def D3{x1}(h:PA X es t):PE X (.Tuple es x1 pos) (G6 t):=by
 intro g s Z H Q I k;show wpAny_Tuple_spliced (thn (h pos g s Z H _ I k) λf a ⟨i,c,d,r,z,q⟩=>{by rw[<-r.length];show z,?_});have j:c a.heap.objs.size=TF:=d.hok.fresh (Iq _);show{.ref a.heap.objs.size,upd c a.heap.objs.size (.tup i),d.laid (t':=a.toks) (λb u e=>Nn _ e) (Iq _) ?_,Xr,q _ j};show{z,f,r,{_,Nt _ rfl,⟨Xr,Xr⟩,_,Xr}}
def DY(h:PA X es t):PE X (.List es pos) (GU t):=by
 intro g s Z H Q I k;show wpAny_List_spliced (thn (h pos g s Z H _ I k) λf a ⟨i,c,d,r,z,q⟩=>{by rw[<-r.length];show z,?_});have j:c a.heap.objs.size=TF:=d.hok.fresh (Iq _);show{.ref a.heap.objs.size,upd c a.heap.objs.size (.lst i),d.laid (t':=a.toks) (λb u e=>Nn _ e) (Iq _) ?_,Xr,q _ j};show{z,f,0,r,Nt _ rfl}
end
protected def Sp:=!V->Hp->VK->XK->Prop
protected def CXT:=!Env->Hp->Nm->XK->Nk->Nm->Prop
structure Nh(P:Nv)(w:NB)(K:yF)(mg:Str->↑Nk)(base:Heap)(A:NM)(outer:!Env)(s:Nm)(H:Hp):Prop where
 frames:A.frames*>outer
 mod:Mod K mg base
 bs:∀b o,base.get? b*>o->s.heap.get? b*>o/\H b=TF
 bsz:base.objs.size<=s.heap.objs.size
 funs:s.heap.FunFrames base outer
 frf:∀b∈frs outer,H b=TF
 hok:HOk P w H s.heap
 bare:P4 s.gens
abbrev CE(a:!Env)(P:Nv)(w:NB)(H:Hp)(s:Nm)(Q:VK)(u:Nk)(c:Nm):Prop:=
 ∃v d,c.os=s.os/\P4 c.gens/\Un (frs a) [] H d s.heap c.heap/\HOk P w d c.heap/\RelV v u/\Q v d
abbrev CR(d:CXT)(a:!Env)(P:Nv)(w:NB)(H:Hp)(s:Nm)(Q:VK)(E:XK)(r:R3)(c:Nm):Prop:=
 match r with
 | .ok (.ret u)=>CE a P w H s Q u c
 | .ok _=>False
 | .error e=>d a H s E e c
structure Nc(P:Nv)(w:NB)(K:yF)(mg:Str->↑Nk)(base:Heap)(CX:CXT)(k:Nat)(f:Addr)(fd:Ox)(ps:!Str)(sp:Sp):Prop where
 len:∀vs H Q E,sp vs H Q E->vs.length=ps.length
 run:∀(A:NM) (outer:!Env) (s:Nm) (H:Hp) (args:Args) (us:!Nk) (vs:!V) (Q:VK) (E:XK),MV k A->Nh P w K mg base A outer s H->Rb s fd args (ps.zip us)->Vals vs us->sp vs H Q E ->
  OD (Nu P w) A (.call (.ref f) args) (CR CX outer P w H s Q E) s
section
variable {X:Cx}{OK:!(Addr×Obj)}{Z:St}{H:Hp}{s s':Nm}
def Inv.env0(I:Inv X OK Z H s):Nh X.prog X.w X.K X.mg X.base X.A X.stack s H:=
 {I.ok.frames,I.ok.mod,I.bs,IS I.ok.bsz I.sz,I.stack,I.stkFree,I.hok,I.bare}
def Inv.after{Q:VK}{u:Nk}(I:Inv X OK Z H s)(h:CE X.stack X.prog X.w H s Q u s'):EP X OK Z Q u s':=by
 have(v,j,os,a,f,c,r,q):=h;have(i,g,d,t,e):=s';obtain rfl:e=s.os:=os;show{v,j,I.call (h':=i) (g':=g) (d':=d) (t':=t) (ch:=[]) f c a (λb z=>absurd z ∅),r,q}
end
abbrev m8(c:Sp)(a:!V)(E:XK)(t:TA):TE:=λZ H Q=>t Z H λvs d=>c (vs++a) d Q E
abbrev M7(K:yF)(e:Ox)(d:!Str)(c:!Nk):Prop:=
 ∀(s:Nm) (a:!Nk),K.In s.heap->(a++c).length=d.length->Rb s e {a,[]} (d.zip (a++c))
def M7.all{K:yF}{e:Ox}{c:!Str}(h:∀a:!Nk,a.length=c.length->SC e {a,[]}=pure (c.zip a)):M7 K e c []:=λs a _ d=>by
 rw[IM]at d|-;show .of_eq (h a d)
abbrev qk(d:CXT)(X:Cx)(E:XK):Prop:=∀(c:!(Addr×Obj)) (Z:St) (H:Hp) (s:Nm) (e:Nk) (a:Nm),Inv X c Z H s->d X.stack H s E e a->X.xe e a
section
variable {X:Cx}{CX:CXT}{k:Nat}{f C:Addr}{fd:Ox}{ps:!Str}{sp:Sp}{dvs:!V}{ds:!Nk}{E:XK}{x m:Str}{p pos apos:Pos}{e o:Expr}{es:!Expr}{ta:TE}{t:TA}
def EJ{d:!(Addr×Obj)}{Z:St}{H:Hp}{s:Nm}{Q:VK}{a:!Nk}{vs:!V}(F:Nc X.prog X.w X.K X.mg X.base CX k f fd ps sp)(q:MV k X.A)(l:M7 X.K fd ps ds)(j:Vals dvs ds)(v:qk CX X E)
  (I:Inv X d Z H s) (r:Vals vs a) (h:sp (vs++dvs) H Q E):Np (Nu X.prog X.w) X.A (call (.ref f) a) (EP X d Z Q) X.xe s:=by
 have g:Vals (vs++dvs) (a++ds):=r.append j;have i:(a++ds).length=ps.length:=by rw[<-g.length];show F.len _ _ _ _ h
 show wpAny_call (RH (F.run X.A X.stack s H {a,[]} (a++ds) (vs++dvs) Q E q I.env0 (l s a I.kIn i) g h) λr y c=>?_);cases r with
 | error e=>show v d Z H s e y I c
 | ok z=>
  cases z with
  | ret u=>show I.after c
  | next=>show OC c
  | brk=>show OC c
  | cont=>show OC c
def Ad(F:Nc X.prog X.w X.K X.mg X.base CX k f fd ps sp)(v:MV k X.A)(j:Gl X x)(y:X.mg x*>(.ref f))(G:JK X.K (.ref f)=TK)(B:M7 X.K fd ps ds)(g:Vals dvs ds)(z:qk CX X E)
  (i:PA X (e::es) t) (c:(x==("__debug__" : Str))=TJ:=by decide) (u:NG (e::es) X.env=(TJ,eval e X.env)::NG es X.env:=by rfl) (a:(O9 pos (NG es X.env)).any (·.1)=TJ:=by rfl) :
  PE X (.Call (.Name x p) (e::es) [] pos) (m8 sp dvs E t):=by
 intro l s Z H Q I h;show PK (zC I j y ?_ c);show PySem.W.callWith_K (h₀:=X.base) I.ok.mod.kin G (thn (i pos l s Z H _ I h) λJ M ⟨vs,L,d,r,q⟩=>{d.kIn,?_}) u a;show EJ F v B g z d r q
end
section
variable {X:Cx}{CX:CXT}{k:Nat}{f C:Addr}{fd:Ox}{ps ks:!Str}{sp:Sp}{E:XK}{x m:Str}{p pos apos kpos:Pos}{e o:Expr}{es:!Expr}{kws:!Sr}{te ta:TE}{t tk:TA}{nm:↑Str}
structure KBinds(K:yF)(fd:Ox)(ps ks:!Str)(g:!Nk->!Nk->!Nk)(gV:!V->!V->!V):Prop where
 to:∀(s:Nm) (us ws:!Nk),K.In s.heap->(g us ws).length=ps.length->Rb s fd {us,ks.zip ws} (ps.zip (g us ws))
 rel:∀{vs:!V} {us:!Nk} {zs:!V} {ws:!Nk},Vals vs us->Vals zs ws->Vals (gV vs zs) (g us ws)
variable {g:!Nk->!Nk->!Nk}{gV:!V->!V->!V}
end
structure p8(N P:!Str)(sc:O8):Prop where
 kind:sc.kind=.function
 co:sc.isCoroutine=TJ
 gen:sc.isGenerator=TJ
 nd:N.Nodup
 pre:N.take P.length=P
 par:∀x∈P,sc.names.lookup x*>.local\/sc.names.lookup x*>.cell
 nofree:∀y∈sc.names,y.2 ≠ .free
def mf{kindOf:Str->↑Ny}{x:Str}:∀{a:!(Str×Nk)} {m:Str->↑Nk},(∀v,(x,v)∉a)->SD kindOf a m x=m x
 | [],_,_=>rfl
 | (n,v)::r,m,h=>by
  unfold SD;rw[mf λw c=>h w (ymC _ c)];split
  .have:x≠n:=by rintro rfl;show h v ymS
   simp[this]
  .rfl
def md{kindOf:Str->↑Ny}{x:Str}:∀{a:!(Str×Nk)} {m:Str->↑Nk},(∀v,(x,v)∉a)->SE kindOf a m x=m x
 | [],_,_=>rfl
 | (n,v)::r,m,h=>by
  unfold SE;rw[md λw c=>h w (ymC _ c)];split;rfl
  .have:x≠n:=by rintro rfl;show h v ymS
   simp[this]
def me{kindOf:Str->↑Ny}{x:Str}{v:Nk}:∀{P:!Str} {vs:!Nk} {i:Nat} {m:Str->↑Nk},P.Nodup->P[i]?*>x->vs[i]?*>v->kindOf x*>.local ->
  SD kindOf (P.zip vs) m x*>v
 | [],_,_,_,_,h,_,_=>by simp at h
 | _::_,[],_,_,_,_,h,_=>by simp at h
 | p::P,w::vs,0,m,d,c,a,e=>by
  simp at c a;subst c;subst a;change SD kindOf ((p,w)::P.zip vs) m p=_;unfold SD;rw[mf λv f=>(IW.mp d).1 (Ln f).1,if_pos e];simp
 | p::P,w::vs,i+1,m,d,c,a,e=>by
  change SD kindOf ((p,w)::P.zip vs) m x=_;unfold SD;show me (i:=i) (IW.mp d).2 (by exists c) (by exists a) e
def l9{kindOf:Str->↑Ny}{x:Str}{v:Nk}:∀{P:!Str} {vs:!Nk} {i:Nat} {m:Str->↑Nk},P.Nodup->P[i]?*>x->vs[i]?*>v->kindOf x≠TH .local ->
  SE kindOf (P.zip vs) m x*>v
 | [],_,_,_,_,h,_,_=>by simp at h
 | _::_,[],_,_,_,_,h,_=>by simp at h
 | p::P,w::vs,0,m,d,c,a,e=>by
  simp at c a;subst c;subst a;change SE kindOf ((p,w)::P.zip vs) m p=_;unfold SE;rw[md λv f=>(IW.mp d).1 (Ln f).1,if_neg e];simp
 | p::P,w::vs,i+1,m,d,c,a,e=>by
  change SE kindOf ((p,w)::P.zip vs) m x=_;unfold SE;show l9 (i:=i) (IW.mp d).2 (by exists c) (by exists a) e
abbrev start(N:!Str) (vs:!V):St:=vs.map TH++Ik (N.length-vs.length) TF
abbrev lW(CX:CXT) (P:Nv) (w:NB) (K:yF) (mg:Str->↑Nk) (base:Heap) (N:!Str) (qual:Str) (scope:O8) (f:Addr) (cd:Nk) (A:NM) (outer:!Env) (s:Nm) (H:Hp) (E:XK):Cx where
 prog:=P
 w:=w
 K:=K
 mg:=mg
 base:=base
 A:=A.deeper (Pt qual scope s.heap.objs.size f cd)
 N:=N
 s₀:=s
 H₀:=H
 env:=Pt qual scope s.heap.objs.size f cd
 outer:=outer
 stack:=Pt qual scope s.heap.objs.size f cd::outer
 ex:=[]
 calm:=TK
 fn:=λ_=>TK
 pn:=[]
 xe:=λe s'=>Np (Nu P w) (A.deeper (Pt qual scope s.heap.objs.size f cd)) (leaving (Pt qual scope s.heap.objs.size f cd) e) (λ_ s''=>CX outer H s E e s'') (λe' s''=>CX outer H s E e' s'') s'
def oR{a:O8}{n:Nat}{x:Str}(h:a.names.lookup x*>.cell):∃c,(NQ n a.names []).lookup x*>c:=by
 have q:=Ku a.names n [] (.inl h);show Kk.mp q
def uh{CX:CXT}{P:Nv}{w:NB}{K:yF}{U:Str->↑Nk}{m:Heap}{N B:!Str}{j:Str}{d:O8}{f:Addr}{M:Nk}{A:NM}{g:!Env}{s Y:Nm}{H:Hp}{E:XK}{Q:!Nk}{vs:!V}
  (S:p8 N B d) (hd:A.handled=TF) (gd:A.guards=TH []) (o:Nh P w K U m A g s H) (hl:vs.length=B.length) (r:Vals vs Q)
  (x:InCallC s s.heap.objs.size (SD (Pt j d s.heap.objs.size f M).kindOf (B.zip Q) λ_=>TF) (NQ (s.heap.objs.size+1) d.names []) (SE (Pt j d s.heap.objs.size f M).kindOf (B.zip Q) λ_=>TF) Y) :
  Inv (lW CX P w K U m N j d f M A g s H E) [] (start N vs) H Y:=by
 have hpl:B.length<=N.length:=by have:=congrArg JL S.pre;rw[IR]at this;lia
 have(O,tk,rfl,Z):=x.done;have t:∀b:Addr,b∉(lW CX P w K U m N j d f M A g s H E).ex:=λb z=>absurd (show b∈([]:!Addr)from z) ∅;show{{o.mod,S.kind,Xr,Xr,Iq _,λy z c O l=>?_,λy C=>?_,λy c _ h=>?_,λ_=>hd,λ_=>gd,NM.frames_deeper o.frames,.inr ⟨Xr,Xr⟩,λb z=>absurd z (t b),o.bs,o.bsz,λb _ _=>t b,λb z=>absurd z (t b),o.funs,o.frf},
  rfl,o.bare,Un.kept Z,{_,x.toInCall.ns,λi y v O l h3=>?_},λy c h=>{_,x.cell y c h},o.hok.fresh (Iq _),λy c h=>?_,λp J=>absurd (show p∈([]:!(Addr×Obj))from J) ∅,o.hok.kept Z,?_}
 .show name_of_addr x.apart (JP O) (JP l)
 .have C:d.names.lookup y*>.cell\/d.names.lookup y*>.free:=C;rcases C with C|C;show oR C;show absurd rfl (S.nofree _ (JP C))
 .show JH (x.above y c (JP h))
 .have L:i<vs.length:=by
   unfold start at l;by_cases L:i<vs.length;show L
   .rw[JA (by exists L)]at l;rw[K9]at l;split at l<;>cases l
  have ha:vs[i]?*>v:=by
   unfold start at l;rw[Jj (by exists L),Iw]at l;cases e:vs[i]? with
   | none=>rw[e]at l;cases l
   | some a=>rw[e]at l;cases l;rfl
  have(u,X,rv):=r.get ha;have J:B[i]?*>y:=by
   rw[<-S.pre,List.getElem?_take_of_lt (by lia)];show O
  have G:B.Nodup:=by rw[<-S.pre];show S.nd.sublist (List.take_sublist _ _)
  show{u,rv,?_};rcases S.par y (ymG J)with k|k;show .inl {k,me G J X k}
  .have(c,e):=oR (n:=s.heap.objs.size+1) k;show .inr {.inl k,c,e,?_};have q:=x.cell y c e;rw[l9 G J X (by change d.names.lookup y≠_;rw[k];decide)]at q;show q
 .show o.hok.fresh (JH (x.above y c (JP h)))
 .unfold start;change _=N.length;rw[Ip,Ih,List.length_replicate]
  lia
def Fv{Y:CXT}{P:Nv}{w:NB}{K:yF}{O:Str->↑Nk}{h:Heap}{k:Nat}{f:Addr}{name d:Str}{i:Arguments}{j:!Stmt}{a:O8}{dV kV C pm g ct oc:Nk}{an od:↑Addr}
  {osl:Array ↑Nk} {N U:!Str} {Z:Sp} (lk:K.lookup f*>{oc,od,.func (JI name d i j a dV kV C pm an g ct),osl}) (hcd:Kj K g d=TK) (S:p8 N U a)
  (G:∀vs H Q E,Z vs H Q E->vs.length=U.length)
  (m:∀(A:NM) (c:!Env) (s:Nm) (H:Hp) (vs:!V) (Q:VK) (E:XK),MV k (A.deeper (Pt d a s.heap.objs.size f g))->Z vs H Q E ->
   ∃t,PSs (lW Y P w K O h N d a f g A c s H E) j t/\t {nx:=λ_ H'=>Q .non H',rt:=Q} (start N vs) H) :
  Nc P w K O h Y (k+1) f (JI name d i j a dV kV C pm an g ct) U Z:=by
 show{G,λA c s H args us vs Q E M z hb r L=>?_};have hl:=G _ _ _ _ L;have KX:K.In s.heap:=z.mod.kin.keeps λb o e=>(z.bs b o e).1;have lim:s.heap.NoLimit:=z.mod.nolimit.keeps λb o e=>(z.bs b o e).1;have l:∀y∈U.zip us,a.names.lookup y.1*>.local\/(a.names.lookup y.1*>.cell/\((NQ (s.heap.objs.size+1) a.names []).lookup y.1).isSome=TK):=fun⟨n,v⟩ hy=>by
  rcases S.par n (Ln hy).1 with q|q;show .inl q;show .inr {q,Ku _ _ _ (.inl q)}
 show codeAny_call_function M.depth (KX _ _ lk) rfl S.co S.gen rfl (PySem.W.codeRec_of KX hcd) (hb _ _ _ _ ?_);show wpAny_newFunctionEnv_cells S.kind l λenv he s1 x=>?_;subst he;show{lim.keeps x.toInCall.keep,codeAny_func ?_};have(t,ht,hq):=m A c s H vs Q E (M.deeper _) L;have I:Inv (lW Y P w K O h N d a f g A c s H E) [] (start N vs) H s1:=uh S M.hd M.gd z hl r x;show NR (ht [] s1 (start N vs) H _ I hq) (λfl s' p=>?_) λe s' p=>p;have B:∀{X:St} {H':Hp} {v:V} {u:Nk},Inv (lW Y P w K O h N d a f g A c s H E) [] X H' s'->RelV v u->Q v H'->CE c P w H s Q u s':=
  λ{X H' v u} J rv q=>⟨v,H',J.os,J.bare,J.base,J.hok,rv,q⟩
 cases fl with
 | ret u=>
  have(v,X,H',J,rv,q):=p;show B J rv q
 | next=>
  have(X,H',J,q):=p;show B (v:=V.non) (u:=N5) J rfl q
 | brk=>
  have(_,_,_,q):=p;show OC q
 | cont=>
  have(_,_,_,q):=p;show OC q
section
variable {X:Cx}{x:Str}{p pos:Pos}{e:Expr}{es:!Expr}{t:TA}{id T:String}{r:!V->Hp->VK->Prop}
abbrev tCB(r:!V->Hp->VK->Prop)(t:TA):TE:=λZ H Q=>t Z H λvs a=>r vs a Q
def wM(i:MQ X (.builtin id) r)(w:Gl X x)(m:X.mg x=TF)(j:Oc x*>(.builtin id))(f:PA X (e::es) t)(v:x ≠ "__name__" :=by decide)(c:(x==("__debug__" : Str))=TJ:=by decide)
  (l:NG (e::es) X.env=(TJ,eval e X.env)::NG es X.env:=by rfl) (a:(O9 pos (NG es X.env)).any (·.1)=TJ:=by rfl):PE X (.Call (.Name x p) (e::es) [] pos) (tCB r t):=by
 intro d s Z H Q I h;show PK (iz I w m j ?_ v c);show L6 (thn (f pos d s Z H _ I h) λg y ⟨vs,k,q,u,o⟩=>i d y Z k vs g Q q u o) l a
def uH(i:MQ X (.type T) r)(w:Gl X x)(m:X.mg x=TF)(j:Oc x*>(.type T))(f:PA X (e::es) t)(v:x ≠ "__name__" :=by decide)(c:(x==("__debug__" : Str))=TJ:=by decide)
  (l:NG (e::es) X.env=(TJ,eval e X.env)::NG es X.env:=by rfl) (a:(O9 pos (NG es X.env)).any (·.1)=TJ:=by rfl):PE X (.Call (.Name x p) (e::es) [] pos) (tCB r t):=by
 intro d s Z H Q I h;show PK (iz I w m j ?_ v c);show Jz (thn (f pos d s Z H _ I h) λg y ⟨vs,k,q,u,o⟩=>i d y Z k vs g Q q u o) l a
end
end L2
namespace HT
open PySem PyProof.Rows
section
variable {prog:Nv}{w:NB}{A:NM}{E:Nk->Nm->Prop}{s:Nm}
def cat_tup{t b:Addr}{vs ws:!Nk}{Q:Nk->Nm->Prop}(y:SV s.heap t vs.toArray)(B:SV s.heap b ws.toArray)(r:vs≠[])
  (x:ws=[]->Q (.ref t) s) (z:ws≠[]->Q (.ref s.heap.objs.size) {s with heap:=s.heap.push {cls:=.type "tuple",data:=.seq (vs++ws).toArray}})
  (hsz:vs.length+ws.length<=sizeLine):Np (Nu prog w) A (N1 .Add (.ref t) (.ref b)) Q E s:=by
 obtain⟨⟨k,u,d,q⟩,j,o,n,l⟩:=id y;obtain⟨⟨p,g,data2,f⟩,a,c,v,h⟩:=id B;simp only at o l c h;subst o l c h;have e:vs.toArray++ws.toArray=(vs++ws).toArray:=by simp
 by_cases i:ws=[]
 .show RJ {_,j,Xr} {_,a,Xr} Ql Rl PySem.F.slot_tuple_add PySem.F.entry_tuple_add (PySem.F.args_tuple_add_2 _ _)
   (tuple_addW1 t b vs.toArray ws.toArray n v u g q f (by exists r) (by simp[i])) {j,a,x i}
 .show RJ {_,j,Xr} {_,a,Xr} Ql Rl PySem.F.slot_tuple_add PySem.F.entry_tuple_add (PySem.F.args_tuple_add_2 _ _)
   (tuple_addW2 t b vs.toArray ws.toArray n v u g q f (by exists r) (by exists i) (by rw[Ij,Ij];show hsz)) {j,a,?_}
  rw[e];show z i
abbrev sIx(n d:Nat):↑Int->Nat
 | none=>d
 | some v=>if v<0 then(v+(n:Int)).toNat else min v.toNat n
def sIx_none(n d:Nat):sIx n d TF=d:=rfl
def sIx_nat(n d k:Nat):sIx n d (TH (k:Int))=min k n:=by
 change(if(k:Int)<0 then((k:Int)+(n:Int)).toNat else min (k:Int).toNat n)=min k n;rw[if_neg (by lia),IJ]
def sIx_le(n d:Nat)(c:d<=n)(o:↑Int):sIx n d o<=n:=by
 cases o with
 | none=>show c
 | some v=>
  change(if v<0 then(v+(n:Int)).toNat else min v.toNat n)<=n;by_cases a:v<0;rw[if_pos a];lia;rw[if_neg a];show Nat.min_le_right _ _
def clip_eq(v:Int)(n d:Nat):(if v<0 then max (v+(n:Int)) 0 else min v (n:Int))=((sIx n d (TH v):Nat):Int):=by
 change(if v<0 then max (v+(n:Int)) 0 else min v (n:Int))=(((if v<0 then(v+(n:Int)).toNat else min v.toNat n):Nat):Int);by_cases a:v<0;dsimp[if_pos a];lia;dsimp[if_neg a];lia
def adjust_gen(lo a:↑Int)(n:Nat):N3 lo a 1 (n:Int)=(((sIx n 0 lo:Nat):Int),((sIx n n a:Nat):Int)):=by
 have c:¬ ((1:Int)<0):=by lia
 unfold N3;dsimp[c,if_false];show Prod.ext ?_ ?_
 .cases lo with
  | none=>rfl
  | some v=>show clip_eq v n 0
 .cases a with
  | none=>rfl
  | some v=>show clip_eq v n n
def places_gen(i j:Nat):NP (i:Int) (j:Int) 1=j-i:=by
 unfold NP;have a:(1:Int)>0:=by lia
 dsimp[a,if_true,Mq];split<;>lia
def slicePart_{v:Nk}{o:↑Int}{Q:↑Int->Nm->Prop}(p:Qd v o)(h:Q o s):Np (Nu prog w) A (Se v) Q E s:=by
 cases p with
 | none=>show PL h
 | int i t=>show slicePart_int h
def sliceApplied_gen{sl:Addr}{e f:Nk}{lo d:↑Int}{n:Nat}{Q:Int×Int×Nat->Nm->Prop}(hs:s.heap.IsSliceOf sl e f .none)(i:Qd e lo)(g:Qd f d)
  (h:Q (((sIx n 0 lo:Nat):Int),1,sIx n n d-sIx n 0 lo) s):Np (Nu prog w) A (Om (.ref sl) (pure (n:Int))) Q E s:=by
 have(os,a,j,c):=id hs;unfold Om PZ;show Nj (Nj (NL a c (x:=e) rfl (Nj (NL a c (x:=f) rfl (Nj (NL a c (x:=.none) rfl (Nl ?_)))))));show Nj (PL ?_);change Np _ _ (if((1:Int)==0)=TK then _ else _) _ _ s;rw[if_neg (by decide)];show Nj (slicePart_ i (Nj (slicePart_ g (Nj (Nl ?_)))));change Np _ _ (match N3 lo d 1 (n:Int)with|(lo,d)=>pure (lo,(1:Int),NP lo d 1)) _ _ s;rw[adjust_gen lo d n];change Np _ _ (pure (((sIx n 0 lo:Nat):Int),(1:Int),NP ((sIx n 0 lo:Nat):Int) ((sIx n n d:Nat):Int) 1)) _ _ s;rw[places_gen];show Nl h
def pick_gen(xs:Array Nk)(i k:Nat):((I8 k).filterMap λ(m:Nat)=>xs[((i:Int)+(m:Int)*1).toNat]?).toArray=((xs.toList.drop i).take k).toArray:=by
 have e:(λ(m:Nat)=>xs[((i:Int)+(m:Int)*1).toNat]?)=λm=>xs[i+m]?:=by
  funext m;have:((i:Int)+(m:Int)*1).toNat=i+m:=by lia
  rw[this]
 rw[e];have:=Tk xs i k;rw[Kr]at this;have a:((λx=>xs[x]?)∘λx=>i+x)=λm=>xs[i+m]?:=rfl;rw[a]at this;rw[this]
def getItem_tuple_cut{t sl:Addr}{items:Array Nk}{k l:Nk}{lo c:↑Int}{Q:Nk->Nm->Prop}(d:SV s.heap t items)(hs:s.heap.IsSliceOf sl k l .none)(u:Qd k lo)(o:Qd l c)
  (p:¬ (sIx items.size 0 lo=0/\sIx items.size items.size c=items.size))
  (h:Q (.ref s.heap.objs.size) {s with heap:=s.heap.push {cls:=.type "tuple",data:=.seq ((items.toList.drop (sIx items.size 0 lo)).take (sIx items.size items.size c-sIx items.size 0 lo)).toArray}})
  (hsz:items.size<=sizeLine):Np (Nu prog w) A (Pz (.ref t) (.ref sl)) Q E s:=by
 have a:sizeOk (.seq ((items.toList.drop (sIx items.size 0 lo)).take (sIx items.size items.size c-sIx items.size 0 lo)).toArray):=by
  change((items.toList.drop (sIx items.size 0 lo)).take (sIx items.size items.size c-sIx items.size 0 lo)).toArray.size<=sizeLine;rw[Ij,IR,Jl,Jf]
  lia
 have y:sIx items.size items.size c<=items.size:=sIx_le _ _ (Iq _) c;have(os,e,g,r):=id hs;have f:s.TypeIs (.ref sl) "slice" :=⟨os,e,g⟩;unfold Pz;try with_reducible refine NI ?_
 first|refine Nj (Nl ?_)|skip
 show Nj (P8 d.typeIs (by decide) ?_);show Nj (NO (name:=ND "__getitem__") d.typeIs Je
  (NH Je d.typeIs Rg ?_ (Rw _ _)))
 change Np _ _ (OM (.ref t) >>= _) _ _ s;show Nj (Rn d ?_);show Nj (OE f ?_);rw[if_pos (by decide)];show Nj (sliceApplied_gen hs u o ?_);have i:¬ ((((sIx items.size 0 lo:Nat):Int)==0&&(1:Int)==1&&(sIx items.size items.size c-sIx items.size 0 lo)==items.size)=TK):=by
  intro q;rw[Il,Il]at q;have v:((sIx items.size 0 lo:Nat):Int)=0:=eq_of_beq q.1.1;have x:sIx items.size items.size c-sIx items.size 0 lo=items.size:=eq_of_beq q.2;show p {by lia,by lia}
 change Np _ _ (if(((sIx items.size 0 lo:Nat):Int)==0&&(1:Int)==1&&(sIx items.size items.size c-sIx items.size 0 lo)==items.size)=TK then _ else _) _ _ s;rw[if_neg i,pick_gen];first
  | show Nj (m:=NE _) (Nz (Nl ⟨_,rfl,Nl h⟩) a)
  | show Nj (m:=NE _) (Nz (Nj (Nl (Nl ⟨_,rfl,Nl h⟩))) a)
  | show Nj (Nj (m:=NE _) (Nz (Nl (Nl ⟨_,rfl,Nl h⟩)) a))
  | show Nj (Nj (m:=NE _) (Nz (Nl ⟨_,rfl,Nl h⟩) a))
end
end HT
namespace L2
open PySem PySem.Spec PyProof.Rows
protected def TO:=St->Hp->(↑Int->Hp->Prop)->Prop
abbrev PO(X:Cx)(e:↑Expr)(t:TO):Prop:=
 ∀(a:!(Addr×Obj)) (s:Nm) (Z:St) (H:Hp) (Q:↑Int->Hp->Prop),Inv X a Z H s->t Z H Q ->
  Np (Nu X.prog X.w) X.A (evalPart e X.env) (λu d=>∃o c,Inv X a Z c d/\Qd u o/\Q o c) X.xe s
abbrev tL:TO:=λ_ H Q=>Q TF H
abbrev tM(t:TE):TO:=λZ H Q=>t Z H λx a=>∃i,x=.int i/\Q (TH i) a
section
variable {X:Cx}{e:Expr}{te:TE}{lo hi:↑Expr}{tl th:TO}{pos p2:Pos}
def Ap:PO X TF tL:=by
 intro a s Z H Q I h;rw[Qe];show Nl {TF,H,I,.none,h}
def nW(h:PE X e te):PO X (TH e) (tM te):=by
 intro a s Z H Q I d;rw[evalPart_some];show thn (h a s Z H _ I d) λu l f=>?_;have(x,c,j,k,g):=f;have(i,rfl,q):=g;have(t,rfl):=k;show{TH i,c,j,.int i t,q}
abbrev SlR(X:Cx)(r:V->↑Int->↑Int->Hp->VK->Prop):Prop:=
 ∀(a:!(Addr×Obj)) (s:Nm) (Z:St) (H:Hp) (x:V) (v d f:Nk) (lo hi:↑Int) (c:Addr) (Q:VK),Inv X a Z H s->RelV x v->s.heap.IsSliceOf c d f .none->Qd d lo->Qd f hi->r x lo hi H Q ->
  ∃T id,Rx (.type T) "__getitem__" = pure (TH (.builtin id))/\s.TypeIs v T/\Np (Nu X.prog X.w) X.A (Pz v (.ref c)) (EP X a Z Q) X.xe s
def SlR.or{r j:V->↑Int->↑Int->Hp->VK->Prop}(h:SlR X r)(h':SlR X j):SlR X (λx lo hi H Q=>r x lo hi H Q\/j x lo hi H Q):=by
 intro f s Z H x v k l lo hi g Q I c a i d q;rcases q with q|q;show h f s Z H x v k l lo hi g Q I c a i d q;show h' f s Z H x v k l lo hi g Q I c a i d q
abbrev tSl(r:V->↑Int->↑Int->Hp->VK->Prop)(te:TE)(tl th:TO):TE:=λZ H Q=>te Z H λx d=>tl Z d λl a=>th Z a λu c=>r x l u c Q
def wQ{r:V->↑Int->↑Int->Hp->VK->Prop}(N:SlR X r)(M:PE X e te)(k:PO X lo tl)(o:PO X hi th):PE X (.Subscript e (.Slice lo hi TF p2) pos) (tSl r te tl th):=by
 intro d s Z H Q I h;show Ry (thn (M d s Z H _ I h) λv G i=>?_);have(x,L,p,t,m):=i;show Sa (thn (k d G Z L _ p m) λf S ⟨l,J,U,O,y⟩=>thn (o d S Z J _ U y) λg a i=>?_);have(u,j,z,K,B):=i;rw[Qe];show Nl ?_;have Y:Inv X d Z j {a with heap:=a.heap.push {cls:=.type "slice",data:=.fields #[f,g,.none]}}:=z.kept (t':=a.toks) λb ob q=>Nn _ q;have(T,id,C,P,E):=N d {a with heap:=a.heap.push {cls:=.type "slice",data:=.fields #[f,g,.none]}} Z j x v f g l u a.heap.objs.size Q Y t (PM ..) O K B;change Np (Nu X.prog X.w) X.A (Qf e (.Slice lo hi TF p2) v (.ref a.heap.objs.size)) (EP X d Z Q) X.xe {a with heap:=a.heap.push {cls:=.type "slice",data:=.fields #[f,g,.none]}};show Tl (ops:=[.ref a.heap.objs.size,v]) P C E (by unhygienic rfl)
abbrev kN(xs:!V) (lo hi:↑Int):!V:=(xs.drop (HT.sIx xs.length 0 lo)).take (HT.sIx xs.length xs.length hi-HT.sIx xs.length 0 lo)
def jT(xs:!V)(lo hi:↑Int):(kN xs lo hi).length<=xs.length:=by
 unfold kN;rw[IR,Jl]
 lia
abbrev GI(K:yF):V->↑Int->↑Int->Hp->VK->Prop:=λx lo hi H Q=>∃a c,x=.ref a/\SqT K H a c /\
 ¬ (HT.sIx c.length 0 lo=0/\HT.sIx c.length c.length hi=c.length)/\∀p,H p=TF->Q (.ref p) (upd H p (.tup (kN c lo hi)))
def sl_tup:SlR X (GI X.K):=by
 intro u s Z H x v z A lo hi w Q I k j p l h;have(a,d,rfl,t,m,q):=h;cases k;have(f,r,i,g):=I.tuple t;have c:f.toArray.size=d.length:=by rw[Ij];show r.length.symm
 show{"tuple",_,Je.lookup,i.typeIs,?_};show HT.getItem_tuple_cut i j p l (by rw[c];show m) ?_ (by rw[c];show g);rw[c];show{.ref s.heap.objs.size,_,I.laid (t':=s.toks) (o:=.tup (kN d lo hi)) (λb y q=>Nn _ q) (Iq _) ?_,Xr,q _ (I.hok.fresh (Iq _))};show{IS (jT d lo hi) g,_,(r.drop (HT.sIx d.length 0 lo)).take (HT.sIx d.length d.length hi-HT.sIx d.length 0 lo),MX.new _ _}
abbrev B6(K:yF):R2:=λx y H Q=>∃a b d c,x=.ref a/\y=.ref b/\SqT K H a d/\SqT K H b c/\d≠[]/\d.length+c.length<=sizeLine /\
 (c=[]->Q (.ref a) H)/\(c≠[]->∀p,H p=TF->Q (.ref p) (upd H p (.tup (d++c))))
def Vals.nil_iff{xs:!V}{a:!Nk}(r:Vals xs a):a=[]↔xs=[]:=by
 cases r with
 | nil=>simp
 | cons _ _=>simp
def zV:OpR X (N1 .Add) (B6 X.K):=by
 intro E s Z H x y v u Q I i k h;obtain⟨a,b,j,r,rfl,rfl,A,C,B,f,l,m⟩:=h;cases i;cases k;have(p,d,t,_):=I.tuple A;have(g,c,p2,_):=I.tuple C;show HT.cat_tup t p2 (λz=>B (d.nil_iff.mp z)) (λz=>{.ref a,H,I,Xr,l (c.nil_iff.mp z)}) (λz=>?_) (by rw[<-d.length,<-c.length];show f);show{.ref s.heap.objs.size,_,I.laid (t':=s.toks) (o:=.tup (j++r)) (λb G q=>Nn _ q) (Iq _) ?_,Xr,m (λw=>z (c.nil_iff.mpr w)) _ (I.hok.fresh (Iq _))};show{by rw[Ip];show f,_,d.append c,MX.new _ _}
end
abbrev ixN(n:Nat) (i:Int):↑Nat:=if 0<=i then(if i<n then TH i.toNat else TF)else if -(n:Int)<=i then TH (i+n).toNat else TF
abbrev atI{a:Type} (xs:!a) (i:Int):↑a:=(ixN xs.length i).bind λj=>xs[j]?
def nN{n:Nat}{i:Int}{j:Nat}(h:ixN n i*>j):SX i n*>j/\j<n/\-(n:Int)<=i/\i<n:=by
 unfold ixN at h;by_cases c:0<=i
 .rw[if_pos c]at h;by_cases a:i<n
  .rw[if_pos a]at h;have e:i.toNat=j:=IG.inj h;show{by rw[Sb c a,e],by lia,by lia,a}
  .rw[if_neg a]at h;cases h
 .rw[if_neg c]at h;by_cases a : -(n:Int)<=i
  .rw[if_pos a]at h;have e:(i+n).toNat=j:=IG.inj h;show{by rw[seqIndex_neg (by lia) a,e],by lia,a,by lia}
  .rw[if_neg a]at h;cases h
def nv{a:Type}{xs:!a}{i:Int}{v : a}(h:atI xs i*>v):∃j,SX i xs.length*>j/\xs[j]?*>v/\j<xs.length/\-(xs.length:Int)<=i/\i<xs.length:=by
 unfold atI at h;cases e:ixN xs.length i with
 | none=>rw[e]at h;cases h
 | some j=>
  rw[e]at h;have(f,c,g,d):=nN e;show⟨j,f,h,c,g,d⟩
abbrev sj(b:Expr):Prop:=∀o i,QX b TJ o i=operate [o,i] (Pz o i)
abbrev IxR(X:Cx)(r:R2):Prop:=
 ∀(a slice:Expr) (c:!(Addr×Obj)) (s:Nm) (Z:St) (H:Hp) (x y:V) (v u:Nk) (Q:VK),Inv X c Z H s->RelV x v->RelV y u->r x y H Q ->
  QX slice TJ v u=operate [v,u] (Pz v u)->Np (Nu X.prog X.w) X.A (Qf a slice v u) (EP X c Z Q) X.xe s
abbrev MtR(X:Cx)(id:String)(r:V->!V->Hp->VK->Prop):Prop:=
 ∀(c:!(Addr×Obj)) (s:Nm) (Z:St) (H:Hp) (x:V) (d:!V) (v:Nk) (a:!Nk) (Q:VK),Inv X c Z H s->RelV x v->Vals d a->r x d H Q ->
  Np (Nu X.prog X.w) X.A (call (.builtin id) (v::a)) (EP X c Z Q) X.xe s
section
variable {X:Cx}{a b:Expr}{ta tb:TE}{pos:Pos}
def IxR.or{r i:R2}(h:IxR X r)(h':IxR X i):IxR X (λx y H Q=>r x y H Q\/i x y H Q):=by
 intro c slice f s Z H x y v u Q I e g q d;rcases q with q|q;show h c slice f s Z H x y v u Q I e g q d;show h' c slice f s Z H x y v u Q I e g q d
def MtR.or{id:String}{r d:V->!V->Hp->VK->Prop}(h:MtR X id r)(h':MtR X id d):MtR X id (λx xs H Q=>r x xs H Q\/d x xs H Q):=by
 intro f s Z H x xs v c Q I e g q;rcases q with q|q;show h f s Z H x xs v c Q I e g q;show h' f s Z H x xs v c Q I e g q
def Ge{r:R2}(g:IxR X r)(d:PE X a ta)(l:PE X b tb)(hs:sj b):PE X (.Subscript a b pos) (tOp r ta tb):=by
 intro f s Z H Q I h;show Ry (Cy d l I h λv u j x y c k e i q=>g a b f j Z c x y v u Q k e i q (hs _ _))
abbrev GB(K:yF):R2:=λx y H Q=>∃p c i v,x=.ref p/\y=.int i/\SqL K H p c/\atI c i*>v/\Q v H
abbrev GD(K:yF):R2:=λx y H Q=>∃p c i v,x=.ref p/\y=.int i/\SqT K H p c/\atI c i*>v/\Q v H
abbrev GC:R2:=λx y H Q=>∃z i c,x=.str z/\y=.int i/\z.length<=sizeLine/\atI z.cps.toList i*>c/\Q (.str {#[c]}) H
def ix_list:IxR X (GB X.K):=by
 intro k slice o s Z H x y v u Q I E J h m;have(p,U,i,z,rfl,rfl,O,M,q):=h;cases E;have(t,rfl):=J;have(e,r,g,S):=I.list O;have(j,d,L,Y,N,G):=nv M;have(w,B,f):=r.get L;have C:=r.length;have hn:=iA;have c:EP X o Z Q w s:=⟨z,H,I,f,q⟩;by_cases A:0<=i
 .have l:i.toNat=j:=by
   rw[Sb A G]at d;show IG.inj d
  show item_listR g.isList A (by lia) (by rw[l];exists B) c m
 .have l:(i+(e.toArray.size:Int)).toNat=j:=by
   rw[seqIndex_neg (by lia) N]at d;rw[Ij,<-C];show IG.inj d
  show Qs (x:=w) g.isList.typeIs RK.lookup
   (wpAny_getItem_list_neg (Q:=λr P=>r=w/\EP X o Z Q r P) g.isList (by lia) (by rw[Ij]<;>lia) (by lia) (by rw[l];exists B) ⟨Xr,c⟩) m
def ix_tup:IxR X (GD X.K):=by
 intro e slice f s Z H x y v u Q I m o h k;have(p,O,i,z,rfl,rfl,J,C,q):=h;cases m;have(t,rfl):=o;have(B,r,g,M):=I.tuple J;have(j,E,A,P,S,N):=nv C;have(w,G,d):=r.get A;have l:=r.length;have U:=iA;have c:EP X f Z Q w s:=⟨z,H,I,d,q⟩;show Qs (x:=w) g.typeIs slot_tuple_getitem.lookup
  (getItem_tuple (j:=j) (Q:=λr L=>r=w/\EP X f Z Q r L) g (by lia) (by lia) (by rw[Ij,<-l];show E) (by exists G) ⟨Xr,c⟩) k
def CY:IxR X GC:=by
 intro d slice C s Z H x y v u Q I k o h f;have(z,i,c,rfl,rfl,B,r,q):=h;have(t,rfl):=k;have(E,rfl):=o;have(j,e,p,G,w,m):=nv r;have g:z.cps.toList.length=z.length:=by simp[Tq]
 rw[g]at e w m;have J:=iA;show Tl (SF s z t) slot_str_getitem.lookup (getItem_str (c:=c) (by
  have l:decide (i < -(2^63:Int))=TJ:=decide_eq_false (by lia);have A:decide (i≥2^63)=TJ:=decide_eq_false (by lia);rw[l,A,Bool.or_false]) (by rw[e];exists p) {.str {#[c]},H,I.tok _,{_,Xr},q}) f
abbrev rIx(K:yF):R2:=λx y H Q=>GB K x y H Q\/GD K x y H Q\/GC x y H Q
def CW:IxR X (rIx X.K):=ix_list.or (ix_tup.or CY)
def qV(c:!Nk)(n j:Nat)(u:Nk):Pj (·.setIfInBounds j u) {cls:=.type "list",data:=.seq c.toArray n}={cls:=.type "list",data:=.seq (c.set j u).toArray n}:=by
 simp[Pj]
def Inv.lst{d:!(Addr×Obj)}{Z:St}{H:Hp}{s:Nm}{p:Addr}{xs:!V}(I:Inv X d Z H s)(h:H p*>(.lst xs)) :
  ∃(c:!Nk) (n:Nat),Vals xs c/\s.heap.get? p=TH {cls:=.type "list",data:=.seq c.toArray n}/\xs.length<=sizeLine:=by
 have(z,c,n,r,e):=I.hok p _ h;show⟨c,n,r,e,z⟩
def Inv.lstUpd{i:!(Addr×Obj)}{Z:St}{H:Hp}{s:Nm}{p:Addr}{xs ys:!V}{c its':!Nk}{n d:Nat}{f:Obj->Obj}(I:Inv X i Z H s)(h:H p*>(.lst xs))
  (ho:s.heap.get? p=TH {cls:=.type "list",data:=.seq c.toArray n}) (j:f {cls:=.type "list",data:=.seq c.toArray n}={cls:=.type "list",data:=.seq its'.toArray d}) (r:Vals ys its') (hz:ys.length<=sizeLine) (t:Nat) :
  Inv X i Z (upd H p (.lst ys)) {s with heap:=s.heap.update p f,toks:=t}:=by
 have e:(s.heap.update p f).get? p=TH {cls:=.type "list",data:=.seq its'.toArray d}:=by
  rw[NV f ho (by rw[j]<;>rfl),j]
 show I.write (x:=p) (e:=p) (by rw[h];trivial) (.inl rfl) (λb u k q=>(Qt _ _ (NA k)).trans q) {_,e} ?_;show⟨hz,its',d,r,e⟩
abbrev Cb:V->V->V->Hp->(Hp->Prop)->Prop:=λo i v H Q=>∃p c k j,o=.ref p/\i=.int k/\H p*>(.lst c)/\ixN c.length k*>j/\Q (upd H p (.lst (c.set j v)))
def ym:Cr X Cb:=by
 intro C s Z H o i v L N u Q I G A J h;have(p,E,k,j,rfl,rfl,z,K,q):=h;cases G;have(t,rfl):=A;have(c,n,r,g,B):=I.lst z;have(d,M,w,y):=nN K;have e:=r.length;have O:=iA;have l:Inv X C Z (upd H p (.lst (E.set j v))) {s with heap:=s.heap.update p (Pj (·.setIfInBounds j u))}:=
  I.lstUpd z g (qV c n j u) (r.set J j) (by rw[Kn];show B) s.toks
 by_cases x:0<=k
 .have f:k.toNat=j:=by
   rw[Sb x y]at d;show IG.inj d
  show PySem.W.ki_setAt g x (by lia) (by rw[Ij,<-e];show y) (by rw[f];show{_,l,q})
 .have f:(k+(c.toArray.size:Int)).toNat=j:=by
   rw[seqIndex_neg (by lia) w]at d;rw[Ij,<-e];show IG.inj d
  show PySem.W.ki_setBack g (by lia) (by rw[Ij,<-e];show w) (by lia) (by rw[f];show{_,l,q})
def oB(lo c:↑Int)(n:Nat):(OA lo c TF n).1=((HT.sIx n 0 lo:Nat):Int)/\(OA lo c TF n).2.1=((HT.sIx n n c:Nat):Int)/\(OA lo c TF n).2.2=1:=by
 show{?_,?_,Xr}
 .cases lo with
  | none=>simp[OA,HT.sIx]
  | some i=>
   dsimp[OA,HT.sIx,La,show(1:Int)>0 by decide,if_true];by_cases h:i<0;dsimp[h,if_true]<;>lia;dsimp[h,if_false]<;>lia
 .cases c with
  | none=>simp[OA,HT.sIx]
  | some i=>
   dsimp[OA,HT.sIx,La,show(1:Int)>0 by decide,if_true];by_cases h:i<0;dsimp[h,if_true]<;>lia;dsimp[h,if_false]<;>lia
def l7(c:!Nk)(lo d:↑Int):slicePick c.toArray lo d TF=((c.drop (HT.sIx c.length 0 lo)).take (HT.sIx c.length c.length d-HT.sIx c.length 0 lo)).toArray:=by
 have(e,g,f):=oB lo d c.toArray.size;unfold slicePick;rw[e,g,f];dsimp[SG,Tk,Ij]<;>rfl
abbrev GH(K:yF):V->↑Int->↑Int->Hp->VK->Prop:=λx lo d H Q=>∃a c,x=.ref a/\SqL K H a c/\∀p,H p=TF->Q (.ref p) (upd H p (.lst (kN c lo d)))
def sl_list:SlR X (GH X.K):=by
 intro t s Z H x v y z lo e u Q I j g l k h;have(a,c,rfl,p,q):=h;cases j;have(m,r,f,i):=I.list p;have d:=r.length;show{"list",_,RK.lookup,f.isList.typeIs,?_};show wpAny_getItem_list_slice f.isList g l k .none ∅ ?_ (by rw[Ij]<;>lia);rw[l7,<-d];show{.ref s.heap.objs.size,_,I.laid (t':=s.toks) (o:=.lst (kN c lo e)) (λb w q=>Nn _ q) (Iq _) ?_,Xr,q _ (I.hok.fresh (Iq _))};show{IS (jT c lo e) i,_,0,(r.drop (HT.sIx c.length 0 lo)).take (HT.sIx c.length c.length e-HT.sIx c.length 0 lo),Nt _ rfl}
abbrev jV:V->Bool
 | .non=>TK
 | .bl _=>TK
 | .int _=>TK
 | .str _=>TK
 | _=>TJ
abbrev eqV:V->V->Bool
 | .non,.non=>TK
 | .bl a,.bl b=>a==b
 | .bl a,.int b=>(if a then 1 else 0)==b
 | .int a,.bl b=>a==(if b then 1 else 0)
 | .int a,.int b=>a==b
 | .str a,.str b=>a==b
 | _,_=>TJ
def CF{A:NM}{s:Nm}{y x:V}{u v:Nk}(e:RelV y u)(c:RelV x v)(g:jV y=TK)(f:jV x=TK):NK A s u v (eqV y x):=by
 cases y with
 | non=>
  cases e;cases x with
  | non=>cases c;show NK.same _
  | bl b=>cases c;show NK.none_bool b
  | int b=>have(t,rfl):=c;show NK.none_int b t
  | str b=>have(t,rfl):=c;show NK.none_str b t
  | _=>show absurd (show TJ=TK from f) Ir
 | bl a=>
  cases e;cases x with
  | non=>cases c;show NK.bool_none a
  | bl b=>cases c;show NK.bool_bool a b
  | int b=>have(t,rfl):=c;show NK.bool_int a b t
  | str b=>have(t,rfl):=c;show NK.bool_str a b t
  | _=>show absurd (show TJ=TK from f) Ir
 | int a=>
  have(d,rfl):=e;cases x with
  | non=>cases c;show NK.int_none a d
  | bl b=>cases c;show NK.int_bool a d b
  | int b=>have(t,rfl):=c;show NK.int_int a d b t
  | str b=>have(t,rfl):=c;show Rq a d b t
  | _=>show absurd (show TJ=TK from f) Ir
 | str a=>
  have(d,rfl):=e;cases x with
  | non=>cases c;show NK.str_none a d
  | bl b=>cases c;show NK.str_bool a d b
  | int b=>have(t,rfl):=c;show Rs a d b t
  | str b=>have(t,rfl):=c;show NK.str_str a d b t
  | _=>show absurd (show TJ=TK from f) Ir
 | _=>show absurd (show TJ=TK from g) Ir
abbrev eqU(x:V) (u:Nk):Bool:=match u with
 | .none=>eqV .non x
 | .bool b=>eqV (.bl b) x
 | .int i _=>eqV (.int i) x
 | .str z _=>eqV (.str z) x
 | _=>TJ
def vO{x y:V}{u:Nk}(r:RelV y u)(f:jV y=TK):eqU x u=eqV y x:=by
 cases y with
 | non=>cases r;rfl
 | bl b=>cases r;rfl
 | int i=>have(t,rfl):=r;rfl
 | str z=>have(t,rfl):=r;rfl
 | _=>show absurd (show TJ=TK from f) Ir
def iO{x:V}:∀{xs:!V} {c:!Nk},Vals xs c->xs.all jV=TK->c.any (eqU x)=xs.any λy=>eqV y x
 | _,_,.nil,_=>rfl
 | y::xs,u::c,.cons r t,f=>by
  rw[JY,Il]at f;rw[LP,LP,vO r f.1,iO t f.2]
def gE{A:NM}{s:Nm}{x:V}{v:Nk}(e:RelV x v)(g:jV x=TK):∀{xs:!V} {d:!Nk},Vals xs d->xs.all jV=TK->∀u∈d,NK A s u v (eqU x u)
 | _,_,.nil,_=>λu c=>by cases c
 | y::xs,u::d,.cons r t,f=>λh c=>by
  rw[JY,Il]at f;rcases ycM c with rfl|c;rw[vO r f.1];show CF r e f.1 g;show gE e g t f.2 h c
abbrev inV(x:V) (xs:!V):Bool:=xs.any λy=>eqV y x
abbrev rIn(K:yF)(d:Bool):R2:=λx y H Q=>∃p c,y=.ref p/\(SqL K H p c\/SqT K H p c)/\jV x=TK/\c.all jV=TK/\Q (.bl (if d then ~~~inV x c else inV x c)) H
def op_in_seq:OpR X (NT .In) (rIn X.K TJ):=by
 intro m s Z H x y v u Q I i l h;have(p,o,rfl,d,j,e,q):=h;cases l;rcases d with d|d
 .have(c,r,g,k):=I.list d;show Sf (eqU x) g.isList (λw f=>gE i j r e w (by exists f)) {.bl _,H,I,Xr,?_};rw[show c.toArray.any (eqU x)=c.any (eqU x) by simp,iO r e];show q
 .have(c,r,g,k):=I.tuple d;show R4 (eqU x) g (λw f=>gE i j r e w (by exists f)) {.bl _,H,I,Xr,?_};rw[show c.toArray.any (eqU x)=c.any (eqU x) by simp,iO r e];show q
def op_notIn_seq:OpR X (NT .NotIn) (rIn X.K TK):=by
 intro m s Z H x y v u Q I i l h;have(p,o,rfl,d,j,e,q):=h;cases l;rcases d with d|d
 .have(c,r,g,k):=I.list d;show Rz (eqU x) g.isList (λw f=>gE i j r e w (by exists f)) {.bl _,H,I,Xr,?_};rw[show c.toArray.any (eqU x)=c.any (eqU x) by simp,iO r e];show q
 .have(c,r,g,k):=I.tuple d;show Rh (eqU x) g (λw f=>gE i j r e w (by exists f)) {.bl _,H,I,Xr,?_};rw[show c.toArray.any (eqU x)=c.any (eqU x) by simp,iO r e];show q
def op_notIn_str:OpR X (NT .NotIn) (λx y H Q=>∃i j,x=.str i/\y=.str j/\Q (.bl (~~~(~~~(Of j i 0 j.length 1).isEmpty))) H):=by
 intro e s Z H x y v u Q I c d h;have(i,j,rfl,rfl,q):=h;have(t,rfl):=c;have(f,rfl):=d;show notIn_str {.bl _,H,I,Xr,q}
def nA:MQ X (.builtin "len") (λxs H Q=>∃p ys,xs=[.ref p]/\(SqL X.K H p ys\/SqT X.K H p ys)/\Q (.int ys.length) H):=by
 intro l s Z H xs k Q I r h;have(p,ys,rfl,d,q):=h;have(u,rfl,j):=gp r;cases j;have m:=iA;rcases d with d|d
 .have(g,f,e,i):=I.list d;have c:=f.length;show Calls.call_len_list e.isList (by dsimp[Ij]<;>lia) {.int ys.length,H,I.tok _,{s.toks+1,by rw[Ij,c]},q}
 .have(g,f,e,i):=I.tuple d;have c:=f.length;show len_tuple e (by dsimp[Ij]<;>lia) {.int ys.length,H,I.tok _,{s.toks+1,by rw[Ij,c]},q}
def nB:MQ X (.builtin "len") (λxs H Q=>∃z,xs=[.str z]/\z.length<=sizeLine/\Q (.int z.length) H):=by
 intro e s Z H xs c Q I r h;have(z,rfl,d,q):=h;have(u,rfl,t,rfl):=gp r;have f:=iA;show len_str (by lia) {.int z.length,H,I.tok _,{_,Xr},q}
def MQ.or{f:Nk}{r d:!V->Hp->VK->Prop}(h:MQ X f r)(h':MQ X f d):MQ X f (λxs H Q=>r xs H Q\/d xs H Q):=by
 intro e s Z H xs c Q I g q;rcases q with q|q;show h e s Z H xs c Q I g q;show h' e s Z H xs c Q I g q
def nC:MQ X (.type "list") (λxs H Q=>∃p ys,xs=[.ref p]/\(SqL X.K H p ys\/SqT X.K H p ys)/\∀l,H l=TF->Q (.ref l) (upd H l (.lst ys))):=by
 intro E s Z H xs G Q I r h;have(p,ys,rfl,t,q):=h;have(u,rfl,C):=gp r;cases C;have k:∀(c:!Nk),Vals ys c->ys.length<=sizeLine->∀(d:Heap) (g:Nat),(∀b B,s.heap.get? b*>B->d.get? b*>B) ->
   d.get? s.heap.objs.size=TH {cls:=.type "list",dict:=TF,data:=.seq c.toArray g,slots:=#[]}->EP X E Z Q (.ref s.heap.objs.size) {s with heap:=d}:=λc f j d g i e=>
  {.ref s.heap.objs.size,_,I.laid (t':=s.toks) i (Iq _) (show ML X.prog X.w _ d _ (.lst ys)from⟨j,c,g,f,e⟩),Xr,q _ (I.hok.fresh (Iq _))}
 rcases t with t|t
 .have(c,f,y,j):=I.list t;have m:=f.length;have(o,z,x,n,v):=y.isList;show call_list_seq p (.inl rfl) z x v (λd g i e=>k c f j d g i e) (by dsimp[Ij]<;>lia)
 .have(c,f,y,j):=I.tuple t;have m:=f.length;have(o,z,x,n,v):=y;show call_list_seq p (.inr rfl) z x v (λd g i e=>k c f j d g i e) (by dsimp[Ij]<;>lia)
def lV:MQ X (.type "tuple") (λxs H Q=>∃p ys,xs=[.ref p]/\((SqL X.K H p ys/\∀l,H l=TF->Q (.ref l) (upd H l (.tup ys)))\/(SqT X.K H p ys/\Q (.ref p) H))):=by
 intro m s Z H xs A Q I r h;have(p,ys,rfl,h):=h;have(u,rfl,y):=gp r;cases y;rcases h with⟨j,q⟩|⟨j,q⟩
 .have(c,i,g,k):=I.list j;have t:=i.length;show call_tuple_list g.isList (λf x=>?_) (by dsimp[Ij]<;>lia);have v:Inv X m Z H {s with heap:=f}:=I.kept (t':=s.toks) x;have z:Inv X m Z (upd H f.objs.size (.tup ys)) {s with heap:=f.push {cls:=.type "tuple",data:=.seq c.toArray}}:=
   v.laid (t':=s.toks) (λb o e=>Nn _ e) (Iq _) (show ML X.prog X.w _ _ _ (.tup ys)from{k,c,i,MX.new _ _})
  show{.ref f.objs.size,_,z,Xr,q _ (v.hok.fresh (Iq _))}
 .have(c,i,g,k):=I.tuple j;show call_tuple_same g {.ref p,H,I,Xr,q}
abbrev tyV(K:yF)(T:String)(x:V)(H:Hp):Prop:=match x with
 | .str _=>T = "str"
 | .int _=>T = "int"
 | .ref p=>(T = "list" /\ ∃d,SqL K H p d)\/(T = "tuple" /\ ∃o,K.lookup p*>o/\o.cls=.type "tuple" /\ o.dict=TF) \/
   (T = "dict" /\ ((∃c,H p*>(.dK c)) \/ ∃c,H p*>(.dT c)))\/(T = "set" /\ ∃S n,H p*>(.set S n))
 | _=>False
def yy{u:!(Addr×Obj)}{Z:St}{H:Hp}{s:Nm}{T:String}{x:V}{v:Nk}(I:Inv X u Z H s)(r:RelV x v)(g:tyV X.K T x H) :
  s.TypeIs v T/\∀a,v=.ref a->∃m,s.heap.get? a*>m/\m.dict=TF:=by
 cases x with
 | str z=>
  have(t,rfl):=r;cases (show T = "str" from g);show{SF s z t,λ_ e=>nomatch e}
 | int i=>
  have(t,rfl):=r;cases (show T = "int" from g);show{Pk s i t,λ_ e=>nomatch e}
 | ref p=>
  cases r;rcases g with⟨rfl,A,y⟩|⟨rfl,o,d,q,h⟩|⟨rfl,d⟩|⟨rfl,S,n,d⟩
  .have(w,_,l,_):=I.list y;show{l.isList.typeIs,λa e=>?_};cases e;have(o,n,e,c,h,_):=l;show⟨o,e,h⟩
  .show{{o,I.kIn p o d,q},λa e=>?_};cases e;show{o,I.kIn _ o d,h}
  .have z:∃o,s.heap.get? p*>o/\o.ExactDict:=by
    rcases d with⟨j,d⟩|⟨j,d⟩
    .obtain⟨_,_,_,_,o,_,_,e,f,_⟩:=I.hok p _ d;show⟨o,e,f⟩
    .obtain⟨_,_,_,_,o,_,_,e,f,_⟩:=I.hok p _ d;show⟨o,e,f⟩
   have(o,e,f):=z;show{⟨o,e,f.1⟩,λa k=>?_};cases k;show⟨o,e,f.2.1⟩
  .have(o,_,_,_,e,f,_):=I.hok p _ d;show{⟨o,e,f.1⟩,λa k=>?_};cases k;show⟨o,e,f.2.1⟩
 | _=>show OC g
abbrev EN(K:yF)(T:String)(r:V->!V->Hp->VK->Prop)(d:TE):TE:=λZ H Q=>d Z H λx c=>tyV K T x c/\r x [] c Q
abbrev tBM(K:yF)(T:String)(r:V->!V->Hp->VK->Prop)(e:TE)(t:TA):TE:=λZ H Q=>e Z H λx c=>tyV K T x c/\t Z c λf d=>r x f d Q
variable {o e:Expr}{es:!Expr}{to:TE}{t:TA}{name:Str}{apos cpos:Pos}{T id:String}{r:V->!V->Hp->VK->Prop}
def DW(w:Pl T)(f:Slot T name id)(g:RA (.builtin id)=pure (.type "method_descriptor"))(q:MtR X id r)(ho:PE X o to)
  (c:Oh o name X.env (eval o X.env)=eval o X.env:=by rfl) (d:(apos.endLine==cpos.line)=TK:=by rfl):PE X (.Call (.Attribute o name apos) [] [] cpos) (EN X.K T r to):=by
 intro i s Z H Q I h;show wpAny_Call_method0_late c d (thn (ho i s Z H _ I h) λv A m=>?_);have(x,l,j,k,u,y):=m;have(p,z):=yy j k u;show{T,id,w,f,g,p,z,Qu rfl (PySem.evalArgs_none (q i A Z l x [] v [] Q j k .nil y))}
def Gc(E:Pl T)(i:Slot T name id)(k:RA (.builtin id)=pure (.type "method_descriptor"))(B:MtR X id r)(ho:PE X o to)(q:PA X (e::es) t)
  (d:Oh o name X.env (eval o X.env)=eval o X.env:=by rfl)
  (g:((O9 cpos (NG (e::es) X.env)).all (λx=> ~~~x.1)&&(backToKw cpos (keywordEach [] X.env)).all (λx=>x.1.isSome)
   && decide ((e::es).length+([]:!Sr).length+(if([]:!Sr).isEmpty then 0 else 1)<30))=TK:=by rfl)
  (f:(apos.endLine==cpos.line)=TK:=by rfl) (hs:NG (e::es) X.env=(TJ,eval e X.env)::NG es X.env:=by rfl) (c:(O9 cpos (NG es X.env)).any (·.1)=TJ:=by rfl) :
  PE X (.Call (.Attribute o name apos) (e::es) [] cpos) (tBM X.K T r to t):=by
 intro j s Z H Q I h;show wpAny_Call_method_late d g f rfl (thn (ho j s Z H _ I h) λv P z=>?_);have(x,y,l,m,C,G):=z;have(A,J):=yy l m C;show{T,id,E,i,k,A,J,?_};have p:=q cpos j P Z y _ l G;rw[hs]at p|-;show Qu (by change(TJ||(O9 cpos (NG es X.env)).any (·.1))=TJ;rw[c]<;>rfl) (Calls.evalArgs_plain ?_);show thn p λw L ⟨vs,u,M,O,N⟩=>B j L Z u x vs v w Q M m O N
end
abbrev MtM(X:Cx)(id:String)(r:V->!V->Hp->VK->Prop):Prop:=
 ∀(c:!(Addr×Obj)) (s:Nm) (Z:St) (H:Hp) (x:V) (d:!V) (v:Nk) (a:!Nk) (Q:VK),Inv X c Z H s->RelV x v->Vals d a->r x d H Q ->
  Np (Nu X.prog X.w) X.A (call (.builtin id) (v::a)) (EP X c Z Q) X.xe s
def Vals.one:∀{x:V} {a:!Nk},Vals [x] a->∃u,a=[u]/\RelV x u:=by
 intro x a h;cases h with
 | cons r t=>cases t;show{_,Xr,r}
def Vals.zero:∀{a:!Nk},Vals [] a->a=[]
 | _,.nil=>rfl
def Vals.dropLast{xs:!V}{a:!Nk}(h:Vals xs a):Vals xs.dropLast a.dropLast:=by
 induction h with
 | nil=>show .nil
 | cons r t c=>
  cases t with
  | nil=>show .nil
  | cons q d=>show .cons r c
def Vals.eraseIdx:∀{xs:!V} {a:!Nk} (i:Nat),Vals xs a->Vals (xs.eraseIdx i) (a.eraseIdx i)
 | _,_,_,.nil=>.nil
 | _,_,0,.cons _ t=>t
 | _,_,i+1,.cons r t=>.cons r (Vals.eraseIdx i t)
def Vals.reverse{xs:!V}{a:!Nk}(h:Vals xs a):Vals xs.reverse a.reverse:=by
 induction h with
 | nil=>show .nil
 | cons r t c=>rw[Ki,Ki];show Vals.append c (.cons r .nil)
def Vals.rep{xs:!V}{a:!Nk}(h:Vals xs a):∀k:Nat,Vals (Ik k xs).flatten (Ik k a).flatten
 | 0=>.nil
 | k+1=>by
  rw[Jb,Jb,JB,JB];show Vals.append h (Vals.rep h k)
def qG{d:Type}(l:!d):l.eraseIdx (l.length-1)=l.dropLast:=by
 induction l with
 | nil=>rfl
 | cons a r c=>
  cases r with
  | nil=>rfl
  | cons b r=>
   have e:(a::b::r).length-1=((b::r).length-1)+1:=by
    have g:(a::b::r).length=r.length+2:=rfl;have f:(b::r).length=r.length+1:=rfl
    lia
   rw[e,Kt,c];all_goals rfl
def mJ{a:Type}:∀(l:!a) (i:Nat),(l.eraseIdx i).length<=l.length
 | [],_=>Iq _
 | _::_,0=>KG _
 | _::r,i+1=>KA (mJ r i)
def fD(c:!Nk):∀(k:Nat) (a:!Nk),
  Lh (λg f=>g++f) a.toArray (Ik k c.toArray)=(a++(Ik k c).flatten).toArray
 | 0,a=>by simp
 | k+1,a=>by
  have e:a.toArray++c.toArray=(a++c).toArray:=by simp
  have d:(a++c)++(Ik k c).flatten=a++(Ik (k+1) c).flatten:=by
   rw[Jb,JB,IC]
  rw[<-d,<-fD c k (a++c),<-e,Jb,Kc]
section
variable {X:Cx}{OK:!(Addr×Obj)}{Z:St}{H:Hp}{s:Nm}{l b:Addr}{xs ys zs:!V}
def Inv.lset{a its':!Nk}{n:Nat}{f:Array Nk->Array Nk}{t':Nat}(I:Inv X OK Z H s)(d:H l*>(.lst xs))
  (e:s.heap.get? l=TH {cls:=.type "list",data:=.seq a.toArray n}) (i:f a.toArray=its'.toArray) (g:Vals ys its') (hz:ys.length<=sizeLine) :
  Inv X OK Z (upd H l (.lst ys)) {s with heap:=s.heap.update l (Pj f),toks:=t'}:=by
 have q:=PySem.IsL.update e f;rw[i]at q;show I.write (x:=l) (e:=l) (by rw[d];show trivial) (.inl rfl) (λk u j h=>(Qt s.heap (Pj f) (NA j)).trans h) {_,q} ?_;show{hz,its',_,g,q}
def Inv.lnew{a:!Nk}{t':Nat}(I:Inv X OK Z H s)(d:Vals ys a)(hz:ys.length<=sizeLine) :
  Inv X OK Z (upd H s.heap.objs.size (.lst ys)) {s with heap:=s.heap.push {cls:=.type "list",data:=.seq a.toArray},toks:=t'}:=
 I.laid (λ_ _ q=>Nn _ q) (Iq _) {hz,a,0,d,Nt _ rfl}
def Inv.fresh(I:Inv X OK Z H s):H s.heap.objs.size=TF:=I.hok.fresh (Iq _)
def Inv.lstM(I:Inv X OK Z H s)(c:H l*>(.lst xs)):xs.length<=sizeLine/\∃(a:!Nk) (n:Nat),Vals xs a/\xs.length=a.length/\s.heap.get? l=TH {cls:=.type "list",data:=.seq a.toArray n}:=by
 have(z,a,n,r,e):=I.hok l _ c;show⟨z,a,n,r,r.length,e⟩
def eA{n:Nat}(h:n<=sizeLine):NS n=TJ:=by
 unfold NS;show decide_eq_false (by lia)
end
section
variable {X:Cx}
abbrev n9:V->!V->Hp->VK->Prop:=λx vs H Q=>∃l a y,x=.ref l/\vs=[y]/\H l*>(.lst a)/\a.length<sizeLine/\Q .non (upd H l (.lst (a++[y])))
def ux:MtM X "list.append" n9:=by
 intro m s Z H x vs v j Q I f d h;have(l,o,y,rfl,rfl,c,k,q):=h;cases f;have(u,rfl,g):=d.one;have(z,a,n,r,i,e):=I.lstM c;show N4 F.slot_list_append {_,e,Xr} F.entry_list_append (F.args_list_append_2 _ _) (PySem.list_append l a.toArray n u (by rw[Ij];lia)) {e,?_};show{.non,_,I.lset (its':=a++[u]) c e ∅ (r.append (.cons g .nil)) ?_,Xr,q};rw[Ip,List.length_singleton]
 lia
abbrev AK:V->!V->Hp->VK->Prop:=λx vs H Q=>∃l b c a,x=.ref l/\vs=[.ref b]/\H l*>(.lst c)/\H b*>(.lst a)/\c.length+a.length<=sizeLine/\Q .non (upd H l (.lst (c++a)))
def mt_extend:MtM X "list.extend" AK:=by
 intro B s Z H x vs v E Q I i m h;obtain⟨l,b,C,J,rfl,rfl,g,p,A,q⟩:=h;cases i;have(u,rfl,j):=m.one;cases j;have(z,c,n,r,y,e):=I.lstM g;have(G,a,k,w,o,t):=I.lstM p;have f:c.toArray.size+a.toArray.size<=sizeLine:=by rw[Ij,Ij];lia
 have d:¬ (~~~c.toArray.isEmpty&&NS (c.toArray.size+a.toArray.size))=TK:=by
  rw[eA f,Lz];show Ir
 show N4 PN {_,e,Xr} Py (Pp _ _)
  (Pb l c.toArray n b a.toArray k d (by rw[Ij];lia) (by lia)) {e,t,?_}
 show{.non,_,I.lset (its':=c++a) g e ∅ (r.append w) ?_,Xr,q};rw[Ip]
 lia
abbrev Ex:V->!V->Hp->VK->Prop:=λx vs H Q=>∃l a y,x=.ref l/\vs=[]/\H l*>(.lst a)/\a[a.length-1]?*>y/\Q y (upd H l (.lst a.dropLast))
def Db:MtM X "list.pop" Ex:=by
 intro t s Z H x vs v p Q I j i h;have(l,w,y,rfl,rfl,f,m,q):=h;cases j;have d:=i.zero;subst d;have(z,a,n,r,g,e):=I.lstM f;have(u,o,k):=r.get m;have c:a.toArray[a.toArray.size-1]?*>u:=by
  change a.toArray[a.length-1]?*>u;rw[<-Kg,<-g];show o
 show N4 Sg {_,e,Xr} R5 (F.args_list_pop_1 _) (MeetsSeq.list_pop_last l a.toArray n u c (by rw[Ij];lia)) {e,?_};show{y,_,I.lset (its':=a.dropLast) f e ?_ r.dropLast ?_,k,q}
 .change a.toArray.eraseIdxIfInBounds (a.toArray.size-1)=a.dropLast.toArray;rw[Ij,Kw,qG]
 .rw[List.length_dropLast]
  lia
abbrev rP:V->!V->Hp->VK->Prop:=λx vs H Q=>∃l a i k y,x=.ref l/\vs=[.int i]/\H l*>(.lst a)/\-(2^63)<=i/\i<2^63/\SX i a.length*>k/\a[k]?*>y/\Q y (upd H l (.lst (a.eraseIdx k)))
def wu:MtM X "list.pop" rP:=by
 intro G s Z H x vs v J Q I g A h;obtain⟨l,m,i,k,y,rfl,rfl,d,E,o,p,C,q⟩:=h;cases g;have(u,rfl,j):=A.one;have(t,rfl):=j;have(z,a,n,r,f,e):=I.lstM d;have(w,B,c):=r.get C;show N4 Sg {_,e,Xr} R5 (F.args_list_pop_2 _ _)
  (MeetsSeq.list_pop_at l a.toArray n i t k w (PP E o) (by rw[Ij,<-f];show p) (by rw[<-Kg];show B) (by rw[Ij];lia)) {e,?_}
 show{y,_,I.lset (its':=a.eraseIdx k) d e ?_ (r.eraseIdx k) ?_,c,q}
 .change a.toArray.eraseIdxIfInBounds k=(a.eraseIdx k).toArray;rw[Kw]
 .have:=mJ m k
  lia
abbrev rK:V->!V->Hp->VK->Prop:=λx vs H Q=>∃l a,x=.ref l/\vs=[]/\H l*>(.lst a)/\Q .non (upd H l (.lst []))
def wt:MtM X "list.clear" rK:=by
 intro k s Z H x vs v j Q I g f h;have(l,m,rfl,rfl,d,q):=h;cases g;have a:=f.zero;subst a;have(z,c,n,r,i,e):=I.lstM d;show N4 F.slot_list_clear {_,e,Xr} F.entry_list_clear (F.args_list_clear_1 _) (AutoSeq1.list_clear_list_0 l c.toArray n (by rw[Ij];lia)) {e,?_};show{.non,_,I.lset (its':=[]) (ys:=[]) d e rfl .nil (Jm _),Xr,q}
abbrev Gy:R2:=λx y H Q=>∃l b c a,x=.ref l/\y=.ref b/\H l*>(.lst c)/\H b*>(.lst a)/\c.length+a.length<=sizeLine/\∀p,H p=TF->Q (.ref p) (upd H p (.lst (c++a)))
def op_cat:OpR X (N1 .Add) Gy:=by
 intro w s Z H x y v u Q I d f h;obtain⟨l,b,A,E,rfl,rfl,g,j,t,q⟩:=h;cases d;cases f;have(z,c,n,r,p,e):=I.lstM g;have(C,a,B,o,i,m):=I.lstM j;show PySem.P.add_list e m ?_ (by rw[Ij,Ij];lia);have k:c.toArray++a.toArray=(c++a).toArray:=by simp
 rw[k];show{.ref _,_,I.lnew (t':=s.toks) (r.append o) (by rw[Ip];lia),Xr,q _ I.fresh}
abbrev GG:R2:=λx y H Q=>∃l k a,x=.ref l/\y=.int k/\H l*>(.lst a)/\-(2^63)<=k/\k<2^63/\a.length*k.toNat<=sizeLine /\
 ∀p,H p=TF->Q (.ref p) (upd H p (.lst (Ik k.toNat a).flatten))
def iW{a:Type}(xs:!a)(k:Nat):(Ik k xs).flatten.length=k*xs.length:=by
 induction k with
 | zero=>simp
 | succ k c=>rw[Jb,JB,Ip,c,Nat.succ_mul,Nat.add_comm]
def op_rep:OpR X (N1 .Mult) GG:=by
 intro M s Z H x y v u Q I B C h;obtain⟨l,k,N,rfl,rfl,G,J,E,w,q⟩:=h;cases B;have(t,rfl):=C;have(z,c,n,r,A,e):=I.lstM G;have g:c.toArray.size*k.toNat<=sizeLine:=by rw[Ij,<-A];show w
 have j:¬ c.toArray.size*k.toNat>(2^63-1) / 8:=by
  have:(sizeLine:Nat)<=(2^63-1) / 8:=by decide
  lia
 have i:¬ (~~~Builtin.List.listFitsIndex k)=TK:=by
  rw[PP J E];show Ir
 have d:¬ NS (c.toArray.size*k.toNat)=TK:=by
  rw[eA g];show Ir
 have f:Lh (λo p=>o++p) #[] (Ik (if c.toArray.isEmpty=TK then 0 else k.toNat) c.toArray)=(Ik k.toNat c).flatten.toArray:=by
  have K:∀m:Nat,Lh (λo p=>o++p) #[] (Ik m c.toArray)=(Ik m c).flatten.toArray:=λm=>by
   have:=fD c m [];rw[Jr]at this;show this
  rw[K];cases c with
  | nil=>simp
  | cons a O=>rw[if_neg ∅]
 show OQ (T:="list") (U:="int") (by decide) {_,e,Xr} (λL=>Pk L k t) Sh Qz OH repeat_list Qm.lookup
  (N4 OH (Pk s k t) Qn (P9 _ _) (QL k t l c.toArray n)
   {e,Xr,{_,e,Xr},N4 Si {_,e,Xr} R6 (RL _ _) (O7 l c.toArray n k t i j d) {e,?_}})
 rw[f];show{.ref _,_,I.lnew (t':=s.toks) (r.rep k.toNat) (by rw[iW,LW];show w),Xr,q _ I.fresh}
end
section
variable {prog:Nv}{w:NB}{A:NM}{E:Nk->Nm->Prop}{s:Nm}
def vh(d e:!Nk)(a c:Nat):d.toArray.extract 0 a++e.toArray++d.toArray.extract c d.toArray.size=(d.take a++e++d.drop c).toArray:=by
 apply Array.toList_inj.mp;first
  | (simp
     show IF ∅)
  | simp[IF]
  | simp
def qv{a c n:Nat}(f:a<=c)(g:c<=n):OA (TH (a:Int)) (TH (c:Int)) TF n=((a:Int),(c:Int),1):=by
 dsimp[OA,La];have d:¬ ((a:Int)<0):=by lia
 have e:¬ ((c:Int)<0):=by lia
 dsimp[d,e,if_false,show(1:Int)>0 by decide,if_true];congr 1
 .lia
 .congr 1;lia
set_option maxRecDepth 100000 in
def l6{l b sl:Addr}{items new:Array Nk}{n B:Nat}{t u:Nk}{a c:Nat}{Q:Unit->Nm->Prop}
  (e:s.heap.get? l=TH {cls:=.type "list",data:=.seq items n}) (z:s.heap.get? b=TH {cls:=.type "list",data:=.seq new B}) (p:l≠b)
  (hs:s.heap.IsSliceOf sl t u .none) (H:Qd t (TH (a:Int))) (G:Qd u (TH (c:Int))) (q:a<=c) (C:c<=items.size)
  (hsz:items.size+new.size<=sizeLine) (h:Q () {s with heap:=s.heap.update l (Pj λxs=>xs.extract 0 a++new++xs.extract c xs.size)}) :
  Np (Nu prog w) A (P5 (.ref l) (.ref sl) (.ref b)) Q E s:=by
 have o:s.heap.IsList l items:=PySem.IsL.isList e;have J:s.heap.IsList b new:=PySem.IsL.isList z;have(os,f,v,g):=id hs;have k:s.TypeIs (.ref sl) "slice" :=⟨os,f,v⟩;have i:¬ ((rawPart TF==OS 0)=TK):=Ir;have d:Qg (.ref l) (.ref b)=TJ:=by
  unfold Qg;show beq_eq_false_iff_ne.mpr p
 have j:(max (a:Int) (c:Int)).toNat=c:=by lia
 have r:((λxs:Array Nk=>xs.extract 0 a++new++xs.extract c xs.size) items).size<=sizeLine+1:=by
  dsimp[LX,Array.size_extract]
  lia
 unfold P5;try with_reducible refine NI ?_
 first|refine Nj (Nl ?_)|skip
 show Nj (P8 o.typeIs (by decide) ?_);show Nj (NO (name:=ND "__setitem__") o.typeIs RM
  (NH RM o.typeIs entry_list_setitem ?_ (args_list_setitem _ _ _)))
 change Np _ _ (PB (.ref sl) >>= _) _ _ s;show Nj ?_;unfold PB;show Nj (Oq k slice_no_index ?_);dsimp[Option.isNone_none,if_true];show Nl ?_;change Np _ _ (RA (.ref sl) >>= _) _ _ s;show Nj (OE k ?_);first
  | rw[if_neg (by decide)]
  | refine PySem.W.KFB.if_not (by decide) ?_
 rw[listSliceParts_eq];show Nj (Nj (NL f g (x:=.none) rfl (Nj (QY .none ?_))));rw[if_neg i];show Nj (NL f g (x:=t) rfl (Nj (QY H ?_)));show Nj (NL f g (x:=u) rfl (Nj (QY G (Nl ?_))));first
  | dsimp[d,IQ,if_false]
  | refine PySem.W.KFB.if_not d ?_
  | (dsimp only
     rw[if_neg (by rw[d];show Ir)])
 show Nj (m:=P0 (.ref b) "must assign iterable to extended slice") ?_;unfold P0;show Nj (OE J.typeIs ?_);first
  | refine PySem.W.KFB.if_so (by decide) ?_
  | rw[if_pos (by decide)]
  | dsimp[beq_self_eq_true,Mr,if_true]
 unfold Ta;show Nj (NX z rfl (Nl ?_));show Nj (Nj (NX e rfl (Nl ?_)));show Nj (Sc ((sliceIndices_raw (TH (a:Int)) (TH (c:Int)) TF items.size ∅).trans (congrArg (pure:Int×Int×Int->Sem (Int×Int×Int)) (qv q C))) ?_);change Np _ _ (if((1:Int)==1)=TK then _ else _) _ _ s;rw[if_pos (by decide)];show Nj (Ou ?_);first
  | dsimp[eA hsz,IQ,if_false]
  | refine PySem.W.KFB.if_not (eA hsz) ?_
 first|refine Nj (Nl ?_)|skip
 change Np _ _ (updateSeq l (λxs=>xs.extract 0 ((a:Int)).toNat++new++xs.extract (max (a:Int) (c:Int)).toNat xs.size) >>= _) _ _ s;rw[j,IJ];show Nj (Sj (hz:=IS (Jt _ _) hsz) (_hz':=r) e rfl ?_);show Nj (QZ ?_);first
  | show Nj (Nl (Nl ⟨.none,rfl,Nl h⟩))
  | show Nl ⟨.none,rfl,Nl h⟩
end
section
variable {X:Cx}
def vg{m:!(Addr×Obj)}{s:Nm}{Z:St}{H:Hp}{l b sl:Addr}{xs ys:!V}{a c:Int}{o p:Nk}{Q:Unit->Nm->Prop}(I:Inv X m Z H s)
  (q:H l*>(.lst xs)) (B:H b*>(.lst ys)) (g:l≠b) (hs:s.heap.IsSliceOf sl o p .none) (v:RelV (.int a) o) (x:RelV (.int c) p) (t:0<=a) (j:a<=c) (K:c<=xs.length)
  (hz:xs.length+ys.length<=sizeLine) (h:∀u,Inv X m Z (upd H l (.lst (xs.take a.toNat++ys++xs.drop c.toNat))) u->Q () u) :
  Np (Nu X.prog X.w) X.A (P5 (.ref l) (.ref sl) (.ref b)) Q X.xe s:=by
 have(N,rfl):=v;have(M,rfl):=x;have(z,f,n,r,G,e):=I.lstM q;have(L,d,J,E,y,C):=I.lstM B;have(k,rfl):=Lb t;have(i,rfl):=Lb (Int.le_trans t j);dsimp[IJ]at h;show l6 (a:=k) (c:=i) e C g hs (.int _ _) (.int _ _) (by lia) (by rw[Ij];lia) (by rw[Ij,Ij];lia) (h _ ?_);show I.lset (its':=f.take k++d++f.drop i) (t':=s.toks) q e ?_ (Vals.append (Vals.append (r.take _) E) (r.drop _)) ?_;show vh f d k i
 .rw[Ip,Ip,IR,Jl]
  lia
end
end L2
namespace Att
open PySem PySem.W PySem.Calls PyProof.Rows
def ints_of_wellAll{P:Tb}{h:Heap}:∀(ns:!Int) (vs:!Nk),WellAll P h vs (ns.map TB)->Ss vs ns:=by
 intro ns
 induction ns with
 | nil=>
  intro vs w;rw[KS]at w;cases w;show .nil
 | cons n ns c=>
  intro vs w;rw[Io]at w;cases w with
  | cons a b=>
   cases a;show .cons _ _ (c _ b)
def script_of{l:Tc}{n:Nat}(x:l.most*>n){P:Tb}{h:Heap}{c:!Tw}{e:!Nk}
  (f:l.row.toRowW.claim.pre c=TK) (o:WellAll P h e c) :
  ∃a vs ns,e=[Nx a]/\c=[Tw.list (ns.map TB)]/\h.get? a=TH {cls:=.type "list",data:=.seq vs.toArray}/\Ss vs ns/\ns.length<=n:=by
 have m:Td.hasAll [] c [.list .int]=TK:=(pre_splitW f).1;have p:l.pre.holds [] {args:=c}=TK:=(pre_splitW f).2;have(d,r,rfl,s,u):=hasAllW_cons m;obtain rfl:=hasAllW_nil u;have(z,rfl,t):=hasW_list s;have(ns,rfl):=items_int t;have g:ns.length<=n:=by
  unfold Tc.pre at p;have k:(WTm.not (.lt (.lit (.int (n:Int))) (.len (.arg 0)))).holds [] {args:=[.list (ns.map .int)]}=TK:=by
   have k:=(holds_andW p).1;rw[x]at k;show k
  have j:=condW_of k (w_not (w_lt w_lit (w_len_list (w_arg rfl))));rw[Ih]at j;show Nat.le_of_not_lt λq=>?_;have y:(n:Int)<((ns.length:Nat):Int):=by lia
  first
   | (rw[decide_eq_true y]at j;show absurd j (by decide))
   | (simp at j;lia)
 cases o with
 | cons w1 w=>
  cases w;cases w1 with
  | list v i=>show{_,_,ns,Xr,Xr,v,ints_of_wellAll ns _ i,g}
def post_true(l:Tc)(a:!Tw):l.row.toRowW.claim.post a (.bool TK) a=TK:=
 postW_of (r:=l.row.toRowW) (X:=(TK==TK))
  (show Tr [] (.bool TK) .bool=TK by first|rfl|decide|simp[Tr,Td.arms,Td.armsAll])
  (show(WTm.eq .res (.lit (.bool TK))).value [] {args:=a,res:=TH (.bool TK),after:=a}*>(.bool (TK==TK))from w_eq_bool (w_res rfl) w_lit) rfl
def attach_call{l:Tc}{n:Nat}{q:Nv}{loose:!Str}{XP:(Str->↑Nk)->Heap->Prop}{YP:NB->Heap->Prop}{d:DefRec}
  (X:l.most*>n) (z:d.params.defaults=[])
  (call:∀(w:NB) (e c : Nm) (t A:Str->↑Nk) (m:Addr) (o:Obj) (u p h:Nk) (a:Addr) (vs:!Nk) (ns:!Int),
   Ground q loose [] XP w e t A c.heap->YP w c.heap ->
   c.heap.get? m*>o->o.data=.func (docDef d.name d.params d.body d.scope u p h)->c.heap.CodeRec p d.name->t d.name*>(.ref m) ->
   c.heap.get? a=TH {cls:=.type "list",data:=.seq vs.toArray}->Ss vs ns->ns.length<=n->c.gens = #[] ->
   OD (Nu l.prog w) Rc (.call (.ref m) {[.ref a],[]}) (λr s=>r=.ok (.ret (.bool TK))/\OldK c.heap s.heap/\s.os=c.os/\P4 s.gens) c) :
  WalkO q loose XP YP l.row.toRowW d [] (λf vs=>PySem.call f vs):=by
 intro w e c t A G Y m o u p h P kV S J v H y N E B as k C L x O;obtain rfl:P=.none:=Dflts.none H z;obtain rfl:kV=.none:=Dflts.noKw H;have(a,vs,ns,rfl,rfl,j,g,i):=script_of X k x;show enter_call (RH (call w e c t A m o u p h a vs ns G Y S (fd_plain J) v y j g i N) λr s Z=>?_);have(rfl,M,Q,U):=Z;show{.inl {.bool TK,.bool TK,[],Xr,λ_=>rfl,.bool TK,post_true l _,λ_=>{List.Pairwise.nil,λ_ K=>(nomatch K)}},M,Q,U}
end Att
namespace L2
open PySem PySem.Spec PyProof.Rows
def nq:∀{vs:!Nk} {ns:!Int},Ss vs ns->Vals (ns.map V.int) vs
 | _,_,.nil=>.nil
 | _,_,.cons n t h=>.cons ⟨t,Xr⟩ (nq h)
abbrev Fk(H:Hp):Prop:=∀b,H b=TF \/ ∃o a,H b*>(.frz o (.lst a))
def we{P:Nv}{w:NB}{K:yF}{M X:Str->↑Nk}{CX:CXT}{k:Nat}{fa a:Addr}{fd:Ox}{x:Str}{sp:Sp}{c : Nm}{vs:!Nk}{ns:!Int}
  (KX:K.In c.heap) (J:c.heap.Ns NZ M) (g:c.heap.Ns Rt X) (U:∀x:Str,x ≠ "__name__" -> X x=Oc x) (O:c.heap.NoLimit) (hg:c.gens = #[])
  (Q:c.heap.get? a=TH {cls:=.type "list",data:=.seq vs.toArray}) (hi:Ss vs ns) (hl:ns.length<=sizeLine) (hr:MV k Rc)
  (F:∀i:Heap,K.In i->i.Ns NZ M->Nc P w K M i CX k fa fd [x] sp) (t:∀(s:Nm) (u:Nk),Rb s fd {[u],[]} [(x,u)])
  (Y:∀H:Hp,Fk H->SqL K H a (ns.map V.int)->sp [.ref a] H (λv _=>v=.bl TK) λ_ _ _=>False)
  (hCX:∀H e j,CX [] H c (λ_ _ _=>False) e j->False) :
  OD (Nu P w) Rc (.call (.ref fa) {[.ref a],[]}) (λr j=>r=.ok (.ret (.bool TK))/\OldK c.heap j.heap/\j.os=c.os/\P4 j.gens) c:=by
 have rv:=nq hi;have y:=hi.length;have p:∀H:Hp,Fk H->SqL K H a (ns.map V.int)->HOk P w H c.heap->(∀b,H b≠TF->b=a)->(H a≠TF->K.lookup a=TF) ->
   OD (Nu P w) Rc (.call (.ref fa) {[.ref a],[]}) (λr j=>r=.ok (.ret (.bool TK))/\OldK c.heap j.heap/\j.os=c.os/\P4 j.gens) c:=by
  intro H hO hS N hA hK;have f:∀{b:Addr} {o:Obj},c.heap.get? b*>o->H b=TF->(nJ c.heap H).get? b*>o:=λe n=>vU e n;have S:∀{b:Addr} {o:Obj} {A:Array Ra} {C:Nat},c.heap.get? b*>o->o.data=.dict A C->H b=TF:=λ{b o A C} e d=>by
   cases q:H b with
   | none=>rfl
   | some u=>
    have Z:b=a:=hA b (by rw[q];simp);subst Z;rw[Q]at e;cases e;have d':Data.seq vs.toArray _=Data.dict A C:=d;cases d'
  have l:∀{b:Addr} {m:Str->↑Nk},c.heap.Ns b m->(nJ c.heap H).Ns b m:=λ{b m} ⟨o,A,C,e,d,r⟩=>{o,A,C,f e (S e d),d,r};have E:K.In (nJ c.heap H):=λb o e=>f (KX b o e) (by
   cases q:H b with
   | none=>rfl
   | some u=>
    have Z:b=a:=hA b (by rw[q];simp);subst Z;rw[hK (by rw[q];simp)]at e;cases e)
  have hM:Mod K M (nJ c.heap H):={E,l J,{X,l g,U},let ⟨mc,h1,h2⟩:=O;{mc,l h1,h2}};have e0:Nh P w K M (nJ c.heap H) Rc [] c H:={Xr,hM,λb o e=>zT e,Ms (ug _ _),trivial,λb g=>absurd (show b∈([]:!Addr)from g) ∅,N,.of_eq hg};show RH ((F _ E (l J)).run Rc [] c H {[.ref a],[]} [.ref a] [.ref a] _ _ hr e0 (t c (.ref a)) (.cons rfl .nil) (Y H hO hS)) λr j h=>?_;cases r with
  | error e=>show(hCX H e j h).elim
  | ok fl=>
   cases fl with
   | next=>show OC h
   | brk=>show OC h
   | cont=>show OC h
   | ret u=>
    have(v,H',os,L,un,B,r',q):=h;have q':v=.bl TK:=q;subst q';obtain rfl:u=PF TK:=r';show{Xr,OldK.of_keep λb o e=>?_,os,L};cases q:H b with
    | none=>show un.keep b o e q (by intro z;show absurd (show b∈([]:!Addr)from z) ∅) ∅
    | some u=>
     rcases hO b with z|⟨ob,xs,z⟩;rw[q]at z;cases z
     .have z2:=un.frzs b ob _ z;have(e1,_):=N b _ z;have(e2,_):=B b _ z2;rw[e]at e1;cases e1;show e2
 cases hk:K.lookup a with
 | some o=>
  have e:=KX a o hk;rw[Q]at e;cases e;show p (λ_=>TF) (λ_=>.inl rfl) (.inr {_,vs.toArray,_,hk,Xr,Xr,Xr,by rw[Ij,y];show hl,by simpa using rv}) (λb u z=>by have G:(TF:↑HO)*>u:=z;cases G) (λb z=>absurd rfl z) λz=>absurd rfl z
 | none=>
  show p (λb=>if b=a then TH (.frz {cls:=.type "list",data:=.seq vs.toArray} (.lst (ns.map V.int)))else TF) (λb=>?_) (.inl (.inr {{cls:=.type "list",data:=.seq vs.toArray},if_pos rfl})) (λb u z=>?_) (λb z=>?_) λ_=>hk
  .by_cases g:b=a;show .inr {_,_,if_pos g};show .inl (if_neg g)
  .by_cases g:b=a
   .have G:=(if_pos g).symm.trans z;cases G;subst g;show{Q,by rw[Ih];show hl,vs,_,rv,Q}
   .have G:=(if_neg g).symm.trans z;cases G
  .by_cases g:b=a;show g;show absurd (if_neg g) z
abbrev dN(s:Stmt):Arguments:=match s with
 | .FunctionDef _ a _ _ _ _ _ _ _ _=>a
 | _=>{posonlyargs:=[],args:=[],vararg:=TF,kwonlyargs:=[],kw_defaults:=[],kwarg:=TF,defaults:=[]}
abbrev bE(s:Stmt):!Stmt:=match s with
 | .FunctionDef _ _ b _ _ _ _ _ _ _=>b
 | _=>[]
abbrev ak(s:Stmt):O8:=match s with
 | .FunctionDef _ _ _ _ _ _ a _ _ _=>a
 | _=>{kind:=.function,names:=[],isGenerator:=TJ,isCoroutine:=TJ}
protected def CX0:CXT:=λ_ _ _ _ _ _=>False
protected def E0:XK:=λ_ _ _=>False
def Gb{X:Cx}:qk CX0 X E0:=λ_ _ _ _ _ _ _ h=>h.elim
structure Fun(K:yF)(x qual:Str)(st:Stmt)(f:Addr)(fd:Ox):Prop where
 ex:∃(oc:Nk) (od:↑Addr) (kV doc pm:Nk) (an:↑Addr) (cdv ct:Nk) (osl:Array ↑Nk),
  fd=JI x qual (dN st) (bE st) (ak st) .none kV doc pm an cdv ct/\K.lookup f*>{oc,od,.func fd,osl}/\Kj K cdv qual=TK
 kp:JK K (.ref f)=TK
section
variable {P:Nv}{w:NB}{K:yF}{mg:Str->↑Nk}{base:Heap}
def Fun.ok{x c:Str}{st:Stmt}{f:Addr}{o:Ox}{N m:!Str}{k:Nat}{i:Sp}(F:Fun K x c st f o)(S:p8 N m (ak st))(g:∀vs H Q E,i vs H Q E->vs.length=m.length)
  (e:∀(d:Nk) (A:NM) (a:!Env) (s:Nm) (H:Hp) (vs:!V) (Q:VK) (E:XK),MV k (A.deeper (Pt c (ak st) s.heap.objs.size f d))->i vs H Q E ->
   ∃t,PSs (lW CX0 P w K mg base N c (ak st) f d A a s H E).nox (bE st) t/\t {nx:=λ_ H'=>Q .non H',rt:=Q} (start N vs) H):Nc P w K mg base CX0 (k+1) f o m i:=by
 obtain⟨oc,C,kV,u,y,z,d,B,r,rfl,p,j⟩:=F.ex;show Fv p j S g λA a s H vs Q E v l=>?_;have(t,h,q):=e d A a s H vs Q E v l;show⟨t,h.nox,q⟩
def CN{x a:Str}{st:Stmt}{f:Addr}{oc:Nk}{m j:↑Addr}{g:Array ↑Nk}{kV e h d i:Nk}(l:K.lookup f*>{oc,m,.func (JI x a (dN st) (bE st) (ak st) .none kV e h j d i),g})
  (c:Kj K d a=TK) (k:JK K (.ref f)=TK):Fun K x a st f (JI x a (dN st) (bE st) (ak st) .none kV e h j d i):={⟨oc,m,kV,e,h,j,d,i,g,Xr,l,c⟩,k}
end
def Fx{A:NM}{k:Nat}(a:MV k A):A.units+1<NN:=Js (LJ (by decide:1<=64) _) a.units
def qM{A B:Prop}(h:B):if TJ=TK then A else B:=by
 rw[if_neg Ir];show h
def qN{A B:Prop}(h:A):if TK=TK then A else B:=by
 rw[if_pos rfl];show h
abbrev MU(H H':Hp):Prop:=∀b o,H b*>o->H' b*>o
def MU.refl(H:Hp):MU H H:=λ_ _ h=>h
abbrev bK(env:Env):!(Str×Ny)->!(Str×Addr)->!(Str×Addr)
 | [],a=>a
 | (n,k)::r,a=>if k == .free then bK env r ((n,(env.cells.lookup n).getD 0)::a)else bK env r a
def jp:∀(a:!(Str×Ny)) (d:!(Str×Addr)),(∀x∈a,x.2=.free->∃c,env.cells.lookup x.1*>c) ->
  (forIn a d λ(x:Str×Ny) (l:!(Str×Addr))=>if x.2 == .free then(do let c <-cellOf env x.1;pure (Os ((x.1,c)::l)):Sem _)else pure (Os l))=(pure (bK env a d):Sem _)
 | [],d,_=>rfl
 | (n,k)::r,d,h=>by
  have j:∀x∈r,x.2=.free->∃c,env.cells.lookup x.1*>c:=λx o=>h x (ymC _ o);rw[Ke];unfold bK;by_cases i:(k==Oj)=TK
  .have(c,m):=h (n,k) ymS (by exists i);have f:env.cells.lookup n*>c:=m;have e:cellOf env n=pure c:=by unfold cellOf;rw[f]
   dsimp[i,if_true,e,f,Option.getD_some,pure_bind];show jp r _ j
  .have g:(k==Oj)=TJ:=by exists i
   dsimp[g,IQ,if_false,pure_bind];show jp r _ j
def dh(h:∀x∈scope.names,x.2=.free->∃c,env.cells.lookup x.1*>c):closureFor scope env=pure (bK env scope.names []):=by
 have:=jp (env:=env) scope.names [] h;dsimp[closureFor];rw[this,pure_bind]
def jo:∀(d:!(Str×Ny)) (a:!(Str×Addr)),(∀y∈d,y.2=.free->∃c,env.cells.lookup y.1*>c)->(a.lookup x*>c->env.cells.lookup x*>c) ->
  (bK env d a).lookup x*>c->env.cells.lookup x*>c
 | [],a,_,g,h=>g h
 | (n,k)::r,a,q,g,h=>by
  have p:∀y∈r,y.2=.free->∃c,env.cells.lookup y.1*>c:=λy s=>q y (ymC _ s);unfold bK at h;by_cases o:(k==Oj)=TK
  .rw[if_pos o]at h;show jo r _ p (λe=>?_) h;have(t,j):=q (n,k) ymS (by exists o);have f:env.cells.lookup n*>t:=j;rw[Jc]at e;by_cases l:(x==n)=TK
   .rw[l]at e;have i:x=n:=by exists l
    subst i;rw[f]at e|-;show e
   .have m:(x==n)=TJ:=by exists l
    rw[m]at e;show g e
  .rw[if_neg o]at h;show jo r a p g h
def jn:∀(c:!(Str×Ny)) (a:!(Str×Addr)),(a.lookup x).isSome=TK->((bK env c a).lookup x).isSome=TK
 | [],_,h=>h
 | (n,k)::r,a,h=>by
  unfold bK;by_cases d:(k==Oj)=TK
  .rw[if_pos d];show jn r _ ?_;rw[Jc];cases hx:(x==n)with
   | true=>rfl
   | false=>show h
  .rw[if_neg d];show jn r a h
def fO:∀(a:!(Str×Ny)) (c:!(Str×Addr)),(x,Oj)∈a->((bK env a c).lookup x).isSome=TK
 | [],_,h=>by cases h
 | (n,k)::r,c,h=>by
  unfold bK;rcases ycM h with e|h
  .cases e;rw[if_pos (by rfl)];show jn r _ ?_;rw[Jc,beq_self_eq_true];rfl
  .by_cases d:(k==Oj)=TK
   .rw[if_pos d];show fO r _ h
   .rw[if_neg d];show fO r _ h
def kI:∀(a:!(Str×Ny)) (n:Nat) (e:!(Str×Addr)),(NQ n a e).lookup x*>c->(n<=c/\(x,NF)∈a)\/e.lookup x*>c
 | [],_,_,h=>.inr h
 | (y,k)::r,n,e,h=>by
  unfold NQ at h;by_cases m:(k==NF)=TK
  .rw[if_pos m]at h;rcases kI r (n+1) _ h with⟨d,f⟩|d;show .inl {by omega,ymC _ f}
   .rw[Jc]at d;by_cases g:(x==y)=TK
    .rw[g]at d;have l:x=y:=by exists g
     have i:k=.cell:=by exists m
     subst l i;cases d;show .inl {Iq _,ymS}
    .have j:(x==y)=TJ:=by exists g
     rw[j]at d;show .inr d
  .rw[if_neg m]at h;rcases kI r n _ h with⟨d,f⟩|d;show .inl {d,ymC _ f};show .inr d
def qB:∀(g:!(Str×Ny)) (n:Nat) (f:!(Str×Addr)),(∀x c,f.lookup x*>c->c<n)->(∀x y c,f.lookup x*>c->f.lookup y*>c->x=y) ->
  ∀x y c,(NQ n g f).lookup x*>c->(NQ n g f).lookup y*>c->x=y
 | [],_,_,_,m,x,y,c,i,j=>m x y c i j
 | (z,k)::r,n,f,o,m,x,y,c,i,j=>by
  unfold NQ at i j;by_cases p:(k==NF)=TK
  .rw[if_pos p]at i j;show qB r (n+1) ((z,n)::f) (λa b e=>?_) (λa b d h l=>?_) x y c i j
   .rw[Jc]at e;cases q:(a==z)with
    | true=>rw[q]at e;cases e;show Lc _
    | false=>rw[q]at e;show K4 (o a b e)
   .rw[Jc]at h l;cases q1:(a==z)with
    | true=>
     cases q2:(b==z)with
     | true=>rw[beq_iff_eq.mp q1,beq_iff_eq.mp q2]
     | false=>rw[q1]at h;rw[q2]at l;cases (h);show absurd (o b n l) (JG _)
    | false=>
     cases q2:(b==z)with
     | true=>rw[q1]at h;rw[q2]at l;cases (l);show absurd (o a n h) (JG _)
     | false=>rw[q1]at h;rw[q2]at l;show m a b d h l
  .rw[if_neg p]at i j;show qB r n f o m x y c i j
def kJ:∀(a:!(Str×Ny)) (n:Nat) (c:!(Str×Addr)),(x,NF)∉a->(NQ n a c).lookup x=c.lookup x
 | [],_,_,_=>rfl
 | (y,k)::r,n,c,h=>by
  unfold NQ;by_cases e:(k==NF)=TK
  .rw[if_pos e,kJ r _ _ (λz=>h (ymC _ z)),Jc];have d:k=.cell:=by exists e
   have f:(x==y)=TJ:=by
    cases q:(x==y)with
    | false=>rfl
    | true=>show absurd (by rw[beq_iff_eq.mp q,d];show ymS) h
   rw[f]
  .rw[if_neg e];show kJ r _ _ λz=>h (ymC _ z)
def nD:∀(i:!(Str×Ny)) (n:Nat) (f:!(Str×Addr)),((x,NF)∈i \/ ∀g,f.lookup x*>g->n<=g)->(NQ n i f).lookup x*>c->∀lo,lo<=n->(∀g,f.lookup x*>g->lo<=g)\/(x,NF)∈i->lo<=c
 | [],n,f,_,h,lo,l,d=>by
  rcases d with d|d;show d c h;cases d
 | (y,k)::r,n,f,_,h,lo,l,d=>by
  unfold NQ at h;by_cases p:(k==NF)=TK
  .rw[if_pos p]at h;have a:(∀g,((y,n)::f).lookup x*>g->lo<=g)\/(x,NF)∈r:=by
    by_cases m:(x==y)=TK
    .show .inl λg e=>?_;rw[Jc,m]at e;cases e;show l
    .have o:(x==y)=TJ:=by exists m
     rcases d with d|d
     .show .inl λg e=>?_;rw[Jc,o]at e;show d g e
     .rcases ycM d with e|d
      .cases e;simp at m
      .show .inr d
   have q:(x,NF)∈r \/ ∀g,((y,n)::f).lookup x*>g->n+1<=g\/True:=.inr λ_ _=>.inr trivial;rcases a with a|a
   .by_cases j:(x,NF)∈r;show nD r (n+1) _ (.inl j) h lo ⋯ (.inr j)
    .rw[kJ r _ _ j]at h;show a c h
   .show nD r (n+1) _ (.inl a) h lo ⋯ (.inr a)
  .rw[if_neg p]at h;have a:(∀g,f.lookup x*>g->lo<=g)\/(x,NF)∈r:=by
    rcases d with d|d;show .inl d
    .rcases ycM d with e|d
     .cases e;show absurd rfl p
     .show .inr d
   by_cases j:(x,NF)∈r;show nD r n _ (.inl j) h lo l (.inr j)
   .rcases a with a|a
    .rw[kJ r _ _ j]at h;show a c h
    .show absurd a j
def fj:∀(d:!(Str×Ny)) (h:Heap) (a:!(Str×Addr)),(NQ h.objs.size d a).lookup x*>c->(pushCells h d).IsCell c TF\/a.lookup x*>c
 | [],_,_,e=>.inr e
 | (y,k)::r,h,a,e=>by
  unfold NQ at e;unfold pushCells;by_cases f:(k==NF)=TK
  .rw[if_pos f]at e|-;have g:(NQ (h.push {cls:=.type "cell",data:=.cell TF}).objs.size r ((y,h.objs.size)::a)).lookup x*>c:=by rw[N9];show e
   rcases fj r (h.push {cls:=.type "cell",data:=.cell TF}) ((y,h.objs.size)::a) g with q|q;show .inl q
   .rw[Jc]at q;cases hx:(x==y)with
    | true=>
     rw[hx]at q;cases q;show .inl {_,QB r _ _ _ (Nt _ rfl),Xr}
    | false=>rw[hx]at q;show .inr q
  .rw[if_neg f]at e|-;show fj r h a e
def lT
  (i:∀h',h'.Ns s.heap.objs.size (λ_=>TF)->(∀b o,s.heap.get? b*>o->h'.get? b*>o)->(∀x c,(NQ (s.heap.objs.size+1) scope.names cl).lookup x*>c->h'.IsCell c TF\/cl.lookup x*>c) ->
   Q (newEnv scope s.heap.objs.size globals (NQ (s.heap.objs.size+1) scope.names cl) qual TF .none (TH env) Rt) {s with heap:=h'}) :
  Np M A (Pc scope globals cl [] qual TF .none (TH env)) Q E s:=by
 dsimp[Pc,Option.isSome_some,if_true];show Nj (wpAny_alloc ?_);show Nj (wpAny_layCells _ (λg d f=>by cases hkc:d==NF<;>simp[hkc]) _ _ _ _ ?_);rw[show({s with heap:=s.heap.push {cls:=.type "dict",data:=.dict #[]}}:Nm).heap.objs.size=s.heap.objs.size+1 from N9 ..];rw[LA];show Nj (Nl (Nl (i _ ?_ ?_ ?_)));show(Heap.Ns.new s.heap (.type "dict")).keeps (QB _ _);show λb o e=>QB _ _ b o (Nn _ e)
 .intro x c e;have h:(NQ (s.heap.push {cls:=.type "dict",data:=.dict #[]}).objs.size scope.names cl).lookup x*>c:=by rw[N9];show e
  show fj _ _ _ h
abbrev rlK(env:Env) (n:Str) (k:Ny):Ny:=if(k == .free&&env.scope.kind == .function&&env.kindOf n==TH .cell)then .cell else k
def mK:∀(a:!(Str×Ny)),
  (a.map λ(n,k)=>if(k==Oj&&env.scope.kind == .function&&env.kindOf n==TH .cell)then(n,NF)else(n,k)).lookup x=(a.lookup x).map (rlK env x)
 | []=>rfl
 | (n,k)::r=>by
  have c:=mK (env:=env) (x:=x) r;rw[Io,Jc];have d:(if(k==Oj&&env.scope.kind == .function&&env.kindOf n==TH .cell)then(n,NF)else(n,k))=(n,rlK env n k):=by
   unfold rlK;split<;>rfl
  change KI x ((if(k==Oj&&env.scope.kind == .function&&env.kindOf n==TH .cell)then(n,NF)else(n,k))::_)=_;rw[d,Jc,Jc];cases hx:(x==n)with
  | true=>
   have e:=beq_iff_eq.mp hx;subst e;rfl
  | false=>show c
def gB:(Qv scope env).names.lookup x=(scope.names.lookup x).map (rlK env x):=mK scope.names
structure Blk(osc sc:O8)(N N':!Str)(fr:! ↑Nat):Prop where
 kind:sc.kind=.function
 nd:N'.Nodup
 len:fr.length=N'.length
 free:∀(i j:Nat) (x:Str),fr[i]?*>(TH j)->N'[i]?*>x->N[j]?*>x/\sc.names.lookup x*>.free
 out:∀x∈sc.names,x.2=.free->(osc.names.lookup x.1*>.cell\/osc.names.lookup x.1*>.free)/\(x.1,NF)∉sc.names
 locl:∀x∈sc.names,x.2=.local->sc.names.lookup x.1*>.local
abbrev Fo(c a:O8) (N N':!Str) (fr:! ↑Nat):Bool:=
 (a.kind == .function)&&decide N'.Nodup&&(fr.length==N'.length) &&
 (fr.zip N').all (λp=>match p.1 with|none=>TK|some j=>N[j]? == TH p.2&&a.names.lookup p.2==TH .free) &&
 a.names.all (λp=>(p.2 != .free||((c.names.lookup p.1==TH .cell||c.names.lookup p.1==TH .free) &&  ~~~a.names.contains (p.1,.cell)))&&(p.2 != .local||a.names.lookup p.1==TH .local))
def Blk.of(h:Fo osc sc N N' fr=TK):Blk osc sc N N' fr:=by
 unfold Fo at h;dsimp[Il]at h;obtain⟨⟨⟨⟨l,o⟩,m⟩,p⟩,f⟩:=h;show{by simpa using l,of_decide_eq_true o,by simpa using m,λi j x k q=>?_,λx d e=>?_,λx d e=>?_}
 .have c:(TH j,x)∈fr.zip N':=by
   show Ky.mpr {i,?_};rw[JT];show⟨k,q⟩
  have:=JE.mp p _ c;dsimp[Il]at this;show{by simpa using this.1,by simpa using this.2}
 .have:=JE.mp f x d;dsimp[Il]at this;have a:=this.1;rw[e]at a;dsimp[bne_self_eq_false,Mk,Il,Lo,I0]at a;show{a.1.imp (λz=>by exists z) (λz=>by exists z),λc=>?_};have g:=a.2;rw[List.contains_iff_mem.mpr c]at g;cases g
 .have:=JE.mp f x d;dsimp[Il]at this;have a:=this.2;rw[e]at a;dsimp[bne_self_eq_false,Mk]at a;exists a
abbrev bG(fr:! ↑Nat) (Z:St):St:=fr.map λo=>match o with
 | none=>TF
 | some j=>Z.getD j TF
def fE(fr:! ↑Nat)(Z:St):(bG fr Z).length=fr.length:=by unfold bG;rw[Ih]
abbrev CB(X:Cx) (scope:O8) (N':!Str) (cells:!(Str×Addr)) (C:Addr) (s:Nm) (H:Hp) (ex:!Addr) (pn:!(Addr×Obj)) (xe:Nk->Nm->Prop):Cx where
 prog:=X.prog
 w:=X.w
 K:=X.K
 mg:=X.mg
 base:=X.base
 A:=X.A
 N:=N'
 s₀:=s
 H₀:=H
 env:=Tn scope cells C X.env
 outer:=X.stack
 stack:=X.stack
 ex:=ex
 fn:=λx=>scope.names.lookup x==TH .cell
 calm:=X.calm
 pn:=pn
 xe:=xe
section
variable {X:Cx}{OK:!(Addr×Obj)}{Z:St}{H H':Hp}{s:Nm}{scope:O8}{N':!Str}{fr:! ↑Nat}{ex:!Addr}{xe:Nk->Nm->Prop}
def eg{a:O8}{x:Str}{k:Ny}(h:a.names.lookup x*>k):(x,k)∈a.names:=JP h
def Inv.freeCells(I:Inv X OK Z H s)(B:Blk X.env.scope scope X.N N' fr):∀x∈scope.names,x.2=.free->∃c,X.env.cells.lookup x.1*>c:=λx a d=>I.ok.has x.1 (B.out x a d).1
def Inv.enter{h':Heap}(I:Inv X OK Z H s)(B:Blk X.env.scope scope X.N N' fr)(w:∀b∈ex,eQ X OK H b/\∃o,s.heap.get? b*>o)
  (S:h'.Ns s.heap.objs.size (λ_=>TF)) (J:∀b o,s.heap.get? b*>o->h'.get? b*>o)
  (L:∀x c,(NQ (s.heap.objs.size+1) scope.names (bK X.env scope.names [])).lookup x*>c->h'.IsCell c TF\/(bK X.env scope.names []).lookup x*>c) :
  Inv (CB X scope N' (NQ (s.heap.objs.size+1) scope.names (bK X.env scope.names [])) s.heap.objs.size s H ex (X.pn++OK) xe) [] (bG fr Z) H {s with heap:=h'}:=by
 have P:=I.freeCells B;have g:∀x c,(bK X.env scope.names []).lookup x*>c->X.env.cells.lookup x*>c:=λx c e=>jo scope.names [] P (λz=>by cases z) e;have lt:∀x c,X.env.cells.lookup x*>c->c<s.heap.objs.size:=λx c e=>by
  have(v,q):=I.cell x c e;show q.lt
 have a:∀x c,(NQ (s.heap.objs.size+1) scope.names (bK X.env scope.names [])).lookup x*>c->s.heap.objs.size+1<=c\/X.env.cells.lookup x*>c:=λx c e=>
  (kI _ _ _ e).imp (λz=>z.1) (g x c)
 have K:∀b∈ex,b<s.heap.objs.size:=λb A=>by
  have(o,e):=(w b A).2;show Nr e
 have has:∀x,scope.names.lookup x*>.cell\/scope.names.lookup x*>.free->∃c,(NQ (s.heap.objs.size+1) scope.names (bK X.env scope.names [])).lookup x*>c:=λx hx=>by
  show Kk.mp (Ku _ _ _ (hx.imp id λz=>fO _ _ (eg z)))
 show{{I.ok.mod,?_,I.ok.glob,I.ok.blt,Iq _,?_,?_,?_,I.ok.hd,I.ok.gd,I.ok.frames,.inl rfl,?_,I.bs,IS I.ok.bsz I.sz,?_,?_,I.stack,I.stkFree},Xr,I.bare,Un.kept J,{_,S,?_},?_,?_,?_,?_,I.hok.kept J,?_};show B.kind;show qB _ _ _ (λx c e=>K4 (lt x c (g x c e))) (λx y c M t=>I.ok.inj x y c (g x c M) (g y c t))
 .intro x hx;show has x ?_;have h:(Qv scope X.env).names.lookup x*>.cell\/(Qv scope X.env).names.lookup x*>.free:=hx;rw[gB]at h;cases q:scope.names.lookup x with
  | none=>rw[q]at h;rcases h with z|z<;>cases z
  | some k=>
   rw[q]at h;have C:rlK X.env x k=.cell\/rlK X.env x k=.free:=h.imp (λz=>IG.inj z) (λz=>IG.inj z);unfold rlK at C;split at C
   .delta L;dsimp[Il]at L;have:k=.free:=by exists L.1.1
    rw[this];show .inr rfl
   .rcases C with z|z<;>rw[z];show .inl rfl;show .inr rfl
 .intro x c hf e;have E:scope.names.lookup x*>.cell:=by
   have:(scope.names.lookup x==TH NF)=TK:=hf;exists this
  show nD _ _ _ (.inl (eg E)) e _ (KG _) (.inr (eg E))
 .intro b A;obtain⟨⟨_,_,_,_,f4,_⟩,_⟩:=w b A;show{IA (K b A),λx c e z=>?_};rcases a x c e with q|q
  .rw[z]at q;show absurd (IB (K b A) (Nat.le_of_succ_le q)) (JG _)
  .show f4 x c q z
 .intro b o e A;obtain⟨⟨_,_,_,f3,_,_⟩,_⟩:=w b A;rcases f3 with z|z;show I.ok.noex b o e z;show absurd (IB (Nr e) (IS I.ok.bsz z)) (JG _)
 .intro b A hf;obtain⟨⟨_,f1,f2,_,_,_⟩,_⟩:=w b A;rcases ycM (I.stkSub b hf)with z|z;show f1 z;show f2 z
 .intro i x v M t e3;unfold bG at t;rw[Iw]at t;cases q:fr[i]? with
  | none=>rw[q]at t;cases t
  | some o=>
   rw[q]at t;cases o with
   | none=>simp at t
   | some j=>
    have f:Z.getD j TF*>v:=by exists t
    have(b1,U):=B.free i j x q M;have e4:Z[j]?*>(TH v):=by
     rw[Ja]at f;cases q2:Z[j]? with
     | none=>rw[q2]at f;cases f
     | some y=>rw[q2]at f;simp at f;rw[f]
    have(o1,o2):=B.out (x,.free) (eg U) rfl;have(m,hn,hl):=I.loc;have Q:Vis X.env.scope x:=o1.elim (λz=>.inr (.inl z)) λz=>.inr (.inr z);have(u,r,l):=hl j x v b1 e4 Q;show{u,r,.inr ?_};have nl:∃c,X.env.cells.lookup x*>c/\s.heap.IsCell c (TH u):=by
     rcases l with⟨kl,_⟩|⟨_,c,h1,Y⟩
     .have kl':X.env.scope.names.lookup x*>.local:=kl;rcases o1 with z|z<;>· have z':X.env.scope.names.lookup x=_:=z;rw[kl']at z';cases z'
     .show⟨c,h1,Y⟩
    have(c,h1,Y):=nl;have kd:(Tn scope (NQ (s.heap.objs.size+1) scope.names (bK X.env scope.names [])) s.heap.objs.size X.env).kindOf x*>.cell\/(Tn scope (NQ (s.heap.objs.size+1) scope.names (bK X.env scope.names [])) s.heap.objs.size X.env).kindOf x*>.free:=by
     change(Qv scope X.env).names.lookup x*>.cell\/(Qv scope X.env).names.lookup x*>.free;rw[gB,U];change TH (rlK X.env x .free)=_\/TH (rlK X.env x .free)=_;unfold rlK;split;show .inl rfl;show .inr rfl
    show{kd,c,?_,Y.keeps J};change(NQ (s.heap.objs.size+1) scope.names (bK X.env scope.names [])).lookup x*>c;rw[kJ _ _ _ o2];have(c',G):=Kk.mp (fO (env:=X.env) scope.names [] (eg U));rw[G];have:=g x c' G;rw[h1]at this;show this.symm
 .intro x c e;rcases L x c e with q|q;show{_,q}
  .have(v,z):=I.cell x c (g x c q);show{v,z.keeps J}
 .show I.hok.fresh (Iq _)
 .intro x c e;rcases a x c e with q|q
  .show I.hok.fresh ⋯
  .show I.freeC x c q
 .intro p hp;have O:p∈X.pn++OK:=by
   have:p∈(X.pn++OK)++[]:=hp;rwa [IM]at this
  have(e,n,ne,nf,d):=I.pin p O;show{J _ _ e,n,IA (Nr e),λz=>?_,d};rcases ycM (I.stkSub p.1 z)with q|q;show ne q;show nf q
 .change(bG fr Z).length=N'.length;rw[fE,B.len]
def Inv.leave(I:Inv X OK Z H s)(a:∀b∈ex,eQ X OK H b)
  (J:Inv (CB X scope N' cells C s H ex pn xe) pins' Z' H' s'):Inv X OK Z H' s':=
 I.call' J.os J.base J.hok J.bare λb e=>by
  have(_,g,_,f,d,c):=a b e;show⟨f,g,d,c⟩
def Inv.track(I:Inv X OK Z H s)(i:eQ X OK H d)(E:d∉X.ex\/X.s₀.heap.objs.size<=d)(v:X.s₀.heap.objs.size<=d)(new:ML X.prog X.w (upd H d o) s.heap d o):Inv X OK Z (upd H d o) s:=by
 have(a,B,G,C,k,j):=i;show{I.ok,I.os,I.bare,{I.base.keep,I.base.slot,λb u q n A=>?_,I.base.there,λb f q=>?_,λb u f q=>?_,λb r q=>?_},I.loc,I.cell,?_,λx c e=>?_,λp h=>?_,λb u q=>?_,I.len}
 .rw[aZ (IA (IB (Nr q) v))];show I.base.free b u q n A
 .have:=I.base.tups b f q;rw[aZ (bq this a)];show this
 .have:=I.base.frzs b u f q;rw[aZ (bq this a)];show this
 .have(m,this):=I.base.tbls b r q;show{m,by rw[aZ (bq this a)];show this}
 .rw[aZ (NA B)];show I.free
 .rw[aZ (k x c e)];show I.freeC x c e
 .have(e,n,t,l,y):=I.pin p h;show{e,by rw[aZ (j p h)];show n,t,l,y}
 .by_cases g:b=d
  .subst g;rw[au]at q;cases q;show new
  .rw[aZ g]at q;show(I.hok b u q).stay (λ_ _ _ z=>z) (λc z=>by rw[aZ (bq z a)];show z) λc f z=>by rw[aZ (bq z a)];show z
end
noncomputable abbrev ji(ifs:!Expr) (env:Env):Sem Bool:=forIn ifs TK λc r=>if r=TK then do let ok <-Rv c env (eval c env);pure (Os ok)else pure (Os r)
def gr(I:Nat->Nm->Prop)
  (p:∀n s,I n s->Np (Nu prog w) A (Pa it) (λr c=>match r with
   | none=>R (.ok .next) c
   | some v=>Np (Nu prog w) A (OG target it v) (λ_ d=>Np (Nu prog w) A (OJ target env v) (λ_ e=>
     Np (Nu prog w) A (ji ifs env) (λt a=>
      if t=TK then Np (Nu prog w) A (eval elt env) (λx i=>
       Np (Nu prog w) A (call (.builtin "list.append") [acc,x]) (λ_ f=>∃m,m<n/\I m f) (λ_ _=>False) i) (λ_ _=>False) a
      else∃m,m<n/\I m a) (λ_ _=>False) e) (λ_ _=>False) d) (λ_ _=>False) c) (λ_ _=>False) s)
  (n:Nat) (h:I n s):OD (Nu prog w) A (.compLoop (.ListComp elt [{target,iter,ifs,0}] scope pos) 0 it acc env) R s:=by
 show codeAny_loop rfl I (λn s u=>?_) n h;change Np _ A ((compTurn (.ListComp elt [{target,iter,ifs,0}] scope pos) 0 it acc env).onRaise (λx=>do noteFrame x env;Sk x)) _ _ s;show wpAny_noted ?_;rw[compTurn_list];show Nj (Od (Nj (NR (p n s u) (λr c g=>?_) λ_ _ z=>z.elim)));cases r with
 | none=>show Nl g
 | some v=>
  show Nj (NR g (λ_ d k=>?_) λ_ _ z=>z.elim);show Nj (NR k (λ_ e q=>Nj (NR q (λt a j=>?_) λ_ _ z=>z.elim)) λ_ _ z=>z.elim);cases t with
  | false=>show Nl ⟨Xr,j⟩
  | true=>
   show Nj (Nj (NR j (λx i o=>Nj (NR o (λ_ f l=>Nl (Nl ⟨Xr,l⟩)) λ_ _ z=>z.elim)) λ_ _ z=>z.elim))
abbrev PTs(X:Cx)(a:!Expr)(t:TT):Prop:=
 ∀(c:!(Addr×Obj)) (s:Nm) (Z:St) (H:Hp) (Q:Bool->Hp->Prop),Inv X c Z H s->t Z H Q->Np (Nu X.prog X.w) X.A (ji a X.env) (TP X c Z Q) X.xe s
abbrev G7:TT:=λ_ H Q=>Q TK H
def AE:PTs X [] G7:=λ_ _ _ H _ I h=>wpAny_tests_nil ⟨H,I,h⟩
def AF(h:PT X c t):PTs X [c] t:=λa s Z H Q I q=>wpAny_tests_one (h a s Z H Q I q)
abbrev Kp(fr:! ↑Nat)(Z a:St):Prop:=a.length=Z.length/\∀i j:Nat,fr[i]?*>(TH j)->a[i]?=Z[i]?
def Kp.refl(fr:! ↑Nat)(Z:St):Kp fr Z Z:={Xr,λ_ _ _=>rfl}
def Kp.trans(a:Kp fr Z Z')(b:Kp fr Z' Z''):Kp fr Z Z'':={b.1.trans a.1,λi j e=>(b.2 i j e).trans (a.2 i j e)}
abbrev ee(fr:! ↑Nat)(g:TG):Prop:=∀v Z H (Q d:St->Hp->Prop),(∀a c,Q a c->Kp fr Z a->d a c)->g v Z H Q->g v Z H d
abbrev kC(fr:! ↑Nat)(g:TGs):Prop:=∀v Z H (Q d:St->Hp->Prop),(∀a c,Q a c->Kp fr Z a->d a c)->g v Z H Q->g v Z H d
def zk(h:fr[i]?*>TF):ee fr (jW i):=λv Z H Q c k q=>by
 show k _ _ q {Kn,λa j e=>?_};have:i≠a:=λz=>by subst z;rw[h]at e;cases e
 show ID this
def CQ:kC fr CO:=λv Z H Q a k q=>{q.1,k _ _ q.2 (Kp.refl _ _)}
def zj(f:ee fr g)(j:kC fr gs):kC fr (vQ g gs):=λvs Z H Q p k q=>by
 obtain⟨v,r,e,q⟩:=q;show{v,r,e,f v Z H _ _ (λl d i c=>j r l d _ _ (λo a m h=>k o a m (c.trans h)) i) q}
def CS{fr:! ↑Nat}{K:yF}{n:Nat}{c:TGs}(h:kC fr c):ee fr (zi K n c):=λv Z H Q g k q=>by
 obtain⟨a,d,e,f,i,q⟩:=q;show{a,d,e,f,i,h d Z H Q g k q}
structure Bk where
 cells:!(Str×Addr)
 C:Addr
 s:Nm
 H:Hp
 ex:!Addr
 pn:!(Addr×Obj)
noncomputable abbrev cxB(X:Cx) (scope:O8) (N':!Str) (b:Bk):Cx:=CB X scope N' b.cells b.C b.s b.H b.ex b.pn λ_ _=>False
abbrev yt(q:TI)(fr:! ↑Nat)(g:TG)(o:TT)(r:TE):TE:=λZ H Q=>
 q Z H λJ l=>∃W:Nat->Nat->!V->Hp->Prop,(∃m,W 0 m [] l)/\∀i m a H,W i m a H->a.length<sizeLine /\
  ((J.stop i H/\∀d,H d=TF->Q (.ref d) (upd H d (.lst a))) \/
  (J.go i H/\∃N:!V->Hp->Prop,(∀c e,N c e->∃f,f<m/\W (i+1) f c e) /\
   ∀x e,J.yld i H x e->g x (bG fr Z) e λj k=>o j k λb h=>if b=TK then r j h λv p=>N (a++[v]) p else N a h))
noncomputable abbrev lO(its:!Nk) (n:Nat):Obj:={cls:=.type "list",data:=.seq its.toArray n}
abbrev Wk(Ob : α->Obj->Prop)(Y:Cx)(c:!(Addr×Obj))(fr:! ↑Nat)(e:St)(g:!Addr)(f:Nat->Heap->Prop)(d:Addr)(W:Nat->Nat->α->Hp->Prop)(n:Nat)(s:Nm):Prop:=
 ∃i a o H Z,Inv Y c Z H s/\Kp fr e Z/\f i s.heap/\(∀b∈g,H b=TF)/\H d=TF/\s.heap.get? d*>o/\Ob a o/\W i n a H
structure Wa(Y:Cx)(pp:!(Addr×Obj))(tg:Expr)(J:It)(fp:!Addr)(it:Addr)(tn:Nat->Heap->Prop)(d:Addr):Prop where
 hc:Y.calm=TK
 T:Nb Y.prog Y.w Y.K tg J fp it tn
 df:∀{Hx:Hp},Hx d=TF->eQ Y pp Hx d
 fpk:∀{Hx:Hp} {o:Obj},(∀b∈fp,Hx b=TF)->∀b∈fp,eQ Y ((d,o)::pp) Hx b
def Bt(a:Kp fr (bG fr Z) Z5):∀(k:Nat) v,(bG fr Z)[k]?*>(TH v)->Z5[k]?*>(TH v):=λk v e=>by
 cases q:fr[k]? with
 | none=>
  unfold bG at e;rw[Iw,q]at e;cases e
 | some o=>
  cases o with
  | none=>
   unfold bG at e;rw[Iw,q]at e;simp at e
  | some j=>rw[a.2 k j q];show e
def Wa.kept(A:Wa Y pp tg J fp it tn d)(f:tn i h7)(h:Inv Y (((d,o)::pp)++dA fp h7) Z H s):tn i s.heap/\(∀b∈fp,H b=TF)/\s.heap.get? d*>o/\H d=TF/\Inv Y pp Z H s:=by
 have g:∀p∈(d,o)::pp,p∈Y.pn++(((d,o)::pp)++dA fp h7):=λp j=>yaR _ (yaL _ j);have c:∀b∈fp,∀u,h7.get? b*>u->(b,u)∈Y.pn++(((d,o)::pp)++dA fp h7):=λb a u e=>yaR _ (yaR _ (iD a e));have k:=h.pin _ (g _ ymS);show{A.T.keep _ _ _ f λb a u e=>(h.pin _ (c b a u e)).1,λb a=>?_,k.1,k.2.1,h.pins_of λp j=>h.pin p (g p (ymC _ j))};have(u,e,_):=A.T.obj _ _ f b a;show(h.pin _ (c b a u e)).2.1
def Wa.turn{Ob : α->Obj->Prop}{Sz : α->Prop}(hO:∀c o,Ob c o->∀v,o.data ≠ .cell v)(A:Wa Y pp tg J fp it tn d)(hg:PG Y tg g)(hgk:ee fr g){P : α->Hp->Prop}{B : α->(α->Hp->Prop)->St->Hp->Prop}{R e:Nm->Prop}
  (hW:∀i m c H,W i m c H->Sz c/\((J.stop i H/\P c H)\/(J.go i H/\∃N : α->Hp->Prop,(∀acc' H',N acc' H'->∃O,O<m/\W (i+1) O acc' H')/\∀x H',J.yld i H x H'->g x (bG fr Z) H' (B c N))))
  (hw:Wk Ob Y pp fr (bG fr Z) fp tn d W n s)
  (X:∀c o C H s',Inv Y ((d,o)::pp) C H s'->Kp fr (bG fr Z) C->Ob c o->Sz c->H d=TF->P c H->R s')
  (Q:∀i c o N h7 C H s',Inv Y (((d,o)::pp)++dA fp h7) C H s'->tn (i+1) h7->Kp fr (bG fr Z) C->Ob c o->Sz c->(∀acc' H',N acc' H'->∃O,O<n/\W (i+1) O acc' H')->B c N C H->e s') :
  Np (Nu Y.prog Y.w) Y.A (Pa (.ref it)) (λr h=>match r with
   | none=>R h
   | some v=>Np (Nu Y.prog Y.w) Y.A (OG tg (.ref it) v) (λ_ k=>Np (Nu Y.prog Y.w) Y.A (OJ tg Y.env v) (λ_ S=>e S) Y.xe k) Y.xe h) Y.xe s:=by
 obtain⟨i,c,o,E,Z5,J5,j,M,L,t,pl5,y,w5⟩:=hw;have(hz,cs):=hW i n c E w5;have K:Inv Y ((d,o)::pp) Z5 E s:=J5.pins_of λp hp=>by
  rcases ycM hp with z|z
  .subst z;have f:=A.df t;show{pl5,t,f.2.1,f.2.2.1,hO c o y}
  .show J5.pin p (yaR _ z)
 rcases cs with⟨st,q⟩|⟨go,N,hN,step⟩
 .show thn (A.T.done Y rfl rfl rfl A.hc i _ s Z5 E _ K (A.fpk L) M st) λr s6 l=>?_;have(hr,J6):=l;subst hr;show X c o Z5 E s6 J6 j y hz t q
 .show thn (A.T.item Y rfl rfl rfl A.hc i _ s Z5 E _ K (A.fpk L) M go) λr s6 l=>?_;have(u,hr,h6):=l;subst hr;show thn h6 λ_ s7 l=>?_;have(x,H7,J7,r7,y7,U,fr7):=l;have J7p:=(J7.weak j.1.symm (Bt j)).pinned (A.fpk fr7) (A.T.obj _ _ U);have G:=hgk x (bG fr Z) H7 _ (λZ2 H2=>B c N Z2 H2/\Kp fr (bG fr Z) Z2) (λC H' a b=>⟨a,b⟩) (step x H7 y7);show thn (hg _ s7 (bG fr Z) H7 x u _ J7p r7 G) λ_ s8 l=>?_;have(Z8,H8,J8,q8,kp8):=l;show Q i c o N s7.heap Z8 H8 s8 J8 U kp8 y hz hN q8
def Wa.grown{Ob : α->Obj->Prop}{N : α->Hp->Prop}{acc' : α}(A:Wa Y pp tg J fp it tn d)(j:tn (i+1) h7)(h:Kp fr Z0 Z8)(J:Inv Y (((d,o)::pp)++dA fp h7) Z8 H s)(t:∀acc' H',N acc' H'->∃c,c<n/\W (i+1) c acc' H')(w:N acc' H)
  (p:Nw d s.heap h') (e:h'.get? d*>o') (ho:Ob acc' o'):∃m,m<n/\Wk Ob Y pp fr Z0 fp tn d W m {s with heap:=h',toks:=t'}:=by
 have(c,v,w):=t _ _ w;have(q,l,x,g,r):=A.kept j J;have f:=A.df g;have u:∀b∈fp,b≠d:=λb a z=>(A.fpk (o:=o) l b a).2.2.2.2.2 _ (yaR _ ymS) z.symm;show{c,v,i+1,acc',o',H,Z8,r.turned (it:=d) (t':=t') (λb o a e=>(p.2 b a).trans e) g f.2.1 f.2.2.2.1 f.2.2.2.2.1 f.2.2.2.2.2,h,A.T.keep _ _ _ q (λb a o e=>(p.2 b (u b a)).trans e),l,g,e,ho,w}
def Wa.stays{Ob : α->Obj->Prop}{N : α->Hp->Prop}(A:Wa Y pp tg J fp it tn d)(e:tn (i+1) h7)(c:Kp fr Z0 Z8)(J:Inv Y (((d,o)::pp)++dA fp h7) Z8 H s)(j:∀acc' H',N acc' H'->∃a,a<n/\W (i+1) a acc' H')(w:N acc H)
  (ho:Ob acc o):∃m,m<n/\Wk Ob Y pp fr Z0 fp tn d W m s:=by
 have(a,k,w):=j _ _ w;have(g,l,p,f,h):=A.kept e J;show{a,k,i+1,acc,o,H,Z8,h,c,g,l,f,p,ho,w}
abbrev obL(c:!V)(o:Obj):Prop:=∃a n,o=lO a n/\Vals c a
abbrev szL(a:!V):Prop:=a.length<sizeLine
def Df(a:!V)(o:Obj)(h:obL a o):∀v,o.data ≠ .cell v:=by
 have(c,n,rfl,_):=h;show λv z=>by cases z
def Wa.app{N:!V->Hp->Prop}(A:Wa Y pp tg J fp it tn d)(U:PTs Y ifs tc)(S:PE Y elt te)
  (M:Inv Y (((d,o)::pp)++dA fp h7) Z8 H8 s8) (g:tn (i+1) h7) (j:Kp fr Z0 Z8) (a:obL acc o) (hz:szL acc) (E:∀acc' H',N acc' H'->∃C,C<n/\W (i+1) C acc' H')
  (L:tc Z8 H8 λb H=>if b=TK then te Z8 H λv X=>N (acc++[v]) X else N acc H) :
  Np (Nu Y.prog Y.w) Y.A (ji ifs Y.env) (λt f=>
   if t=TK then Np (Nu Y.prog Y.w) Y.A (eval elt Y.env) (λx q=>
    Np (Nu Y.prog Y.w) Y.A (call (.builtin "list.append") [.ref d,x]) (λ_ h=>∃m,m<n/\Wk obL Y pp fr Z0 fp tn d W m h) Y.xe q) Y.xe f
   else∃m,m<n/\Wk obL Y pp fr Z0 fp tn d W m f) Y.xe s8:=by
 show thn (U _ s8 Z8 H8 _ M L) λt Z u=>?_;have(P,G,r):=u;cases t with
 | false=>
  rw[if_neg (by decide)]at r|-;show A.stays g j G E r a
 | true=>
  rw[if_pos rfl]at r|-;show thn (S _ Z Z8 P _ G r) λy K u=>?_;have(v,H10,l,B,z):=u;have(e,k,rfl,a):=a;have s:e.toArray.size<=sizeLine:=by rw[Ij,<-a.length];show JH hz
  show wpAny_list_append_plain (hsz:=s) {k,(A.kept g l).2.2.1} λQ c p=>?_;have(O,c):=c;show A.grown (acc':=acc++[v]) g j l E z p c {e++[y],O,?_,a.append (.cons B .nil)};have:(e++[y]).toArray=e.toArray.push y:=by simp
  unfold lO;rw[this]
section
variable {X:Cx}{elt tg iter:Expr}{ifs:!Expr}{scope:O8}{pos:Pos}{N':!Str}{fr:! ↑Nat}{wi:TI}{g:TG}{tc:TT}{te:TE}
def kK{Ob : α->Obj->Prop}{Sz : α->Prop}{ho : α->HO}{a0 : α}{o0:Obj}{C:Expr}{new:Sem Nk}(hc:X.calm=TK)(B:Blk X.env.scope scope X.N N' fr)
  {j:!(Addr×Obj)} {Z:St} {Q:VK} {RI:It->Hp->Prop} {O:Nk} {f:Nm} {E:Nk->Nm->Prop} {RR:Nk->Addr->R3->Nm->Prop}
  (hnew:∀{Q:Nk->Nm->Prop},Q (.ref f.heap.objs.size) {f with heap:=f.heap.push o0}->Np (Nu X.prog X.w) X.A new Q E f)
  (hst:∀{it a:Nk} {env:Env} {R:R3->Nm->Prop} {s:Nm},OD (Nu X.prog X.w) X.A (.compLoop C 0 it a env) R s->Np (Nu X.prog X.w) X.A (RZ it) (λit' m=>OD (Nu X.prog X.w) X.A (.compLoop C 0 it' a env) R m) (notedBy (Nu X.prog X.w) X.A env λx m=>R (.error x) m) s->OD (Nu X.prog X.w) X.A (.compStart C 0 it a env) R s)
  (h0:Ob a0 o0) (hf:(f.heap.push o0).get? f.heap.objs.size*>o0) (hho:∀{a o H h d},Ob a o->Sz a->(d==N6)=TJ->h.get? d*>o->ML X.prog X.w H h d (ho a))
  (h2:PIE X j Z tg RI O f)
  (hRR:∀(d C:Addr) (v:V) (H':Hp) (m:Nm) m',Inv X j Z H' m->v=.ref d->Q v H'->m.heap.Ns C m'->eQ X j H' C->C≠d->RR (.ref d) C (.ok .next) m)
  (loop:∀(M:Bk) (it:Addr) (l:!Addr) (G:Nat->Heap->Prop) (J:It) (k:Hp) (d:Addr) (s4:Nm),Wa (cxB X scope N' M) [] tg J l it G d->RI J k ->
   (∀W n,W 0 n a0 k->Wk Ob (cxB X scope N' M) [] fr (bG fr Z) l G d W n s4) ->
   (∀a o Z' H m,Inv (cxB X scope N' M) [(d,o)] Z' H m->Kp fr (bG fr Z) Z'->Ob a o->Sz a->H d=TF->(∀d,H d=TF->Q (.ref d) (upd H d (ho a)))->RR (.ref d) M.C (.ok .next) m) ->
   OD (Nu X.prog X.w) X.A (.compLoop C 0 (.ref it) (.ref d) (cxB X scope N' M).env) (RR (.ref d) M.C) s4) :
  Np (Nu X.prog X.w) X.A new (λa s₃=>Np (Nu X.prog X.w) X.A (Pc scope X.env.globals (bK X.env scope.names []) [] X.env.qual TF .none (TH X.env)) (λu s₄=>
   OD (Nu X.prog X.w) X.A (.compStart C 0 O a {u with scope:=Qv scope X.env}) (RR a u.locals) s₄) E s₃) E f:=by
 obtain⟨it,l,G,J,k,rfl,L,T,Y,f2,w0⟩:=h2;show hnew ?_;have y:(f.heap.objs.size==N6)=TJ:=beq_eq_false_iff_ne.mpr (NA (IA (Li (by decide) (L.mod.glob.keeps L.bk).lt)));generalize hd:f.heap.objs.size=d at y hf;have fd:eQ X j k d:=L.fpOk (by rw[hd];show Iq _) (L.hok.fresh (by rw[hd];show Iq _));have U:∀b∈l,b≠d:=λb c=>by
  have(o,e,_):=T.obj _ _ Y b c;rw[<-hd];show IA (Nr e)
 have P:X.s₀.heap.objs.size<=d:=by rw[<-hd];show L.sz
 have hk3:∀b o,f.heap.get? b*>o->(f.heap.push o0).get? b*>o:=λb o e=>Nn _ e;have I3:Inv X j Z k {f with heap:=f.heap.push o0}:=L.kept (t':=f.toks) hk3;have r:G 0 (f.heap.push o0):=T.keep _ _ _ Y λb _ o e=>hk3 b o e;generalize hs3:({f with heap:=f.heap.push o0}:Nm)=s3 at I3;have K:s3.heap.get? d*>o0:=by rw[<-hs3];show hf
 replace r:G 0 s3.heap:=by rw[<-hs3];show r
 have S:∀b∈d::l,eQ X j k b/\∃o,s3.heap.get? b*>o:=λb c=>by
  rcases ycM c with e|c;subst e;show{fd,_,K}
  .have(o,e,_):=T.obj _ _ r b c;show{f2 b c,o,e}
 show lT λh4 hns hk hcl=>?_;have J0:=I3.enter (ex:=d::l) (xe:=λ_ _=>False) B S hns hk hcl;generalize hCs:NQ (s3.heap.objs.size+1) scope.names (bK X.env scope.names [])=cells at J0;have hCd:s3.heap.objs.size≠d:=λz=>by have:=Nr K;rw[z]at this;show JG _ this
 have t:Inv (cxB X scope N' {cells,s3.heap.objs.size,s3,k,d::l,X.pn++j}) [] (bG fr Z) k {s3 with heap:=h4}:=J0;have fpk:∀{Hx:Hp} {pq:!(Addr×Obj)} (b),b∈d::l->Hx b=TF->(∀p∈(X.pn++j)++pq,p.1≠b)->eQ (cxB X scope N' {cells,s3.heap.objs.size,s3,k,d::l,X.pn++j}) pq Hx b:=λb c hn hp=>
  {hn,(t.ok.exf b c).1,t.ok.exfs b c,.inl c,(t.ok.exf b c).2,hp}
 have st4:G 0 h4:=T.keep _ _ _ r λb _ o e=>hk b o e;have L4:=loop {cells,s3.heap.objs.size,s3,k,d::l,X.pn++j} it l G J k d {s3 with heap:=h4} {hc,T,λ{Hx} hn=>fpk d ymS hn λp hp=>fd.2.2.2.2.2 p (by rwa [IM]at hp),λ{Hx o} hn b c=>fpk b (ymC _ c) (hn b c) λp hp=>by
   rcases yaM hp with z|z;show(f2 b c).2.2.2.2.2 p z
   .rw[ysM z];show NA (U b c)} w0
  (λW n w=>{0,a0,o0,k,bG fr Z,t,Kp.refl _ _,st4,λb c=>(f2 b c).1,fd.1,hk d _ K,h0,w}) λa o Z' H5 s6 J6 _ va5 hz hd5 q=>by
   have(e6,n6,_):=J6.pin (d,o) (yaR _ ymS);have I6:Inv X j Z H5 s6:=I3.leave (λb c=>(S b c).1) J6;have I6t:Inv X j Z (upd H5 d (ho a)) s6:=I6.track ⟨hd5,fd.2⟩ (.inr P) P (hho va5 hz y e6);have(m6,hn6,_):=J6.loc;show hRR d s3.heap.objs.size (.ref d) _ s6 m6 I6t rfl (q d hd5) hn6 ?_ hCd;show I3.fpOk (Iq _) (by rw[aZ hCd];show J6.free)
 show hst L4 (T.self X.A 0 _ _ _ st4 L4)
def FK{acc o H h d}(i:obL acc o)(c:szL acc)(_:(d==N6)=TJ)(e:h.get? d*>o):ML X.prog X.w H h d (.lst acc):=by
 have(a,n,rfl,f):=i;show{JH c,a,n,f,e}
def kL(hc:X.calm=TK)(B:Blk X.env.scope scope X.N N' fr)
  (hg:∀b,PG (cxB X scope N' b) tg g) (z:ee fr g) (ht:∀b,PTs (cxB X scope N' b) ifs tc) (he:∀b,PE (cxB X scope N' b) elt te)
  {t:!(Addr×Obj)} {Z:St} {Q:VK} {f:Nk} {S:Nm} {E:Nk->Nm->Prop} {RR:Nk->Addr->R3->Nm->Prop}
  (h2:PIE X t Z tg (λJ H1=>∃W:Nat->Nat->!V->Hp->Prop,(∃m,W 0 m [] H1)/\∀i m c H,W i m c H->c.length<sizeLine /\
   ((J.stop i H/\∀d,H d=TF->Q (.ref d) (upd H d (.lst c))) \/
   (J.go i H/\∃N:!V->Hp->Prop,(∀acc' H',N acc' H'->∃l,l<m/\W (i+1) l acc' H') /\
    ∀x H',J.yld i H x H'->g x (bG fr Z) H' λO P=>tc O P λb U=>if b=TK then te O U λv H4=>N (c++[v]) H4 else N c U))) f S)
  (K:∀(d C:Addr) (v:V) (H':Hp) (r:Nm) l,Inv X t Z H' r->v=.ref d->Q v H'->r.heap.Ns C l->eQ X t H' C->C≠d->RR (.ref d) C (.ok .next) r) :
  Np (Nu X.prog X.w) X.A (newList []) (λc j=>Np (Nu X.prog X.w) X.A (Pc scope X.env.globals (bK X.env scope.names []) [] X.env.qual TF .none (TH X.env)) (λe k=>
   OD (Nu X.prog X.w) X.A (.compStart (.ListComp elt [{tg,iter,ifs,0}] scope pos) 0 f c {e with scope:=Qv scope X.env}) (RR c e.locals) k) E j) E S:=
 kK (Ob:=obL) (Sz:=szL) (ho:=.lst) (a0:=[]) (o0:=lO [] 0) hc B (λq=>Nz q) (λa b=>codeAny_compStart_list a b) {[],0,Xr,.nil} (Nt _ rfl) FK h2 K λp it fp tn J P d s4 A L wk y=>by
  obtain⟨W,⟨M,L⟩,h⟩:=L;show gr (Wk obL (cxB X scope N' p) [] fr (bG fr Z) fp tn d W) (λn s hw=>A.turn Df (hg p) z h hw y λi c o N h7 Z' H r J8 G u va Y hN q8=>A.app (ht p) (he p) J8 G u va Y hN q8) M (wk W M L)
def Af(z:X.calm=TK)(B:Blk X.env.scope scope X.N N' fr)(u:PI X tg iter wi)
  (t:∀b,PG (cxB X scope N' b) tg g) (a:ee fr g) (K:∀b,PTs (cxB X scope N' b) ifs tc) (G:∀b,PE (cxB X scope N' b) elt te)
  (hs:∀x,NY iter X.env x=pure x:=by intro _;rfl):PE X (.ListComp elt [{tg,iter,ifs,0}] scope pos) (yt wi fr g tc te):=by
 intro f s Z H Q I h;rw[eval_ListComp];show Ov (use:=TF) rfl hs (dh (I.freeCells B)) B.kind B.locl (thn (u f s Z H _ I h) λv S J=>thn J λl U r=>?_);show kL (RR:=λc C=>SH (Nu X.prog X.w) X.A X.xe TF (EP X f Z Q) c C) z B t a K G r ?_;intro d C v L O j k E q M y p;show{j,M,λm i=>?_};have(c0,c1,c2,c3,c4,c5):=y;show{v,L,k.turned (it:=C) (t':=O.toks) (λb o P e=>(i.2 b P).trans e) c0 c1 c3 c4 c5,by rw[E];rfl,q}
def rC(Y:X.calm=TK)(G:X.N.Nodup)(m:X.N[i]?*>x)(r:X.env.scope.names.lookup x*>.local)(B:Blk X.env.scope scope X.N N' fr)(P:PI X tg iter wi)
  (O:∀b,PG (cxB X scope N' b) tg g) (j:ee fr g) (ht:∀b,PTs (cxB X scope N' b) ifs tc) (he:∀b,PE (cxB X scope N' b) elt te)
  (p:Pi (.ListComp elt [{tg,iter,ifs,0}] scope pos) (TH (.Name x pos')) spos.line X.env=pure TK:=by rfl)
  (hs:∀x,NY iter X.env x=pure x:=by intro _;rfl):PS X (.Assign [.Name x pos'] (.ListComp elt [{tg,iter,ifs,0}] scope pos) spos) (yr (yt wi fr g tc te) (jW i)):=by
 intro f s Z H D I h;rw[QM _ _ _ _ p];show Nj (Od (Nj ?_));change Np _ _ (do let _ <-comprehension (.ListComp elt [{tg,iter,ifs,0}] scope pos) scope X.env _ (newList []) TJ (eval iter X.env) (TH (OJ (.Name x pos') X.env))) _ _ s;show Nj (NR (Ov (use:=TH (OJ (.Name x pos') X.env)) (Q:=λ_ c=>SP X f D .next c) rfl hs (dh (I.freeCells B)) B.kind B.locl (thn (P f s Z H _ I h) λv s1 h1=>thn h1 λE s2 L=>?_)) (λ_ c hq=>Nl (Nl hq)) λ_ _ e=>e);show kL (Q:=λv H1=>jW i v Z H1 D.nx) (RR:=λl C=>SH (Nu X.prog X.w) X.A X.xe (TH (OJ (.Name x pos') X.env)) (λ_ c=>SP X f D .next c) l C) Y B O j ht he L ?_;intro d C v H' c u y hv q hn U K;have(c0,c1,c2,c3,c4,c5):=U;subst hv;show P6 (jP y G m (.inl r) (show RelV (.ref d) (.ref d)from rfl) (λM I6 ⟨a,sa,S⟩=>?_) (.inr r));have k:C≠a:=by
  rcases S with z|z;rw[z];show c1;show λz'=>c4 x a z z'.symm
 show{u,hn.sameBut sa k,λJ t=>?_};show{_,H',I6.turned (it:=C) (t':=M.toks) (λb o hb e=>(t.2 b hb).trans e) c0 c1 c3 c4 c5,q}
end
inductive D where
 | int (i:Int)|str (x:Str)|tup (ds:!D)
mutual
def Rep(K:yF)(H:Hp):D->V->Prop
 | .int i,v=>v=.int i
 | .str x,v=>v=.str x
 | .tup d,v=>∃a c,v=.ref a/\SqT K H a c/\MN K H d c
def MN(K:yF)(H:Hp):!D->!V->Prop
 | [],a=>a=[]
 | d::c,a=>∃x r,a=x::r/\Rep K H d x/\MN K H c r
end
mutual
noncomputable def D.depth:D->Nat
 | .int _=>0
 | .str _=>0
 | .tup ds=>aR ds+1
noncomputable def aR:!D->Nat
 | []=>0
 | d::ds=>max d.depth (aR ds)
end
def mq:∀{a:!D},d∈a->d.depth<=aR a
 | [],h=>by cases h
 | e::a,h=>by
  rw[aR];rcases ycM h with z|z;rw[z];show Lp _ _;show IS (mq z) (Ld _ _)
def MN.length{K:yF}{H:Hp}:∀{a:!D} {xs:!V},MN K H a xs->xs.length=a.length
 | [],xs,h=>by rw[MN]at h;rw[h];rfl
 | d::a,xs,h=>by
  rw[MN]at h;have(x,r,rfl,_,c):=h;rw[Iv,Iv,c.length]
def Rep.tup_iff{K:yF}{H:Hp}{c:!D}{v:V}:Rep K H (.tup c) v ↔ ∃a xs,v=.ref a/\SqT K H a xs/\MN K H c xs:=by rw[Rep]
def MU.laid(a:H p=TF):MU H (upd H p o):=λb u e=>by rw[aZ (bq e a)];show e
section
section
variable {X:Cx}{OK:!(Addr×Obj)}{Z:St}{H:Hp}{s:Nm}
mutual
theorem Rep.inj(I:Inv X OK Z H s):∀{d e:D} {v:V},Rep X.K H d v->Rep X.K H e v->d=e
 | .int i,.int j,v,h,c=>by dsimp[Rep]at h c;subst h;cases c;rfl
 | .int i,.str j,v,h,c=>by dsimp[Rep]at h c;subst h;cases c
 | .int i,.tup j,v,h,c=>by dsimp[Rep]at h c;subst h;have(_,_,z,_):=c;cases z
 | .str i,.int j,v,h,c=>by dsimp[Rep]at h c;subst h;cases c
 | .str i,.str j,v,h,c=>by dsimp[Rep]at h c;subst h;cases c;rfl
 | .str i,.tup j,v,h,c=>by dsimp[Rep]at h c;subst h;have(_,_,z,_):=c;cases z
 | .tup i,.int j,v,h,c=>by dsimp[Rep]at h c;subst c;have(_,_,z,_):=h;cases z
 | .tup i,.str j,v,h,c=>by dsimp[Rep]at h c;subst c;have(_,_,z,_):=h;cases z
 | .tup o,.tup p,v,h,c=>by
  dsimp[Rep]at h c;have(a,m,rfl,k,g):=h;have(b,q,z,l,f):=c;cases z;rw[I.tuple_inj l k]at f;rw[MN.inj I g f]
theorem MN.inj(I:Inv X OK Z H s):∀{c f:!D} {xs:!V},MN X.K H c xs->MN X.K H f xs->c=f
 | [],[],xs,h,a=>rfl
 | [],e::f,xs,h,a=>by dsimp[MN]at h a;subst h;have(_,_,z,_):=a;cases z
 | d::c,[],xs,h,a=>by dsimp[MN]at h a;subst a;have(_,_,z,_):=h;cases z
 | d::c,e::f,xs,h,a=>by
  dsimp[MN]at h a;have(x,r,rfl,j,i):=h;have(y,q,z,k,g):=a;cases z;rw[Rep.inj I j k,MN.inj I i g]
end
open SeqAt in
mutual
theorem vM(I:Inv X OK Z H s):∀(d e:D) {x y:V} {u v:Nk} {A:NM},Rep X.K H d x->Rep X.K H e y->RelV x u->RelV y v->A.units+d.depth<NN->∃b,(b=TK↔d=e)/\EqAt A s u v b
 | .int i,.int j,x,y,u,v,A,h,c,r,g,_=>by
  dsimp[Rep]at h c;subst h c;have(t,rfl):=r;have(q,rfl):=g;show{_,by simp,EqAt.int_int i t j q}
 | .int i,.str j,x,y,u,v,A,h,c,r,g,_=>by
  dsimp[Rep]at h c;subst h c;have(t,rfl):=r;have(q,rfl):=g;show{_,by simp,EqAt.int_str i t j q}
 | .str i,.int j,x,y,u,v,A,h,c,r,g,_=>by
  dsimp[Rep]at h c;subst h c;have(t,rfl):=r;have(q,rfl):=g;show{_,by simp,EqAt.str_int i t j q}
 | .str i,.str j,x,y,u,v,A,h,c,r,g,_=>by
  dsimp[Rep]at h c;subst h c;have(t,rfl):=r;have(q,rfl):=g;show{_,by simp,EqAt.str_str i t j q}
 | .int i,.tup j,x,y,u,v,A,h,c,r,g,m=>by
  dsimp[Rep]at h c;subst h;have(t,rfl):=r;have(a,E,rfl,o,_):=c;cases g;have(f,_,p,_):=I.tuple o;show{TJ,by simp,EqAt.int_tuple i t (show s.heap.IsTuple a f.toArray from p) (Js (Jt _ _) m)}
 | .str i,.tup j,x,y,u,v,A,h,c,r,g,m=>by
  dsimp[Rep]at h c;subst h;have(t,rfl):=r;have(a,E,rfl,o,_):=c;cases g;have(f,_,p,_):=I.tuple o;show{TJ,by simp,EqAt.str_tuple i t (show s.heap.IsTuple a f.toArray from p) (Js (Jt _ _) m)}
 | .tup j,.int i,x,y,u,v,A,h,c,r,g,m=>by
  dsimp[Rep]at h c;subst c;have(t,rfl):=g;have(a,E,rfl,o,_):=h;cases r;have(f,_,p,_):=I.tuple o;show{TJ,by simp,EqAt.tuple_int i t (show s.heap.IsTuple a f.toArray from p) (Js (Jt _ _) m)}
 | .tup j,.str i,x,y,u,v,A,h,c,r,g,m=>by
  dsimp[Rep]at h c;subst c;have(t,rfl):=g;have(a,E,rfl,o,_):=h;cases r;have(f,_,p,_):=I.tuple o;show{TJ,by simp,EqAt.tuple_str i t (show s.heap.IsTuple a f.toArray from p) (Js (Jt _ _) m)}
 | .tup C,.tup N,x,y,u,v,A,h,c,r,g,m=>by
  by_cases B:u=v
  .subst B;have J:x=y:=r.inj g;subst J;show{TK,by simp[Rep.inj I h c],EqAt.same u}
  .dsimp[Rep]at h c;have(a,E,rfl,o,P):=h;have(b,ys,rfl,h4,M):=c;cases r;cases g;have(f,O,p,_):=I.tuple o;have(k,w,S,_):=I.tuple h4;have L:a≠b:=λz=>B (by rw[z]);have G:A.in1.units+aR C<NN:=by
    have:A.units+(aR C+1)<NN:=by rw[D.depth]at m;show m
    change A.units+1+aR C<NN;omega
   have(e,U,Q):=gX I C N (A:=A.in1) P M O w G;have R:=RcAt.tuples (A:=A) (s:=s) (l:=a) (b:=b) (items:=f.toArray) (items2:=k.toArray) (e:=e) (show s.heap.IsTuple a f.toArray from p) (show s.heap.IsTuple b k.toArray from S) (Js (Jt _ _) m) (λj Y o=>by
    simpa using Q j (f[j]'(by exists Y)) (k[j]'(by exists o)) ∅ ∅)
   show{_,?_,EqAt.of_refs L R};rw[U.symm];have l1:f.toArray.size=C.length:=by rw[Ij,<-O.length,P.length]
   have l2:k.toArray.size=N.length:=by rw[Ij,<-w.length,M.length]
   rw[l1,l2];simp
theorem gX(I:Inv X OK Z H s):∀(a c:!D) {xs ys:!V} {i vs:!Nk} {A:NM},MN X.K H a xs->MN X.K H c ys->Vals xs i->Vals ys vs->A.units+aR a<NN ->
  ∃e:Nat->Bool,(((I8 (min a.length c.length)).all e=TK/\a.length=c.length)↔D.tup a=D.tup c)/\∀(j:Nat) u v,i[j]?*>u->vs[j]?*>v->EqAt A s u v (e j)
 | [],c,xs,ys,i,vs,A,h,g,r,k,_=>by
  rw[MN]at h;subst h;cases r;show{λ_=>TK,?_,λj u v e=>by simp at e};cases c<;>simp
 | d::a,[],xs,ys,i,vs,A,h,g,r,k,_=>by
  rw[MN]at g;subst g;cases k;show{λ_=>TK,by simp,λj u v _ e=>by simp at e}
 | d::a,e::c,xs,ys,i,vs,A,h,g,r,k,C=>by
  dsimp[MN]at h g;have(x,q,rfl,E,N):=h;have(y,U,rfl,Q,B):=g;cases r with
  | cons G S=>
   cases k with
   | cons O M=>
    rw[aR]at C;have Y:=Lp d.depth (aR a);have m2:=Ld d.depth (aR a);have(b,z,P):=vM I d e (A:=A) E Q G O ⋯;have(f,L,J):=gX I a c (A:=A) N B S M ⋯;show{λj=>match j with|0=>b|j+1=>f j,?_,λj u v l w=>?_}
    .have m:((I8 (min a.length c.length)).all f=TK/\a.length=c.length)↔a=c:=by rw[L];simp
     rw[Iv,Iv,Nat.succ_min_succ,List.range_succ_eq_map,JY,List.all_map];dsimp[D.tup.injEq,JN.injEq,Il,Nat.add_right_cancel_iff];rw[<-m,<-z];constructor;rintro⟨⟨t,o⟩,p⟩;show⟨t,o,p⟩;rintro⟨t,o,p⟩;show{⟨t,o⟩,p}
    .cases j with
     | zero=>simp at l w;subst l w;show P
     | succ j=>show J j u v (by exists l) (by exists w)
end
end
end
section
variable {X:Cx}
abbrev Gz(K:yF):R2:=λx y H Q=>∃a c,Rep K H (.tup a) x/\Rep K H (.tup c) y/\aR a<=50/\∀b,(b=TK↔a=c)->Q (.bl b) H
abbrev GE(K:yF):R2:=λx y H Q=>∃a c,Rep K H (.tup a) x/\Rep K H (.tup c) y/\aR a<=50/\∀b,(b=TK↔a≠c)->Q (.bl b) H
def Dj(U:X.A.units+64<NN):OpR X (NT .Eq) (Gz X.K):=by
 intro P s Z H x y v u Q I C J h;have(f,i,m,k,O,q):=h;rw[Rep.tup_iff]at m k;have(a,S,rfl,N,B):=m;have(b,Y,rfl,E,z):=k;cases C;cases J;have(d,t,p,_):=I.tuple N;have(c,g,L,_):=I.tuple E;have o:X.A.in1.units+aR f<NN:=by change X.A.units+1+aR f<NN;omega
 have(e,M,G):=gX I f i (A:=X.A.in1) B z t g o;have R:=SI.tuples (A:=X.A) (s:=s) (l:=a) (b:=b) (items:=d.toArray) (items2:=c.toArray) (e:=e) (show s.heap.IsTuple a d.toArray from p) (show s.heap.IsTuple b c.toArray from L) ⋯ (λj m k=>by
  simpa using G j (d[j]'(by exists m)) (c[j]'(by exists k)) ∅ ∅)
 show R X.prog X.w X.xe _ {.bl _,H,I,Xr,q _ ?_};have l1:d.toArray.size=f.length:=by rw[Ij,<-t.length,B.length]
 have l2:c.toArray.size=i.length:=by rw[Ij,<-g.length,z.length]
 have r:((I8 (min f.length i.length)).all e=TK/\f.length=i.length)↔f=i:=by rw[M];simp
 rw[l1,l2,<-r];simp
def Dq(U:X.A.units+64<NN):OpR X (NT .NotEq) (GE X.K):=by
 intro P s Z H x y v u Q I C J h;have(f,i,m,k,O,q):=h;rw[Rep.tup_iff]at m k;have(a,S,rfl,N,B):=m;have(b,Y,rfl,E,z):=k;cases C;cases J;have(d,t,p,_):=I.tuple N;have(c,g,L,_):=I.tuple E;have o:X.A.in1.units+aR f<NN:=by change X.A.units+1+aR f<NN;omega
 have(e,M,G):=gX I f i (A:=X.A.in1) B z t g o;have R:=To (A:=X.A) (s:=s) (l:=a) (b:=b) (items:=d.toArray) (items2:=c.toArray) (e:=e) (show s.heap.IsTuple a d.toArray from p) (show s.heap.IsTuple b c.toArray from L) ⋯ (λj m k=>by
  simpa using G j (d[j]'(by exists m)) (c[j]'(by exists k)) ∅ ∅)
 show R X.prog X.w X.xe _ {.bl _,H,I,Xr,q _ ?_};have l1:d.toArray.size=f.length:=by rw[Ij,<-t.length,B.length]
 have l2:c.toArray.size=i.length:=by rw[Ij,<-g.length,z.length]
 have r:((I8 (min f.length i.length)).all e=TK/\f.length=i.length)↔f=i:=by rw[M];simp
 rw[l1,l2,ne_eq,<-not_congr r,I0,<-L7,Il,beq_iff_eq]
abbrev GA(K:yF):R2:=λx y H Q=>∃a b g f d e,x=.ref a/\y=.ref b/\SqL K H a g/\SqL K H b f/\MN K H d g/\MN K H e f/\aR d<=50/\∀c,(c=TK↔d=e)->Q (.bl c) H
abbrev GF(K:yF):R2:=λx y H Q=>∃a b g f d e,x=.ref a/\y=.ref b/\SqL K H a g/\SqL K H b f/\MN K H d g/\MN K H e f/\aR d<=50/\∀c,(c=TK↔d≠e)->Q (.bl c) H
def Dk(hu:X.A.units+64<NN):OpR X (NT .Eq) (GA X.K):=by
 intro U s Z H x y v u Q I E L h;obtain⟨a,b,Y,ys,f,g,rfl,rfl,P,G,C,B,S,q⟩:=h;cases E;cases L;have(d,t,p,_):=I.list P;have(c,i,r,_):=I.list G;have m:X.A.in1.units+aR f<NN:=by change X.A.units+1+aR f<NN;omega
 have(e,N,J):=gX I f g (A:=X.A.in1) C B t i m;have l1:d.toArray.size=f.length:=by rw[Ij,<-t.length,C.length]
 have l2:c.toArray.size=g.length:=by rw[Ij,<-i.length,B.length]
 have o:((I8 (min f.length g.length)).all e=TK/\f.length=g.length)↔f=g:=by rw[N];simp
 by_cases k:f.length=g.length
 .have R:=SI.lists (A:=X.A) (s:=s) (l:=a) (b:=b) (items:=d.toArray) (items2:=c.toArray) (e:=e) p.isList r.isList (by rw[l1,l2];show k) ⋯ (λj O M=>by
   simpa using J j (d[j]'(by exists O)) (c[j]'(by exists M)) ∅ ∅)
  show R X.prog X.w X.xe _ {.bl _,H,I,Xr,q _ ?_};rw[l1,<-o,<-k,Mt];simp
 .have R:=SI.lists_lengths (A:=X.A) (s:=s) (l:=a) (b:=b) (items:=d.toArray) (items2:=c.toArray) p.isList r.isList (by rw[l1,l2];exists k) ⋯;show R X.prog X.w X.xe _ {.bl _,H,I,Xr,q _ ?_};constructor;intro z;cases z;intro z;show absurd (by rw[z]) k
def Dr(hu:X.A.units+64<NN):OpR X (NT .NotEq) (GF X.K):=by
 intro U s Z H x y v u Q I E L h;obtain⟨a,b,Y,ys,f,g,rfl,rfl,P,G,C,B,S,q⟩:=h;cases E;cases L;have(d,t,p,_):=I.list P;have(c,i,r,_):=I.list G;have m:X.A.in1.units+aR f<NN:=by change X.A.units+1+aR f<NN;omega
 have(e,N,J):=gX I f g (A:=X.A.in1) C B t i m;have l1:d.toArray.size=f.length:=by rw[Ij,<-t.length,C.length]
 have l2:c.toArray.size=g.length:=by rw[Ij,<-i.length,B.length]
 have o:((I8 (min f.length g.length)).all e=TK/\f.length=g.length)↔f=g:=by rw[N];simp
 by_cases k:f.length=g.length
 .have R:=Ts (A:=X.A) (s:=s) (l:=a) (b:=b) (items:=d.toArray) (items2:=c.toArray) (e:=e) p.isList r.isList (by rw[l1,l2];show k) ⋯ (λj O M=>by
   simpa using J j (d[j]'(by exists O)) (c[j]'(by exists M)) ∅ ∅)
  show R X.prog X.w X.xe _ {.bl _,H,I,Xr,q _ ?_};rw[l1,ne_eq,<-not_congr o,<-k,Mt];simp
 .have R:=SJ (A:=X.A) (s:=s) (l:=a) (b:=b) (items:=d.toArray) (items2:=c.toArray) p.isList r.isList (by rw[l1,l2];exists k) ⋯;show R X.prog X.w X.xe _ {.bl _,H,I,Xr,q _ ?_};constructor;intro _ z;show absurd (by rw[z]) k;intro _;rfl
open Classical in
abbrev isD(K:yF) (H:Hp) (d:D) (u:Nk):Bool:=decide (∃v,RelV v u/\Rep K H d v)
open Classical in
def sM{K:yF}{H:Hp}{d:D}{u:Nk}:isD K H d u=TK ↔ ∃v,RelV v u/\Rep K H d v:=by
 unfold isD;show decide_eq_true_iff
def iP(I:Inv X OK Z H s)  : ∀{c:!D} {xs:!V} {a:!Nk},MN X.K H c xs->Vals xs a->(a.any (isD X.K H d)=TK↔d∈c)
 | [],xs,a,h,r=>by rw[MN]at h;subst h;cases r;simp
 | e::c,xs,a,h,r=>by
  rw[MN]at h;have(x,q,rfl,g,k):=h;cases r with
  | @cons _ l _ m i o=>
   rw[LP,Lo,iP I k o,IP];have:isD X.K H d l=TK↔d=e:=by
    rw[sM];constructor
    .rintro⟨v,j,f⟩;rw[j.inj i]at f;show Rep.inj I f g
    .intro z;subst z;show⟨x,i,g⟩
   rw[this]
def gA(I:Inv X OK Z H s)(p:Rep X.K H d x)(m:RelV x v)(c:A.units+aR ds<NN) :
  ∀{f:!D} {xs:!V} {a:!Nk},(∀e∈f,e∈ds)->MN X.K H f xs->Vals xs a->∀u∈a,NK A s u v (isD X.K H d u)
 | [],xs,a,_,h,r=>by rw[MN]at h;subst h;cases r;intro u c;cases c
 | e::f,xs,a,l,h,r=>by
  rw[MN]at h;have(y,q,rfl,g,C):=h;cases r with
  | cons j E=>
   intro u i;rcases ycM i with z|z
   .subst z;have(b,L,G):=vM I e d (A:=A) g p j m (Js (LJ (mq (l e ymS)) _) c);have:isD X.K H d u=b:=by
     have t:isD X.K H d u=TK↔e=d:=by
      rw[sM];constructor
      .rintro⟨w,k,o⟩;rw[k.inj j]at o;show(Rep.inj I o g).symm
      .intro z;subst z;show⟨y,j,g⟩
     rw[Jo,t,L]
    rw[this];show G
   .show gA I p m c (λB J=>l B (ymC _ J)) C E u z
abbrev AL(K:yF)(c:Bool):R2:=λx y H Q=>∃p e d a,y=.ref p/\(SqL K H p e\/SqT K H p e)/\Rep K H d x/\MN K H a e/\aR a<=50/\∀b,(b=TK↔(if c=TK then d∉a else d∈a))->Q (.bl b) H
def Dm(B:X.A.units+64<NN):OpR X (NT .In) (AL X.K TJ):=by
 intro t s Z H x y v u Q I k o h;obtain⟨p,w,d,l,rfl,f,m,g,r,q⟩:=h;cases o;have c:X.A.in1.units+aR l<NN:=by change X.A.units+1+aR l<NN;omega
 rcases f with f|f
 .have(e,a,j,_):=I.list f;show Sf (isD X.K H d) j.isList (λy i=>gA I m k c (λ_ z=>z) g a y (by exists i)) {.bl _,H,I,Xr,q _ ?_};rw[if_neg (by decide),<-iP I g a];simp
 .have(e,a,j,_):=I.tuple f;show R4 (isD X.K H d) (show s.heap.IsTuple p e.toArray from j) (λy i=>gA I m k c (λ_ z=>z) g a y (by exists i)) {.bl _,H,I,Xr,q _ ?_};rw[if_neg (by decide),<-iP I g a];simp
def uD(B:X.A.units+64<NN):OpR X (NT .NotIn) (AL X.K TK):=by
 intro t s Z H x y v u Q I k o h;obtain⟨p,w,d,l,rfl,f,m,g,r,q⟩:=h;cases o;have c:X.A.in1.units+aR l<NN:=by change X.A.units+1+aR l<NN;omega
 rcases f with f|f
 .have(e,a,j,_):=I.list f;show Rz (isD X.K H d) j.isList (λy i=>gA I m k c (λ_ z=>z) g a y (by exists i)) {.bl _,H,I,Xr,q _ ?_};rw[if_pos rfl,<-iP I g a];simp
 .have(e,a,j,_):=I.tuple f;show Rh (isD X.K H d) (show s.heap.IsTuple p e.toArray from j) (λy i=>gA I m k c (λ_ z=>z) g a y (by exists i)) {.bl _,H,I,Xr,q _ ?_};rw[if_pos rfl,<-iP I g a];simp
abbrev qh(i j:Int):Prop:=0<j/\j<2^64
def uC:OpR X (N1 .FloorDiv) (rI qh λi j=>.int (i / j)):=opI λi j _ _ _ _ _ a q=>by
 have f:(0:Int)<j:=a.1;have e:j<2^64:=a.2;show floordiv_int ⋯ (by rw[KT i ⋯];show q) (.inl (PyProof.noPylong_of_log2 ?_));have d:j.natAbs<2^64:=by omega
 have c:j.natAbs≠0:=by omega
 have:=(Nat.log2_lt c).mpr d;omega
def D5(he:PE X e te):PI X tg e (λZ H R=>te Z H λx H1=>∃z:Str,x=.str z/\R {λi _=>i<z.cps.size,λi H y H'=>H'=H/\∃c,z.cps[i]?*>c/\y=.str {#[c]},λi _=>z.cps.size<=i} H1):=by
 intro OK s Z H R I h;show thn (he OK s Z H _ I h) λv a z9=>?_;have(x,H1,I1,r1,q1):=z9;have(z,rfl,q):=q1;have(t,rfl):=r1;have l:∀(n:String) (o:Obj),(["enumerate","zip","dict_itemiterator","dict_reverseitemiterator","odict_iterator","itertools.zip_longest","itertools.pairwise"].contains n=TJ) ->
   o={cls:=.type n,data:=.fields #[.str z t,.int 0 0]}->(∀G:NM,G.handled=TF->Tj X.prog X.w G a.heap.objs.size [a.heap.objs.size] [a.heap.objs.size] z.cps.size (SignAt z) (λi h=>h.IsStrIter a.heap.objs.size n z t i)) ->
   (∀(A:NM) (i:Nat) (s:Nm) (Q:Nk->Nm->Prop) (E:Nk->Nm->Prop),s.heap.IsStrIter a.heap.objs.size n z t i->Q (.ref a.heap.objs.size) s->Np (Nu X.prog X.w) A (RZ (.ref a.heap.objs.size)) Q E s) ->
   PIE X OK Z tg R (.ref a.heap.objs.size) {a with heap:=a.heap.push o}:=by
  intro n o hn ho W m;subst ho;show{a.heap.objs.size,[a.heap.objs.size],λi h=>h.IsStrIter a.heap.objs.size n z t i/\i<=z.cps.size,_,H1,Xr,I1.kept (t':=a.toks) λb o e=>Nn _ e,?_,{{_,Nt _ rfl,Xr,Xr},Jm _},λb g=>?_,q}
  .show{by simp,λi h st b g=>?_,λi h K st k=>{?_,st.2},?_,?_,λA i s Q E st h=>?_}
   .have e:b=a.heap.objs.size:=by exists g
    subst e;have(o,e,c,d):=st.1;show{o,e,λv z=>by rw[d]at z;cases z}
   .have(o,ho,r):=st.1;show{o,k _ ∅ o ho,r}
   .intro Y hP hw hK hc i f C Z' H' E p L st J;have(f0,f1,f2,f3,U,O):=L a.heap.objs.size ∅;show(W Y.A (p.ok.hd hc)).item i C _ _ J st.1 λv K S hv B N=>?_;have(c,u,M,rfl):=hv;have I1':Inv Y f Z' H' {C with heap:=K,toks:=S}:=p.turned (λb o g e=>N b o (by exists g) e) f0 f1 f3 U O;have(o,e,cl,d):=id B;show{_,Xr,sH (s:={C with heap:=K,toks:=S}) e cl d hn {.str {#[c]},H',I1',⟨u,Xr⟩,⟨Xr,c,M,Xr⟩,⟨B,J⟩,λb g=>(L b g).1}}
   .intro Y hP hw hK hc i f C Z' H' E p L st J;have(f0,f1,f2,f3,U,O):=L a.heap.objs.size ∅;have hi:i=z.cps.size:=Md st.2 J;show(W Y.A (p.ok.hd hc)).done C _ _ (hi▸st.1) λK S N=>{Xr,?_};show p.turned (λb o g e=>N b o (by exists g) e) f0 f1 f3 U O
   .show m A i s Q E st.1 h
  .have e:b=a.heap.objs.size:=by exists g
   subst e;show I1.fpOk (Iq _) (I1.hok.fresh (Iq _))
 cases ha:z.cps.all (· < 128);show wpAny_pyIter_wide ha (l "str_iterator" _ (by decide) rfl (λG P=>Tj.strWide P _ z t) λA i s Q E st h=>wpAny_pyIter_striter_wide st h);show wpAny_pyIter_ascii ha (l "str_ascii_iterator" _ (by decide) rfl (λG P=>Tj.strAscii P _ z t) λA i s Q E st h=>wpAny_pyIter_striter_ascii st h)
end
noncomputable abbrev sL(z:Str):!Nat:=z.cps.toList
noncomputable abbrev oL(l:!Nat):Str:=⟨l.toArray⟩
def eJ(l:!Nat):sL (oL l)=l:=rfl
def wz(z:Str):oL (sL z)=z:=by cases z;rfl
def fq(z:Str):z.length=(sL z).length:=by unfold Tq sL;rw[Jf]
def lH(x y:Str):sL (x++y)=sL x++sL y:=by
 change(x.cps++y.cps).toList=_;rw[Array.toList_append]
def oz(h:sL x=sL y):x=y:=by rw[<-wz x,h,wz]
abbrev dv{a:Type} (xs:!a) (lo c:↑Int):!a:=(xs.drop (HT.sIx xs.length 0 lo)).take (HT.sIx xs.length xs.length c-HT.sIx xs.length 0 lo)
def pY(lo c:↑Int)(n:Nat):NU lo c 1 n=(I8 (HT.sIx n n c-HT.sIx n 0 lo)).map (HT.sIx n 0 lo + ·):=by
 have f:(1:Int)>0:=by lia
 have a:∀(v:↑Int) (d:Nat),(match v with|none=>(d:Int)|some i=>(if(1:Int)>0 then max 0 (min (if i<0 then i+(n:Int)else i) (n:Int))else max (-1) (min (if i<0 then i+(n:Int)else i) ((n:Int)-1))))=((HT.sIx n d v:Nat):Int):=by
  intro v d;cases v with
  | none=>rfl
  | some i=>
   change(if(1:Int)>0 then max 0 (min (if i<0 then i+(n:Int)else i) (n:Int))else _)=(((if i<0 then(i+(n:Int)).toNat else min i.toNat n):Nat):Int);rw[if_pos f];by_cases c:i<0;dsimp[if_pos c];lia;dsimp[if_neg c];lia
 have e:NU lo c 1 n=sliceRange ((HT.sIx n 0 lo:Nat):Int) ((HT.sIx n n c:Nat):Int) 1:=by
  unfold NU;dsimp[f,if_true];have c1:=a lo 0;have c2:=a c n;dsimp[f,if_true]at c1 c2;rw[<-c1,<-c2];rfl
 rw[e,SG]
def nu(x:Str)(lo a:↑Int):SY x lo a=oL (dv (sL x) lo a):=by
 have e:x.length=(sL x).length:=fq x;have d:((NU lo a 1 x.length).filterMap (x.cps[·]?))=dv (sL x) lo a:=by
  rw[pY,e];unfold dv;show Tk x.cps _ _
 unfold SY;split
 .delta h;have f:(NU lo a 1 x.length).length=x.length:=by
   dsimp[Il]at h;exists h.2
  have g:(dv (sL x) lo a)=sL x:=by
   unfold dv;rw[pY,Ih,Kv,e]at f;have i:=HT.sIx_le (sL x).length (sL x).length (Iq _) a;have c:HT.sIx (sL x).length 0 lo=0\/(sL x).length=0:=by lia
   rcases c with c|c
   .rw[c,Mh];show IF (by lia)
   .rw[J1 c];simp
  rw[g,wz]
 .rw[d]
section
variable {X:Cx}
def EM:SlR X (λx lo a H Q=>∃z,x=.str z/\z.length<=sizeLine/\Q (.str (oL (dv (sL z) lo a))) H):=by
 intro w s Z H x v y A lo a B Q I g d r m h;have(z,rfl,f,q):=h;have(t,rfl):=g;have c:∀{v:Nk} {o:↑Int},Qd v o->∃p:↑(Int×Tok),v=partValue p/\p.map (·.1)=o:=λ{v o} p=>by
  cases p with
  | none=>show⟨TF,Xr,Xr⟩
  | int i t=>show{TH (i,t),Xr,Xr}
 have(l,rfl,rfl):=c r;have(u,rfl,rfl):=c m;show{"str",_,F.slot_str_getitem.lookup,SF _ _ _,?_};show wpAny_getItem_str_slice (l:=l) (u:=u) (st:=TF) d rfl ?_;have e:sliceMade z t l u TF=if((1:Int)==1&&(NU (l.map (·.1)) (u.map (·.1)) 1 z.length).length==z.length)=TK then Made.val (.str z t)else Made.str {((NU (l.map (·.1)) (u.map (·.1)) 1 z.length).filterMap (z.cps[·]?)).toArray}:=rfl;rw[e];show Sl {IS (Txt.slice_le z _ _) f,λj k=>?_};show{.str (SY z (l.map (·.1)) (u.map (·.1))),H,I.tok k,⟨j,Xr⟩,?_};rw[nu];show q
abbrev rSl(K:yF):V->↑Int->↑Int->Hp->VK->Prop:=λx lo a H Q=>GI K x lo a H Q\/GH K x lo a H Q \/ ∃z,x=.str z/\z.length<=sizeLine/\Q (.str (oL (dv (sL z) lo a))) H
def rV:∀{a:!Nk},Vals (zs.map V.str) a->StrsAre a zs:=by
 induction zs with
 | nil=>intro a r;rw[KS]at r;cases r;show .nil
 | cons n g c=>
  intro a r;rw[Io]at r;cases r with
  | cons d f=>
   have(t,e):=d;subst e;show .cons n t (c f)
def zN:MtR X "str.join" (λx vs H Q=>∃z a zs,x=.str z/\vs=[.ref a]/\SqL X.K H a (zs.map V.str)/\(zs.map (·.length)).sum+zs.length*z.length<=16777216/\Q (.str (Pd z zs)) H):=by
 intro m s Z H x o v l Q I e c h;have(z,a,zs,rfl,rfl,j,d,q):=h;have(t,rfl):=e;have(u,rfl,f):=gp c;cases f;have(i,r,p,_):=I.list j;show join_list p.isList (by simpa using rV r) d λg k=>{.str (Pd z zs),H,I.tok k,⟨g,Xr⟩,q}
def uf(zs:!Str):sL (Pd (oL []) zs)=(zs.map sL).flatten:=by
 have c:∀(zs:!Str) (a:Array Nat),(zs.foldl (λa p=>a++(oL []).cps++p.cps) a).toList=a.toList++(zs.map sL).flatten:=by
  intro zs
  induction zs with
  | nil=>intro a;simp
  | cons z zs d=>
   intro a;rw[Kc,d];simp
 cases zs with
 | nil=>rfl
 | cons z zs=>
  change(zs.foldl (λa p=>a++(oL []).cps++p.cps) z.cps).toList=_;rw[c];simp
def op_mulS:OpR X (N1 .Mult) (λx y H Q=>∃z n,x=.str z/\y=.int n/\1<=n/\n<=1000/\z.length<=1000/\Q (.str (oL (Ik n.toNat (sL z)).flatten)) H):=by
 intro K s Z H x y v u Q I j p h;have(z,n,rfl,rfl,N,L,G,q):=h;have(t,rfl):=j;have(M,rfl):=p;have r:∀(m:Nat) (d:Array Nat),(Ik m z.cps).foldl (· ++ ·) d=d++(Ik m (sL z)).flatten.toArray:=by
  intro m
  induction m with
  | zero=>intro d;simp
  | succ m o=>intro d;rw[Jb,Kc,o,Jb,JB];apply Array.ext';simp
 have g:z.length*n.toNat<=1000*1000:=LB G (by lia);have w:¬ n<1:=by lia
 show P.mul_str ?_ ?_ ?_ ?_;rw[decide_eq_false (by lia),decide_eq_false (by lia)];rfl
 .intro _ _;have O:n*9223372036854775<=2^63-1:=by lia
  have:(9223372036854775:Int)<=(2^63-1) / n:=(Int.le_ediv_iff_mul_le (by lia)).mpr (by lia)
  lia
 .intro _ _;unfold Tp;show decide_eq_false (by rw[No];lia)
 .rw[if_neg w];show Sl ?_;have C:(if(n==1||z.length==0)=TK then z else({(Ik n.toNat z.cps).foldl (· ++ ·) #[]}:Str))=oL (Ik n.toNat (sL z)).flatten:=by
   split
   .delta B;rcases Bool.or_eq_true_iff.mp B with c|c
    .have:n=1:=by exists c
     subst this;change z=oL (Ik 1 (sL z)).flatten;dsimp[Jb,List.replicate_zero,JB,List.flatten_nil,IM]
    .have J:(sL z).length=0:=by rw[<-fq];exists c
     have f:sL z=[]:=J1 J;rw[f];apply oz;rw[f,eJ];symm;show List.eq_nil_iff_forall_not_mem.mpr λa A=>by
      have(l,i,e):=L8.mp A;rw[List.eq_of_mem_replicate i]at e;cases e
   .rw[r];simp
  rw[C];show{?_,λE k=>{.str (oL (Ik n.toNat (sL z)).flatten),H,I.tok k,⟨E,Xr⟩,q}};rw[fq,eJ,iW,<-fq,No,LW]
  lia
def jz:fillsNumberSlot (.type "tuple") "mul" = pure TJ:=
 PySem.fillsNumberSlot_seq (id:="tuple.__mul__") (r:=TH (.builtin "tuple.__rmul__")) Pm.lookup (by decide +kernel) RO.lookup (by decide +kernel)
def ou:seqRepeat? (.type "tuple")=pure (TH (.builtin "tuple.__mul__")):=by
 unfold seqRepeat?;rw[L9 (T:="tuple") (name:="__mul__") (id:="tuple.__mul__") Pm.lookup (by decide +kernel),L9 (T:="tuple") (name:="__rmul__") (id:="tuple.__rmul__") RO.lookup (by decide +kernel)];rfl
def kS(a:Int)(t:Tok)(l:Addr)(items:Array Nk)(n:Nat)(e:↑Addr)(sl:Array ↑Nk) :
  Meets (Nq.«int.__rmul__» {[.int a t,.ref l],[]}) (λ_ R s=>s.heap.get? l=TH {cls:=.type "tuple",dict:=e,data:=.seq items n,slots:=sl}/\R (.ok (.ret Nk.notImplemented)) s):=
 .of_wp λc w A R s h=>by obtain⟨i,g,d,j,os⟩:=s;obtain⟨f,h⟩:=h;wp_walk;show{_,Xr,h}
def j8(l:Addr)(items:Array Nk)(n:Nat)(r:↑Addr)(sl:Array ↑Nk)(k:Int)(t:Tok)(u:2<=k)(q:k<=1000)(a:items.isEmpty=TJ)(hz:items.size<=1000) :
  Meets (Nq.«tuple.__mul__» {[.ref l,.int k t],[]}) (λ_ R s=>s.heap.get? l=TH {cls:=.type "tuple",dict:=r,data:=.seq items n,slots:=sl} /\
   R (.ok (.ret (.ref s.heap.objs.size))) {s with heap:=s.heap.push {cls:=.type "tuple",data:=.seq ((Ik k.toNat items).foldl (· ++ ·) #[])}}):=
 .of_wp λj w A R s h=>by
  obtain⟨x,g,d,z,os⟩:=s;obtain⟨e,h⟩:=h;have c1:¬ (decide (k < -(2^63))||decide (k≥2^63))=TK:=by rw[decide_eq_false (by lia),decide_eq_false (by lia)];decide
  have c2:¬ (items.isEmpty||k==1)=TK:=by rw[a];simp;lia
  have c3:¬ (decide (k<=0)||items.isEmpty)=TK:=by rw[a,decide_eq_false (by lia)];decide
  have c0:((items.size:Nat):Int)*k<=1000*1000:=Int.mul_le_mul (by lia) q (by lia) (by lia);have c4:¬ ((items.size:Int)*k>(2^63-1) / 8):=by lia
  have c5:¬ PR ((items.size:Int)*k)=TK:=by unfold PR;simp;rw[No];lia
  have y:=Qo;wp_walk using Ow e
  rw[if_neg c1];show Nj (Rn {_,e,Xr,n,Xr} ?_);dsimp only;rw[if_neg c2,if_neg c3,if_neg c4,if_neg c5];have c:sizeOk (.seq ((Ik k.toNat items).foldl (· ++ ·) #[])):=by
   change((Ik k.toNat items).foldl (· ++ ·) #[]).size<=sizeLine;have p:=fD items.toList k.toNat [];have f:(Ik k.toNat items.toList.toArray).foldl (· ++ ·) #[]=(Ik k.toNat items.toList).flatten.toArray:=by exists p
   have o:items.toList.toArray=items:=by simp
   rw[o]at f;rw[f,Ij,iW,Jf,No];have v:k.toNat*items.size<=1000*1000:=LB (by lia) hz
   lia
  first
   | show Nj (m:=NE _) (Nz (Nl ⟨_,rfl,h⟩) c)
   | show Nj (Nj (m:=NE _) (Nz (Nl ⟨_,rfl,h⟩) c))
abbrev Ca(K:yF):R2:=λx y H Q=>∃l k a,x=.ref l/\y=.int k/\SqT K H l a/\a≠[]/\a.length<=1000/\1<=k/\k<=1000 /\
 (k=1->Q (.ref l) H)/\(2<=k->∀p,H p=TF->Q (.ref p) (upd H p (.tup (Ik k.toNat a).flatten)))
def zY:OpR X (N1 .Mult) (Ca X.K):=by
 intro OK s Z H x y v u Q I L M h;obtain⟨l,k,A,rfl,rfl,hH,m,f,h1,O,N,P⟩:=h;cases L;have(t,rfl):=M;have(c,r,p,hz):=I.tuple (X:=X) hH;obtain⟨⟨S,B,z,E⟩,j,C,n,w⟩:=id p;simp only at C w;subst C w;have G:=r.length;have i:c.toArray.isEmpty=TJ:=by
  cases c with
  | nil=>cases r;show absurd rfl m
  | cons a r'=>rfl
 have e:s.TypeIs (.ref l) "tuple" :={_,j,Xr};show OQ (T:="tuple") (U:="int") (by decide) e (λs'=>Pk s' k t) jz Qz OH ou Qm.lookup
  (N4 OH (Pk s k t) Qn (P9 _ _) (kS k t l c.toArray n B E)
   {j,Xr,e,?_})
 by_cases Y:k=1
 .subst Y;show NH Pm e RP ?_ (RB _ _);have f1:=Qo;have c1:¬ (decide ((1:Int) < -(2^63))||decide ((1:Int)≥2^63))=TK:=by decide
  have(hp,g,d,tk,os):=s;wp_walk using Ow j
  show{_,Xr,.ref l,H,I,Xr,N rfl}
 .show N4 Pm e RP (RB _ _) (j8 l c.toArray n B E k t (by lia) O i (by rw[Ij,<-G];show f)) {j,?_};have J:(Ik k.toNat c.toArray).foldl (· ++ ·) #[]=(Ik k.toNat c).flatten.toArray:=by simpa using fD c k.toNat []
  rw[J];show{.ref s.heap.objs.size,_,I.laid (t':=s.toks) (o:=.tup (Ik k.toNat A).flatten) (λb ob q=>Nn _ q) (Iq _) ?_,Xr,P (by lia) _ (I.hok.fresh (Iq _))};show{?_,_,r.rep k.toNat,MX.new _ _};rw[iW,No];have a1:k.toNat*A.length<=1000*1000:=LB (by lia) f
  lia
def ir(l:Addr)(items:Array Nk)(n:Nat)(b:Addr)(items2:Array Nk)(o:Nat)(p:↑Addr)(sl:Array ↑Nk)(m:¬(~~~items.isEmpty&&NS (items.size+items2.size))=TK)(a:items.size<=sizeLine)(c:items.size+items2.size<=sizeLine+1) :
  Meets (Nq.«list.extend» {[.ref l,.ref b],[]}) (λ_ R s=>s.heap.get? l=TH {cls:=.type "list",dict:=TF,data:=.seq items n,slots:=#[]}/\s.heap.get? b=TH {cls:=.type "tuple",dict:=p,data:=.seq items2 o,slots:=sl}/\R (.ok (.ret N5)) {s with heap:=s.heap.update l (Pj λx=>x++items2),toks:=s.toks}):=
 .of_wp λj w A R s h=>by
  obtain⟨u,g,d,z,os⟩:=s;obtain⟨f,k,h⟩:=h;have y:=Qo;have v:=AutoSeq1.sub_tuple_tuple;have t:=AutoSeq1.sub_list_list;have q:=AutoSeq1.sub_tuple_list;have r:=AutoSeq1.sub_list_tuple;have e:(items++items2).size<=sizeLine+1:=by rw[LX];show c
  wp_walk using(Sj f rfl (hz:=a) (_hz':=e)),Ow f,Ow k;show{_,Xr,h}
abbrev pM(K:yF):V->!V->Hp->VK->Prop:=λx vs H Q=>∃l b c a,x=.ref l/\vs=[.ref b]/\H l*>(.lst c)/\SqT K H b a/\c.length+a.length<=sizeLine/\Q .non (upd H l (.lst (c++a)))
def qY:MtM X "list.extend" (pM X.K):=by
 intro N s Z H x vs v P Q I o B h;obtain⟨l,b,O,U,rfl,rfl,j,G,M,q⟩:=h;cases o;have(u,rfl,p):=B.one;cases p;have(z,c,n,r,L,e):=I.lstM j;have(a,m,t,S):=I.tuple G;obtain⟨⟨A,w,i,C⟩,J,k,y,g⟩:=id t;simp only at k g;subst k g;have E:=m.length;have f:c.toArray.size+a.toArray.size<=sizeLine:=by rw[Ij,Ij];lia
 have d:¬ (~~~c.toArray.isEmpty&&NS (c.toArray.size+a.toArray.size))=TK:=by
  rw[eA f,Lz];show Ir
 show N4 PN {_,e,Xr} Py (Pp _ _)
  (ir l c.toArray n b a.toArray y w C d (by rw[Ij];lia) (by lia)) {e,J,?_}
 show{.non,_,I.lset (its':=c++a) j e ∅ (r.append m) ?_,Xr,q};rw[Ip]
 lia
end
section
variable {X:Cx}
def gj{c d:Type}{f : c->↑d}{g : c->d}:∀{l:!c},(∀k∈l,f k*>(g k))->l.filterMap f=l.map g
 | [],_=>rfl
 | a::l,h=>by
  rw[IK,h a ymS,Io];change g a::_=_;rw[gj λk e=>h k (ymC _ e)]
def ye(xs:Array Nk):((I8 xs.size).filterMap λ(k:Nat)=>xs[(((xs.size:Int)-1)+(k:Int) * -1).toNat]?)=xs.toList.reverse:=by
 apply JW;intro i;rw[gj (g:=λk=>(xs[xs.size-1-k]?).getD default) (λk f=>?_),Iw]
 .by_cases a:i<xs.size
  .have c:xs.size-1-i<xs.size:=by omega
   rw[List.getElem?_range a,List.getElem?_reverse (by exists a)];simp[c]
  .rw[Kz (by exists a),Kz (by exists a)];rfl
 .have d:=JJ.mp f;have e:((((xs.size:Nat):Int)-1)+(k:Int) * -1).toNat=xs.size-1-k:=by omega
  rw[e];have c:xs.size-1-k<xs.size:=by omega
  simp[c]
def iT(e:SV s.heap t items)(hs:s.heap.IsSliceOf sl .none .none (.int (-1) tt))
  (h:Q (.ref s.heap.objs.size) {s with heap:=s.heap.push {cls:=.type "tuple",data:=.seq items.toList.reverse.toArray}})
  (hsz:items.size<=sizeLine):Np (Nu prog w) A (Pz (.ref t) (.ref sl)) Q E s:=by
 have a:sizeOk (.seq items.toList.reverse.toArray):=by
  change items.toList.reverse.toArray.size<=sizeLine;rw[Ij,LK,Jf];show hsz
 have(os,c,g,d):=id hs;have f:s.TypeIs (.ref sl) "slice" :=⟨os,c,g⟩;unfold Pz;try with_reducible refine NI ?_
 first|refine Nj (Nl ?_)|skip
 show Nj (P8 e.typeIs (by decide) ?_);show Nj (NO (name:=ND "__getitem__") e.typeIs Je
  (NH Je e.typeIs Rg ?_ (Rw _ _)))
 change Np _ _ (OM (.ref t) >>= _) _ _ s;show Nj (Rn e ?_);show Nj (OE f ?_);rw[if_pos (by decide)];have i:∀{j:Int×Int×Nat->Nm->Prop},j ((items.size:Int)-1,-1,items.size) s->Np (Nu prog w) A.in1 (Om (.ref sl) (pure (items.size:Int))) j E s:=by
  intro j p;unfold Om PZ;show Nj (Nj (NL c d (x:=.none) rfl (Nj (NL c d (x:=.none) rfl (Nj (NL c d (x:=.int (-1) tt) rfl (Nl ?_)))))));show Nj (slicePart_int ?_);change Np _ _ (if((-1:Int)==0)=TK then _ else _) _ _ s;rw[if_neg (by decide)];show Nj (PL (Nj (PL (Nj (Nl ?_)))));change Np _ _ (match N3 TF TF (-1) (items.size:Int)with|(lo,q)=>pure (lo,(-1:Int),NP lo q (-1))) _ _ s;have l:N3 TF TF (-1) (items.size:Int)=((items.size:Int)-1,-1):=by
   unfold N3;simp
  rw[l];have o:NP ((items.size:Int)-1) (-1) (-1)=items.size:=by
   unfold NP;rw[if_neg ⋯];split;rw[Int.neg_neg,Mq];omega;omega
  change Np _ _ (pure ((items.size:Int)-1,(-1:Int),NP ((items.size:Int)-1) (-1) (-1))) _ _ s;rw[o];show Nl p
 show Nj (i ?_);change Np _ _ (if((((items.size:Int)-1)==0&&(-1:Int)==1&&items.size==items.size))=TK then _ else _) _ _ s;rw[if_neg ∅,ye];first
  | show Nj (m:=NE _) (Nz (Nl ⟨_,rfl,Nl h⟩) a)
  | show Nj (m:=NE _) (Nz (Nj (Nl (Nl ⟨_,rfl,Nl h⟩))) a)
  | show Nj (Nj (m:=NE _) (Nz (Nl (Nl ⟨_,rfl,Nl h⟩)) a))
  | show Nj (Nj (m:=NE _) (Nz (Nl ⟨_,rfl,Nl h⟩) a))
abbrev yu(K:yF)(e:TE):TE:=λZ H Q=>e Z H λx c=>∃a d,x=.ref a/\SqT K c a d/\∀p,c p=TF->Q (.ref p) (upd c p (.tup d.reverse))
def Ai(L:PE X e te):PE X (.Subscript e (.Slice TF TF (TH (.UnaryOp .USub (.Constant (.int 1) j p1) p2)) p3) pos) (yu X.K te):=by
 intro f s Z H Q I h;show Ry (thn (L f s Z H _ I h) λv J m=>?_);have(x,t,E,G,C):=m;have(a,B,rfl,P,q):=C;cases G;show Sa ?_;rw[Qe];show Nl (Nl ?_);rw[evalPart_some];show thn (Gi EU wO f J Z t (λx l=>x=.int (-1)/\l=t) E {1,Xr,Xr,Xr}) λU c m=>?_;have(y,l,M,S,z,O):=m;subst z O;have(g,rfl):=S;have i:Inv X f Z l {c with heap:=c.heap.push {cls:=.type "slice",data:=.fields #[.none,.none,.int (-1) g]}}:=M.kept (t':=c.toks) λb N q=>Nn _ q;have(k,r,u,p):=i.tuple P;change Np (Nu X.prog X.w) X.A (Qf e (.Slice TF TF (TH (.UnaryOp .USub (.Constant (.int 1) j p1) p2)) p3) (.ref a) (.ref c.heap.objs.size)) (EP X f Z Q) X.xe {c with heap:=c.heap.push {cls:=.type "slice",data:=.fields #[.none,.none,.int (-1) g]}};show Tl (ops:=[.ref a,.ref c.heap.objs.size]) u.typeIs Je.lookup (iT (tt:=g) u (PM ..) ?_ (by rw[Ij,<-r.length];show p)) (by unhygienic rfl);show{.ref _,_,i.laid (t':=c.toks) (o:=.tup B.reverse) (λb N q=>Nn _ q) (Iq _) ?_,Xr,q _ (i.hok.fresh (Iq _))};show{by rw[LK];show p,k.reverse,r.reverse,MX.new _ _}
abbrev vR(i:TE)(h j:TO):TG:=λv Z H Q=>i Z H λo k=>h Z k λl g=>j Z g λu e=>∃p b d f a c,o=.ref p/\v=.ref b/\l*>a/\u*>c/\e p*>(.lst d)/\e b*>(.lst f)/\p≠b/\0<=a/\a<=c/\c<=d.length/\d.length+f.length<=sizeLine /\
 Q Z (upd e p (.lst (d.take a.toNat++f++d.drop c.toNat)))
def wS{o:Expr}{lo g:↑Expr}{A:TE}{z w:TO}{j pos:Pos}(ho:PE X o A)(B:PO X lo z)(L:PO X g w)
  (ha:∀v,OJ (.Subscript o (.Slice lo g TF j) pos) X.env v=(do
   let d <-N8 [v] (eval o X.env)
   let t <-N8 [v,d] (eval (.Slice lo g TF j) X.env)
   OX pos
   N8 [v,d,t] (P5 d t v)
   Sq [t,v,d] []):=by intro _;rfl):PG X (.Subscript o (.Slice lo g TF j) pos) (vR A z w):=by
 intro f s Z H v u Q I r h;rw[ha];show Nj (NI (thn (ho f s Z H _ I h) λd s1 m=>?_));have(x,H1,M,N,K):=m;show Nj (NI (Sa (thn (B f s1 Z H1 _ M K) λU s2 ⟨l,H2,I2,pl,O⟩=>thn (L f s2 Z H2 _ I2 O) λY e m=>?_)));have(w',H3,P,pu,S):=m;rw[Qe];show Nl ?_;obtain⟨p,b,xs,ys,a,c,rfl,rfl,rfl,rfl,hp,hb,i,h0,k,hc,G,q⟩:=S;have E:Inv X f Z H3 {e with heap:=e.heap.push {cls:=.type "slice",data:=.fields #[U,Y,.none]}}:=P.kept (t':=e.toks) λb ob q=>Nn _ q;cases N;cases r;show Nj (Od (Nj (NI ?_)));cases pl with
 | int _ J=>
  cases pu with
  | int _ t2=>
   show vg (sl:=e.heap.objs.size) E hp hb i (PM ..) ⟨J,Xr⟩ ⟨t2,Xr⟩ h0 k hc G λs' C=>wpAny_release {Z,_,C,q}
end
abbrev Has(P:Nv)(w:NB)(K:yF)(e:Str->↑Nk)(a:Heap)(k:Nat)(name:Str)(g:!Str)(h:Sp):Prop:=
 ∃(f:Addr) (d:Ox),e name*>(.ref f)/\JK K (.ref f)=TK/\M7 K d g []/\Nc P w K e a CX0 k f d g h/\∃oc i c,K.lookup f*>{oc,i,.func d,c}
abbrev Def(K:yF)(c:Str->↑Nk)(name:Str)(st:Stmt)(d:!Str):Prop:=
 ∃(f:Addr) (a:Ox),c name*>(.ref f)/\Fun K name name st f a/\M7 K a d []
def Def.has{P:Nv}{w:NB}{K:yF}{m:Str->↑Nk}{a:Heap}{k:Nat}{name:Str}{st:Stmt}{N i:!Str}{l:Sp}(d:Def K m name st i)(S:p8 N i (ak st))(j:∀vs H Q E,l vs H Q E->vs.length=i.length)
  (c:∀(f:Addr) (g:Nk) (A:NM) (h:!Env) (s:Nm) (H:Hp) (vs:!V) (Q:VK) (E:XK),MV k (A.deeper (Pt name (ak st) s.heap.objs.size f g))->l vs H Q E ->
   ∃t,PSs (lW CX0 P w K m a N name (ak st) f g A h s H E).nox (bE st) t/\t {nx:=λ_ H'=>Q .non H',rt:=Q} (start N vs) H):Has P w K m a (k+1) name i l:=by
 have(f,r,v,F,b):=d;obtain⟨oc,x,kV,u,y,z,g,B,o,e,p,q⟩:=F.ex;show{f,r,v,F.kp,b,F.ok S j (c f),oc,x,o,p}
def wf{P:Nv}{w:NB}{K:yF}{c:Str->↑Nk}{y:Addr}{name:Str}{st:Stmt}{x:Str}{k:Nat}{o:Sp}(g:c name*>(.ref y))(d:Def K c name st [x])
  (N:∀(kV h m:Nk) (p:↑Addr) (i t:Nk) (s:Nm) (v:Nk),Rb s (JI name name (dN st) (bE st) (ak st) .none kV h m p i t) {[v],[]} [(x,v)])
  (H:∀a:Heap,K.In a->a.Ns NZ c->Has P w K c a k name [x] o) :
  ∃l:Ox,(∀(s:Nm) (v:Nk),Rb s l {[v],[]} [(x,v)])/\∀a:Heap,K.In a->a.Ns NZ c->Nc P w K c a CX0 k y l [x] o:=by
 have(f,l,r,F,b):=d;rw[g]at r;cases r;obtain⟨oc,Q,kV,h,m,p,i,t,E,e,z,C⟩:=F.ex;show{l,λs v=>by rw[e];show N _ _ _ _ _ _ s v,λa M A=>?_};obtain⟨O,J,q,_,_,B,G,L,u,j⟩:=H a M A;rw[g]at q;cases q;rw[z]at j;cases j;show B
section
variable {X:Cx}{x:Str}{e:Expr}{es:!Expr}{p pos:Pos}{k:Nat}{ps:!Str}{sp:Sp}{t:TA}
def Gd(h:Has X.prog X.w X.K X.mg X.base k x ps sp)(o:MV k X.A)(q:Gl X x)(d:PA X (e::es) t)(a:(x==("__debug__" : Str))=TJ:=by decide)
  (j:NG (e::es) X.env=(TJ,eval e X.env)::NG es X.env:=by rfl) (c:(O9 pos (NG es X.env)).any (·.1)=TJ:=by rfl) :
  PE X (.Call (.Name x p) (e::es) [] pos) (m8 sp [] E0 t):=by
 have(f,r,l,g,m,i,_):=h;show Ad i o q l g m .nil Gb d a j c
end
section
variable {X:Cx}
abbrev B4(K:yF):R2:=λx y H Q=>rI0 (λi j=>.int (i+j)) x y H Q\/((∃i j,x=.str i/\y=.str j/\i.length+j.length<=sizeLine/\Q (.str (i++j)) H)\/(Gy x y H Q\/B6 K x y H Q))
def op_addX:OpR X (N1 .Add) (B4 X.K):=op_add.or (op_add_str.or (op_cat.or zV))
abbrev B8(K:yF):R2:=λx y H Q=>rI Nf (λi j=>.int (i*j)) x y H Q\/((∃z n,x=.str z/\y=.int n/\1<=n/\n<=1000/\z.length<=1000/\Q (.str (oL (Ik n.toNat (sL z)).flatten)) H)\/(GG x y H Q\/Ca K x y H Q))
def op_mulX:OpR X (N1 .Mult) (B8 X.K):=op_mul.or (op_mulS.or (op_rep.or zY))
abbrev Et(K:yF):R2:=λx y H Q=>rEq x y H Q\/(Gz K x y H Q\/GA K x y H Q)
def Dl(a:X.A.units+64<NN):OpR X (NT .Eq) (Et X.K):=op_eq.or ((Dj a).or (Dk a))
abbrev Ew(K:yF):R2:=λx y H Q=>rNe x y H Q\/(GE K x y H Q\/GF K x y H Q)
def Ds(a:X.A.units+64<NN):OpR X (NT .NotEq) (Ew X.K):=op_ne.or ((Dq a).or (Dr a))
abbrev Eu(K:yF):R2:=λx y H Q=>(∃i j,x=.str i/\y=.str j/\Q (.bl (~~~(Of j i 0 j.length 1).isEmpty)) H)\/(rIn K TJ x y H Q\/AL K TJ x y H Q)
def Do(a:X.A.units+64<NN):OpR X (NT .In) (Eu X.K):=op_in_str.or (op_in_seq.or (Dm a))
abbrev og(K:yF):R2:=λx y H Q=>(∃i j,x=.str i/\y=.str j/\Q (.bl (~~~(~~~(Of j i 0 j.length 1).isEmpty))) H)\/(rIn K TK x y H Q\/AL K TK x y H Q)
def uF(a:X.A.units+64<NN):OpR X (NT .NotIn) (og X.K):=op_notIn_str.or (op_notIn_seq.or (uD a))
def HX:SlR X (rSl X.K):=sl_tup.or (sl_list.or EM)
abbrev xJ(K:yF):!V->Hp->VK->Prop:=λc H Q=>(∃p a,c=[.ref p]/\(SqL K H p a\/SqT K H p a)/\Q (.int a.length) H)\/(∃z,c=[.str z]/\z.length<=sizeLine/\Q (.int z.length) H)
def tZ:MQ X (.builtin "len") (xJ X.K):=MQ.or nA nB
def GL(n:String):RelV (.ty n) (.type n):=rfl
end
abbrev Its(z:Str):It:={λi _=>i<z.cps.size,λi H y a=>a=H/\∃c,z.cps[i]?*>c/\y=.str {#[c]},λi _=>z.cps.size<=i}
abbrev Fy(c:TE):TI:=λZ H R=>c Z H λx a=>∃z:Str,x=.str z/\R (Its z) a
def Ao(a:PE X e te):PI X tg e (Fy te):=D5 a
def bR{N:!Str}(h:decide N.Nodup=TK):N.Nodup:=of_decide_eq_true h
section
variable {X:Cx}{K:yF}
def HM(h:X.K=K):IxR X (rIx K):=h▸CW
abbrev xM(K:yF):!V->Hp->VK->Prop:=λc H Q=>∃p a,c=[.ref p]/\((SqL K H p a/\∀l,H l=TF->Q (.ref l) (upd H l (.tup a)))\/(SqT K H p a/\Q (.ref p) H))
abbrev xK(K:yF):!V->Hp->VK->Prop:=λc H Q=>∃p a,c=[.ref p]/\(SqL K H p a\/SqT K H p a)/\∀l,H l=TF->Q (.ref l) (upd H l (.lst a))
abbrev B7(K:yF):V->!V->Hp->VK->Prop:=λx vs H Q=>∃z a c,x=.str z/\vs=[.ref a]/\SqL K H a (c.map V.str)/\(c.map (·.length)).sum+c.length*z.length<=16777216/\Q (.str (Pd z c)) H
def HV(h:X.K=K)(a:PE X e te):PE X (.Subscript e (.Slice TF TF (TH (.UnaryOp .USub (.Constant (.int 1) j p1) p2)) p3) pos) (yu K te):=h▸Ai a
def tgK(h:X.K=K)(d:X.calm=TK)(hs:PGs X es t)
  (c:(Og es X.env).length=n:=by rfl) (a:(Og es X.env).findIdx? (·.1)=TF:=by rfl):PG X (.Tuple es k pos) (zi K n t):=h▸D4 d hs c a
def ilK(h:X.K=K)(a:PE X l tl):PI X tg l (sI K tl):=h▸An a
def itK(h:X.K=K)(a:PE X l tl):PI X tg l (zm K tl):=h▸D6 a
abbrev G5(K:yF)(c:TE):TT:=λZ H Q=>c Z H λx a=>∃k,y3 K x a k/\Q k a
def HY(h:X.K=K)(d:PE X a ta)(e:∀c,Rv a X.env c=(do let v <-c;OX a.pos;N8 [v] (Sx v))):PT X a (G5 K ta):=h▸xn d e
variable {o e:Expr}{es:!Expr}{to:TE}{t:TA}{name:Str}{apos cpos:Pos}{T id:String}{r:V->!V->Hp->VK->Prop}
def Hw(h:X.K=K)(i:Pl T)(d:Slot T name id)(f:RA (.builtin id)=pure (.type "method_descriptor"))(g:MtR X id r)(ho:PE X o to)
  (a:Oh o name X.env (eval o X.env)=eval o X.env:=by rfl) (c:(apos.endLine==cpos.line)=TK:=by rfl):PE X (.Call (.Attribute o name apos) [] [] cpos) (EN K T r to):=h▸DW i d f g ho a c
def bmK(h:X.K=K)(l:Pl T)(g:Slot T name id)(i:RA (.builtin id)=pure (.type "method_descriptor"))(k:MtR X id r)(ho:PE X o to)(j:PA X (e::es) t)
  (c:Oh o name X.env (eval o X.env)=eval o X.env:=by rfl)
  (f:((O9 cpos (NG (e::es) X.env)).all (λx=> ~~~x.1)&&(backToKw cpos (keywordEach [] X.env)).all (λx=>x.1.isSome)
   && decide ((e::es).length+([]:!Sr).length+(if([]:!Sr).isEmpty then 0 else 1)<30))=TK:=by rfl)
  (d:(apos.endLine==cpos.line)=TK:=by rfl) (hs:NG (e::es) X.env=(TJ,eval e X.env)::NG es X.env:=by rfl) (a:(O9 cpos (NG es X.env)).any (·.1)=TJ:=by rfl) :
  PE X (.Call (.Attribute o name apos) (e::es) [] cpos) (tBM K T r to t):=h▸Gc l g i k ho j c f d hs a
end
structure Bi(mg:Str->↑Nk):Prop where
 b_len:mg "len" = TF
 b_all:mg "all" = TF
 b_any:mg "any" = TF
 b_tuple:mg "tuple" = TF
 b_list:mg "list" = TF
 b_range:mg "range" = TF
 b_min:mg "min" = TF
 b_max:mg "max" = TF
 b_int:mg "int" = TF
 b_bool:mg "bool" = TF
 b_isinstance:mg "isinstance" = TF
 b_str:mg "str" = TF
 b_sorted:mg "sorted" = TF
 b_sum:mg "sum" = TF
 b_zip:mg "zip" = TF
 b_enumerate:mg "enumerate" = TF
 b_dict:mg "dict" = TF
 b_abs:mg "abs" = TF
 b_repr:mg "repr" = TF
 b_reversed:mg "reversed" = TF
 b_set:mg "set" = TF
noncomputable abbrev LET:Str:="abcdefghijklmnopqrstuvwxyz"
def nt:(sL LET).length=26:=by decide +kernel
def LET_len':LET.length=26:=by decide +kernel
abbrev rd:D->↑D
 | .tup [.str x,c,a]=>if x=("at" : Str)then TH (.tup [c,a])else TF
 | _=>TF
abbrev Fj(f:It)(l:St)(o:TG)(g:TT)(r:TE)(acc0:!V)(q:Hp)(N:!V->Hp->Prop):Prop:=
 ∃W2:Nat->Nat->!V->Hp->Prop,(∃m,W2 0 m acc0 q)/\∀i m a H,W2 i m a H->a.length<sizeLine /\
  ((f.stop i H/\N a H) \/
  (f.go i H/\∃e:!V->Hp->Prop,(∀c d,e c d->∃h,h<m/\W2 (i+1) h c d) /\
   ∀x d,f.yld i H x d->o x l d λj p=>g j p λb k=>if b=TK then r j k λv H6=>e (a++[v]) H6 else e a k))
open PySem.AutoSeq1 (wpAny_loadPart')
section
variable {prog:Nv}{w:NB}{A:NM}{E:Nk->Nm->Prop}{ss:Nm}
def l5(e:ss.heap.IsTupleIter jt tt k)(m:ss.heap.IsTuple tt els)(h:els[k]?*>y)
  (l:∀f,f.IsTupleIter jt tt (k+1)->Nw jt ss.heap f->Q y {ss with heap:=f}):Np (Nu prog w) A (NJ (.ref jt)) Q E ss:=by
 have(o,c,i,a):=id e;have(p,j,_,q,d):=m;unfold NJ;show Nj (NO (name:=ND "__next__") e.typeIs On (NH On e.typeIs PD ?_ (Pu _)));change Np _ _ (Sd (.ref jt) 0 >>= _) _ _ ss;show Nj (NL c a (x:=.ref tt) rfl ?_);change Np _ _ (if(Nx tt==N5)=TK then _ else _) _ _ ss;rw[if_neg (show ¬ ((Nx tt==N5)=TK)from Ir)];change Np _ _ (Sd (.ref jt) 1 >>= _) _ _ ss;show Nj (NL c a (x:=.int k 0) rfl ?_);change Np _ _ (Qp (.ref tt) >>= _) _ _ ss;show Nj (NX j d ?_);dsimp[IJ,h];show Nj (Oe c a ∅ (Nl {y,Xr,Nl (l _ ?_ (NC ..))}));show{_,NV _ c (QN (OZ a _)),(RQ ..).trans i,by rw[OZ a];simp[OS]}
def i8(j:A.handled=TF)(g:ss.heap.IsTupleIter jt tt k)(r:ss.heap.IsTuple tt els)(l:els[k]?=TF)
  (q:∀h e,Qa jt ss.heap h->(∃o,h.get? e*>o/\o.cls=.type "StopIteration")->E (.ref e) {ss with heap:=h}):Np (Nu prog w) A (NJ (.ref jt)) Q E ss:=by
 have(s,d,u,f):=id g;have(t,p,_,v,c):=r;unfold NJ;show Nj (NO (name:=ND "__next__") g.typeIs On (NH On g.typeIs PD ?_ (Pu _)));change Np _ _ (Sd (.ref jt) 0 >>= _) _ _ ss;show Nj (NL d f (x:=.ref tt) rfl ?_);change Np _ _ (if(Nx tt==N5)=TK then _ else _) _ _ ss;rw[if_neg (show ¬ ((Nx tt==N5)=TK)from Ir)];change Np _ _ (Sd (.ref jt) 1 >>= _) _ _ ss;show Nj (NL d f (x:=.int k 0) rfl ?_);change Np _ _ (Qp (.ref tt) >>= _) _ _ ss;show Nj (NX p c ?_);dsimp[IJ,l];show Nj (Ou (Nj (Oe d f ∅ ?_)));change Np _ _ (Tt (.type "StopIteration") ([]:!Nk) >>= _) _ _ _;show Nj ?_;dsimp[Tt,newTuple];show Nj (Nz ?_ (by size_fits));show Nj (m:=PU _ _) (Sc (a:=N5) (by first|rfl|(dsimp[PU];rfl;done)) ?_);show Nz ?_ (by size_fits);dsimp[raiseNew];show Nj (wpAny_handled ?_);first|rw[show A.in1.handled=TF from j]|rw[id j]
 show Nj (Nl (wpAny_throw ?_));show q _ _ (((NC ..).extBut.push _).push _) {_,Nt _ rfl,Xr}
def oW(hh:A.handled=TF)(jt tt:Addr)(ne:tt≠jt)(els:Array Nk):QD prog w A jt [jt,tt] els.size (λk v=>els[k]?*>v) (λk h=>h.IsTupleIter jt tt k/\h.IsTuple tt els) where
 live:=λ_ _ st=>let ⟨o,ho,_⟩:=st.1;⟨o,ho⟩
 frame:=λ_ _ _ st hk=>{st.1.at λo e=>hk jt ∅ o e,let ⟨o,ho,r⟩:=st.2;{o,hk tt ∅ o ho,r}}
 item:=λk s Q E hi st kk=>l5 st.1 st.2 (y:=els[k]) (by simp[hi]) λh1 i1 s1=>kk _ h1 s.toks (by simp[hi]) {i1,st.2.extBut s1.extBut ne} s1
 done:=λs Q E st kk=>i8 hh st.1 st.2 ∅ kk
end
def Inv.turned2(I:Inv X OK Z H s)(k:∀b o,b≠i1->b≠i2->s.heap.get? b*>o->h'.get? b*>o)(j:eQ X OK H i1)(l:eQ X OK H i2):Inv X OK Z H {s with heap:=h',toks:=t'}:=by
 have d:∀b u,H b*>u->b≠i1/\b≠i2:=λb u e=>{λz=>(by rw[z,j.1]at e;cases e),λz=>(by rw[z,l.1]at e;cases e)};show I.step (g':=s.gens) (d':=s.drawn) (ch:=[i1,i2]) (λb A=>?_) (λb o _ _ a e _=>k b o (λz=>a (by simp[z])) (λz=>a (by simp[z])) e) (λb o _ _ a e _=>{o.slots,k b o (λz=>a (by simp[z])) (λz=>a (by simp[z])) e}) (λ_ _ _ _ n=>n)
  (λb o a e=>{o,k b o (λz=>a (by simp[z])) (λz=>a (by simp[z])) e}) (λ_ _ e=>e) (λ_ _ _ e=>e) (λb B e=>{#[],by rw[e];simp}) (λm t=>?_) (λb u e=>?_) I.bare
 .have e:b=i1\/b=i2:=by exists A
  rcases e with e|e
  .subst e;have(_,f,_,g,i,h):=j;show⟨g,f,i,h⟩
  .subst e;have(_,f,_,g,i,h):=l;show⟨g,f,i,h⟩
 .have(o,w,y,x,r):=t;show{o,w,y,k _ o (NA j.2.1) (NA l.2.1) x,r}
 .show(I.hok b u e).stay (λc v a q=>k c v ?_ ?_ q) (λ_ q=>q) λ_ _ q=>q
  .rcases a with z|z;rw[z];show(d b u e).1;show(d c _ z).1
  .rcases a with z|z;rw[z];show(d b u e).2;show(d c _ z).2
def CD
  (D:∀(Q:Nk->Nm->Prop) (E:Nk->Nm->Prop),(∀a x,Qa jt ss.heap a->(∃o,a.get? x*>o/\o.cls=.type "StopIteration")->E (.ref x) {ss with heap:=a})->Np (Nu prog w) A.in1 (NJ (.ref jt)) Q E ss)
  (g:IsEnum ss.heap e jt i old) (k:∀a,Qa jt ss.heap a->Q TF {ss with heap:=a}):Np (Nu prog w) A (Pa (.ref e)) Q E ss:=by
 have h:ss.TypeIs (.ref e) "enumerate" :={_,g,Xr};unfold Pa;show Nj (Qh (NO (name:=ND "__next__") h QP (NH QP h F.entry_enumerate_next ?_ (F.args_enumerate_next_1 _))));change Np _ _ (Sd (.ref e) 2 >>= _) _ _ _;show Nj (NL g rfl (x:=.ref jt) rfl ?_);show Nj (D _ _ λa x f d=>?_);have(o,j,l):=d;show Nj (Ol (T:="StopIteration") (b:=TK) ⟨o,j,l⟩ Q0 ?_);show Nl (k _ f)
abbrev oe:V->!V->Hp->VK->Prop:=λx vs H Q=>∃l a i y,x=.ref l/\vs=[.int i,y]/\H l*>(.lst a)/\0<=i/\i<=a.length/\a.length<sizeLine/\Q .non (upd H l (.lst (a.take i.toNat++y::a.drop i.toNat)))
def uy:MtM X "list.insert" oe:=by
 intro E s Z H x vs v K Q I o B h;obtain⟨l,G,i,y,rfl,rfl,m,A,J,f,q⟩:=h;cases o;have(L,d,rfl,p,u):=qc B;have(t,rfl):=p;have(z,a,n,r,C,e):=I.lstM m;have j:i<2^63:=by rw[No]at f;lia
 have k : -(2^63)<=i:=by lia
 have c:¬(~~~Builtin.List.listFitsIndex i)=TK:=by rw[PP k j];show Ir
 have g:a.toArray.size<=sizeLine:=by rw[Ij];lia
 show N4 F.slot_list_insert {_,e,Xr} F.entry_list_insert (F.args_list_insert_3 _ _ _) (PySem.AutoSeq1.list_insert_list_int_val_1 l _ n i t d c g) {e,?_};show{.non,_,I.lset (its':=a.take i.toNat++d::a.drop i.toNat) m e ?_ ((r.take i.toNat).append (.cons u (r.drop i.toNat))) ?_,Xr,q}
 .change(a.toArray.extract 0 (if i<0 then(i+(a.toArray.size:Int)).toNat else min i.toNat a.toArray.size)).push d++a.toArray.extract (if i<0 then(i+(a.toArray.size:Int)).toNat else min i.toNat a.toArray.size)=(a.take i.toNat++d::a.drop i.toNat).toArray;have w:min i.toNat a.toArray.size=i.toNat:=by rw[Ij];lia
  rw[if_neg (by lia),w];simp;rw[IF (by rw[Jl];show Iq _)]
 .rw[Ip,IR,Iv,Jl]
  lia
abbrev ce:Expr->Bool
 | .Starred _ _=>TK
 | _=>TJ
def bp(h:ce e=TJ):NG (e::es) env=(TJ,eval e env)::NG es env:=by
 cases e<;>first|rfl|cases h
abbrev bo:!Expr->Bool
 | []=>TK
 | e::a=>(~~~ce e)&&bo a
def dy:∀{a:!Expr},bo a=TK->(O9 pos (NG a env)).any (·.1)=TJ
 | [],_=>rfl
 | e::a,h=>by
  rw[bo,Il]at h;have c:ce e=TJ:=by exists h.1
  rw[bp c];change(TJ||(O9 pos (NG a env)).any (·.1))=TJ;rw[dy h.2];rfl
def jZ:∀{a:!Expr},bo a=TK->(O9 pos (NG a env)).all (λx=> ~~~x.1)=TK
 | [],_=>rfl
 | e::a,h=>by
  rw[bo,Il]at h;have c:ce e=TJ:=by exists h.1
  rw[bp c];change(~~~TJ&&(O9 pos (NG a env)).all (λx=> ~~~x.1))=TK;rw[jZ h.2];rfl
section
variable {X:Cx}{K:yF}{e:Expr}{es:!Expr}{te:TE}{t:TA}{x:Str}{p pos:Pos}{k:Nat}{ps:!Str}{sp:Sp}
def jb(a:PE X e te)(c:PA X es t)(hs:ce e=TJ:=by rfl):PA X (e::es) (tK te t):=Aa a c (bp hs)
def wN(h:Has X.prog X.w X.K X.mg X.base k x ps sp)(f:MV k X.A)(g:Gl X x)(d:PA X (e::es) t)(a:bo (e::es)=TK:=by rfl)(c:(x==("__debug__" : Str))=TJ:=by decide):PE X (.Call (.Name x p) (e::es) [] pos) (m8 sp [] E0 t):=by
 rw[bo,Il]at a;show Gd h f g d c (bp (by exists a.1)) (dy a.2)
def mS{id:String}{r:!V->Hp->VK->Prop}(g:MQ X (.builtin id) r)(j:Gl X x)(i:X.mg x=TF)(f:Oc x*>(.builtin id))(d:PA X (e::es) t)(a:bo (e::es)=TK:=by rfl)(h:x≠("__name__" : Str):=by decide)(c:(x==("__debug__" : Str))=TJ:=by decide):PE X (.Call (.Name x p) (e::es) [] pos) (tCB r t):=by
 rw[bo,Il]at a;show wM g j i f d h c (bp (by exists a.1)) (dy a.2)
def ln(g:MQ X (.type T) r)(j:Gl X x)(i:X.mg x=TF)(f:Oc x*>(.type T))(d:PA X (e::es) t)(a:bo (e::es)=TK:=by rfl)(h:x≠("__name__" : Str):=by decide)(c:(x==("__debug__" : Str))=TJ:=by decide):PE X (.Call (.Name x p) (e::es) [] pos) (tCB r t):=by
 rw[bo,Il]at a;show uH g j i f d h c (bp (by exists a.1)) (dy a.2)
def Cz{o:Expr}{m:TE}{name:Str}{c a:Pos}{T id:String}{r:V->!V->Hp->VK->Prop}(h:X.K=K)(v:Pl T)(j:Slot T name id)(l:RA (.builtin id)=pure (.type "method_descriptor"))(u:MtR X id r)(ho:PE X o m)(s:PA X (e::es) t)(q:bo (e::es)=TK:=by rfl)(i:decide ((e::es).length<30)=TK:=by rfl)
  (f:Oh o name X.env (eval o X.env)=eval o X.env:=by rfl) (g:(c.endLine==a.line)=TK:=by rfl):PE X (.Call (.Attribute o name c) (e::es) [] a) (tBM K T r m t):=by
 have d:=q;rw[bo,Il]at d;show bmK h v j l u ho s f ?_ g (bp (by exists d.1)) (dy d.2);rw[jZ q];have:=of_decide_eq_true i;dsimp[LQ,Ko,Nat.add_zero,List.isEmpty_nil,if_true];rw[decide_eq_true this];rfl
end
end L2
namespace L2
open PySem PySem.Spec PySem.Calls PyProof.Rows PySem.W
abbrev ke:!Nk->Bool
 | .ref _::r=>ke r
 | .type n::r=>n == "ValueError" && r==[.type "Exception",.type "BaseException",.type "object"]
 | _=>TJ
open Builtin Builtin.ObjectAttr
end L2
namespace L2
open PySem PySem.Spec PyProof.Rows
open PySem.W (Frag clsIn findIn subIn specialIn instIn mroIn takesIn InstAt Looks)
abbrev exO(b:Bool) (C:Addr) (d:↑Addr) (x:Addr):HO:=.ext λh=>∃vs,h.get? x=TH {cls:=.ref C,dict:=d,data:=.fields vs}/\(b=TJ->∃t,vs = #[.ref t,.none,.none,.none,.bool TJ,.none])
abbrev CH(K:Frag) (C:Addr):Bool:=match K.lookup C with
 | some o=>(match o.data with
  | .cls a=>decide (o.cls=.type "type")&&decide (o.slots.size=6)&&decide (o.slots[4]?*>(TH (.builtin "ValueError.__new__")))&&decide (a.mro.head?*>(.ref C)) &&  ~~~a.hasDel&&a.hasDict&&ke a.mro.tail &&  ~~~a.mro.tail.contains (.type "AttributeError") &&  ~~~a.mro.tail.contains (.type "NameError")&&a.mro.tail.contains (.type "ValueError")
  | _=>TJ)
 | none=>TJ
structure ExK(K:Frag)(C:Addr):Prop where
 obj:CH K C=TK
 sa:Te K (.ref C) "__setattr__" = TH (TH (.builtin "object.__setattr__"))
 ga:Te K (.ref C) "__getattribute__" = TH (TH (.builtin "BaseException.__getattribute__"))
 g0:Te K (.ref C) "__getattr__" = TH TF
 sub:subIn K (.ref C) (.type "BaseException")*>TK
 call:SZ K (.ref C) "__call__" = TH (TH (.builtin "type.__call__"))
 typ:instIn K (.ref C) (.type "type")*>TK
 ca:Te K (.ref C) "__class__" = TH (TH (.builtin "object.__class__"))
 cn:SZ K (.builtin "object.__class__") "__get__" = TH (TH (.builtin "getset_descriptor.__get__"))
 ct:takesIn K (.builtin "object.__class__")*>TK
 cm:mroIn K C (.type "object")*>TK
def zd{K:Frag}{C:Addr}(e:CH K C=TK):∃v q N m g a k sub r h p k0 s u w t,K.lookup C*>(excClassObj v q C N m g a k sub r h p k0 s u w t "ValueError.__new__") /\
  g.contains (.type "ValueError")=TK/\g.contains (.type "AttributeError")=TJ/\g.contains (.type "NameError")=TJ/\ke g=TK/\a=TK:=by
 unfold CH at e;ext e o Q;ext e O j;dsimp[Il,decide_eq_true_eq,I0]at e;obtain⟨⟨⟨⟨⟨⟨⟨⟨⟨A,f⟩,E⟩,y⟩,d⟩,x⟩,i⟩,z⟩,G⟩,B⟩:=e;obtain⟨c,p,U,⟨l⟩⟩:=o;obtain⟨v,m,M,J,P,H,k,sub,r,h,L⟩:=O;dsimp only at y d x j A E f i z G B;have(g,rfl):=List.head?_eq_some_iff.mp y;subst d x j A;have(k0,l,rfl):=Jd (l:=l) (n:=5) f;have(s,l,rfl):=Jd (l:=l) (n:=4) (JS.inj f);have(u,l,rfl):=Jd (l:=l) (n:=3) (JS.inj (JS.inj f));have(w,l,rfl):=Jd (l:=l) (n:=2) (JS.inj (JS.inj (JS.inj f)));have(S,l,rfl):=Jd (l:=l) (n:=1) (JS.inj (JS.inj (JS.inj (JS.inj f))));have(t,rfl):=List.length_eq_one_iff.mp (JS.inj (JS.inj (JS.inj (JS.inj (JS.inj f)))));cases IG.inj E;show⟨v,P,J,m,g,TK,k,sub,r,h,p,k0,s,u,w,t,Q,B,z,G,i,Xr⟩
section
variable {X:Cx}{CX:CXT}{k:Nat}{C f:Addr}{fd:Ox}{ps:!Str}{sp:Sp}{E:XK}{OK:!(Addr×Obj)}{Z:St}{H:Hp}{s:Nm}
structure EMk(K:Frag)(C f:Addr):Prop where
 ex:ExK K C
 init:Te K (.ref C) "__init__" = TH (TH (.ref f))
 fn:Mp K (.ref f)=TK
 kp:JK K (.ref C)=TK
end
open PySem.W (Frag clsIn findIn subIn specialIn instIn mroIn takesIn InstAt Looks)
abbrev exX(fs:!(Str×V)) (c:Addr):HO:=.ext λh=>∃a,h.Ns1 c a/\(∀f,RelO (fs.lookup f) (a f))/\PySem.Within a (fs.map (·.1))
def ExK.cls{K:Frag}{C:Addr}(x:ExK K C):∃a,clsIn K C*>a/\ke a.mro=TK/\a.hasDict=TK:=by
 obtain⟨p,q,N,h,j,c,f,sub,o,e,m,i,g,l,r,k,d,c1,c2,c3,c4,c5⟩:=zd x.obj;show{_,by unfold clsIn;rw[d],c4,c5}
end L2
namespace L2
open PySem PySem.Spec PyProof.Rows
open PySem.W (Frag clsIn findIn subIn specialIn instIn mroIn takesIn InstAt Looks keepIn readsIn findCls handedIn)
structure CIn(K:Frag)(B f:Addr):Prop where
 sp:SZ K (.ref B) "__getattribute__" = TH (TH (.builtin "type.__getattribute__"))
 rd:readsIn K B (.type "type")=TK
 fc:findCls K (.ref B) (.type "type") "__init__" = TH (.val (.ref f))
 kp:keepIn K (.ref f)=TK
 hh:handedIn (.ref f)=TK
inductive I where
 | non|bl (b:Bool)|int (i:Int)|str (x:Str)|tup (is:!I)|ls (is:!I)
 | fd (ks:!Key) (is:!I)
 | exn (x:Str) (ks:!Str) (is:!I)
mutual
def I.beq:I->I->Bool
 | .non,b=>(match b with|.non=>TK|_=>TJ)
 | .bl a,b=>(match b with|.bl b=>a==b|_=>TJ)
 | .int a,b=>(match b with|.int b=>decide (a=b)|_=>TJ)
 | .str a,b=>(match b with|.str b=>decide (a=b)|_=>TJ)
 | .tup a,b=>(match b with|.tup b=>I.beqs a b|_=>TJ)
 | .ls a,b=>(match b with|.ls b=>I.beqs a b|_=>TJ)
 | .fd k a,b=>(match b with|.fd j b=>decide (k=j)&&I.beqs a b|_=>TJ)
 | .exn x k a,b=>(match b with|.exn y j b=>decide (x=y/\k=j)&&I.beqs a b|_=>TJ)
def I.beqs:!I->!I->Bool
 | [],b=>b.isEmpty
 | a::c,b=>(match b with|b::d=>I.beq a b&&I.beqs c d|[]=>TJ)
end
mutual
theorem I.beq_iff:∀{a b:I},I.beq a b=TK↔a=b
 | .non,b=>by cases b<;>simp[I.beq]
 | .bl x,b=>by cases b<;>simp[I.beq]
 | .int x,b=>by cases b<;>simp[I.beq]
 | .str x,b=>by cases b<;>simp[I.beq]
 | .tup x,b=>by
  cases b with
  | tup y=>dsimp[I.beq,I.beqs_iff,I.tup.injEq]
  | _=>simp[I.beq]
 | .ls x,b=>by
  cases b with
  | ls y=>dsimp[I.beq,I.beqs_iff,I.ls.injEq]
  | _=>simp[I.beq]
 | .fd k x,b=>by
  cases b with
  | fd j y=>dsimp[I.beq,Il,I.beqs_iff,I.fd.injEq,decide_eq_true_iff]
  | _=>simp[I.beq]
 | .exn z k x,b=>by
  cases b with
  | exn w j y=>dsimp[I.beq,Il,I.beqs_iff,I.exn.injEq,decide_eq_true_iff,and_assoc]
  | _=>simp[I.beq]
theorem I.beqs_iff:∀{a b:!I},I.beqs a b=TK↔a=b
 | [],b=>by cases b<;>simp[I.beqs]
 | x::d,b=>by
  cases b with
  | nil=>simp[I.beqs]
  | cons y c=>dsimp[I.beqs,Il,I.beq_iff,I.beqs_iff,JN.injEq]
end
instance:DecidableEq I:=λa b=>decidable_of_iff (I.beq a b=TK) I.beq_iff
inductive T where
 | im (i:I)|tup (ts:!T)|li (is:!I)|lst (ts:!T)|di (kvs:!(I×I))|dc (kvs:!(I×T))|ins (C:Addr) (fs:!(Str×T))
 | dq (kvs:!(I×I))
abbrev fR:Key->I
 | .inl i=>.int i
 | .inr x=>.str x
abbrev DAt(K:yF)(H:Hp)(a:Addr)(ks:!(I×V)):Prop:=∃c:!(Key×V),H a*>(.dK c)/\ks=c.map λp=>(fR p.1,p.2)
mutual
def RpI(K:yF)(H:Hp):I->V->Prop
 | .non,v=>v=.non
 | .bl b,v=>v=.bl b
 | .int i,v=>v=.int i
 | .str x,v=>v=.str x
 | .tup c,v=>∃a e,v=.ref a/\SqT K H a e/\p7 K H c e
 | .ls c,v=>∃a o e,v=.ref a/\H a*>(.frz o (.lst e))/\p7 K H c e
 | .fd f c,v=>∃a o d,v=.ref a/\H a*>(.frz o (.dK d))/\d.map (·.1)=f/\p7 K H c (d.map (·.2))
 | .exn x f c,v=>∃C a,v=.ref a/\Lj K NZ x*>(TH (.ref C))/\∃b,(f=[]/\c=[]/\H a*>(exO b C TF a) \/ ∃g d,H a*>(exO b C (TH g) a)/\H g*>(exX d g)/\d.map (·.1)=f/\p7 K H c (d.map (·.2)))
def p7(K:yF)(H:Hp):!I->!V->Prop
 | [],a=>a=[]
 | t::c,a=>∃x r,a=x::r/\RpI K H t x/\p7 K H c r
end
abbrev k1I:K1->I
 | .inl k=>fR k
 | .inr a=>.tup (a.map fR)
abbrev da(ks:!K1):I:=.tup (ks.map k1I)
protected def QA1(K:yF)(H:Hp)(p:I×I)(y:!K1×Addr×V):Prop:=da y.1=p.1/\RpI K H p.1 (.ref y.2.1)/\RpI K H p.2 y.2.2
mutual
def Rp(K:yF)(H:Hp):T->V->!Addr->Prop
 | .im i,v,F=>RpI K H i v/\F=[]
 | .tup g,v,F=>∃a f,v=.ref a/\SqT K H a f/\Rps K H g f F
 | .li j,v,F=>∃a f,v=.ref a/\Rd H a (.lst f)/\p7 K H j f/\F=[a]
 | .lst g,v,F=>∃a f e,v=.ref a/\Rd H a (.lst f)/\Rps K H g f e/\F=a::e
 | .di c,v,F=>∃a d,v=.ref a/\DAt K H a d/\p7 K H (c.map (·.2)) (d.map (·.2))/\d.map (·.1)=c.map (·.1)/\F=[a]
 | .dc c,v,F=>∃a d e,v=.ref a/\DAt K H a d/\Rpk K H c d e/\F=a::e
 | .ins C k,v,F=>∃a h d e,v=.ref a/\H a*>(.ins C h d)/\Rpf K H k d e/\F=a::e
 | .dq c,v,F=>∃a d,v=.ref a/\H a*>(.dT d)/\Paired (QA1 K H) c d/\F=[a]
def Rps(K:yF)(H:Hp):!T->!V->!Addr->Prop
 | [],a,F=>a=[]/\F=[]
 | t::e,a,F=>∃x r c d,a=x::r/\Rp K H t x c/\Rps K H e r d/\F=c++d
def Rpk(K:yF)(H:Hp):!(I×T)->!(I×V)->!Addr->Prop
 | [],a,F=>a=[]/\F=[]
 | (k,t)::e,a,F=>∃x r c d,a=(k,x)::r/\Rp K H t x c/\Rpk K H e r d/\F=c++d
def Rpf(K:yF)(H:Hp):!(Str×T)->!(Str×V)->!Addr->Prop
 | [],a,F=>a=[]/\F=[]
 | (k,t)::e,a,F=>∃x r c d,a=(k,x)::r/\Rp K H t x c/\Rpf K H e r d/\F=c++d
end
abbrev HJ:HO->Bool
 | .lst _=>TK|.dK _=>TK|.dT _=>TK|.ins _ _ _=>TK|_=>TJ
abbrev Mu(H:Hp)(a:Addr):Prop:=∃o,H a*>o/\HJ o=TK
abbrev MJ(M:!Addr)(H H':Hp):Prop:=∀b o,H b*>o->b∉M->H' b*>o
def MU.offM(s:MU H H')(M:!Addr):MJ M H H':=λb o h _=>s b o h
def MJ.refl(M:!Addr)(H:Hp):MJ M H H:=λb o h _=>h
def MJ.mono(x:MJ M H H1)(y:∀a∈M,a∈M'):MJ M' H H1:=λb o h n=>x b o h λz=>n (y b z)
def MJ.upd:MJ [a] H (upd H a o):=λb u h n=>by rw[aZ (by exists n)];show h
def MJ.rd(x:MJ M H H')(n:a∉M)(h:Rd H a o):Rd H' a o:=by
 rcases h with h|⟨u,h⟩;show .inl (x a _ h n);show .inr {u,x a _ h n}
def MJ.sqT{K:yF}{M:!Addr}{H H':Hp}{a:Addr}{xs:!V}(x:MJ M H H')(c:∀b∈M,Mu H b)(h:SqT K H a xs):SqT K H' a xs:=by
 rcases h with(h|⟨u,h⟩)|h;show .inl (.inl (x a _ h λz=>by have(o,e,m):=c a z;rw[h]at e;cases e;cases m));show .inl (.inr {u,x a _ h λz=>by have(o,e,m):=c a z;rw[h]at e;cases e;cases m});show .inr h
def DAt.off{K:yF}{M:!Addr}{H H':Hp}{a:Addr}{ks:!(I×V)}(x:MJ M H H')(n:a∉M)(h:DAt K H a ks):DAt K H' a ks:=by
 have(e,d,c):=h;show{e,x a _ d n,c}
def DAt.dom{K:yF}{H:Hp}{a:Addr}{ks:!(I×V)}(h:DAt K H a ks):∃o,H a*>o:=by
 have(e,c,d):=h;show{_,c}
def Rd.dom(h:Rd H a u):∃o,H a*>o:=by
 rcases h with h|⟨o,h⟩;show{_,h};show{_,h}
mutual
theorem RpI.off{K:yF}{M:!Addr}{H H':Hp}(x:MJ M H H')(f:∀b∈M,Mu H b):∀{t:I} {v:V},RpI K H t v->RpI K H' t v
 | .non,_,h=>by rw[RpI]at h|-;show h
 | .bl _,_,h=>by rw[RpI]at h|-;show h
 | .int _,_,h=>by rw[RpI]at h|-;show h
 | .str _,_,h=>by rw[RpI]at h|-;show h
 | .tup q,_,h=>by rw[RpI]at h|-;have(a,l,g,c,d):=h;show{a,l,g,x.sqT f c,p7.off x f d}
 | .ls q,_,h=>by
  rw[RpI]at h|-;have(a,o,l,g,c,d):=h;show{a,o,l,g,x a _ c (λz=>by have(u,e,m):=f a z;rw[c]at e;cases e;cases m),p7.off x f d}
 | .fd B q,_,h=>by
  rw[RpI]at h|-;have(a,o,r,g,c,d,A):=h;show{a,o,r,g,x a _ c (λz=>by have(u,e,m):=f a z;rw[c]at e;cases e;cases m),d,p7.off x f A}
 | .exn z B q,_,h=>by
  have i:∀{b:Addr} {k : Heap->Prop},H b*>(.ext k)->H' b*>(.ext k):=λ{b k} c=>x b _ c λz=>by have(u,e,m):=f b z;rw[c]at e;cases e;cases m
  rw[RpI]at h|-;obtain⟨C,a,g,c,d⟩:=h;obtain⟨b,d⟩:=d;show{C,a,g,c,b,?_};rcases d with⟨j,p,s⟩|⟨w,r,j,p,s,y⟩;show .inl {j,p,i s};show .inr {w,r,i j,i p,s,p7.off x f y}
theorem p7.off{K:yF}{M:!Addr}{H H':Hp}(x:MJ M H H')(a:∀b∈M,Mu H b):∀{ts:!I} {xs:!V},p7 K H ts xs->p7 K H' ts xs
 | [],_,h=>by rw[p7]at h|-;show h
 | t::ts,_,h=>by
  rw[p7]at h|-;have(y,r,d,c,e):=h;show{y,r,d,RpI.off x a c,p7.off x a e}
end
mutual
theorem Rp.off{K:yF}{M:!Addr}{H H':Hp}(x:MJ M H H')(g:∀b∈M,Mu H b):∀{t:T} {v:V} {F:!Addr},(∀a∈F,a∉M)->Rp K H t v F->Rp K H' t v F
 | .im _,_,_,_,h=>by rw[Rp]at h|-;show{RpI.off x g h.1,h.2}
 | .tup l,_,_,n,h=>by rw[Rp]at h|-;have(a,f,c,e,d):=h;show{a,f,c,x.sqT g e,Rps.off x g n d}
 | .li l,_,_,n,h=>by
  rw[Rp]at h|-;have(a,f,c,e,d,rfl):=h;show{a,f,c,x.rd (n a ymS) e,p7.off x g d,Xr}
 | .lst l,_,_,n,h=>by
  rw[Rp]at h|-;have(a,f,j,c,e,d,rfl):=h;show{a,f,j,c,x.rd (n a ymS) e,Rps.off x g (λb k=>n b (ymC _ k)) d,Xr}
 | .di i,_,_,n,h=>by
  rw[Rp]at h|-;have(a,f,c,e,d,o,rfl):=h;show{a,f,c,e.off x (n a ymS),p7.off x g d,o,Xr}
 | .dc i,_,_,n,h=>by
  rw[Rp]at h|-;have(a,f,j,c,e,d,rfl):=h;show{a,f,j,c,e.off x (n a ymS),Rpk.off x g (λb k=>n b (ymC _ k)) d,Xr}
 | .ins C r,_,_,n,h=>by
  rw[Rp]at h|-;have(a,m,f,j,c,e,d,rfl):=h;show{a,m,f,j,c,x a _ e (n a ymS),Rpf.off x g (λb k=>n b (ymC _ k)) d,Xr}
 | .dq i,_,_,n,h=>by
  rw[Rp]at h|-;have(a,q,c,e,d,rfl):=h;show{a,q,c,x a _ e (n a ymS),Paired.mapP d λp y z=>{z.1,RpI.off x g z.2.1,RpI.off x g z.2.2},Xr}
theorem Rps.off{K:yF}{M:!Addr}{H H':Hp}(x:MJ M H H')(d:∀b∈M,Mu H b):∀{ts:!T} {xs:!V} {F:!Addr},(∀a∈F,a∉M)->Rps K H ts xs F->Rps K H' ts xs F
 | [],_,_,_,h=>by rw[Rps]at h|-;show h
 | t::ts,_,_,n,h=>by
  rw[Rps]at h|-;have(y,r,e,j,f,i,g,rfl):=h;show{y,r,e,j,f,Rp.off x d (λb c=>n b (yaL _ c)) i,Rps.off x d (λb c=>n b (yaR _ c)) g,Xr}
theorem Rpk.off{K:yF}{M:!Addr}{H H':Hp}(x:MJ M H H')(d:∀b∈M,Mu H b):∀{ts:!(I×T)} {xs:!(I×V)} {F:!Addr},(∀a∈F,a∉M)->Rpk K H ts xs F->Rpk K H' ts xs F
 | [],_,_,_,h=>by rw[Rpk]at h|-;show h
 | (k,t)::ts,_,_,n,h=>by
  rw[Rpk]at h|-;have(y,r,e,j,f,i,g,rfl):=h;show{y,r,e,j,f,Rp.off x d (λb c=>n b (yaL _ c)) i,Rpk.off x d (λb c=>n b (yaR _ c)) g,Xr}
theorem Rpf.off{K:yF}{M:!Addr}{H H':Hp}(x:MJ M H H')(d:∀b∈M,Mu H b):∀{ts:!(Str×T)} {xs:!(Str×V)} {F:!Addr},(∀a∈F,a∉M)->Rpf K H ts xs F->Rpf K H' ts xs F
 | [],_,_,_,h=>by rw[Rpf]at h|-;show h
 | (k,t)::ts,_,_,n,h=>by
  rw[Rpf]at h|-;have(y,r,e,j,f,i,g,rfl):=h;show{y,r,e,j,f,Rp.off x d (λb c=>n b (yaL _ c)) i,Rpf.off x d (λb c=>n b (yaR _ c)) g,Xr}
end
def Rps.same{K:yF}{H H':Hp}(x:MU H H'){t:!T}{v:!V}{F:!Addr}(h:Rps K H t v F):Rps K H' t v F:=Rps.off (x.offM []) ∅ ∅ h
def RpI.same{K:yF}{H H':Hp}(x:MU H H'){t:I}{v:V}(h:RpI K H t v):RpI K H' t v:=RpI.off (x.offM []) ∅ h
def p7.same{K:yF}{H H':Hp}(x:MU H H'){t:!I}{v:!V}(h:p7 K H t v):p7 K H' t v:=p7.off (x.offM []) ∅ h
mutual
theorem Rp.dom{K:yF}{H:Hp}:∀{t:T} {v:V} {F:!Addr},Rp K H t v F->∀a∈F,∃o,H a*>o
 | .im _,_,_,h=>by rw[Rp]at h;rw[h.2];simp
 | .tup f,_,_,h=>by rw[Rp]at h;obtain⟨_,_,_,_,h⟩:=h;show Rps.dom h
 | .li f,_,_,h=>by
  rw[Rp]at h;have(a,i,g,d,e,rfl):=h;intro b c;rw[ysM c];show d.dom
 | .lst f,_,_,h=>by
  rw[Rp]at h;have(a,i,j,g,d,e,rfl):=h;intro b c;rcases ycM c with rfl|c;show d.dom;show Rps.dom e b c
 | .di f,_,_,h=>by
  rw[Rp]at h;have(a,i,g,d,e,l,rfl):=h;intro b c;rw[ysM c];show d.dom
 | .dc f,_,_,h=>by
  rw[Rp]at h;have(a,i,j,g,d,e,rfl):=h;intro b c;rcases ycM c with rfl|c;show d.dom;show Rpk.dom e b c
 | .ins C f,_,_,h=>by
  rw[Rp]at h;have(a,k,i,j,g,d,e,rfl):=h;intro b c;rcases ycM c with rfl|c;show{_,d};show Rpf.dom e b c
 | .dq f,_,_,h=>by
  rw[Rp]at h;have(a,m,g,d,e,rfl):=h;intro b c;rw[ysM c];show{_,d}
theorem Rps.dom{K:yF}{H:Hp}:∀{ts:!T} {xs:!V} {F:!Addr},Rps K H ts xs F->∀a∈F,∃o,H a*>o
 | [],_,_,h=>by rw[Rps]at h;rw[h.2];simp
 | t::ts,_,_,h=>by
  rw[Rps]at h;have(y,r,f,i,g,e,d,rfl):=h;intro b c;rcases yaM c with c|c;show Rp.dom e b c;show Rps.dom d b c
theorem Rpk.dom{K:yF}{H:Hp}:∀{ts:!(I×T)} {xs:!(I×V)} {F:!Addr},Rpk K H ts xs F->∀a∈F,∃o,H a*>o
 | [],_,_,h=>by rw[Rpk]at h;rw[h.2];simp
 | (k,t)::ts,_,_,h=>by
  rw[Rpk]at h;have(y,r,f,i,g,e,d,rfl):=h;intro b c;rcases yaM c with c|c;show Rp.dom e b c;show Rpk.dom d b c
theorem Rpf.dom{K:yF}{H:Hp}:∀{ts:!(Str×T)} {xs:!(Str×V)} {F:!Addr},Rpf K H ts xs F->∀a∈F,∃o,H a*>o
 | [],_,_,h=>by rw[Rpf]at h;rw[h.2];simp
 | (k,t)::ts,_,_,h=>by
  rw[Rpf]at h;have(y,r,f,i,g,e,d,rfl):=h;intro b c;rcases yaM c with c|c;show Rp.dom e b c;show Rpf.dom d b c
end
def p7.nil{K:yF}{H:Hp}:p7 K H [] []:=by rw[p7]
def p7.cons{K:yF}{H:Hp}{t:I}{ts:!I}{x:V}{xs:!V}(h:RpI K H t x)(hs:p7 K H ts xs):p7 K H (t::ts) (x::xs):=by rw[p7];show⟨x,xs,Xr,h,hs⟩
def p7.cons_inv{K:yF}{H:Hp}{t:I}{ts:!I}{xs:!V}(h:p7 K H (t::ts) xs):∃x r,xs=x::r/\RpI K H t x/\p7 K H ts r:=by rw[p7]at h;show h
def p7.nil_inv{K:yF}{H:Hp}{xs:!V}(h:p7 K H [] xs):xs=[]:=by rw[p7]at h;show h
def p7.length{K:yF}{H:Hp}:∀{ts:!I} {xs:!V},p7 K H ts xs->xs.length=ts.length
 | [],xs,h=>by rw[h.nil_inv];rfl
 | d::c,xs,h=>by have(x,r,rfl,_,a):=h.cons_inv;rw[Iv,Iv,a.length]
def p7.get{K:yF}{H:Hp}:∀{ts:!I} {xs:!V} {i:Nat} {t:I},p7 K H ts xs->ts[i]?*>t->∃x,xs[i]?*>x/\RpI K H t x
 | [],_,_,_,_,e=>by simp at e
 | d::g,xs,0,k,h,e=>by
  have(x,r,rfl,c,a):=h.cons_inv;simp at e;subst e;show⟨x,Xr,c⟩
 | d::g,xs,i+1,k,h,e=>by
  have(x,r,rfl,c,a):=h.cons_inv;have(y,j,f):=p7.get (i:=i) a (by exists e);show{y,by simpa using j,f}
def p7.append{K:yF}{H:Hp}:∀{c a:!I} {xs ys:!V},p7 K H c xs->p7 K H a ys->p7 K H (c++a) (xs++ys)
 | [],a,xs,ys,h,e=>by obtain rfl:=h.nil_inv;show e
 | d::c,a,xs,ys,h,e=>by
  have(x,r,rfl,f,g):=h.cons_inv;show p7.cons f (p7.append g e)
def p7.take{K:yF}{H:Hp}:∀{ds:!I} {xs:!V} (n:Nat),p7 K H ds xs->p7 K H (ds.take n) (xs.take n)
 | ds,xs,0,h=>by dsimp[Mi];show p7.nil
 | [],xs,n+1,h=>by obtain rfl:=h.nil_inv;show p7.nil
 | d::ds,xs,n+1,h=>by
  have(x,r,rfl,a,c):=h.cons_inv;show p7.cons a (p7.take n c)
def p7.drop{K:yF}{H:Hp}:∀{ds:!I} {xs:!V} (n:Nat),p7 K H ds xs->p7 K H (ds.drop n) (xs.drop n)
 | ds,xs,0,h=>h
 | [],xs,n+1,h=>by obtain rfl:=h.nil_inv;show p7.nil
 | d::ds,xs,n+1,h=>by
  have(x,r,rfl,c,a):=h.cons_inv;show p7.drop n a
def p7.one{K:yF}{H:Hp}{t:I}{x:V}(h:RpI K H t x):p7 K H [t] [x]:=.cons h .nil
def p7.reverse{K:yF}{H:Hp}:∀{a:!I} {xs:!V},p7 K H a xs->p7 K H a.reverse xs.reverse
 | [],xs,h=>by obtain rfl:=h.nil_inv;show p7.nil
 | d::a,xs,h=>by
  have(x,r,rfl,c,e):=h.cons_inv;rw[Ki,Ki];show p7.append (p7.reverse e) (.one c)
def p7.set{K:yF}{H:Hp}{t:I}{x:V}(f:RpI K H t x):∀{a:!I} {xs:!V} (n:Nat),p7 K H a xs->p7 K H (a.set n t) (xs.set n x)
 | [],xs,n,h=>by obtain rfl:=h.nil_inv;show p7.nil
 | d::a,xs,0,h=>by have(y,r,rfl,e,c):=h.cons_inv;show p7.cons f c
 | d::a,xs,n+1,h=>by have(y,r,rfl,e,c):=h.cons_inv;show p7.cons e (p7.set f n c)
def p7.ints{K:yF}{H:Hp}:∀(ns:!Int),p7 K H (ns.map I.int) (ns.map V.int)
 | []=>p7.nil
 | n::ns=>p7.cons (by rw[RpI]) (p7.ints ns)
def Rps.nil{K:yF}{H:Hp}:Rps K H [] [] []:=by rw[Rps];show⟨Xr,Xr⟩
def Rps.cons{K:yF}{H:Hp}{t:T}{ts:!T}{x:V}{xs:!V}{F F':!Addr}(h:Rp K H t x F)(hs:Rps K H ts xs F'):Rps K H (t::ts) (x::xs) (F++F'):=by rw[Rps];show⟨x,xs,F,F',Xr,h,hs,Xr⟩
def Rps.cons_inv{K:yF}{H:Hp}{t:T}{ts:!T}{xs:!V}{F:!Addr}(h:Rps K H (t::ts) xs F):∃x r a c,xs=x::r/\Rp K H t x a/\Rps K H ts r c/\F=a++c:=by rw[Rps]at h;show h
def Rps.nil_inv{K:yF}{H:Hp}{xs:!V}{F:!Addr}(h:Rps K H [] xs F):xs=[]/\F=[]:=by rw[Rps]at h;show h
def Rps.length{K:yF}{H:Hp}:∀{ts:!T} {xs:!V} {F:!Addr},Rps K H ts xs F->xs.length=ts.length
 | [],xs,_,h=>by rw[h.nil_inv.1];rfl
 | d::c,xs,_,h=>by have(x,r,_,_,rfl,_,a,_):=h.cons_inv;rw[Iv,Iv,a.length]
def Rps.append{K:yF}{H:Hp}:∀{c a:!T} {xs ys:!V} {F G:!Addr},Rps K H c xs F->Rps K H a ys G->Rps K H (c++a) (xs++ys) (F++G)
 | [],a,xs,ys,F,G,h,e=>by have(rfl,rfl):=h.nil_inv;show e
 | d::c,a,xs,ys,F,G,h,e=>by
  have(x,r,i,j,rfl,g,f,rfl):=h.cons_inv;rw[IC];show Rps.cons g (Rps.append f e)
def Rps.at{K:yF}{H:Hp}:∀{ts:!T} {xs:!V} {F:!Addr} {i:Nat} {t:T},Rps K H ts xs F->ts[i]?*>t ->
  ∃x A G B,xs[i]?*>x/\Rp K H t x G/\F=A++G++B/\Rps K H (ts.take i) (xs.take i) A/\Rps K H (ts.drop (i+1)) (xs.drop (i+1)) B
 | [],_,_,_,_,_,e=>by simp at e
 | d::m,xs,_,0,q,h,e=>by
  have(x,r,a,g,rfl,f,c,rfl):=h.cons_inv;simp at e;subst e;show{x,[],a,g,Xr,f,by simp,Rps.nil,by simpa using c}
 | d::m,xs,_,i+1,q,h,e=>by
  have(x,r,a,g,rfl,f,c,rfl):=h.cons_inv;have(y,A,G,B,p,j,l,k,o):=Rps.at (i:=i) c (by exists e);show{y,a++A,G,B,by simpa using p,j,by rw[l];simp,?_,by simpa using o};simpa using Rps.cons f k
def Rps.take{K:yF}{H:Hp}:∀{ds:!T} {xs:!V} {F:!Addr} (n:Nat),Rps K H ds xs F->∃G a,Rps K H (ds.take n) (xs.take n) G/\Rps K H (ds.drop n) (xs.drop n) a/\F=G++a
 | ds,xs,F,0,h=>{[],F,by dsimp[Mi];show Rps.nil,by simpa using h,Xr}
 | [],xs,F,n+1,h=>by have(rfl,rfl):=h.nil_inv;show{[],[],Rps.nil,Rps.nil,Xr}
 | d::ds,xs,F,n+1,h=>by
  have(x,r,c,j,rfl,f,e,rfl):=h.cons_inv;have(G,a,i,g,rfl):=Rps.take n e;show{c++G,a,Rps.cons f i,g,by rw[IC]}
def Rps.ims{K:yF}{H:Hp}:∀{is:!I} {xs:!V} {F:!Addr},Rps K H (is.map T.im) xs F↔(p7 K H is xs/\F=[])
 | [],xs,F=>by rw[KS,Rps,p7]
 | i::is,xs,F=>by
  rw[Io,Rps,p7];constructor
  .rintro⟨x,r,d,e,rfl,a,c,rfl⟩;rw[Rp]at a;have:=Rps.ims.mp c;show{⟨x,r,Xr,a.1,this.1⟩,by rw[a.2,this.2];rfl}
  .rintro⟨⟨x,r,rfl,a,c⟩,rfl⟩;show{x,r,[],[],Xr,by rw[Rp];show⟨a,Xr⟩,Rps.ims.mpr ⟨c,Xr⟩,Xr}
def gK{K:yF}{H:Hp}{i:I}{v:V}(h:RpI K H i v):Rp K H (.im i) v []:=by rw[Rp];show⟨h,Xr⟩
def aX{K:yF}{H:Hp}{i:I}{v:V}{F:!Addr}(h:Rp K H (.im i) v F):RpI K H i v/\F=[]:=by rw[Rp]at h;show h
abbrev I.sc:I->↑V
 | .non=>TH .non|.bl b=>TH (.bl b)|.int i=>TH (.int i)|.str x=>TH (.str x)|.tup _=>TF|.ls _=>TF|.fd _ _=>TF|.exn _ _ _=>TF
def lJ{t:I}{K:yF}{H:Hp}{v:V}(h:t.sc*>v):RpI K H t v:=by
 cases t<;>dsimp[I.sc]at h<;>cases h<;>rw[RpI]
def Cf{t:I}{K:yF}{H:Hp}{v w:V}(h:t.sc*>v)(r:RpI K H t w):w=v:=by
 cases t<;>dsimp[I.sc]at h<;>cases h<;>rw[RpI]at r<;>show r
inductive Ac where
 | ix (n:Nat)|ky (k:I)|fd (f:Str)
 deriving DecidableEq
abbrev bI{a c:Type} [DecidableEq a]:!(a × c)->a->↑c
 | [],_=>TF
 | (d,t)::r,k=>if d=k then TH t else bI r k
abbrev lv{a d:Type} [DecidableEq a]:!(a × d)->a->d->!(a × d)
 | [],_,_=>[]
 | (c,t)::r,k,s=>if c=k then(c,s)::r else(c,t)::lv r k s
abbrev jQ:T->Ac->↑T
 | .lst c,.ix n=>c[n]?
 | .dc a,.ky k=>bI a k
 | .ins _ d,.fd f=>bI d f
 | _,_=>TF
abbrev Ei:T->Ac->T->T
 | .lst c,.ix n,s=>.lst (c.set n s)
 | .dc a,.ky k,s=>.dc (lv a k s)
 | .ins C d,.fd f,s=>.ins C (lv d f s)
 | t,_,_=>t
abbrev T.sub:T->!Ac->↑T
 | t,[]=>TH t
 | t,a::p=>(jQ t a).bind λs=>s.sub p
abbrev T.put:T->!Ac->T->T
 | _,[],s=>s
 | t,a::p,s=>match jQ t a with
  | some u=>Ei t a (u.put p s)
  | none=>t
abbrev at1(K:yF)(H:Hp):V->Ac->V->Prop
 | v,.ix n,w=>∃a d,v=.ref a/\H a*>(.lst d)/\d[n]?*>w
 | v,.ky k,w=>∃a c,v=.ref a/\DAt K H a c/\bI c k*>w
 | v,.fd f,w=>∃a C e c,v=.ref a/\H a*>(.ins C e c)/\bI c f*>w
abbrev atP(K:yF)(H:Hp):V->!Ac->V->Prop
 | v,[],w=>w=v
 | v,a::p,w=>∃u,at1 K H v a u/\atP K H u p w
def DAt.det{K:yF}{H:Hp}{a:Addr}{xs ys:!(I×V)}(h:DAt K H a xs)(g:DAt K H a ys):xs=ys:=by
 have(f,e,rfl):=h;have(d,c,rfl):=g;rw[e]at c;cases c;rfl
def sk{K:yF}{H:Hp}{v w m:V}{a:Ac}(h:at1 K H v a w)(g:at1 K H v a m):w=m:=by
 cases a with
 | ix n=>
  have(a,o,rfl,i,j):=h;have(p,l,e,d,c):=g;cases e;rw[i]at d;cases d;rw[j]at c;cases c;rfl
 | ky k=>
  have(a,o,rfl,i,j):=h;have(p,l,e,d,c):=g;cases e;have:=i.det d;subst this;rw[j]at c;cases c;rfl
 | fd f=>
  have(a,C,r,o,rfl,i,j):=h;have(p,s,q,l,e,d,c):=g;cases e;rw[i]at d;cases d;rw[j]at c;cases c;rfl
def iQ{K:yF}{H:Hp}:∀{p:!Ac} {v w c:V},atP K H v p w->atP K H v p c->w=c
 | [],v,w,c,h,g=>by rw[atP]at h g;rw[h,g]
 | a::p,v,w,c,h,g=>by
  rw[atP]at h g;have(u,e,d):=h;have(j,i,f):=g;have:=sk e i;subst this;show iQ d f
def so{K:yF}{H:Hp}{a:Ac}:∀{p:!Ac} {v w u:V},atP K H v p w->at1 K H w a u->atP K H v (p++[a]) u
 | [],v,w,u,h,g=>by rw[atP]at h;subst h;show⟨u,g,Xr⟩
 | b::p,v,w,u,h,g=>by
  rw[atP]at h;have(x,d,c):=h;show{x,d,so c g}
def tJ:∀{p:!Ac} {t s u:T},t.sub p*>s->jQ s a*>u->t.sub (p++[a])*>u
 | [],t,s,u,h,g=>by rw[T.sub]at h;cases h;rw[Jr,T.sub,g];rfl
 | b::p,t,s,u,h,g=>by
  rw[T.sub]at h;rw[IT,T.sub];cases e:jQ t b with
  | none=>rw[e]at h;cases h
  | some x=>rw[e]at h;show tJ (p:=p) h g
section
variable {K:yF}{H:Hp}
def Rpk.at:∀{ts:!(I×T)} {xs:!(I×V)} {F:!Addr} {t:T},Rpk K H ts xs F->bI ts k*>t ->
  ∃x A G B,bI xs k*>x/\Rp K H t x G/\F=A++G++B/\∀H' g f,(∀{u:T} {w:V} {F':!Addr},(∀a∈F',a∈A\/a∈B)->Rp K H u w F'->Rp K H' u w F')->Rp K H' g x f->Rpk K H' (lv ts k g) xs (A++f++B)
 | [],xs,F,t,h,e=>by simp[bI]at e
 | (J,d)::Q,xs,F,t,h,e=>by
  rw[Rpk]at h;have(x,r,m,o,rfl,i,l,rfl):=h;by_cases j:J=k
  .subst j;simp[bI]at e;subst e;show{x,[],m,o,by simp[bI],i,by simp,λH' g f st q=>?_};dsimp[lv,if_pos];rw[Rpk];show{x,r,f,o,Xr,q,?_,by simp};have:∀{ts:!(I×T)} {xs:!(I×V)} {F:!Addr},(∀a∈F,a∈o)->Rpk K H ts xs F->Rpk K H' ts xs F:=by
    intro ts
    induction ts with
    | nil=>intro xs F _ h;rw[Rpk]at h|-;show h
    | cons p ts v=>
     intro xs F s h;have(P,S):=p;rw[Rpk]at h|-;have(y,r,N,E,L,i,l,rfl):=h;show{y,r,N,E,L,st (λa c=>.inr (s a (yaL _ c))) i,v (λa c=>s a (yaR _ c)) l,Xr}
   show this (λa c=>c) l
  .simp[bI,j]at e;have(y,A,G,B,O,z,M,C):=Rpk.at l e;show{y,m++A,G,B,by simp[bI,j,O],z,by rw[M];simp,λH' g f st q=>?_};dsimp[lv,if_neg j];rw[Rpk];show{x,r,m,A++f++B,Xr,st (λa c=>.inl (yaL _ c)) i,C H' g f (λc=>st (λa h=>(c a h).imp (yaR _) id)) q,by simp}
def Rpf.at:∀{ts:!(Str×T)} {xs:!(Str×V)} {F:!Addr} {t:T},Rpf K H ts xs F->bI ts k*>t ->
  ∃x A G B,bI xs k*>x/\Rp K H t x G/\F=A++G++B/\∀H' g f,(∀{u:T} {w:V} {F':!Addr},(∀a∈F',a∈A\/a∈B)->Rp K H u w F'->Rp K H' u w F')->Rp K H' g x f->Rpf K H' (lv ts k g) xs (A++f++B)
 | [],xs,F,t,h,e=>by simp[bI]at e
 | (J,d)::Q,xs,F,t,h,e=>by
  rw[Rpf]at h;have(x,r,m,o,rfl,i,l,rfl):=h;by_cases j:J=k
  .subst j;simp[bI]at e;subst e;show{x,[],m,o,by simp[bI],i,by simp,λH' g f st q=>?_};dsimp[lv,if_pos];rw[Rpf];show{x,r,f,o,Xr,q,?_,by simp};have:∀{ts:!(Str×T)} {xs:!(Str×V)} {F:!Addr},(∀a∈F,a∈o)->Rpf K H ts xs F->Rpf K H' ts xs F:=by
    intro ts
    induction ts with
    | nil=>intro xs F _ h;rw[Rpf]at h|-;show h
    | cons p ts v=>
     intro xs F s h;have(P,S):=p;rw[Rpf]at h|-;have(y,r,N,E,L,i,l,rfl):=h;show{y,r,N,E,L,st (λa c=>.inr (s a (yaL _ c))) i,v (λa c=>s a (yaR _ c)) l,Xr}
   show this (λa c=>c) l
  .simp[bI,j]at e;have(y,A,G,B,O,z,M,C):=Rpf.at l e;show{y,m++A,G,B,by simp[bI,j,O],z,by rw[M];simp,λH' g f st q=>?_};dsimp[lv,if_neg j];rw[Rpf];show{x,r,m,A++f++B,Xr,st (λa c=>.inl (yaL _ c)) i,C H' g f (λc=>st (λa h=>(c a h).imp (yaR _) id)) q,by simp}
def Mu.lst(m:Mu H a)(h:Rd H a (.lst xs)):H a*>(.lst xs):=by
 rcases h with h|⟨o,h⟩;show h;obtain⟨u,e,m⟩:=m;rw[h]at e;cases e;cases m
def Rps.stay:∀{ts:!T} {xs:!V} {F:!Addr},(∀{u:T} {w:V} {F':!Addr},(∀a∈F',a∈F)->Rp K H u w F'->Rp K H' u w F')->Rps K H ts xs F->Rps K H' ts xs F
 | [],_,_,_,h=>by rw[Rps]at h|-;show h
 | t::ts,_,_,n,h=>by
  rw[Rps]at h|-;have(y,r,d,i,e,g,f,rfl):=h;show{y,r,d,i,e,n (λa c=>yaL _ c) g,Rps.stay (λc=>n λa h=>yaR _ (c a h)) f,Xr}
def Rp.at1(h:Rp K H t v F)(Q:∀b∈F,Mu H b)(O:F.Nodup)(e:jQ t a*>s) :
  ∃w A G B,L2.at1 K H v a w/\Rp K H s w G/\F=A++G++B/\∀H' j l,MJ G H H'->Rp K H' j w l->Rp K H' (Ei t a j) v (A++l++B):=by
 have y:∀{A G B:!Addr},F=A++G++B->∀b,(b∈A\/b∈B)->b∉G:=by
  intro A G B e b f S;rw[e]at O;rcases f with f|f;show(Im.mp (Im.mp O).1).2.2 b f b S rfl;show(Im.mp O).2.2 b (yaR _ S) b f rfl
 have m:∀{A G B:!Addr},F=A++G++B->∀b∈G,Mu H b:=λe b f=>Q b (by rw[e];simp[f]);cases t with
 | lst N=>
  cases a with
  | ix n=>
   rw[Rp]at h;have(a,i,d,rfl,o,L,rfl):=h;have U:=(Q a ymS).lst o;have(x,A,G,B,p,E,M,J,h8):=L.at e;have g:a::d=(a::A)++G++B:=by rw[M];simp
   show{x,a::A,G,B,⟨a,i,Xr,U,p⟩,E,g,λH' j l c q=>?_};have st:∀{u:T} {w:V} {d:!Addr},(∀b∈d,b∈A\/b∈B)->Rp K H u w d->Rp K H' u w d:=λf r=>r.off c (m g) (λb z=>y g b ((f b z).imp (ymC _) id));change Rp K H' (.lst (N.set n j)) (.ref a) _;rw[Rp];show{a,i,A++l++B,Xr,.inl (c a _ U (y g a (.inl ymS))),?_,by simp};have hn:n<N.length:=(Ii.mp e).1;have hn':n<i.length:=(Ii.mp p).1;have Z:N.set n j=N.take n++j::N.drop (n+1):=by rw[List.set_eq_take_append_cons_drop,if_pos hn]
   have e2:i=i.take n++x::i.drop (n+1):=by
    have:=Ii.mp p;have(Y,hx):=this
    conv=>lhs;rw[<-Kh n i,JC Y,hx]
   rw[Z,e2,IC];show Rps.append (Rps.stay (λf=>st λb z=>.inl (f b z)) J) (Rps.cons q (Rps.stay (λf=>st λb z=>.inr (f b z)) h8))
  | ky k=>cases e
  | fd k=>cases e
 | dc P=>
  cases a with
  | ky k=>
   rw[Rp]at h;have(a,i,d,rfl,o,L,rfl):=h;have(x,A,G,B,p,E,M,J):=L.at e;have g:a::d=(a::A)++G++B:=by rw[M];simp
   show{x,a::A,G,B,⟨a,i,Xr,o,p⟩,E,g,λH' j l c q=>?_};have st:∀{u:T} {w:V} {d:!Addr},(∀b∈d,b∈A\/b∈B)->Rp K H u w d->Rp K H' u w d:=λf r=>r.off c (m g) (λb z=>y g b ((f b z).imp (ymC _) id));change Rp K H' (.dc (lv P k j)) (.ref a) _;rw[Rp];show{a,i,A++l++B,Xr,o.off c (y g a (.inl ymS)),J H' j l st q,by simp}
  | ix k=>cases e
  | fd k=>cases e
 | ins C fs=>
  cases a with
  | fd k=>
   rw[Rp]at h;have(a,X,i,d,rfl,o,L,rfl):=h;have(x,A,G,B,p,E,M,J):=L.at e;have g:a::d=(a::A)++G++B:=by rw[M];simp
   show{x,a::A,G,B,⟨a,C,X,i,Xr,o,p⟩,E,g,λH' j l c q=>?_};have st:∀{u:T} {w:V} {d:!Addr},(∀b∈d,b∈A\/b∈B)->Rp K H u w d->Rp K H' u w d:=λf r=>r.off c (m g) (λb z=>y g b ((f b z).imp (ymC _) id));change Rp K H' (.ins C (lv fs k j)) (.ref a) _;rw[Rp];show{a,X,i,A++l++B,Xr,c a _ o (y g a (.inl ymS)),J H' j l st q,by simp}
  | ix k=>cases e
  | ky k=>cases e
 | im _=>cases a<;>cases e
 | tup _=>cases a<;>cases e
 | li _=>cases a<;>cases e
 | di _=>cases a<;>cases e
 | dq _=>cases a<;>cases e
def Rp.atP:∀{p:!Ac} {t s:T} {v:V} {F:!Addr},Rp K H t v F->(∀b∈F,Mu H b)->F.Nodup->t.sub p*>s ->
  ∃w A G B,L2.atP K H v p w/\Rp K H s w G/\F=A++G++B/\∀H' c f,MJ G H H'->Rp K H' c w f->Rp K H' (t.put p c) v (A++f++B)
 | [],t,s,v,F,h,g,i,e=>by
  rw[T.sub]at e;cases e;show{v,[],F,[],Xr,h,by simp,λH' c f _ q=>by rw[T.put];simpa using q}
 | a::p,t,s,v,F,h,g,i,e=>by
  rw[T.sub]at e;cases e1:jQ t a with
  | none=>rw[e1]at e;cases e
  | some u=>
   rw[e1]at e;have(w,A,G,B,C,y,rfl,E):=h.at1 g i e1;have j:=(Im.mp (Im.mp i).1).2.1;have(x,o,f,m,z,J,rfl,r):=Rp.atP (p:=p) y (λb k=>g b (yaL _ (yaR _ k))) j e;show{x,A++o,f,m++B,⟨w,C,z⟩,J,by simp,λH' c l d q=>?_};rw[T.put,e1];have:=E H' (u.put p c) (o++l++m) (d.mono λb k=>by simp[k]) (r H' c l d q);exists this
end
inductive Kd where
 | ow|io (k:Nat)|vw (r:↑Nat) (p:Option !Ac)
structure R where
 k:Kd
 t:T
structure En where
 key:↑Nat
 v:V
 r:R
structure Hd where
 e:En
 F:!Addr
structure Gm where
 K:yF
 H0:Hp
 io:!Addr
 iov:!V
abbrev Kd.isOw:Kd->Bool
 | .vw _ _=>TJ|_=>TK
abbrev Kd.root:Kd->↑Nat
 | .vw r _=>r|_=>TF
abbrev Hd.own(h:Hd):!Addr:=if h.e.r.k.isOw=TK then h.F else []
abbrev MP(c:Gm)(H:Hp)(L:!Hd)(h:Hd):Prop:=match h.e.r.k with
 | .ow=>∀a∈h.F,c.H0 a=TF
 | .io k=>c.iov[k]?*>h.e.v
 | .vw TF _=>∀a∈h.F,a∉L.flatMap Hd.own
 | .vw (TH j) p=>∃g∈L,g.e.key*>j/\g.e.r.k.isOw=TK/\(∀a∈h.F,a∈g.F\/a∉L.flatMap Hd.own)/\∀q,p*>q->g.e.r.t.sub q*>h.e.r.t/\atP c.K H g.e.v q h.e.v
structure GW(Γ:Gm)(H:Hp)(L:!Hd):Prop where
 nd:(L.flatMap Hd.own).Nodup
 ad:∀a∈L.flatMap Hd.own,Mu H a/\(Γ.H0 a=TF\/a ∈ Γ.io)
 rp:∀h∈L,Rp Γ.K H h.e.r.t h.e.v h.F
 kd:∀h∈L,MP Γ H L h
 ks:(L.filterMap λh=>h.e.key).Nodup
 fr:∀b o,Γ.H0 b*>o->b∉Γ.io->H b*>o
 iol:∀a ∈ Γ.io,∃o,H a*>o
section
variable {Γ:Gm}{H H':Hp}{L L':!Hd}{h:Hd}
def MP.sub(k:MP Γ H L h)(s:∀g∈L,g.e.r.k.isOw=TK->g∈L')(o:∀a∈L'.flatMap Hd.own,a∈L.flatMap Hd.own):MP Γ H L' h:=by
 unfold MP at k|-;split at k;show k;show k;show λa c z=>k a c (o a z)
 .have(g,l,f,d,i,j):=k;show{g,s g l d,f,d,λa c=>(i a c).imp id λz w=>z (o a w),j}
def GW.perm(G:GW Γ H L)(p:L.Perm L'):GW Γ H L':=
 {(p.flatMap_right _).nodup_iff.mp G.nd,λa c=>G.ad a ((p.flatMap_right _).mem_iff.mpr c),λh d=>G.rp h (p.mem_iff.mpr d),λh d=>(G.kd h (p.mem_iff.mpr d)).sub (λg e _=>p.mem_iff.mp e) (λa c=>(p.flatMap_right _).mem_iff.mpr c),(p.filterMap _).nodup_iff.mp G.ks,G.fr,G.iol}
def kr(s:L'.Sublist L):(L'.flatMap Hd.own).Sublist (L.flatMap Hd.own):=by
 induction s with
 | slnil=>show List.Sublist.refl _
 | cons a s c=>rw[Iy];show c.trans (List.sublist_append_right _ _)
 | cons_cons a s c=>rw[Iy,Iy];show(List.Sublist.refl _).append c
def GW.sub(G:GW Γ H L)(s:L'.Sublist L)(o:∀h∈L',∀j,h.e.r.k.root*>j->∀g∈L,g.e.key*>j->g.e.r.k.isOw=TK->g∈L'):GW Γ H L':=by
 show{(kr s).nodup G.nd,λa c=>G.ad a ((kr s).subset c),λh d=>G.rp h (s.subset d),λh d=>?_,(s.filterMap _).nodup G.ks,G.fr,G.iol};have k:=G.kd h (s.subset d);unfold MP at k|-;split at k;show k;show k;show λa c z=>k a c ((kr s).subset z)
 .delta j p e;have(g,m,i,f,q,l):=k;show{g,o h d j (by rw[e];rfl) g m i f,i,f,λa c=>(q a c).imp id λz w=>z ((kr s).subset w),l}
def GW.drop(G:GW Γ H (h::L))(d:h.e.key=TF):GW Γ H L:=by
 show G.sub (Lk _ _) λg f j _ x a c _=>?_;rcases ycM a with rfl|a;rw[d]at c;cases c;show a
def GW.dropK(G:GW Γ H (h::L))(d:∀g∈L,∀j,h.e.key*>j->g.e.r.k.root≠TH j):GW Γ H L:=by
 show G.sub (Lk _ _) λg f j c x a i _=>?_;rcases ycM a with rfl|a;show absurd c (d g f j i);show a
def GW.filter(G:GW Γ H L)(p:Hd->Bool)(d:∀h∈L,h.e.r.k.isOw=TK->p h=TK):GW Γ H (L.filter p):=
 G.sub Jq λh f j i g a l c=>Ix.mpr {a,d g a c}
def GW.new0(G:GW Γ H L)(e:H a=TF) : Γ.H0 a=TF:=by
 cases q : Γ.H0 a with
 | none=>rfl
 | some o=>
  exfalso;by_cases c:a ∈ Γ.io;have(o,d):=G.iol a c;rw[e]at d;cases d;have:=G.fr a o q c;rw[e]at this;cases this
def GW.push(G:GW Γ H L)(j:Rp Γ.K H r.t v F)(l:MP Γ H L {⟨TF,v,r⟩,F})(i:r.k.isOw=TJ\/F=[]):GW Γ H ({⟨TF,v,r⟩,F}::L):=by
 have e:Hd.own {⟨TF,v,r⟩,F}=[]:=by
  unfold Hd.own;rcases i with h|h;simp[h];simp[h]
 show{by rw[Iy,e];show G.nd,λa c=>G.ad a (by rw[Iy,e]at c;show c),λx d=>?_,λx d=>?_,?_,G.fr,G.iol}
 .rcases ycM d with rfl|d;show j;show G.rp x d
 .rcases ycM d with rfl|d;show l.sub (λg f _=>ymC _ f) (λa c=>by rw[Iy,e]at c;show c);show(G.kd x d).sub (λg f _=>ymC _ f) (λa c=>by rw[Iy,e]at c;show c)
 .rw[IK];show G.ks
def GW.rekey(G:GW Γ H (h::L))(i:h.e.key=TF)(l:∀j,key*>j->j∉L.filterMap λh=>h.e.key):GW Γ H ({⟨key,h.e.v,h.e.r⟩,h.F}::L):=by
 have o:(({⟨key,h.e.v,h.e.r⟩,h.F}:Hd)::L).flatMap Hd.own=(h::L).flatMap Hd.own:=rfl;have m:∀x∈L,MP Γ H (h::L) x->MP Γ H ({⟨key,h.e.v,h.e.r⟩,h.F}::L) x:=λx a k=>by
  unfold MP at k|-;split at k;show k;show k;show k
  .have(g,d,c,f):=k;rcases ycM d with rfl|d;rw[i]at c;cases c;show{g,ymC _ d,c,f}
 show{G.nd,G.ad,λx a=>?_,λx a=>?_,?_,G.fr,G.iol}
 .rcases ycM a with rfl|a;show G.rp h ymS;show G.rp x (ymC _ a)
 .rcases ycM a with rfl|a
  .have k:=G.kd h ymS;unfold MP at k|-;split at k;delta e;dsimp[e];show k;delta e;dsimp[e];show k;delta e;dsimp[e];show k
   .delta e;dsimp[e];have(g,d,c,f):=k;rcases ycM d with rfl|d;rw[i]at c;cases c;show{g,ymC _ d,c,f}
  .show m x a (G.kd x (ymC _ a))
 .have g:=G.ks;rw[IK,i]at g;rw[IK];cases key with
  | none=>show g
  | some j=>show IW.mpr {l j rfl,g}
def i5(ho:h.e.r.k.isOw=TK)(c:a∈h.F):a∈h.own:=by unfold Hd.own;rw[if_pos ho];show c
def GW.apart(G:GW Γ H (hs++L))(w:∀g∈L,∀h∈hs,∀j,h.e.key*>j->g.e.r.k.root≠TH j)(ho:∀h∈hs,h.e.r.k.isOw=TK):∀g∈L,∀a∈g.F,∀h∈hs,a∉h.F:=by
 intro g l a i h u m;have t:=G.nd;rw[Iz]at t;have s:a∈hs.flatMap Hd.own:=Ju.mpr {h,u,i5 (ho h u) m};have d:a∉(hs++L).flatMap Hd.own->False:=λn=>n (by rw[Iz];show yaL _ s);have k:=G.kd g (yaR _ l);have c:∀x∈L,x.e.r.k.isOw=TK->a∈x.F->False:=λx f A o=>
  (Im.mp t).2.2 a s a (Ju.mpr {x,f,i5 A o}) rfl
 unfold MP at k;split at k;delta e;show c g l (by rw[e];rfl) i;delta e;show c g l (by rw[e];rfl) i;show d (k a i)
 .delta j p e;have(x,q,y,v,B,_):=k;rcases B a i with z|z
  .rcases yaM q with f|f;show w g l x f j y (by rw[e];rfl);show c x f v z
  .show d z
def nw{M:!Addr}(c:MJ M H H'){F:!Addr}(o:∀a∈F,a∉M)(E:∀a∈F,Mu H a):∀{q:!Ac} {t s:T} {v w:V} {F':!Addr},(∀a∈F',a∈F)->F'.Nodup->Rp Γ.K H t v F'->t.sub q*>s->atP Γ.K H v q w->atP Γ.K H' v q w
 | [],_,_,_,_,_,_,_,_,_,h=>h
 | a::q,t,s,v,w,F',d,J,r,e,h=>by
  rw[atP]at h|-;have(u,p,O):=h;rw[T.sub]at e;cases e1:jQ t a with
  | none=>rw[e1]at e;cases e
  | some x=>
   rw[e1]at e;have(y,A,G,B,P,U,rfl,_):=r.at1 (λb z=>E b (d b z)) J e1;have:=sk p P;subst this;show{u,?_,nw c o E (λb z=>d b (yaL _ (yaR _ z))) (Im.mp (Im.mp J).1).2.1 U e O};cases a with
   | ix n=>
    have(b,g,rfl,j,k):=p;show{b,g,Xr,c b _ j (o b ?_),k};cases t<;>dsimp[jQ]at e1<;>try cases e1
    rw[Rp]at r;have(N,m,l,i,_,_,f):=r;cases i;show d b (by rw[f];show ymS)
   | ky n=>
    have(b,g,rfl,j,k):=p;show{b,g,Xr,j.off c (o b ?_),k};cases t<;>dsimp[jQ]at e1<;>try cases e1
    rw[Rp]at r;have(N,m,l,i,_,_,f):=r;cases i;show d b (by rw[f];show ymS)
   | fd n=>
    have(b,C,Q,g,rfl,j,k):=p;show{b,C,Q,g,Xr,c b _ j (o b ?_),k};cases t<;>dsimp[jQ]at e1<;>try cases e1
    rw[Rp]at r;have(N,S,m,l,i,_,_,f):=r;cases i;show d b (by rw[f];show ymS)
def GW.ndF(G:GW Γ H L)(c:h∈L)(ho:h.e.r.k.isOw=TK):h.F.Nodup:=by
 have a:=G.nd;have(s,t,rfl):=Ks c;rw[Iz,Iy]at a;have:=(Im.mp (Im.mp a).2.1).1;unfold Hd.own at this;rw[if_pos ho]at this;show this
def GW.muF(G:GW Γ H L)(d:h∈L)(ho:h.e.r.k.isOw=TK):∀a∈h.F,Mu H a:=λa c=>(G.ad a (Ju.mpr {h,d,i5 ho c})).1
def gH{hs:!Hd}(ho:∀h∈hs,h.e.r.k.isOw=TK):hs.flatMap Hd.own=hs.flatMap (·.F):=by
 induction hs with
 | nil=>rfl
 | cons x d a=>
  rw[Iy,Iy,a λh c=>ho h (ymC _ c)];unfold Hd.own;rw[if_pos (ho x ymS)]
def GW.step{hs:!Hd}(G:GW Γ H (hs++L))(ho:∀h∈hs,h.e.r.k.isOw=TK)(hr:∀g∈L,∀h∈hs,∀j,h.e.key*>j->g.e.r.k.root≠TH j)
  (d:MJ (hs.flatMap (·.F)) H H') (P:∀a∈hs.flatMap (·.F),∃o,H' a*>o) {key:↑Nat} {v:V} {r:R} {F:!Addr} (nd:F.Nodup) (A:∀a∈F,(a∈hs.flatMap (·.F)\/H a=TF)/\Mu H' a) (hp:Rp Γ.K H' r.t v F)
  (hk:(r.k=.ow/\∀h∈hs,h.e.r.k=.ow) \/ ∃k,r.k=.io k/\Γ.iov[k]?*>v) (y:∀j,key*>j->j∉L.filterMap λh=>h.e.key):GW Γ H' ({⟨key,v,r⟩,F}::L):=by
 have J:r.k.isOw=TK:=by rcases hk with⟨e,_⟩|⟨k,e,_⟩<;>rw[e]<;>rfl
 have U:=gH ho;have Q:=G.nd;rw[Iz,U]at Q;have O:=(Im.mp Q).2.1;have Z:=(Im.mp Q).2.2;have C:∀a∈L.flatMap Hd.own,Mu H a/\(Γ.H0 a=TF\/a ∈ Γ.io):=λa c=>G.ad a (by rw[Iz];show yaR _ c);have u:∀a∈hs.flatMap (·.F),Mu H a/\(Γ.H0 a=TF\/a ∈ Γ.io):=λa c=>G.ad a (by rw[Iz,U];show yaL _ c);have ap:=G.apart hr ho;have B:∀g∈L,∀a∈g.F,a∉hs.flatMap (·.F):=λg i a c l=>by
  have(h,E,s):=Ju.mp l;show ap g i a c h E s
 have M:Hd.own {⟨key,v,r⟩,F}=F:=by unfold Hd.own;rw[if_pos J]
 have f0:∀a∈F,Γ.H0 a=TF\/a ∈ Γ.io:=λa c=>by
  rcases(A a c).1 with z|z;show(u a z).2;show .inl (G.new0 z)
 show{?_,λa c=>?_,λx f=>?_,λx f=>?_,?_,λb o e n=>?_,λa c=>?_}
 .rw[Iy,M];show Im.mpr {nd,O,λa c b hb=>?_};rintro rfl;rcases(A a c).1 with z|z;show Z a z a hb rfl
  .have(o,e,_):=(C a hb).1;rw[z]at e;cases e
 .rw[Iy,M]at c;rcases yaM c with c|c;show{(A a c).2,f0 a c}
  .obtain⟨⟨o,e,m⟩,z⟩:=C a c;show{{o,d a o e λl=>Z a l a c rfl,m},z}
 .rcases ycM f with rfl|f;show hp;show(G.rp x (yaR _ f)).off d (λa c=>(u a c).1) (B x f)
 .rcases ycM f with rfl|f
  .unfold MP;rcases hk with⟨e,eh⟩|⟨k,e,ek⟩
   .dsimp[e];intro a c;rcases(A a c).1 with z|z
    .have(h,E,s):=Ju.mp z;have q:=G.kd h (yaL _ E);unfold MP at q;rw[eh h E]at q;show q a s
    .show G.new0 z
   .dsimp[e];show ek
  .have k:=G.kd x (yaR _ f);have st:∀a∈x.F,a∉(hs++L).flatMap Hd.own->a∉(({⟨key,v,r⟩,F}:Hd)::L).flatMap Hd.own:=λa c n z=>by
    rw[Iy,M]at z;rcases yaM z with z|z
    .rcases(A a z).1 with w|w;show n (by rw[Iz,U];show yaL _ w)
     .have(o,e):=(G.rp x (yaR _ f)).dom a c;rw[w]at e;cases e
    .show n (by rw[Iz];show yaR _ z)
   unfold MP at k|-;split at k;show k;show k;show λa c=>st a c (k a c)
   .delta j p e;have(g,h1,Y,S,h4,N):=k;rcases yaM h1 with i|i;show absurd (by rw[e];rfl) (hr x f g i j Y)
    .show{g,ymC _ i,Y,S,λa c=>(h4 a c).imp id (st a c),λq X=>{(N q X).1,?_}};show nw d (F:=g.F) (B g i) (G.muF (yaR _ i) S) (λa c=>c) (G.ndF (yaR _ i) S) (G.rp g (yaR _ i)) (N q X).1 (N q X).2
 .have g:=G.ks;rw[IL]at g;have g2:=(Im.mp g).2.1;rw[IK];cases key with
  | none=>show g2
  | some j=>show IW.mpr {y j rfl,g2}
 .show d b o (G.fr b o e n) λl=>?_;rcases(u b l).2 with z|z;rw[z]at e;cases e;show n z
 .have(o,e):=G.iol a c;by_cases l:a∈hs.flatMap (·.F);show P a l;show{o,d a o e l}
end
def mT{j k:Type}{f : j->k}{N M:!k}(p:N.Perm M):∀L:!j,L.map f=N->∃c,L.Perm c/\c.map f=M:=by
 induction p with
 | nil=>intro L h;show{L,List.Perm.refl _,h}
 | cons x p m=>
  intro L h;cases L with
  | nil=>cases h
  | cons a L=>
   rw[Io,JN.injEq]at h;have(c,d,e):=m L h.2;show⟨a::c,d.cons a,by rw[Io,h.1,e]⟩
 | swap x y l=>
  intro L h;cases L with
  | nil=>cases h
  | cons a L=>
   cases L with
   | nil=>cases h
   | cons b L=>
    dsimp[Io,JN.injEq]at h;show⟨b::a::L,List.Perm.swap _ _ _,by simp[h.1,h.2.1,h.2.2]⟩
 | trans p q g i=>
  intro L h;have(s,d,e):=g L h;have(L2,o,r):=i s e;show{L2,d.trans o,r}
abbrev HE(a:Gm)(H:Hp)(X:!En):Prop:=∃L,GW a H L/\L.map (·.e)=X
section
variable {Γ:Gm}{H H':Hp}{X Y:!En}{e:En}
def HE.perm(S:HE Γ H X)(p:X.Perm Y):HE Γ H Y:=by
 have(L,g,e):=S;have(a,c,d):=mT p L e;show{a,g.perm c,d}
def aN{g c:Type}{f : g->c}{L:!g}{b : c}{X:!c}(h:L.map f=b::X):∃a d,L=a::d/\f a=b/\d.map f=X:=by
 cases L with
 | nil=>cases h
 | cons a L=>rw[Io,JN.injEq]at h;show⟨a,L,Xr,h.1,h.2⟩
def eU{g d:Type}{f : g->d}:∀{A:!d} {L:!g} {B:!d},L.map f=A++B->∃c L2,L=c++L2/\c.map f=A/\L2.map f=B
 | [],L,B,h=>{[],L,Xr,Xr,h}
 | a::A,L,B,h=>by
  have(x,m,rfl,k,i):=aN h;have(c,L2,rfl,l,j):=eU i;show⟨x::c,L2,Xr,by rw[Io,k,l],j⟩
def HE.drop(S:HE Γ H (e::X))(f:e.key=TF):HE Γ H X:=by
 have(L,g,h):=S;have(x,a,rfl,d,c):=aN h;subst d;show{a,g.drop f,c}
def HE.dropK(S:HE Γ H (e::X))(l:∀g∈X,∀j,e.key*>j->g.r.k.root≠TH j):HE Γ H X:=by
 have(L,g,h):=S;have(x,c,rfl,i,a):=aN h;subst i;show{c,g.dropK λy f j d=>l y.e (by rw[<-a];show IX f) j d,a}
abbrev aB(M:!Nat) (e:En):Bool:=match e.r.k.root with
 | some j=> ~~~M.contains j
 | none=>TK
abbrev ah(M:!Nat) (E:!En):!En:=E.filter (aB M)
def ui(e:En):aB [] e=TK:=by unfold aB;split<;>rfl
def bX(E:!En):ah [] E=E:=by unfold ah;rw[JQ];intro a _;show ui a
def aK(M:!Nat)(A B:!En):ah M (A++B)=ah M A++ah M B:=IY ..
def mE(M N:!Nat)(e:En):aB (M++N) e=(aB N e&&aB M e):=by
 unfold aB;split
 .rename_i j _;by_cases a:j∈M<;>by_cases c:j∈N<;>simp[a,c]
 .rfl
def ag(M N:!Nat)(E:!En):ah N (ah M E)=ah (M++N) E:=by
 unfold ah;rw[KW];congr 1;funext e;rw[mE]
def HE.kill(S:HE Γ H X)(M:!Nat):HE Γ H (ah M X):=by
 have(L,g,h):=S;show{L.filter λx=>aB M x.e,g.filter _ λx _ a=>?_,?_}
 .unfold aB;cases k:x.e.r.k with
  | vw r p=>rw[k]at a;cases a
  | ow=>rfl
  | io _=>rfl
 .rw[<-h];unfold ah;rw[KN];rfl
def HE.push(S:HE Γ H X)(h:RpI Γ.K H i v):HE Γ H ({TF,v,{.ow,.im i}}::X):=by
 have(L,g,d):=S;show{_,g.push (v:=v) (r:={.ow,.im i}) (gK h) (λa c=>by cases c) (.inr rfl),by rw[Io,d]}
def HE.rekey(S:HE Γ H (e::X))(m:e.key=TF){key:↑Nat}(k:∀j,key*>j->∀g∈X,g.key≠TH j):HE Γ H (⟨key,e.v,e.r⟩::X):=by
 have(L,g,h):=S;have(x,o,rfl,i,c):=aN h;subst i;show{_,g.rekey m (key:=key) λj d l=>?_,by rw[Io,c]};have(y,f,a):=I9.mp l;show k j d y.e (by rw[<-c];show IX f) a
def HE.rd(S:HE Γ H X)(a:e∈X):∃F,Rp Γ.K H e.r.t e.v F:=by
 have(L,g,rfl):=S;have(h,c,rfl):=Is.mp a;show{h.F,g.rp h c}
def HE.view(S:HE Γ H X)(i:e∈X)(l:e.key*>j)(ho:e.r.k.isOw=TK):HE Γ H ({TF,e.v,{.vw (TH j) (TH []),e.r.t}}::X):=by
 have(L,g,rfl):=S;have(h,c,rfl):=Is.mp i;show{_,g.push (v:=h.e.v) (r:={.vw (TH j) (TH []),h.e.r.t}) (g.rp h c) {h,c,l,ho,λa d=>.inl d,λq f=>by cases f;show⟨Xr,Xr⟩} (.inl rfl),Xr}
def HE.copy(S:HE Γ H X)(c:e∈X)(ho:e.r.k.isOw=TJ):HE Γ H (⟨TF,e.v,e.r⟩::X):=by
 have(L,g,rfl):=S;have(h,a,rfl):=Is.mp c;show{_,g.push (v:=h.e.v) (r:=h.e.r) (F:=h.F) (g.rp h a) (g.kd h a) (.inl ho),Xr}
def HE.part(S:HE Γ H X)(u:e∈X){c:↑Nat}{p:Option !Ac}(ho:e.r.k=.vw c p){P:V->Prop}{s:T}(C:∀F,Rp Γ.K H e.r.t e.v F->∃w G,P w/\Rp Γ.K H s w G/\∀a∈G,a∈F):∃w,P w/\HE Γ H ({TF,w,{.vw c TF,s}}::X):=by
 have(L,g,rfl):=S;have(h,i,rfl):=Is.mp u;have(w,G,o,z,f):=C h.F (g.rp h i);show{w,o,_,g.push (v:=w) (r:={.vw c TF,s}) (F:=G) z ?_ (.inl rfl),Xr};have k:=g.kd h i;unfold MP at k|-;rw[ho]at k;cases c with
 | none=>show λa d=>k a (f a d)
 | some j=>
  have(x,y,A,m,l,E):=k;show{x,y,A,m,λa d=>l a (f a d),λq B=>by cases B}
def HE.partP(S:HE Γ H X)(M:e∈X)(ho:e.r.k=.vw (TH j) (TH q))(hs:jQ e.r.t a*>s):∃w,at1 Γ.K H e.v a w/\HE Γ H ({TF,w,{.vw (TH j) (TH (q++[a])),s}}::X):=by
 have(L,g,rfl):=S;have(h,O,rfl):=Is.mp M;have k:=g.kd h O;unfold MP at k;rw[ho]at k;have(x,c,E,d,x4,C):=k;have(u,y2):=C q rfl;have i:x.e.r.t.sub (q++[a])*>s:=tJ u hs;have(w,A,G,B,m,N,J,_):=(g.rp x c).atP (g.muF c d) (g.ndF c d) i;have(w0,A0,l,B0,y,z,p,_):=(g.rp x c).atP (g.muF c d) (g.ndF c d) u;have Q:=iQ y y2;subst Q;have U:l.Nodup:=by
  have:=g.ndF c d;rw[p]at this;show(Im.mp (Im.mp this).1).2.1
 have mG:∀b∈l,Mu H b:=λb f=>g.muF c d b (by rw[p];show yaL _ (yaR _ f));have(o,A',G',B',v1,v2,v3,_):=z.at1 mG U hs;have P:=iQ (so y v1) m;subst P;show{o,v1,_,g.push (v:=o) (r:={.vw (TH j) (TH (q++[a])),s}) (F:=G) N {x,c,E,d,λb f=>.inl (by rw[J];show yaL _ (yaR _ f)),λq' Z=>?_} (.inl rfl),Xr};cases Z;show⟨i,m⟩
abbrev aV:!V->!T->!En
 | v::vs,t::a=>{TF,v,{.ow,t}}::aV vs a
 | _,_=>[]
def lM:∀{vs:!V} {ts:!T} {L:!Hd},vs.length=ts.length->L.map (·.e)=aV vs ts->(∀h∈L,Rp Γ.K H h.e.r.t h.e.v h.F)->Rps Γ.K H ts vs (L.flatMap (·.F))/\∀h∈L,h.e.r.k=.ow/\h.e.key=TF
 | [],[],L,_,h,_=>by
  have:L=[]:=LL.mp h;subst this;show{Rps.nil,by simp}
 | v::vs,t::ts,L,g,h,f=>by
  have(x,m,rfl,d,i):=aN h;have(j,l):=lM (vs:=vs) (ts:=ts) (by exists g) i λy a=>f y (ymC _ a);have c:=f x ymS;rw[d]at c;rw[Iy];show{Rps.cons c j,λy a=>?_};rcases ycM a with rfl|a;rw[d];show⟨Xr,Xr⟩;show l y a
 | [],_::_,_,h,_,_=>by cases h
 | _::_,[],_,h,_,_=>by cases h
def HE.use{vs:!V}{ts:!T}(S:HE Γ H (aV vs ts++X))(u:vs.length=ts.length):∃F,Rps Γ.K H ts vs F/\F.Nodup/\(∀a∈F,Mu H a) /\
  ∀H' v t F',MJ F H H'->(∀a∈F,∃o,H' a*>o)->F'.Nodup->(∀a∈F',(a∈F\/H a=TF)/\Mu H' a)->Rp Γ.K H' t v F'->HE Γ H' ({TF,v,{.ow,t}}::X):=by
 have(L,g,h):=S;have(s,L2,rfl,E,w):=eU h;have(z,p):=lM u E λy c=>g.rp y (yaL _ c);have l:∀h∈s,h.e.r.k.isOw=TK:=λh G=>by rw[(p h G).1];rfl
 have q:=g.nd;rw[Iz,gH l]at q;show{_,z,(Im.mp q).1,λa B=>(g.ad a (by rw[Iz,gH l];show yaL _ B)).1,λH' v t F' f m i A C=>?_};show{_,g.step l (λx _ y c j d=>by rw[(p y c).2]at d;cases d) f m (key:=TF) (v:=v) (r:={.ow,t}) i A C (.inl {Xr,λy c=>(p y c).1}) (λj d=>by cases d),by rw[Io,w]}
def HE.mutP{vs:!V}{ts:!T}{p:!Ac}{s:T}(S:HE Γ H (e::aV vs ts++X))(hl:vs.length=ts.length)(ho:e.r.k.isOw=TK)(hr:∀g∈X,∀j,e.key*>j->g.r.k.root≠TH j)(hs:e.r.t.sub p*>s)(hX:∀j,e.key*>j->∀g∈X,g.key≠TH j) :
  ∃w G F,atP Γ.K H e.v p w/\Rp Γ.K H s w G/\Rps Γ.K H ts vs F/\(G++F).Nodup/\(∀a∈G++F,Mu H a) /\
  ∀H' U J,MJ G H H'->(∀a∈G,∃o,H' a*>o)->J.Nodup->(∀a∈J,(a∈G++F\/H a=TF)/\Mu H' a)->Rp Γ.K H' U w J->HE Γ H' ({e.key,e.v,{e.r.k,e.r.t.put p U}}::X):=by
 have(L,g,h):=S;rw[IT]at h;have(x,L',rfl,h1,h2):=aN h;have(c,L2,rfl,h3,h4):=eU h2;subst h1;have(r1,r2):=lM hl h3 λy m=>g.rp y (ymC _ (yaL _ m));have C:∀h∈x::c,h.e.r.k.isOw=TK:=λh hh=>by
  rcases ycM hh with rfl|hh;show ho;rw[(r2 h hh).1];rfl
 have nx:=g.ndF ymS ho;have(w,A,G,B,z1,z2,z3,z4):=(g.rp x ymS).atP (g.muF ymS ho) nx hs;have nd:=g.nd;rw[show x::(c++L2)=(x::c)++L2 from rfl,Iz,gH C]at nd;have O:=(Im.mp nd).1;rw[Iy,z3]at O;have Z:∀a∈(x::c).flatMap (·.F),Mu H a:=λa d=>(g.ad a (by rw[show x::(c++L2)=(x::c)++L2 from rfl,Iz,gH C];show yaL _ d)).1;have E:∀a,a∈G++c.flatMap (·.F)->a∈(x::c).flatMap (·.F):=λa d=>by
  rw[Iy,z3];rcases yaM d with z|z;show yaL _ (yaL _ (yaR _ z));show yaR _ z
 have f:=(Im.mp O);have ndG:(G++c.flatMap (·.F)).Nodup:=Im.mpr {(Im.mp (Im.mp f.1).1).2.1,f.2.1,λa d b N=>f.2.2 a (yaL _ (yaR _ d)) b N};show{w,G,c.flatMap (·.F),z1,z2,r1,ndG,λa d=>Z a (E a d),λH' U J i dom nd' hG rp=>?_};have u:∀a,(a∈A\/a∈B)->a∉G++c.flatMap (·.F):=λa d l=>by
  rcases yaM l with z|z
  .rcases d with q|q;show(Im.mp (Im.mp f.1).1).2.2 a q a z rfl;show(Im.mp f.1).2.2 a (yaR _ z) a q rfl
  .rcases d with q|q;show f.2.2 a (yaL _ (yaL _ q)) a z rfl;show f.2.2 a (yaR _ q) a z rfl
 have rp':=z4 H' U J i rp;show{_,g.step (hs:=x::c) (L:=L2) C (λy m z hz j Q=>?_) (i.mono λa d=>E a (yaL _ d)) (λa d=>?_) (key:=x.e.key) (v:=x.e.v) (r:={x.e.r.k,x.e.r.t.put p U}) (F:=A++J++B) ?_ (λa d=>?_) rp' ?_ (λj Q l=>?_),by rw[Io,h4]}
 .rcases ycM hz with rfl|hz;show hr y.e (by rw[<-h4];show IX m) j Q;rw[(r2 z hz).2]at Q;cases Q
 .by_cases l:a∈G;show dom a l
  .have(o,M,_):=Z a d;show{o,i a o M l}
 .have ab:=Im.mp f.1;have aG:=Im.mp ab.1;have nG:∀a,(a∈A\/a∈B)->a∉J:=λa d hg=>by
   rcases(hG a hg).1 with z|z;show u a d z
   .have:Mu H a:=Z a (by
     rw[Iy,z3];rcases d with q|q;show yaL _ (yaL _ (yaL _ q));show yaL _ (yaR _ q))
    have(o,M,_):=this;rw[z]at M;cases M
  show Im.mpr {Im.mpr {aG.1,nd',λa d b N e=>nG a (.inl d) (e▸N)},ab.2.1,λa d b N e=>?_};subst e;rcases yaM d with z|z;show ab.2.2 a (yaL _ z) a N rfl;show nG a (.inr N) z
 .have P:a∈A\/a∈B->(a∈(x::c).flatMap (·.F)\/H a=TF)/\Mu H' a:=λq=>by
   have l:a∈(x::c).flatMap (·.F):=by
    rw[Iy,z3];rcases q with q|q;show yaL _ (yaL _ (yaL _ q));show yaL _ (yaR _ q)
   have(o,M,m1):=Z a l;show{.inl l,o,i a o M (λz=>u a q (yaL _ z)),m1}
  rcases yaM d with z|z
  .rcases yaM z with z|z;show P (.inl z);show{(hG a z).1.imp (E a) id,(hG a z).2}
  .show P (.inr z)
 .have k:=g.kd x ymS;unfold MP at k;cases ek:x.e.r.k with
  | ow=>
   show .inl {Xr,λy m=>?_};rcases ycM m with rfl|m;show ek;show(r2 y m).1
  | io n=>rw[ek]at k;show .inr ⟨n,Xr,k⟩
  | vw a b=>rw[ek]at ho;cases ho
 .have(y,m,hyk):=I9.mp l;show hX j Q y.e (by rw[<-h4];show IX m) hyk
end
protected def Rho:=! ↑R
abbrev aD:Nat->! ↑V->Rho->!En
 | i,TH v::Z,TH r::O=>{TH i,v,r}::aD (i+1) Z O
 | i,TF::Z,_::O=>aD (i+1) Z O
 | i,TH _::Z,TF::O=>aD (i+1) Z O
 | _,_,_=>[]
def bF{r:R}:∀{k:Nat} {Z:! ↑V} {O:Rho} {i:Nat} {v:V},Z[i]?*>(TH v)->O[i]?*>(TH r)->(aD k Z O).Perm ({TH (k+i),v,r}::aD k Z (O.set i TF))
 | _,[],_,_,_,h,_=>by simp at h
 | _,_::_,[],_,_,_,h=>by simp at h
 | k,x::Z,y::O,0,v,d,a=>by
  simp at d a;subst d a;simp[aD]
 | k,x::Z,y::O,i+1,v,d,a=>by
  have c:=bF (k:=k+1) (Z:=Z) (O:=O) (i:=i) (v:=v) (r:=r) (by exists d) (by exists a);rw[show k+1+i=k+(i+1) by omega]at c;cases x with
  | none=>simpa[aD]using c
  | some x=>
   cases y with
   | none=>simpa[aD]using c
   | some y=>
    dsimp[aD,LS];show(List.Perm.cons _ c).trans (List.Perm.swap _ _ _)
def my:∀{k:Nat} {Z:! ↑V} {O:Rho} {i:Nat} {x:↑V},aD k (Z.set i x) (O.set i TF)=aD k Z (O.set i TF)
 | _,[],O,_,_=>rfl
 | _,x::Z,[],i,y=>by cases i<;>cases x<;>simp[aD]<;>cases y<;>simp[aD]
 | _,x::Z,y::O,0,z=>by cases x<;>cases z<;>simp[aD]
 | k,x::Z,y::O,i+1,z=>by
  have a:=my (k:=k+1) (Z:=Z) (O:=O) (i:=i) (x:=z);cases x<;>cases y<;>simp[aD,a]
def gx{k:Nat}{Z:! ↑V}{O:Rho}{i:Nat}{v:V}{r:R}(c:i<Z.length)(a:i < O.length):(aD k (Z.set i (TH v)) (O.set i (TH r))).Perm ({TH (k+i),v,r}::aD k Z (O.set i TF)):=by
 have:=bF (k:=k) (Z:=Z.set i (TH v)) (O:=O.set i (TH r)) (i:=i) (v:=v) (r:=r) (by simp[c]) (by simp[a]);rw[List.set_set,my]at this;show this
def dw{e:En}:∀{k:Nat} {Z:! ↑V} {O:Rho},e∈aD k Z O->∃i,e.key*>(k+i)/\O[i]?*>(TH e.r)/\Z[i]?*>(TH e.v)
 | _,[],_,h=>by simp[aD]at h
 | _,x::_,[],h=>by cases x<;>simp[aD]at h
 | k,x::Z,y::O,h=>by
  have a:e∈aD (k+1) Z O->∃i,e.key*>(k+i)/\(y::O)[i]?*>(TH e.r)/\(x::Z)[i]?*>(TH e.v):=λh=>by
   have(i,d,c,f):=dw h;show{i+1,by rw[d];congr 1;omega,by simpa using c,by simpa using f}
  cases x with
  | none=>dsimp[aD]at h;show a h
  | some x=>
   cases y with
   | none=>dsimp[aD]at h;show a h
   | some y=>
    dsimp[aD]at h;rcases ycM h with rfl|h;show{0,Xr,Xr,Xr};show a h
abbrev dJ(M:!Nat) (r:R):Bool:=match r.k.root with
 | some j=> ~~~M.contains j
 | none=>TK
abbrev bA(M:!Nat):↑R->↑R
 | some r=>if dJ M r=TK then TH r else TF
 | none=>TF
abbrev ar(M:!Nat) (O:Rho):Rho:=O.map (bA M)
def aP(M:!Nat)(O:Rho):(ar M O).length=O.length:=by unfold ar;rw[Ih]
def fB(M:!Nat):∀{k:Nat} {Z:! ↑V} {O:Rho},aD k Z (ar M O)=ah M (aD k Z O)
 | _,[],_=>rfl
 | _,x::_,[]=>by cases x<;>rfl
 | k,x::Z,y::O=>by
  have a:=fB M (k:=k+1) (Z:=Z) (O:=O);have e:ar M (y::O)=bA M y::ar M O:=rfl;rw[e];cases x with
  | none=>simpa[aD]using a
  | some v=>
   cases y with
   | none=>simpa[aD,bA]using a
   | some r=>
    have c:aB M {TH k,v,r}=dJ M r:=rfl;cases q:dJ M r with
    | true=>dsimp[aD,bA,q,if_true,ah,Jv,c,a]
    | false=>
     dsimp[aD,bA,q,ah,Jv,c,a];simp[aD,a,ah]
def mH{M:!Nat}{O:Rho}{i:Nat}{r:R}(h:(ar M O)[i]?*>(TH r)) : O[i]?*>(TH r):=by
 unfold ar at h;rw[Iw]at h;cases q : O[i]? with
 | none=>rw[q]at h;cases h
 | some o=>
  rw[q]at h;cases o with
  | none=>cases h
  | some x=>
   have a:bA M (TH x)*>r:=by exists h
   dsimp[bA]at a;split at a;rw[IG.inj a];show absurd a ∅
def um{M:!Nat}{O:Rho}{i:Nat}{r:R}(h : O[i]?*>(TH r))(ho:r.k.isOw=TK):(ar M O)[i]?*>(TH r):=by
 unfold ar;rw[Iw,h];have:dJ M r=TK:=by
  unfold dJ;cases e:r.k with
  | vw a b=>rw[e]at ho;cases ho
  | ow=>rfl
  | io _=>rfl
 simp[bA,this]
structure Sim(Γ:Gm)(H:Hp)(O:Rho)(Z:St)(E:!En):Prop where
 sl:HE Γ H (E++aD 0 Z O)
 al:∀(i:Nat) r,O[i]?*>(TH r)->∃v,Z[i]?*>(TH v)
 len:Z.length=O.length
 hi:∀e∈E,∀j,e.key*>j->O.length<=j
section
variable {Γ:Gm}{H H':Hp}{O:Rho}{Z:St}{E E':!En}{e:En}{r:R}{v w x:V}{i j:Nat}{t s:T}
def Sim.perm(S:Sim Γ H O Z E)(p:E.Perm E'):Sim Γ H O Z E':={S.sl.perm (p.append_right _),S.al,S.len,λe a=>S.hi e (p.mem_iff.mpr a)}
def Sim.drop(S:Sim Γ H O Z (e::E))(a:e.key=TF):Sim Γ H O Z E:={S.sl.drop a,S.al,S.len,λx c=>S.hi x (ymC _ c)}
def Sim.swap(S:Sim Γ H O Z (e::f::E)):Sim Γ H O Z (f::e::E):=S.perm (List.Perm.swap _ _ _)
def Sim.imm(S:Sim Γ H O Z E){i:I}(h:RpI Γ.K H i v):Sim Γ H O Z ({TF,v,{.ow,.im i}}::E):=
 {S.sl.push h,S.al,S.len,λx a j c=>by
  rcases ycM a with rfl|a;cases c;show S.hi x a j c}
def Sim.rd(S:Sim Γ H O Z E)(a:e∈E):∃F,Rp Γ.K H e.r.t e.v F:=S.sl.rd (yaL _ a)
def Sim.slot(S:Sim Γ H O Z E)(h : O[i]?*>(TH r)):∃v,Z[i]?*>(TH v)/\({TH i,v,r}:En)∈E++aD 0 Z O:=by
 have(v,a):=S.al i r h;show{v,a,yaR _ ((bF a h).mem_iff.mpr ?_)};rw[IZ];show ymS
abbrev rdR(i:Nat):R->R
 | ⟨.ow,.im x⟩=>{.ow,.im x}
 | ⟨.vw a b,t⟩=>{.vw a b,t}
 | ⟨_,t⟩=>{.vw (TH i) (TH []),t}
def Sim.cons(S:Sim Γ H O Z E)(h:HE Γ H' (⟨TF,v,r⟩::(E++aD 0 Z O))):Sim Γ H' O Z (⟨TF,v,r⟩::E):=
 {h,S.al,S.len,λx a j c=>by
  rcases ycM a with rfl|a;cases c;show S.hi x a j c}
def Sim.var(S:Sim Γ H O Z E)(h : O[i]?*>(TH r)):∃v,Z[i]?*>(TH v)/\Sim Γ H O Z ({TF,v,rdR i r}::E):=by
 have(v,f,c):=S.slot h;show{v,f,S.cons ?_};have(k,t):=r;cases k with
 | vw a b=>show S.sl.copy (e:={TH i,v,{.vw a b,t}}) c rfl
 | io n=>
  have:=S.sl.view (e:={TH i,v,{.io n,t}}) c rfl rfl;cases t<;>show this
 | ow=>
  cases t with
  | im x=>
   have(F,d):=S.sl.rd c;show S.sl.push (aX d).1
  | tup _=>show S.sl.view (e:={TH i,v,{.ow,_}}) c rfl rfl
  | li _=>show S.sl.view (e:={TH i,v,{.ow,_}}) c rfl rfl
  | lst _=>show S.sl.view (e:={TH i,v,{.ow,_}}) c rfl rfl
  | di _=>show S.sl.view (e:={TH i,v,{.ow,_}}) c rfl rfl
  | dq _=>show S.sl.view (e:={TH i,v,{.ow,_}}) c rfl rfl
  | dc _=>show S.sl.view (e:={TH i,v,{.ow,_}}) c rfl rfl
  | ins _ _=>show S.sl.view (e:={TH i,v,{.ow,_}}) c rfl rfl
def Sim.kill(S:Sim Γ H O Z E)(M:!Nat):Sim Γ H (ar M O) Z (ah M E):=by
 show{?_,λi r h=>S.al i r (mH h),by rw[aP];show S.len,λx a j c=>by rw[aP];show S.hi x (Ix.mp a).1 j c};rw[fB,<-aK];show S.sl.kill M
def le{M:!Nat}{X:!En}(c:i∈M):∀g∈ah M X,g.r.k.root≠TH i:=λg a z=>by
 have:=(Ix.mp a).2;unfold aB at this;rw[z]at this;simp[c]at this
def Sim.out(S:Sim Γ H O Z E)(h : O[i]?*>(TH r))(ho:r.k.isOw=TK):∃v,Z[i]?*>(TH v)/\HE Γ H ({TH i,v,r}::(ah [i] E++aD 0 Z ((ar [i] O).set i TF))) /\
  (∀g∈ah [i] E++aD 0 Z ((ar [i] O).set i TF),g.r.k.root≠TH i)/\∀g∈ah [i] E++aD 0 Z ((ar [i] O).set i TF),g.key≠TH i:=by
 have(v,l):=S.al i r h;have p:=S.kill [i];have y:=um (M:=[i]) h ho;have a:i < O.length:=(Ii.mp h).1;show{v,l,p.sl.perm ?_,λg f=>?_,λg f q=>?_}
 .have:=(bF (k:=0) l y).append_left (ah [i] E);rw[IZ]at this;show this.trans IU
 .rcases yaM f with z|z;show le ∅ g z
  .have:g∈aD 0 Z (ar [i] O):=by
    have(m,d,c,o):=dw z;have u:m≠i:=λe=>by subst e;simp[aP,a]at c
    rw[ID (NA u)]at c;have:=(bF (k:=0) o c).mem_iff.mpr (ymS);have e:g={TH (0+m),g.v,g.r}:=by cases g;dsimp[En.mk.injEq,and_self,and_true];show d
    rw[e];show this
   rw[fB]at this;show le ∅ g this
 .rcases yaM f with z|z
  .have:=p.hi g z i q;rw[aP]at this;omega
  .have(m,d,c,o):=dw z;rw[q,IZ]at d;cases d;simp[aP,a]at c
def Sim.back(S:Sim Γ H O Z E){c:Rho}{a:St}(h:HE Γ H' (E'++aD 0 a c))(d : c.length=O.length)(l:a.length=Z.length)(k:∀(i:Nat) r,c[i]?*>(TH r)->∃v,a[i]?*>(TH v))(m:∀e∈E',∀j,e.key*>j->e∈E):Sim Γ H' c a E':=
 {h,k,by rw[d,l];show S.len,λe g j f=>by rw[d];show S.hi e (m e g j f) j f}
abbrev gG(O:Rho) (i:Nat):Bool:=match O[i]? with
 | some (TH ⟨.io _,_⟩)=>TJ
 | some _=>TK
 | none=>TJ
def Cs{O:Rho}{Z:St}(f:∀(i:Nat) r,O[i]?*>(TH r)->∃v,Z[i]?*>(TH v))(g:i<Z.length):∀(m:Nat) a,(O.set i (TH r))[m]?*>(TH a)->∃d,(Z.set i (TH v))[m]?*>(TH d):=λm a c=>by
 by_cases e:m=i;subst e;show{v,by simp[g]};rw[ID (NA e)]at c|-;show f m a c
def Sim.put(S:Sim Γ H O Z (⟨TF,v,r⟩::E))(M:gG O i=TK)(hr:r.k.root≠TH i):Sim Γ H ((ar [i] O).set i (TH r)) (Z.set i (TH v)) (ah [i] E):=by
 have d:i < O.length:=by
  unfold gG at M;cases q : O[i]? with
  | none=>rw[q]at M;cases M
  | some o=>show(Ii.mp q).1
 have B:i<Z.length:=by rw[S.len];show d
 have l:aB [i] ⟨TF,v,r⟩=TK:=by
  unfold aB;split
  .delta j h;have:j≠i:=λz=>hr (z▸h);simp[this]
  .rfl
 have L:ah [i] (⟨TF,v,r⟩::E)=⟨TF,v,r⟩::ah [i] E:=by unfold ah;rw[Jv,if_pos l]
 have u:=S.kill [i];rw[L]at u;have J:HE Γ H (⟨TF,v,r⟩::(ah [i] E++aD 0 Z ((ar [i] O).set i TF)))/\∀g∈ah [i] E++aD 0 Z ((ar [i] O).set i TF),g.key≠TH i:=by
  cases q:(ar [i] O)[i]? with
  | none=>rw[K2,aP]at q;omega
  | some o=>
   cases o with
   | none=>
    have e:(ar [i] O).set i TF=ar [i] O:=by
     apply JW;intro m;by_cases G:m=i;subst G;rw[q];simp[aP,d];rw[ID (NA G)]
    rw[e];show{u.sl,λg c C=>?_};rcases yaM c with z|z
    .have:=u.hi g (ymC _ z) i C;rw[aP]at this;omega
    .obtain⟨m,a,f,N⟩:=dw z;rw[C,IZ]at a;cases a;rw[q]at f;cases f
   | some U=>
    have Q:=mH q;by_cases ho:U.k.isOw=TK
    .obtain⟨v0,y,a,P,f⟩:=S.out Q ho;rw[L]at a P f;show{a.dropK λg c j h=>by cases h;show P g c,λg c=>f g (ymC _ c)}
    .obtain⟨v0,y⟩:=S.al i U Q;have p:=(bF (k:=0) y q).append_left (⟨TF,v,r⟩::ah [i] E);rw[IZ]at p;have a:=u.sl.perm (p.trans IU);show{a.dropK λg c j h=>?_,λg c C=>?_}
     .cases (h);have A:g∈ah [i] (⟨TF,v,r⟩::E)++ah [i] (aD 0 Z O):=by
       rw[L,<-fB];rcases yaM c with z|z;show yaL _ z
       .show yaR _ ?_;obtain⟨m,a,f,N⟩:=dw z;have G:m≠i:=λe=>by subst e;simp[aP,d]at f
        rw[ID (NA G)]at f;have:=(bF (k:=0) N f).mem_iff.mpr (ymS);have e:g={TH (0+m),g.v,g.r}:=by cases (g);dsimp[En.mk.injEq,and_self,and_true];show a
        rw[e];show this
      rw[<-aK]at A;show le ∅ g A
     .rcases yaM c with z|z
      .have:=u.hi g (ymC _ z) i C;rw[aP]at this;omega
      .obtain⟨m,a,f,N⟩:=dw z;rw[C,IZ]at a;cases a;simp[aP,d]at f
 obtain⟨J,K⟩:=J;have Y:=J.rekey (e:=⟨TF,v,r⟩) rfl (key:=TH i) λj h g c=>by cases h;show K g c
 show u.back (Y.perm ?_) (by simp[aP]) ∅ (Cs u.al B) (λe X j h=>ymC _ X);have p:=(gx (k:=0) (Z:=Z) (O:=ar [i] O) (v:=v) (r:=r) B (by rw[aP];show d)).append_left (ah [i] E);rw[IZ]at p;show(IU.symm).trans p.symm
def Sim.mut{vs:!V}{ts:!T}{p:!Ac}{k:Kd}(S:Sim Γ H O Z (aV vs ts++{TF,w,{.vw (TH i) (TH p),s}}::E))(hl:vs.length=ts.length)(h : O[i]?*>(TH ⟨k,t⟩))(ho:k.isOw=TK) :
  ∃G F,Rp Γ.K H s w G/\Rps Γ.K H ts vs F/\(G++F).Nodup/\(∀a∈G++F,Mu H a) /\
  ∀H' M C,MJ G H H'->(∀a∈G,∃o,H' a*>o)->C.Nodup->(∀a∈C,(a∈G++F\/H a=TF)/\Mu H' a)->Rp Γ.K H' M w C->Sim Γ H' ((ar [i] O).set i (TH {k,t.put p M})) Z (ah [i] E):=by
 have l:i < O.length:=(Ii.mp h).1;have(v0,f,u):=S.slot h;have pl:t.sub p*>s/\atP Γ.K H v0 p w:=by
  have(L,g,e):=S.sl;have:({TF,w,{.vw (TH i) (TH p),s}}:En)∈L.map (·.e):=by rw[e];simp
  have(y,hy,ey):=Is.mp this;have kd:=g.kd y hy;unfold MP at kd;rw[ey]at kd;have(x,x1,x2,x3,x4,x5):=kd;have U:({TH i,v0,⟨k,t⟩}:En)∈L.map (·.e):=by rw[e];show u
  have(z,c,ez):=Is.mp U;have:x=z:=by
   have nk:=g.ks;by_cases q:x=z;show q
   .exfalso;have(A,B,rfl):=Ks x1;rw[IL,IK,x2]at nk;rcases yaM c with c|c;show(Im.mp nk).2.2 i (I9.mpr {z,c,by rw[ez]}) i ymS rfl
    .rcases ycM c with c|c;show q c.symm;show(IW.mp (Im.mp nk).2.1).1 (I9.mpr {z,c,by rw[ez]})
  subst this;have:=x5 p rfl;rw[ez]at this;show this
 have(v1,J,h1,h2,Q):=S.out h ho;rw[f]at J;cases J;have d:∀{vs:!V} {ts:!T},ah [i] (aV vs ts)=aV vs ts:=by
  intro vs
  induction vs with
  | nil=>intro ts;rfl
  | cons v vs ih=>
   intro ts;cases ts with
   | nil=>rfl
   | cons t ts=>change List.filter _ _=_;rw[aV,Jv,if_pos (show aB [i] {TF,v,{.ow,t}}=TK from rfl)];show congrArg _ ih
 have kv:aB [i] {TF,w,{.vw (TH i) (TH p),s}}=TJ:=by unfold aB;simp[Kd.root]
 have ek:ah [i] (aV vs ts++{TF,w,{.vw (TH i) (TH p),s}}::E)=aV vs ts++ah [i] E:=by
  rw[aK,d];unfold ah;rw[Jv,if_neg (by rw[kv];simp)]
 rw[ek]at h1 h2 Q;rw[IC]at h1 h2 Q;have(w',G,F,m1,m2,m3,m4,m5,m6):=HE.mutP (e:={TH i,v0,⟨k,t⟩}) (X:=ah [i] E++aD 0 Z ((ar [i] O).set i TF)) (by rw[IT];show h1) hl ho (λg P j N=>by cases N;show h2 g (yaR _ P)) pl.1 (λj N g P=>by cases N;show Q g (yaR _ P));have ew:=iQ m1 pl.2;subst ew;show{G,F,m2,m3,m4,m5,λH' M C off Y nd hG rp=>?_};have S5:=m6 H' M C off Y nd hG rp;have S2:=S.kill [i];show S2.back (S5.perm ?_) (by simp[aP]) rfl (λm r' u=>?_) (λe he j N=>by rw[ek];show yaR _ he)
 .have p:=(gx (k:=0) (Z:=Z) (O:=ar [i] O) (v:=v0) (r:={k,t.put p M}) (by rw[S.len];show l) (by rw[aP];show l)).append_left (ah [i] E);rw[IZ]at p;have eZ:Z.set i (TH v0)=Z:=by
   apply JW;intro m;by_cases u:m=i;subst u;rw[f];simp[S.len,l];rw[ID (NA u)]
  rw[eZ]at p;show(IU.symm).trans p.symm
 .by_cases e:m=i;subst e;show⟨v0,f⟩;rw[ID (NA e)]at u;show S2.al m r' u
def Sim.move(S:Sim Γ H O Z ({TF,w,{.vw (TH i) (TH []),s}}::E))(h : O[i]?*>(⇑t)):Sim Γ H ((ar [i] O).set i TF) Z ({TF,w,{.ow,s}}::ah [i] E):=by
 have J:i < O.length:=(Ii.mp h).1;have(v0,G,o):=S.slot h;have pl:s=t/\w=v0:=by
  have(L,g,e):=S.sl;have:({TF,w,{.vw (TH i) (TH []),s}}:En)∈L.map (·.e):=by rw[e];simp
  have(y,d,ey):=Is.mp this;have C:=g.kd y d;unfold MP at C;rw[ey]at C;have(x,x1,x2,x3,x4,x5):=C;have N:({TH i,v0,{.ow,t}}:En)∈L.map (·.e):=by rw[e];show o
  have(z,c,M):=Is.mp N;have:x=z:=by
   have u:=g.ks;by_cases q:x=z;show q
   .exfalso;have(A,B,rfl):=Ks x1;rw[IL,IK,x2]at u;rcases yaM c with c|c;show(Im.mp u).2.2 i (I9.mpr {z,c,by rw[M]}) i ymS rfl
    .rcases ycM c with c|c;show q c.symm;show(IW.mp (Im.mp u).2.1).1 (I9.mpr {z,c,by rw[M]})
  subst this;have:=x5 [] rfl;rw[M]at this;have(P,q2):=this;rw[T.sub]at P;cases P;show⟨Xr,q2⟩
 have(rfl,rfl):=pl;have(v1,p,X,Q,h3):=S.out h rfl;rw[G]at p;cases p;have kv:aB [i] {TF,w,{.vw (TH i) (TH []),s}}=TJ:=by unfold aB;simp[Kd.root]
 have U:ah [i] ({TF,w,{.vw (TH i) (TH []),s}}::E)=ah [i] E:=by
  unfold ah;rw[Jv,if_neg (by rw[kv];simp)]
 rw[U]at X Q h3;have Y:=S.kill [i];show Y.back (E':={TF,w,{.ow,s}}::ah [i] E) ?_ (by simp[aP]) rfl (λm r' o=>?_) (λe K j l=>?_)
 .have(L,g,e):=X;have(x,L',rfl,k,e2):=aN e;have:=g.step (hs:=[x]) (L:=L') (H':=H) (λy d=>by rw[ysM d,k];rfl) (λy d z c j l=>by
   rw[ysM c,k]at l;cases l;show Q y.e (by rw[<-e2];show IX d)) (MJ.refl _ _) (λa f=>by
    have(y,d,f):=Ju.mp f;rw[ysM d]at f;show(g.rp x ymS).dom a f) (key:=TF) (v:=w) (r:={.ow,s}) (F:=x.F) (g.ndF ymS (by rw[k];rfl)) (λa f=>{.inl (by exists f),g.muF ymS (by rw[k];rfl) a f})
    (by have:=g.rp x ymS;rw[k]at this;show this) (.inl {Xr,λy d=>by rw[ysM d,k]}) (λj l=>by cases l)
  show{_,this,by rw[Io,e2];rfl}
 .by_cases e:m=i;subst e;simp[aP,J]at o;rw[ID (NA e)]at o;show Y.al m r' o
 .rcases ycM K with rfl|K;cases l;rw[U];show K
def Sim.use(S:Sim Γ H O Z (aV vs ts++E))(k:vs.length=ts.length):∃F,Rps Γ.K H ts vs F/\F.Nodup/\(∀a∈F,Mu H a) /\
  ∀H' v t F',MJ F H H'->(∀a∈F,∃o,H' a*>o)->F'.Nodup->(∀a∈F',(a∈F\/H a=TF)/\Mu H' a)->Rp Γ.K H' t v F'->Sim Γ H' O Z ({TF,v,{.ow,t}}::E):=by
 have g:=S.sl;rw[IC]at g;have(F,l,p,m,q):=g.use k;show{F,l,p,m,λH' v t F' a b c d e=>?_};show{q H' v t F' a b c d e,S.al,S.len,λx f j h=>by
  rcases ycM f with rfl|f;cases h;show S.hi x (yaR _ f) j h}
def Sim.part(S:Sim Γ H O Z E)(f:e∈E){c:↑Nat}{p:Option !Ac}(ho:e.r.k=.vw c p){P:V->Prop}(h:∀F,Rp Γ.K H e.r.t e.v F->∃w G,P w/\Rp Γ.K H s w G/\∀a∈G,a∈F):∃w,P w/\Sim Γ H O Z ({TF,w,{.vw c TF,s}}::E):=by
 have(w,g,d):=S.sl.part (yaL _ f) ho h;show{w,g,S.cons d}
def Sim.partP(S:Sim Γ H O Z E)(c:e∈E)(ho:e.r.k=.vw (TH j) (TH q))(hs:jQ e.r.t a*>s):∃w,at1 Γ.K H e.v a w/\Sim Γ H O Z ({TF,w,{.vw (TH j) (TH (q++[a])),s}}::E):=by
 have(w,d,f):=S.sl.partP (yaL _ c) ho hs;show{w,d,S.cons f}
end
structure ME where
 run:Rho->↑(R×Rho)
 mu:!Nat
structure MT where
 run:Rho->↑(Bool×Rho)
 mu:!Nat
structure MA where
 run:Rho->↑(!R×Rho)
 mu:!Nat
inductive Fl where
 | nx|rt (t:T)|bk|ct
structure MS where
 run:Rho->↑(Fl×Rho)
 mu:!Nat
structure MG where
 run:R->Rho->↑Rho
 mu:!Nat
structure MGs where
 run:!R->Rho->↑Rho
 mu:!Nat
abbrev ens:!V->!R->!En
 | v::vs,r::a=>⟨TF,v,r⟩::ens vs a
 | _,_=>[]
abbrev aC(M:!Nat) (r:R):Bool:=dJ M r
def bO(h:aC M r=TK):aB M ⟨TF,v,r⟩=TK:=h
def ax(h:aB M e=TK):ah M (e::E)=e::ah M E:=by unfold ah;rw[Jv,if_pos h]
def ju:∀{vs:!V} {rs:!R},rs.all (aC M)=TK->ah M (ens vs rs)=ens vs rs
 | [],_,_=>by cases ‹!R›<;>rfl
 | _::_,[],_=>rfl
 | v::vs,r::rs,h=>by
  rw[JY,Il]at h;rw[ens,ax (bO h.1),ju h.2]
def Sim.weak(S:Sim Γ H O Z E)(M:!Nat):Sim Γ H O Z (ah M E):=by
 show{?_,S.al,S.len,λe d=>S.hi e (Ix.mp d).1};have(L,g,h):=S.sl;have(A,B,rfl,i,l):=eU h;show{A.filter (λx=>aB M x.e)++B,g.sub (Jq.append (List.Sublist.refl _)) λx m j o y f p c=>?_,?_}
 .rcases yaM f with z|z
  .show yaL _ (Ix.mpr {z,?_});unfold aB;cases e:y.e.r.k with
   | vw a b=>rw[e]at c;cases c
   | ow=>rfl
   | io _=>rfl
  .show yaR _ z
 .rw[Iu,l,<-i];unfold ah;rw[KN];rfl
abbrev be(K:yF)(e:TE)(m:ME):Prop:=∀(a:Gm) (H:Hp) (O:Rho) (Z:St) (E:!En) (Q:VK) (r:R) (d:Rho),a.K=K->m.run O*>(r,d)->Sim a H O Z E->(∀v c,Sim a c d Z (⟨TF,v,r⟩::ah m.mu E)->Q v c)->e Z H Q
abbrev fg(K:yF)(e:TT)(m:MT):Prop:=∀(a:Gm) (H:Hp) (O:Rho) (Z:St) (E:!En) (Q:Bool->Hp->Prop) (b:Bool) (d:Rho),a.K=K->m.run O*>(b,d)->Sim a H O Z E->(∀c,Sim a c d Z (ah m.mu E)->Q b c)->e Z H Q
abbrev gq(K:yF)(f:TA)(m:MA):Prop:=∀(a:Gm) (H:Hp) (O:Rho) (Z:St) (E:!En) (Q:!V->Hp->Prop) (c:!R) (e:Rho),a.K=K->m.run O*>(c,e)->Sim a H O Z E->(∀vs d,vs.length=c.length->Sim a d e Z (ens vs c++ah m.mu E)->Q vs d)->f Z H Q
abbrev M3(d:Gm)(e:Rho)(E:!En)(D:M6):Fl->Prop
 | .nx=>∀c a,Sim d a e c E->D.nx c a
 | .bk=>∀c a,Sim d a e c E->D.bk c a
 | .ct=>∀c a,Sim d a e c E->D.ct c a
 | .rt t=>∀v c a,Sim d a e c [{TF,v,{.ow,t}}]->D.rt v a
abbrev ff(K:yF)(ts:TS)(m:MS):Prop:=∀(a:Gm) (H:Hp) (O:Rho) (Z:St) (E:!En) (D:M6) (f:Fl) (c:Rho),a.K=K->(∀e∈E,e.key=TF)->m.run O*>(f,c)->Sim a H O Z E->M3 a c (ah m.mu E) D f->ts D Z H
abbrev jm(K:yF)(g:TG)(m:MG):Prop:=∀(a:Gm) (H:Hp) (O:Rho) (Z:St) (E:!En) (Q:St->Hp->Prop) (v:V) (r:R) (e:Rho),a.K=K->m.run r O*>e->Sim a H O Z (⟨TF,v,r⟩::E)->(∀d c,Sim a c e d (ah m.mu E)->Q d c)->g v Z H Q
abbrev oP(K:yF)(g:TGs)(m:MGs):Prop:=∀(a:Gm) (H:Hp) (O:Rho) (Z:St) (E:!En) (Q:St->Hp->Prop) (vs:!V) (c:!R) (f:Rho),a.K=K->m.run c O*>f->vs.length=c.length->Sim a H O Z (ens vs c++E)->(∀e d,Sim a d f e (ah m.mu E)->Q e d)->g vs Z H Q
abbrev Fm(X:Cx)(st:!Stmt)(m:MS):Prop:=∃a,PSs X st a/\ff X.K a m
section
variable {K:yF}{X:Cx}
private def mC(i:I):ME:={λO=>TH ({.ow,.im i},O),[]}
private def af(i:Nat):ME:={λO=>match O[i]? with
 | some (TH r)=>TH (rdR i r,O)
 | _=>TF,[]}
def xR(h:i.sc*>v):be K (tC v) (mC i):=by unhygienic
 intro c H O Z E Q r e d a S q;cases a;show q v H (by rw[show(mC i).mu=[]from rfl,bX];show S.imm (lJ h))
def A7:be K (vj i) (af i):=by unhygienic
 intro g H O Z E Q r j h a S q;dsimp[af]at a;ext a f d;cases a;have(v,c,e):=S.var d;show{v,c,q v H (by rw[show(af i).mu=[]from rfl,bX];show e)}
private def mNil:MA:={λO=>TH ([],O),[]}
private def aa(m:ME)(a:MA):MA:={λO=>match m.run O with
 | some (r,c)=>match a.run c with
  | some (e,d)=>if aC a.mu r=TK then TH (r::e,d)else TF
  | none=>TF
 | none=>TF,m.mu++a.mu}
def AX:gq K GV mNil:=by unhygienic
 intro c H O Z E Q d f e a S q;cases a;show q [] H rfl (by rw[show mNil.mu=[]from rfl,bX];show S)
def zc{v:V}{r:R}{E:!En}:∀{vs:!V} {rs:!R},(ens vs rs++⟨TF,v,r⟩::E).Perm (⟨TF,v,r⟩::(ens vs rs++E)):=IU
def xS(o:be K te m)(p:gq K ta ms):gq K (tK te ta) (aa m ms):=by unhygienic
 intro e H O Z E Q w x f a S q;dsimp[aa]at a;ext a r d j;ext a c u t;ext a k;cases a;show o e H O Z E _ r d f j S λv l s=>?_;show p e l d Z _ _ c _ f t s λvs i h g=>q (v::vs) i (by rw[Iv,Iv,h]) ?_;rw[ax (bO k),ag]at g;show g.perm zc
private def mNext:MS:={λO=>TH (.nx,O),[]}
private def aq(a b:MS):MS:={λO=>match a.run O with
 | some (.nx,c)=>b.run c
 | some (.rt t,c)=>TH (.rt t,c)
 | some (.bk,c)=>TH (.bk,c)
 | some (.ct,c)=>TH (.ct,c)
 | none=>TF,a.mu++b.mu}
private def mIf(c:MT)(a b:MS):MS:={λO=>match c.run O with
 | some (TK,d)=>a.run d
 | some (TJ,d)=>b.run d
 | none=>TF,c.mu++(a.mu++b.mu)}
private def bt(e:ME):MS:={λO=>match e.run O with
 | some (_,a)=>TH (.nx,a)
 | none=>TF,e.mu}
private def ay(e:ME)(g:MG):MS:={λO=>match e.run O with
 | some (r,a)=>match g.run r a with
  | some c=>TH (.nx,c)
  | none=>TF
 | none=>TF,e.mu++g.mu}
private def vc:R->Rho->↑(T×Rho)
 | ⟨.ow,t⟩,O=>TH (t,O)
 | ⟨.vw (TH i) (TH []),t⟩,O=>match O[i]? with
  | some (⇑_)=>TH (t,(ar [i] O).set i TF)
  | _=>TF
 | _,_=>TF
private def bv(e:ME):MS:={λO=>match e.run O with
 | some (r,a)=>match vc r a with
  | some (t,c)=>TH (.rt t,c)
  | none=>TF
 | none=>TF,e.mu}
def M3.weak{d:Gm}{e:Rho}{E:!En}{D:M6}{f:Fl}{M N:!Nat}(h:M3 d e (ah (M++N) E) D f):M3 d e (ah M E) D f:=by
 cases f with
 | rt t=>show h
 | nx=>show λc a S=>h c a (by rw[<-ag];show S.weak N)
 | bk=>show λc a S=>h c a (by rw[<-ag];show S.weak N)
 | ct=>show λc a S=>h c a (by rw[<-ag];show S.weak N)
def qO(M N:!Nat)(E:!En):ah M (ah N E)=ah N (ah M E):=by
 unfold ah;rw[KW,KW];congr 1;funext e;show Bool.and_comm _ _
def M3.weak2{a:Gm}{c:Rho}{E:!En}{D:M6}{f:Fl}{M N:!Nat}(h:M3 a c (ah (M++N) E) D f):M3 a c (ah N E) D f:=by
 show M3.weak (N:=M) ?_;rwa [<-ag,qO,ag]
def bW(h:∀e∈E,e.key=TF):∀e∈ah M E,e.key=TF:=λe a=>h e (Ix.mp a).1
def xY:ff K Ci mNext:=by unhygienic
 intro d H O Z E D f g e c a S q;cases a;show q Z H (by rw[show mNext.mu=[]from rfl,bX];show S)
def A4(j:ff K t a)(m:ff K u b):ff K (G4 t u) (aq a b):=by
 intro d H O Z E D f r i h e S q;change t {D with nx:=u D} Z H;dsimp[aq]at e q;split at e
 .delta g c;show j d H O Z E _ .nx g i h c S λo l p=>?_;show m d l g o _ D f r i (bW h) e p ?_;rw[ag];show q
 .delta k g c;cases e;show j d H O Z E _ (.rt k) _ i h c S q
 .delta g c;cases e;show j d H O Z E _ .bk _ i h c S (show M3 d _ (ah a.mu E) D .bk from q.weak)
 .delta g c;cases e;show j d H O Z E _ .ct _ i h c S (show M3 d _ (ah a.mu E) D .ct from q.weak)
 .cases e
def AU(l:fg K c mc)(p:ff K t a)(r:ff K u b):ff K (GS c t u) (mIf mc a b):=by
 intro g H O Z E D f o h m e S q;dsimp[mIf]at e q;rw[<-ag]at q;split at e
 .delta d i;show l g H O Z E _ TK d h i S λj k=>qN ?_;show p g j d Z _ D f o h (bW m) e k q.weak
 .delta d i;show l g H O Z E _ TJ d h i S λj k=>qM ?_;show r g j d Z _ D f o h (bW m) e k q.weak2
 .cases e
def xT(h:be K te m):ff K (Ch te) (bt m):=by unhygienic
 intro d H O Z E D f l g k a S q;dsimp[bt]at a;ext a r j c;cases a;show h d H O Z E _ r _ g c S λv e i=>q Z e (i.drop rfl)
def kw(h:be K te m)(j:jm K g mg):ff K (yr te g) (ay m mg):=by
 intro d H O Z E D f x e w a S q;dsimp[ay]at a q;ext a r c k;ext a u s;cases a;show h d H O Z E _ r c e k S λv l p=>?_;show j d l c Z _ _ v r _ e s p λt i o=>q t i (by rw[<-ag];show o)
def Sim.only(S:Sim Γ H O Z (e::E))(a:∀x∈E,x.key=TF):Sim Γ H O Z [e]:=by
 induction E with
 | nil=>show S
 | cons x E c=>show c (S.swap.drop (a x ymS)) λy d=>a y (ymC _ d)
def A2(h:be K te m):ff K (G3 te) (bv m):=by unhygienic
 intro u H O Z E D f A o e d S q;dsimp[bv]at d;ext d r s l;ext d t y c;cases d;show h u H O Z E _ r s o l S λv j g=>?_;have(k,z):=r;cases k with
 | ow=>
  cases c;show q v Z j (g.only (bW e))
 | io n=>cases c
 | vw a b=>
  cases a with
  | none=>cases c
  | some i=>
   cases b with
   | none=>cases c
   | some p=>
    cases p with
    | cons _ _=>cases c
    | nil=>
     dsimp[vc]at c;ext c x w;cases c;show q v Z j ((g.move w).only (bW (bW e)))
private def ae(i:Nat):MG:={λr O=>if(gG O i&&aC [i] r)=TK then TH ((ar [i] O).set i (TH r))else TF,[i]}
def il(h:aC [i] r=TK):r.k.root≠TH i:=λz=>by
 unfold aC dJ at h;rw[z]at h;simp at h
def jf:jm K (jW i) (ae i):=by unhygienic
 intro c H O Z E Q v r e d a S q;dsimp[ae]at a;ext a h;cases a;rw[Il]at h;show q _ H (S.put h.1 (il h.2))
end
section
variable {X:Cx}
def Inv.lstR(I:Inv X OK Z H s)(c:Rd H l (.lst xs)):xs.length<=sizeLine/\∃(a:!Nk) (n:Nat),Vals xs a/\xs.length=a.length/\s.heap.get? l=TH {cls:=.type "list",data:=.seq a.toArray n}:=by
 have(z,a,n,r,e):=c.ok I.hok;show⟨z,a,n,r,r.length,e⟩
abbrev B5:R2:=λx y H Q=>∃l b c a,x=.ref l/\y=.ref b/\Rd H l (.lst c)/\Rd H b (.lst a)/\c.length+a.length<=sizeLine/\∀p,H p=TF->Q (.ref p) (upd H p (.lst (c++a)))
def op_catR:OpR X (N1 .Add) B5:=by
 intro w s Z H x y v u Q I d f h;obtain⟨l,b,A,E,rfl,rfl,g,j,t,q⟩:=h;cases d;cases f;have(z,c,n,r,p,e):=I.lstR g;have(C,a,B,o,i,m):=I.lstR j;show PySem.P.add_list e m ?_ (by rw[Ij,Ij];omega);have k:c.toArray++a.toArray=(c++a).toArray:=by simp
 rw[k];show{.ref _,_,I.lnew (t':=s.toks) (r.append o) (by rw[Ip];omega),Xr,q _ I.fresh}
abbrev xG(K:yF):R2:=λx y H Q=>∃a b c,x=.ref a/\y=.ref b/\SqT K H a []/\SqT K H b c/\Q (.ref b) H
def wA:OpR X (N1 .Add) (xG X.K):=by
 intro N s Z H x y v u Q I r t h;have(a,b,O,rfl,rfl,G,M,q):=h;cases r;cases t;have(j,A,E,_):=I.tuple G;have(d,P,w,_):=I.tuple M;have J:j=[]:=A.nil_iff.mpr rfl;subst J;obtain⟨⟨C,z,m,L⟩,p,o,n,k⟩:=id E;obtain⟨⟨l,i,data2,g⟩,e,c,B,f⟩:=id w;simp only at o k c f;subst o k c f;show RJ {_,p,Xr} {_,e,Xr} Ql Rl PySem.F.slot_tuple_add PySem.F.entry_tuple_add (PySem.F.args_tuple_add_2 _ _)
   (tuple_addW0 a b #[] d.toArray n B z i L g rfl) {p,e,{.ref b,H,I,Xr,q}}
abbrev xF(K:yF):R2:=λx y H Q=>B4 K x y H Q\/(B5 x y H Q\/xG K x y H Q)
def zU:OpR X (N1 .Add) (xF X.K):=op_addX.or (op_catR.or wA)
abbrev B9:R2:=λx y H Q=>∃l k a,x=.ref l/\y=.int k/\Rd H l (.lst a)/\-(2^63)<=k/\k<2^63/\a.length*k.toNat<=sizeLine/\∀p,H p=TF->Q (.ref p) (upd H p (.lst (Ik k.toNat a).flatten))
def zX:OpR X (N1 .Mult) B9:=by
 intro M s Z H x y v u Q I B C h;obtain⟨l,k,N,rfl,rfl,G,J,E,w,q⟩:=h;cases B;have(t,rfl):=C;have(z,c,n,r,A,e):=I.lstR G;have g:c.toArray.size*k.toNat<=sizeLine:=by rw[Ij,<-A];show w
 have j:¬ c.toArray.size*k.toNat>(2^63-1) / 8:=by
  have:(sizeLine:Nat)<=(2^63-1) / 8:=by decide
  omega
 have i:¬ (~~~Builtin.List.listFitsIndex k)=TK:=by
  rw[PP J E];show Ir
 have d:¬ NS (c.toArray.size*k.toNat)=TK:=by
  rw[eA g];show Ir
 have f:Lh (λo p=>o++p) #[] (Ik (if c.toArray.isEmpty=TK then 0 else k.toNat) c.toArray)=(Ik k.toNat c).flatten.toArray:=by
  have K:∀m:Nat,Lh (λo p=>o++p) #[] (Ik m c.toArray)=(Ik m c).flatten.toArray:=λm=>by
   have:=fD c m [];rw[Jr]at this;show this
  rw[K];cases c with
  | nil=>simp
  | cons a O=>rw[if_neg ∅]
 show OQ (T:="list") (U:="int") (by decide) {_,e,Xr} (λL=>Pk L k t) Sh Qz OH repeat_list Qm.lookup
  (N4 OH (Pk s k t) Qn (P9 _ _) (QL k t l c.toArray n)
   {e,Xr,{_,e,Xr},N4 Si {_,e,Xr} R6 (RL _ _) (O7 l c.toArray n k t i j d) {e,?_}})
 rw[f];show{.ref _,_,I.lnew (t':=s.toks) (r.rep k.toNat) (by rw[iW,LW];show w),Xr,q _ I.fresh}
abbrev xL(K:yF):R2:=λx y H Q=>B8 K x y H Q\/B9 x y H Q
def zW:OpR X (N1 .Mult) (xL X.K):=op_mulX.or zX
abbrev pK:V->!V->Hp->VK->Prop:=λx vs H Q=>∃l b c a,x=.ref l/\vs=[.ref b]/\H l*>(.lst c)/\Rd H b (.lst a)/\c.length+a.length<=sizeLine/\Q .non (upd H l (.lst (c++a)))
def qX:MtM X "list.extend" pK:=by
 intro B s Z H x vs v E Q I i m h;obtain⟨l,b,C,J,rfl,rfl,g,p,A,q⟩:=h;cases i;have(u,rfl,j):=m.one;cases j;have(z,c,n,r,y,e):=I.lstM g;have(G,a,k,w,o,t):=I.lstR p;have f:c.toArray.size+a.toArray.size<=sizeLine:=by rw[Ij,Ij];omega
 have d:¬ (~~~c.toArray.isEmpty&&NS (c.toArray.size+a.toArray.size))=TK:=by
  rw[eA f,Lz];show Ir
 show N4 PN {_,e,Xr} Py (Pp _ _)
  (Pb l c.toArray n b a.toArray k d (by rw[Ij];omega) ⋯) {e,t,?_}
 show{.non,_,I.lset (its':=c++a) g e ∅ (r.append w) ?_,Xr,q};rw[Ip];omega
abbrev xH(K:yF):V->!V->Hp->VK->Prop:=λx a H Q=>pK x a H Q\/pM K x a H Q
def zM:MtR X "list.extend" (xH X.K):=MtR.or qX qY
end
abbrev Rpx(K:yF)(H:Hp)(t:T)(v:V):Prop:=∃F,Rp K H t v F
abbrev New(K:yF)(H H':Hp)(t:T)(v:V):Prop:=MU H H'/\∃F,Rp K H' t v F/\F.Nodup/\∀a∈F,H a=TF/\Mu H' a
section
variable {K:yF}{H H':Hp}{Γ:Gm}{O:Rho}{Z:St}{E:!En}{t:T}{v x y:V}{Q:VK}
def Sim.fresh(S:Sim Γ H O Z E)(n:New Γ.K H H' t v):Sim Γ H' O Z ({TF,v,{.ow,t}}::E):=by
 have(e,F,h,g,d):=n;have(i,f,_,_,k):=Sim.use (vs:=[]) (ts:=[]) S rfl;have:=f.nil_inv.2;subst this;show k H' v t F (e.offM _) ∅ g (λa c=>{.inr (d a c).1,(d a c).2}) h
def New.im(h:RpI K H i v):New K H H (.im i) v:={MU.refl H,[],gK h,Jn,by simp}
def New.sc(h:i.sc*>v):New K H H (.im i) v:=.im (lJ h)
def New.tup(a:H p=TF)(h:p7 K H is xs):New K H (upd H p (.tup xs)) (.im (.tup is)) (.ref p):=by
 show{MU.laid a,[],gK ?_,Jn,by simp};rw[RpI];show{p,xs,Xr,SqT.of au,h.same (MU.laid a)}
def New.li(c:H p=TF)(h:p7 K H is xs):New K H (upd H p (.lst xs)) (.li is) (.ref p):=by
 show{MU.laid c,[p],?_,by simp,λa d=>?_};rw[Rp];show{p,xs,Xr,.inl au,h.same (MU.laid c),Xr};rw[ysM d];show{c,_,au,Xr}
def cr(h:Rpx K H (.im i) v):RpI K H i v:=by obtain⟨F,h⟩:=h;show(aX h).1
def aW(h:Rpx K H (.im (.int n)) v):v=.int n:=by have:=cr h;rw[RpI]at this;show this
def dE(h:Rpx K H (.im (.str n)) v):v=.str n:=by have:=cr h;rw[RpI]at this;show this
def pT(h:Rpx K H (.im (.bl n)) v):v=.bl n:=by have:=cr h;rw[RpI]at this;show this
def EK(h:Rpx K H (.im .non) v):v=.non:=by have:=cr h;rw[RpI]at this;show this
def bT(h:Rpx K H (.im (.tup is)) v):∃a xs,v=.ref a/\SqT K H a xs/\p7 K H is xs:=by have:=cr h;rw[RpI]at this;show this
def bS(h:Rpx K H (.li is) v):∃a xs,v=.ref a/\Rd H a (.lst xs)/\p7 K H is xs:=by
 obtain⟨F,h⟩:=h;rw[Rp]at h;obtain⟨a,xs,d,c,e,_⟩:=h;show⟨a,xs,d,c,e⟩
def lF(h:Rpx K H (.im (.ls is)) v):∃a xs,v=.ref a/\Rd H a (.lst xs)/\p7 K H is xs:=by
 have:=cr h;rw[RpI]at this;have(a,o,xs,c,e,d):=this;show{a,xs,c,.inr ⟨o,e⟩,d}
def gL(h:Rpx K H (.lst ts) v):∃a xs F,v=.ref a/\Rd H a (.lst xs)/\Rps K H ts xs F:=by
 obtain⟨F,h⟩:=h;rw[Rp]at h;obtain⟨a,xs,d,e,c,f,_⟩:=h;show⟨a,xs,d,e,c,f⟩
def aI(h:Rd H a (.lst xs)):SqL K H a xs:=.inl h
abbrev BD(K:yF)(red:V->Hp->VK->Prop)(f:T->↑T):Prop:=∀(H:Hp) (x:V) (a t:T) (Q:VK),Rpx K H a x->f a*>t->(∀v H',New K H H' t v->Q v H')->red x H Q
abbrev cZ(K:yF)(red:R2)(f:T->T->↑T):Prop:=∀(H:Hp) (x y:V) (a c t:T) (Q:VK),Rpx K H a x->Rpx K H c y->f a c*>t->(∀v H',New K H H' t v->Q v H')->red x y H Q
abbrev M0(K:yF)(H:Hp):!T->!V->Prop
 | [],vs=>vs=[]
 | t::a,vs=>∃v r,vs=v::r/\Rpx K H t v/\M0 K H a r
abbrev fv(K:yF)(red:!V->Hp->VK->Prop)(f:!T->↑T):Prop:=∀(H:Hp) (vs:!V) (a:!T) (t:T) (Q:VK),M0 K H a vs->f a*>t->(∀v H',New K H H' t v->Q v H')->red vs H Q
private def mOp(f:T->T->↑T)(a b:ME):ME:={λO=>match a.run O with
 | some (c,d)=>match b.run d with
  | some (g,e)=>if aC b.mu c=TK then(match f c.t g.t with
   | some t=>TH ({.ow,t},e)
   | none=>TF)else TF
  | none=>TF
 | none=>TF,a.mu++b.mu}
def lD(C:cZ K red f)(s:be K ta a)(l:be K tb b):be K (tOp red ta tb) (mOp f a b):=by unhygienic
 intro Γ H O Z E Q r J d c S q;dsimp[mOp]at c;ext c g i m;ext c j G B;ext c w;ext c t p;cases c;show s Γ H O Z E _ g i d m S λx z o=>?_;show l Γ z i Z _ _ j _ d B o λy u e=>?_;rw[ax (bO w),ag]at e;have h:=e.rd (ymC _ ymS);have k:=e.rd ymS;rw[d]at h k;show C u x y g.t j.t t Q h k p λv A n=>q v A ?_;rw[<-d]at n;show((e.drop rfl).drop rfl).fresh n
private def mUn(f:T->↑T)(a:ME):ME:={λO=>match a.run O with
 | some (d,c)=>(match f d.t with
  | some t=>TH ({.ow,t},c)
  | none=>TF)
 | none=>TF,a.mu}
def EI(m:BD K red f)(i:be K ta a):be K (tUn red ta) (mUn f a):=by unhygienic
 intro Γ H O Z E Q r s d c S q;dsimp[mUn]at c;ext c e p j;ext c t o;cases c;show i Γ H O Z E _ e _ d j S λx k h=>?_;have g:=h.rd ymS;rw[d]at g;show m k x e.t t Q g o λv l n=>q v l ?_;rw[<-d]at n;show(h.drop rfl).fresh n
def Sim.rds:∀{vs:!V} {rs:!R} {E:!En},Sim Γ H O Z (ens vs rs++E)->vs.length=rs.length->M0 Γ.K H (rs.map (·.t)) vs
 | [],[],E,S,_=>rfl
 | v::vs,r::rs,E,S,h=>by
  rw[ens,IT]at S;show{v,vs,Xr,S.rd ymS,Sim.rds (S.drop rfl) (by exists h)}
 | [],_::_,_,_,h=>by cases h
 | _::_,[],_,_,h=>by cases h
def Sim.drops:∀{vs:!V} {rs:!R} {E:!En},Sim Γ H O Z (ens vs rs++E)->Sim Γ H O Z E
 | [],rs,E,S=>by cases rs<;>show S
 | v::vs,[],E,S=>S
 | v::vs,r::rs,E,S=>by
  rw[ens,IT]at S;show Sim.drops (S.drop rfl)
private def mB(f:!T->↑T)(a:MA):ME:={λO=>match a.run O with
 | some (d,c)=>(match f (d.map (·.t))with
  | some t=>TH ({.ow,t},c)
  | none=>TF)
 | none=>TF,a.mu}
def tw(o:fv K red f)(i:gq K ta a):be K (tCB red ta) (mB f a):=by unhygienic
 intro Γ H O Z E Q r u d c S q;dsimp[mB]at c;ext c l s j;ext c t p;cases c;show i Γ H O Z E _ l _ d j S λvs k h g=>?_;have e:=g.rds h;rw[d]at e;show o k vs _ t Q e p λv m n=>q v m ?_;rw[<-d]at n;show g.drops.fresh n
private def mM(f:T->!T->↑T)(o:ME)(a:MA):ME:={λO=>match o.run O with
 | some (r,c)=>match a.run c with
  | some (e,d)=>if aC a.mu r=TK then(match f r.t (e.map (·.t))with
   | some t=>TH ({.ow,t},d)
   | none=>TF)else TF
  | none=>TF
 | none=>TF,o.mu++a.mu}
abbrev vC(K:yF)(d:String)(red:V->!V->Hp->VK->Prop)(f:T->!T->↑T):Prop:=∀(H:Hp) (x:V) (vs:!V) (a:T) (c:!T) (t:T) (Q:VK),Rpx K H a x->M0 K H c vs->f a c*>t->(∀v H',New K H H' t v->Q v H')->red x vs H Q
def GK(N:vC K T0 red f)(g:∀(H:Hp) (x:V) (k:T) ts t,Rpx K H k x->f k ts*>t->tyV K T0 x H)(ho:be K to o)(J:gq K ta a):be K (tBM K T0 red to ta) (mM f o a):=by unhygienic
 intro Γ H O Z E Q r U d c S q;dsimp[mM]at c;ext c B C w;ext c A P z;ext c L;ext c t m;cases c;show ho Γ H O Z E _ B _ d w S λx p l=>?_;have e:=l.rd ymS;rw[d]at e;show{g p x _ _ _ e m,?_};show J Γ p C Z _ _ A _ d z l λvs G u h=>?_;rw[ax (bO L),ag]at h;have j:=h.rds u;have i:=h.drops;have s:=i.rd ymS;rw[d]at j s;show N G x vs _ _ t Q s j m λv M n=>q v M ?_;rw[<-d]at n;show(i.drop rfl).fresh n
private def aT(a:ME):MT:={λO=>match a.run O with
 | some (⟨_,.im (.bl b)⟩,c)=>TH (b,c)
 | _=>TF,a.mu}
def pQ(e:be K ta a):fg K (Cj ta) (aT a):=by unhygienic
 intro Γ H O Z E Q b m h c S q;dsimp[aT]at c;ext c k j l f;cases c;show e Γ H O Z E _ _ _ h f S λx g d=>{b,?_,q g (d.drop rfl)};have i:=d.rd ymS;show pT i
def EH(c:be K ta a):fg K (tB ta) (aT a):=pQ c
abbrev tru:T->↑Bool
 | .im .non=>TH TJ
 | .im (.bl b)=>TH b
 | .im (.int i)=>TH (i != 0)
 | .im (.str x)=>if x.length<=sizeLine then TH ((x.length:Int) != 0)else TF
 | .im (.tup c)=>TH (~~~c.isEmpty)
 | .li c=>TH (~~~c.isEmpty)
 | .lst a=>TH (~~~a.isEmpty)
 | .tup a=>TH (~~~a.isEmpty)
 | _=>TF
private def qU(a:ME):MT:={λO=>match a.run O with
 | some (r,c)=>(match tru r.t with
  | some b=>TH (b,c)
  | none=>TF)
 | none=>TF,a.mu}
def gW{a c:Type}{l:!a}{m:!c}(h:l.length=m.length):l.isEmpty=m.isEmpty:=by
 cases l<;>cases m<;>first|rfl|cases h
def tru_ok'{b:Bool}(h:tru t*>b)(r:Rpx K H t v):y3 K v H b:=by
 cases t with
 | im i=>
  cases i with
  | non=>rw[EK r];cases h;rfl
  | bl x=>rw[pT r];cases h;rfl
  | int x=>rw[aW r];cases h;rfl
  | str x=>
   rw[dE r];dsimp[tru]at h;split at h;cases h;show{by assumption,Xr};cases h
  | tup f=>
   have(a,d,rfl,c,e):=bT r;cases h;show .inr (.inl {d,c,by rw[gW e.length]})
  | ls f=>cases h
  | fd _ _=>cases h
  | exn _ _ _=>cases h
 | li f=>
  have(a,d,rfl,c,e):=bS r;cases h;show .inl {d,aI c,by rw[gW e.length]}
 | lst f=>
  have(a,d,F,rfl,c,e):=gL r;cases h;show .inl {d,aI c,by rw[gW e.length]}
 | tup g=>
  obtain⟨F,r⟩:=r;rw[Rp]at r;have(a,d,rfl,c,e):=r;cases h;show .inr (.inl {d,c,by rw[gW e.length]})
 | di _=>cases h
 | dq _=>cases h
 | dc _=>cases h
 | ins _ _=>cases h
def A6(g:be K ta a):fg K (G5 K ta) (qU a):=by unhygienic
 intro Γ H O Z E Q b m d c S q;dsimp[qU]at c;ext c r l h;ext c k j;cases c;show g Γ H O Z E _ _ _ d h S λx i f=>{b,?_,q i (f.drop rfl)};have e:=f.rd ymS;rw[d]at e;show tru_ok' j e
private def lZ(a b:MT):MT:={λO=>match a.run O with
 | some (TK,c)=>b.run c
 | some (TJ,c)=>TH (TJ,c)
 | none=>TF,a.mu++b.mu}
private def mOr(a b:MT):MT:={λO=>match a.run O with
 | some (TK,c)=>TH (TK,c)
 | some (TJ,c)=>b.run c
 | none=>TF,a.mu++b.mu}
private def uw(a:MT):MT:={λO=>match a.run O with
 | some (b,c)=>TH (~~~b,c)
 | none=>TF,a.mu}
def AO(i:fg K ta a)(m:fg K tb b):fg K (GO ta tb) (lZ a b):=by
 intro Γ H O Z E Q c o g d S q;dsimp[lZ]at d q;split at d
 .delta j e;show i Γ H O Z E _ _ _ g e S λf h=>qN ?_;show m Γ f j Z _ _ _ _ g d h λk l=>q k (by rw[<-ag];show l)
 .delta j e;cases d;show i Γ H O Z E _ _ _ g e S λf h=>qM (q f (by rw[<-ag];show h.weak _))
 .cases d
def EE(i:fg K ta a)(m:fg K tb b):fg K (tOr ta tb) (mOr a b):=by
 intro Γ H O Z E Q c o g d S q;dsimp[mOr]at d q;split at d
 .delta j e;cases d;show i Γ H O Z E _ _ _ g e S λf h=>qN (q f (by rw[<-ag];show h.weak _))
 .delta j e;show i Γ H O Z E _ _ _ g e S λf h=>qM ?_;show m Γ f j Z _ _ _ _ g d h λk l=>q k (by rw[<-ag];show l)
 .cases d
def AY(e:fg K ta a):fg K (GX ta) (uw a):=by
 intro Γ H O Z E Q c k h d S q;dsimp[uw]at d q;ext d b j f;cases d;show e Γ H O Z E _ _ _ h f S λg i=>q g i
private def mAndV(a b:ME):ME:={λO=>match a.run O with
 | some (⟨_,.im (.bl TK)⟩,c)=>b.run c
 | some (⟨_,.im (.bl TJ)⟩,c)=>TH ({.ow,.im (.bl TJ)},c)
 | _=>TF,a.mu++b.mu}
private def qS(a b:ME):ME:={λO=>match a.run O with
 | some (⟨_,.im (.bl TK)⟩,c)=>TH ({.ow,.im (.bl TK)},c)
 | some (⟨_,.im (.bl TJ)⟩,c)=>b.run c
 | _=>TF,a.mu++b.mu}
def AZ(i:be K ta a)(o:be K tb b):be K (GY ta tb) (qS a b):=by
 intro Γ H O Z E Q c p h d S q;dsimp[qS]at d q;split at d
 .delta k j f;cases d;show i Γ H O Z E _ _ _ h f S λx g e=>{TK,pT (e.rd ymS),qN (q _ g ?_)};rw[<-ag];show((e.drop rfl).weak _).imm (lJ rfl)
 .delta k j f;show i Γ H O Z E _ _ _ h f S λx g e=>{TJ,pT (e.rd ymS),qM ?_};show o Γ g j Z _ _ _ _ h d (e.drop rfl) λv l m=>q v l (by rw[<-ag];show m)
 .cases d
end
mutual
noncomputable def I.dok:I->Bool
 | .int _=>TK|.str _=>TK|.tup is=>I.doks is|_=>TJ
noncomputable def I.doks:!I->Bool
 | []=>TK
 | i::is=>i.dok&&I.doks is
end
mutual
noncomputable def I.toD:I->D
 | .int i=>.int i|.str x=>.str x|.tup is=>.tup (I.toDs is)|_=>.int 0
noncomputable def I.toDs:!I->!D
 | []=>[]
 | i::is=>i.toD::I.toDs is
end
mutual
noncomputable def I.dep:I->Nat
 | .tup is=>I.deps is+1|_=>0
noncomputable def I.deps:!I->Nat
 | []=>0
 | i::is=>max i.dep (I.deps is)
end
mutual
theorem CC:∀(i:I),i.toD.depth=i.dep
 | .non=>rfl|.bl _=>rfl|.int _=>rfl|.str _=>rfl|.ls _=>rfl|.fd _ _=>rfl|.exn _ _ _=>rfl
 | .tup a=>by rw[I.toD,D.depth,I.dep,gU a]
theorem gU:∀(is:!I),aR (I.toDs is)=I.deps is
 | []=>rfl
 | i::is=>by rw[I.toDs,aR,I.deps,CC i,gU is]
end
mutual
theorem tN:∀{a b:I},a.dok=TK->b.dok=TK->(a.toD=b.toD↔a=b)
 | .non,_,h,_=>by simp[I.dok]at h
 | .bl _,_,h,_=>by simp[I.dok]at h
 | .ls _,_,h,_=>by simp[I.dok]at h
 | .fd _ _,_,h,_=>by simp[I.dok]at h
 | .exn _ _ _,_,h,_=>by simp[I.dok]at h
 | .int x,b,_,h=>by cases b<;>simp[I.dok]at h<;>simp[I.toD]
 | .str x,b,_,h=>by cases b<;>simp[I.dok]at h<;>simp[I.toD]
 | .tup x,b,c,h=>by
  cases b with
  | tup y=>
   rw[I.dok]at h c;rw[I.toD,I.toD,D.tup.injEq,I.tup.injEq];show jk c h
  | non=>simp[I.dok]at h
  | bl _=>simp[I.dok]at h
  | ls _=>simp[I.dok]at h
  | fd _ _=>simp[I.dok]at h
  | exn _ _ _=>simp[I.dok]at h
  | int _=>simp[I.toD]
  | str _=>simp[I.toD]
theorem jk:∀{a b:!I},I.doks a=TK->I.doks b=TK->(I.toDs a=I.toDs b↔a=b)
 | [],b,_,_=>by cases b<;>simp[I.toDs]
 | x::e,b,c,h=>by
  cases b with
  | nil=>simp[I.toDs]
  | cons y d=>
   rw[I.doks,Il]at h c;rw[I.toDs,I.toDs,JN.injEq,JN.injEq,tN c.1 h.1,jk c.2 h.2]
end
section
section
variable {K:yF}{H:Hp}
mutual
theorem lE:∀{i:I} {v:V},i.dok=TK->RpI K H i v->Rep K H i.toD v
 | .non,_,h,_=>by simp[I.dok]at h
 | .bl _,_,h,_=>by simp[I.dok]at h
 | .ls _,_,h,_=>by simp[I.dok]at h
 | .fd _ _,_,h,_=>by simp[I.dok]at h
 | .exn _ _ _,_,h,_=>by simp[I.dok]at h
 | .int _,_,_,r=>by rw[RpI]at r;rw[I.toD,Rep];show r
 | .str _,_,_,r=>by rw[RpI]at r;rw[I.toD,Rep];show r
 | .tup g,_,h,r=>by
  rw[RpI]at r;rw[I.dok]at h;have(a,f,d,c,e):=r;rw[I.toD,Rep];show{a,f,d,c,ie h e}
theorem ie:∀{is:!I} {vs:!V},I.doks is=TK->p7 K H is vs->MN K H (I.toDs is) vs
 | [],_,_,r=>by rw[p7]at r;rw[I.toDs,MN];show r
 | i::is,_,h,r=>by
  rw[p7]at r;rw[I.doks,Il]at h;have(x,e,c,a,d):=r;rw[I.toDs,MN];show{x,e,c,lE h.1 a,ie h.2 d}
end
def lc:∀{is:!I},i.dok=TK->I.doks is=TK->(i.toD∈I.toDs is↔i∈is)
 | [],_,_=>by simp[I.toDs]
 | x::c,h,a=>by
  rw[I.doks,Il]at a;rw[I.toDs,IP,IP,tN h a.1,lc h a.2]
abbrev isI:T->↑Int
 | .im i=>(match i with|.int a=>TH a|_=>TF)
 | _=>TF
abbrev isS:T->↑Str
 | .im i=>(match i with|.str a=>TH a|_=>TF)
 | _=>TF
abbrev CU:T->Option !I
 | .im i=>(match i with|.tup a=>TH a|_=>TF)
 | _=>TF
abbrev vY:T->Option !I
 | .li a=>TH a
 | _=>TF
def dP{t:T}{a:Int}(h:isI t*>a):t=.im (.int a):=by
 cases t with
 | im i=>cases i<;>cases h;rfl
 | _=>cases h
def zr{t:T}{a:Str}(h:isS t*>a):t=.im (.str a):=by
 cases t with
 | im i=>cases i<;>cases h;rfl
 | _=>cases h
def o9{t:T}{a:!I}(h:CU t*>a):t=.im (.tup a):=by
 cases t with
 | im i=>cases i<;>cases h;rfl
 | _=>cases h
def fG{t:T}{a:!I}(h:vY t*>a):t=.li a:=by
 cases t with
 | li i=>cases h;rfl
 | _=>cases h
abbrev i2(g:Int->Int->↑T) (x y:T):↑T:=match isI x with
 | some a=>(match isI y with
  | some b=>g a b
  | none=>TF)
 | none=>TF
def iu{g:Int->Int->↑T}{x y t:T}(h:i2 g x y*>t):∃a b,x=.im (.int a)/\y=.im (.int b)/\g a b*>t:=by
 unfold i2 at h;ext h a c;ext h b d;show{a,b,dP c,dP d,h}
def aS{d:Type}{c:Prop}[Decidable c]{t u : d}(h:(if c then TH t else TF)*>u):c/\t=u:=by
 by_cases a:c;rw[if_pos a]at h;show{a,IG.inj h};rw[if_neg a]at h;cases h
abbrev Fn(i:I) (y:T):↑T:=match i with
 | .int a=>(match isI y with|some b=>TH (.im (.int (a+b)))|none=>TF)
 | .str a=>(match isS y with|some b=>if a.length+b.length<=sizeLine then TH (.im (.str (a++b)))else TF|none=>TF)
 | .tup a=>(match CU y with|some b=>if a.length+b.length<=sizeLine then TH (.im (.tup (a++b)))else TF|none=>TF)
 | _=>TF
private def bh(x y:T):↑T:=match x with
 | .im i=>Fn i y
 | .li a=>(match vY y with|some b=>if a.length+b.length<=sizeLine then TH (.li (a++b))else TF|none=>TF)
 | _=>TF
def p7.nil_iff(h:p7 K H is xs):xs=[]↔is=[]:=by
 have:=h.length;cases is<;>cases xs<;>first|(simp;done)|(cases this;done)
def wW:cZ K (xF K) bh:=by
 intro H x y w v t Q m r e q;unfold bh at e;split at e
 .delta i;unfold Fn at e;split at e
  .ext e b d;cases dP d;cases e;rw[aW m,aW r];show .inl (.inl {_,_,Xr,Xr,q _ H (.sc rfl)})
  .ext e b d;cases zr d;have(g,rfl):=aS e;rw[dE m,dE r];show .inl (.inr (.inl {_,_,Xr,Xr,g,q _ H (.sc rfl)}))
  .delta a;ext e b d;cases o9 d;have(g,rfl):=aS e;have(p,o,rfl,h,c):=bT m;have(j,k,rfl,l,f):=bT r;by_cases u:a=[]
   .subst u;have:=c.nil_inv;subst this;show .inr (.inr {p,j,k,Xr,Xr,h,l,q _ H (.im ?_)});rw[RpI];show⟨j,k,Xr,l,f⟩
   .show .inl (.inr (.inr (.inr {p,j,o,k,Xr,Xr,h,l,λz=>u (c.nil_iff.mp z),by rw[c.length,f.length];show g,λz=>q _ H (.im ?_),λz p s=>q _ _ (.tup s (c.append f))})));have:=f.nil_iff.mp z;subst this;rw[IM,RpI];show⟨p,o,Xr,h,c⟩
  .cases e
 .ext e b d;cases fG d;have(g,rfl):=aS e;have(p,o,rfl,h,c):=bS m;have(j,k,rfl,l,f):=bS r;show .inr (.inl {p,j,o,k,Xr,Xr,h,l,by rw[c.length,f.length];show g,λp s=>q _ _ (.li s (c.append f))})
 .cases e
private def cv:T->T->↑T:=i2 λa b=>TH (.im (.int (a-b)))
def xi:cZ K (rI0 λi j=>.int (i-j)) cv:=by
 intro H x y g f t Q c d e q;unfold cv at e;have(a,b,rfl,rfl,e):=iu e;cases e;rw[aW c,aW d];show{_,_,Xr,Xr,q _ H (.sc rfl)}
abbrev jY(i j:Int):Bool:=(decide (-(2^64)<i)&&decide (i<2^64))||(decide (-(2^64)<j)&&decide (j<2^64))
def zQ{i j:Int}(h:jY i j=TK):Nf i j:=by
 unfold jY at h;dsimp[Lo,Il,decide_eq_true_eq]at h;show h
abbrev FL(i:I) (b:Int):↑T:=match i with
 | .int a=>if jY a b=TK then TH (.im (.int (a*b)))else TF
 | .str a=>if 1<=b/\b<=1000/\a.length<=1000 then TH (.im (.str (oL (Ik b.toNat (sL a)).flatten)))else TF
 | .tup a=>if a≠[]/\a.length<=1000/\1<=b/\b<=1000 then TH (.im (.tup (Ik b.toNat a).flatten))else TF
 | _=>TF
private def cJ(x y:T):↑T:=match isI y with
 | some b=>(match x with
  | .im i=>FL i b
  | .li a=>if -(2^63)<=b/\b<2^63/\a.length*b.toNat<=sizeLine then TH (.li (Ik b.toNat a).flatten)else TF
  | _=>TF)
 | none=>TF
def p7.reps{is:!I}{xs:!V}(h:p7 K H is xs):∀n:Nat,p7 K H (Ik n is).flatten (Ik n xs).flatten
 | 0=>.nil
 | n+1=>by
  rw[Jb,Jb,JB,JB];show h.append (h.reps n)
def xc:cZ K (xL K) cJ:=by
 intro H x y o m t Q d i e q;unfold cJ at e;ext e b l;cases dP l;split at e
 .unfold FL at e;split at e
  .have(h,rfl):=aS e;rw[aW d,aW i];show .inl (.inl {_,_,Xr,Xr,zQ h,q _ H (.sc rfl)})
  .have(h,rfl):=aS e;rw[dE d,aW i];show .inl (.inr (.inl {_,_,Xr,Xr,h.1,h.2.1,h.2.2,q _ H (.sc rfl)}))
  .delta a;have(h,rfl):=aS e;have(p,g,rfl,f,c):=bT d;rw[aW i];show .inl (.inr (.inr (.inr {p,b,g,Xr,Xr,f,λz=>h.1 (c.nil_iff.mp z),by rw[c.length];show h.2.1,h.2.2.1,h.2.2.2,λz=>q _ H (.im ?_),λz p j=>q _ _ (.tup j (c.reps _))})));subst z;have k:(Ik (1:Int).toNat a).flatten=a:=by simp
   rw[k,RpI];show⟨p,g,Xr,f,c⟩
  .cases e
 .have(h,rfl):=aS e;have(p,g,rfl,f,c):=bS d;rw[aW i];show .inr {p,b,g,Xr,Xr,f,h.1,h.2.1,by rw[c.length];show h.2.2,λp j=>q _ _ (.li j (c.reps _))}
 .cases e
private def jU:T->T->↑T:=i2 λa b=>if 0<b/\b<2^64 then TH (.im (.int (a / b)))else TF
def uO:cZ K (rI qh λi j=>.int (i / j)) jU:=by
 intro H x y g f t Q c d e q;unfold jU at e;have(a,b,rfl,rfl,e):=iu e;have(h,rfl):=aS e;rw[aW c,aW d];show{_,_,Xr,Xr,h,q _ H (.sc rfl)}
private def fV:T->T->↑T:=i2 λa b=>if 0<b then TH (.im (.int (a % b)))else TF
def xb:cZ K (rI (λ_ j=>0<j) λi j=>.int (i % j)) fV:=by
 intro H x y g f t Q c d e q;unfold fV at e;have(a,b,rfl,rfl,e):=iu e;have(h,rfl):=aS e;rw[aW c,aW d];show{_,_,Xr,Xr,h,q _ H (.sc rfl)}
private def uL:T->T->↑T:=i2 λa b=>if 0<=b/\b<=1000000/\a.natAbs<2^64 then TH (.im (.int (a^b.toNat)))else TF
def xh:cZ K (rI Cp λi j=>.int (i^j.toNat)) uL:=by
 intro H x y g f t Q c d e q;unfold uL at e;have(a,b,rfl,rfl,e):=iu e;have(h,rfl):=aS e;rw[aW c,aW d];show{_,_,Xr,Xr,h,q _ H (.sc rfl)}
private def fA(p:Int->Int->Bool):T->T->↑T:=i2 λa b=>TH (.im (.bl (p a b)))
def lr:cZ K (rI0 λi j=>.bl (p i j)) (fA p):=by
 intro H x y g f t Q c d e q;unfold fA at e;have(a,b,rfl,rfl,e):=iu e;cases e;rw[aW c,aW d];show{_,_,Xr,Xr,q _ H (.sc rfl)}
abbrev Cg(a b:I):Bool:=match a.sc with
 | some v=>(match b.sc with
  | some w=>yk v w
  | none=>TJ)
 | none=>TJ
abbrev ofV:V->I
 | .bl b=>.bl b
 | .int i=>.int i
 | .str x=>.str x
 | _=>.non
def BN(h:a.sc*>v):ofV v=a:=by cases a<;>cases h<;>rfl
abbrev eqI:I->I->↑Bool
 | .tup a,.tup b=>if I.doks a=TK/\I.doks b=TK/\I.deps a<=50 then TH (decide (a=b))else TF
 | a,b=>if Cg a b=TK then TH (decide (a=b))else TF
abbrev eqL(a b:!I):↑Bool:=if I.doks a=TK/\I.doks b=TK/\I.deps a<=50 then TH (decide (a=b))else TF
abbrev lsI:I->Option !I
 | .ls a=>TH a
 | _=>TF
abbrev eqB:T->T->↑Bool
 | .im a,.im b=>eqI a b
 | .li a,.li b=>eqL a b
 | .im a,.li b=>(lsI a).bind λa=>eqL a b
 | .li a,.im b=>(lsI b).bind λb=>eqL a b
 | _,_=>TF
def rR{i:I}{is:!I}(e:lsI i*>is)(r:Rpx K H (.im i) v):∃p xs,v=.ref p/\SqL K H p xs/\p7 K H is xs:=by
 unfold lsI at e;ext e;cases e;have h:=cr r;rw[RpI]at h;have(a,o,xs,d,c,f):=h;show{a,xs,d,.inl (.inr ⟨o,c⟩),f}
private def eqT(x y:T):↑T:=(eqB x y).map λb=>.im (.bl b)
private def neT(x y:T):↑T:=(eqB x y).map λb=>.im (.bl (~~~b))
def CG(h:eqI a b*>c):(∃x y,a=.tup x/\b=.tup y/\I.doks x=TK/\I.doks y=TK/\I.deps x<=50/\c=decide (x=y)) \/ ∃v w,a.sc*>v/\b.sc*>w/\yk v w=TK/\c=decide (v=w):=by
 unfold eqI at h;split at h
 .delta x y;split at h;delta d;cases h;show .inl ⟨x,y,Xr,Xr,d.1,d.2.1,d.2.2,Xr⟩;cases h
 .ext h d;cases h;right;unfold Cg at d;ext d v f;ext d w e;show{v,w,f,e,d,?_};have:(a=b)↔(v=w):={λz=>IG.inj (f.symm.trans ((congrArg I.sc z).trans e)),λz=>by rw[<-BN f,<-BN e,z]};show decide_eq_decide.mpr this
def qF{a c:!I}{p q:Addr}{xs ys:!V}{b:Bool}(e:eqL a c*>b)(j:SqL K H p xs)(k:p7 K H a xs)(m:SqL K H q ys)(l:p7 K H c ys):∃g i xs ys d f,V.ref p=.ref g/\V.ref q=.ref i/\SqL K H g xs/\SqL K H i ys/\MN K H d xs/\MN K H f ys/\aR d<=50/\(b=TK↔d=f):=by
 unfold eqL at e;ext e h;cases e;show{p,q,xs,ys,_,_,Xr,Xr,j,m,ie h.1 k,ie h.2.1 l,by rw[gU];show h.2.2,by rw[decide_eq_true_eq,jk h.1 h.2.1]}
def vN{x y:V}{u s:T}{b:Bool}{P:V->Prop}(h:Rpx K H u x)(j:Rpx K H s y)(e:eqB u s*>b) :
  (yk x y=TK/\b=decide (x=y))\/(∃g k,Rep K H (.tup g) x/\Rep K H (.tup k) y/\aR g<=50/\(b=TK↔g=k))\/(∃p q xs ys g k,x=.ref p/\y=.ref q/\SqL K H p xs/\SqL K H q ys/\MN K H g xs/\MN K H k ys/\aR g<=50/\(b=TK↔g=k)):=by
 unfold eqB at e;split at e
 .delta a c;rcases CG e with⟨t,z,rfl,rfl,d,f,r,rfl⟩|⟨v,w,d,f,r,rfl⟩
  .show .inr (.inl {I.toDs t,I.toDs z,?_,?_,by rw[gU];show r,?_})
   .have:=lE (i:=.tup t) (by rw[I.dok];show d) (cr h);rwa [I.toD]at this
   .have:=lE (i:=.tup z) (by rw[I.dok];show f) (cr j);rwa [I.toD]at this
   .rw[decide_eq_true_eq,jk d f]
  .rw[Cf d (cr h),Cf f (cr j)];show .inl ⟨r,Xr⟩
 .have(p,xs,rfl,d,f):=bS h;have(A,ys,rfl,m,l):=bS j;show .inr (.inr (qF e (aI d) f (aI m) l))
 .have(a,o,e):=IH.mp e;have(p,xs,rfl,d,f):=rR o h;have(A,ys,rfl,m,l):=bS j;show .inr (.inr (qF e d f (aI m) l))
 .have(a,o,e):=IH.mp e;have(p,xs,rfl,d,f):=bS h;have(A,ys,rfl,m,l):=rR o j;show .inr (.inr (qF e (aI d) f m l))
 .cases e
def As:cZ K (Et K) eqT:=by
 intro H x y v u t Q l r e q;unfold eqT at e;cases h:eqB v u with
 | none=>rw[h]at e;cases e
 | some b=>
  rw[h]at e;cases e;rcases vN (P:=λ_=>True) l r h with⟨a,rfl⟩|⟨j,d,a,f,i,k⟩|⟨p,w,s,z,j,d,a,f,i,k,m,A,o,B⟩;show .inl {a,q _ H (.sc rfl)}
  .show .inr (.inl {j,d,a,f,i,λc g=>?_});have:c=b:=by rw[Jo,g,k]
   subst this;show q _ H (.sc rfl)
  .show .inr (.inr {p,w,s,z,j,d,a,f,i,k,m,A,o,λc g=>?_});have:c=b:=by rw[Jo,g,B]
   subst this;show q _ H (.sc rfl)
def Au:cZ K (Ew K) neT:=by
 intro H x y u s t Q k o e q;unfold neT at e;cases h:eqB u s with
 | none=>rw[h]at e;cases e
 | some b=>
  rw[h]at e;cases e;rcases vN (P:=λ_=>True) k o h with⟨a,rfl⟩|⟨i,d,a,f,g,j⟩|⟨p,v,r,w,i,d,a,f,g,j,l,A,m,B⟩;show .inl {a,q _ H (.sc rfl)}
  .show .inr (.inl {i,d,a,f,g,λc z=>?_});have:c =  ~~~b:=by cases b<;>cases c<;>simp_all
   subst this;show q _ H (.sc rfl)
  .show .inr (.inr {p,v,r,w,i,d,a,f,g,j,l,A,m,λc z=>?_});have:c =  ~~~b:=by cases b<;>cases c<;>simp_all
   subst this;show q _ H (.sc rfl)
abbrev occ(i j:Str):Bool:= ~~~(Of j i 0 j.length 1).isEmpty
abbrev inI(i:I) (y:T):↑Bool:=match y with
 | .im j=>(match j with
  | .str b=>(match i with
   | .str a=>TH (occ a b)
   | _=>TF)
  | .tup c=>if i.dok=TK/\I.doks c=TK/\I.deps c<=50 then TH (decide (i∈c))else TF
  | _=>TF)
 | .li c=>if i.dok=TK/\I.doks c=TK/\I.deps c<=50 then TH (decide (i∈c))else TF
 | _=>TF
abbrev inB(x y:T):↑Bool:=match x with
 | .im i=>inI i y
 | _=>TF
private def inT(x y:T):↑T:=(inB x y).map λb=>.im (.bl b)
private def uz(x y:T):↑T:=(inB x y).map λb=>.im (.bl (~~~b))
def vW{x y:V}{m l:T}{b:Bool}(a:Rpx K H m x)(f:Rpx K H l y)(e:inB m l*>b) :
  (∃i j,x=.str i/\y=.str j/\b=occ i j)\/(∃p xs d g,y=.ref p/\(SqL K H p xs\/SqT K H p xs)/\Rep K H d x/\MN K H g xs/\aR g<=50/\(b=TK↔d∈g)):=by
 unfold inB at e;ext e;unfold inI at e;split at e
 .split at e
  .split at e;cases e;show .inl {_,_,dE a,dE f,Xr};cases e
  .have(h,rfl):=aS e;have(p,xs,rfl,c,k):=bT f;show .inr {p,xs,_,_,Xr,.inr c,lE h.1 (cr a),ie h.2.1 k,by rw[gU];show h.2.2,by rw[decide_eq_true_eq,lc h.1 h.2.1]}
  .cases e
 .have(h,rfl):=aS e;have(p,xs,rfl,c,k):=bS f;show .inr {p,xs,_,_,Xr,.inl (aI c),lE h.1 (cr a),ie h.2.1 k,by rw[gU];show h.2.2,by rw[decide_eq_true_eq,lc h.1 h.2.1]}
 .cases e
def At:cZ K (Eu K) inT:=by
 intro H x y z s t Q a r e q;unfold inT at e;cases h:inB z s with
 | none=>rw[h]at e;cases e
 | some b=>
  rw[h]at e;cases e;rcases vW a r h with⟨i,j,rfl,rfl,rfl⟩|⟨p,o,d,u,k,v,l,w,g,m⟩;show .inl {i,j,Xr,Xr,q _ H (.sc rfl)}
  .show .inr (.inr {p,o,d,u,k,v,l,w,g,λc f=>?_});have:c=b:=by rw[Jo,f,m];simp
   subst this;show q _ H (.sc rfl)
def xf:cZ K (og K) uz:=by
 intro H x y v o t Q a m e q;unfold uz at e;cases h:inB v o with
 | none=>rw[h]at e;cases e
 | some b=>
  rw[h]at e;cases e;rcases vW a m h with⟨i,j,rfl,rfl,rfl⟩|⟨p,l,d,r,g,s,k,u,f,z⟩;show .inl {i,j,Xr,Xr,q _ H (.sc rfl)}
  .show .inr (.inr {p,l,d,r,g,s,k,u,f,λc w=>?_});have:c =  ~~~b:=by cases b<;>cases c<;>simp_all
   subst this;show q _ H (.sc rfl)
abbrev l1{a:Type} (g:T->↑a) (ts:!T):↑a:=match ts with
 | []=>TF
 | t::r=>(match r with
  | []=>g t
  | _::_=>TF)
def bP{a:Type}{g:T->↑a}{ts:!T}{u : a}(h:l1 g ts*>u):∃t,ts=[t]/\g t*>u:=by
 cases ts with
 | nil=>cases h
 | cons t r=>cases r with
  | nil=>show⟨t,Xr,h⟩
  | cons _ _=>cases h
abbrev l2{a:Type} (g:T->T->↑a) (ts:!T):↑a:=match ts with
 | []=>TF
 | t::r=>l1 (g t) r
def k7{a:Type}{g:T->T->↑a}{ts:!T}{u : a}(h:l2 g ts*>u):∃t s,ts=[t,s]/\g t s*>u:=by
 cases ts with
 | nil=>cases h
 | cons t r=>
  have(s,rfl,e):=bP (show l1 (g t) r*>u from h);show⟨t,s,Xr,e⟩
abbrev FJ(i:I):↑T:=match i with
 | .str x=>if x.length<=sizeLine then TH (.im (.int x.length))else TF
 | .tup a=>TH (.im (.int a.length))
 | .ls a=>TH (.im (.int a.length))
 | _=>TF
abbrev FI(t:T):↑T:=match t with
 | .im i=>FJ i
 | .li c=>TH (.im (.int c.length))
 | .lst a=>TH (.im (.int a.length))
 | .tup a=>TH (.im (.int a.length))
 | _=>TF
private def cY:!T->↑T:=l1 FI
def lG(h:M0 K H [t] vs):∃v,vs=[v]/\Rpx K H t v:=by
 have(v,r,rfl,c,a):=h;rw[M0]at a;subst a;show⟨v,Xr,c⟩
def EL(h:M0 K H [t,u] vs):∃v w,vs=[v,w]/\Rpx K H t v/\Rpx K H u w:=by
 have(v,r,rfl,a,d):=h;have(w,rfl,c):=lG d;show⟨v,w,Xr,a,c⟩
def oy(h:Rpx K H (.tup ts) v):∃a xs F,v=.ref a/\SqT K H a xs/\Rps K H ts xs F:=by
 obtain⟨F,h⟩:=h;rw[Rp]at h;obtain⟨a,xs,c,e,d⟩:=h;show⟨a,xs,F,c,e,d⟩
def w6:fv K (xJ K) cY:=by
 intro H vs i t Q r e q;unfold cY at e;have g:=bP e;clear e;have(x,rfl,e):=g;have(v,rfl,f):=lG r;unfold FI at e;split at e
 .unfold FJ at e;split at e
  .have(h,rfl):=aS e;rw[dE f];show .inr {_,Xr,h,q _ H (.sc rfl)}
  .cases e;have(p,c,rfl,a,d):=bT f;show .inl {p,c,Xr,.inr a,q _ H (.sc (by rw[d.length];rfl))}
  .cases e;have(p,c,rfl,a,d):=rR rfl f;show .inl {p,c,Xr,.inl a,q _ H (.sc (by rw[d.length];rfl))}
  .cases e
 .cases e;have(p,c,rfl,a,d):=bS f;show .inl {p,c,Xr,.inl (aI a),q _ H (.sc (by rw[d.length];rfl))}
 .cases e;have(p,c,F,rfl,a,d):=gL f;show .inl {p,c,Xr,.inl (aI a),q _ H (.sc (by rw[d.length];rfl))}
 .cases e;have(p,c,F,rfl,a,d):=oy f;show .inl {p,c,Xr,.inr a,q _ H (.sc (by rw[d.length];rfl))}
 .cases e
private def pk:!T->↑T:=l2 (i2 λa b=>TH (.im (.int (if b<a then b else a))))
def xa:fv K (λxs H Q=>∃i j,xs=[.int i,.int j]/\Q (.int (if j<i then j else i)) H) pk:=by
 intro H vs g t Q r e q;unfold pk at e;have c:=k7 e;clear e;have(x,y,rfl,e):=c;have(a,b,rfl,rfl,e):=iu e;cases e;have(v,w,rfl,f,d):=EL r;rw[aW f,aW d];show{_,_,Xr,q _ H (.sc rfl)}
private def nT:!T->↑T:=l2 (i2 λa b=>TH (.im (.int (if b>a then b else a))))
def w9:fv K (λxs H Q=>∃i j,xs=[.int i,.int j]/\Q (.int (if j>i then j else i)) H) nT:=by
 intro H vs g t Q r e q;unfold nT at e;have c:=k7 e;clear e;have(x,y,rfl,e):=c;have(a,b,rfl,rfl,e):=iu e;cases e;have(v,w,rfl,f,d):=EL r;rw[aW f,aW d];show{_,_,Xr,q _ H (.sc rfl)}
abbrev FC(t:T):↑T:=match t with
 | .im i=>(match i with
  | .int a=>TH (.im (.int a))
  | .bl b=>TH (.im (.int (if b then 1 else 0)))
  | _=>TF)
 | _=>TF
private def j6:!T->↑T:=l1 FC
def wY:fv K (λxs H Q=>(∃i,xs=[.int i]/\Q (.int i) H) \/ ∃k,xs=[.bl k]/\Q (.int (if k then 1 else 0)) H) j6:=by
 intro H vs d t Q r e q;unfold j6 at e;have c:=bP e;clear e;have(x,rfl,e):=c;have(v,rfl,a):=lG r;unfold FC at e;ext e;split at e
 .cases e;rw[aW a];show .inl {_,Xr,q _ H (.sc rfl)}
 .cases e;rw[pT a];show .inr {_,Xr,q _ H (.sc rfl)}
 .cases e
abbrev Bb(g:!I->T) (t:T):↑T:=match t with
 | .im i=>(match i with
  | .tup a=>TH (g a)
  | .ls a=>TH (g a)
  | _=>TF)
 | .li a=>TH (g a)
 | _=>TF
private def jl:!T->↑T:=l1 (Bb λa=>.im (.tup a))
def xj:fv K (xM K) jl:=by
 intro H vs i t Q r e q;unfold jl at e;have h:=bP e;clear e;have(x,rfl,e):=h;have(v,rfl,f):=lG r;unfold Bb at e;split at e
 .split at e
  .cases e;have(p,c,rfl,a,d):=bT f;show{p,c,Xr,.inr {a,q _ H (.im (cr f))}}
  .cases e;have(p,c,rfl,a,d):=lF f;show{p,c,Xr,.inl {aI a,λl g=>q _ _ (.tup g d)}}
  .cases e
 .cases e;have(p,c,rfl,a,d):=bS f;show{p,c,Xr,.inl {aI a,λl g=>q _ _ (.tup g d)}}
 .cases e
private def pf:!T->↑T:=l1 (Bb λa=>.li a)
def w8:fv K (xK K) pf:=by
 intro H vs i t Q r e q;unfold pf at e;have h:=bP e;clear e;have(x,rfl,e):=h;have(v,rfl,g):=lG r;unfold Bb at e;split at e
 .split at e
  .cases e;have(p,d,rfl,c,f):=bT g;show{p,d,Xr,.inr c,λl a=>q _ _ (.li a f)}
  .cases e;have(p,d,rfl,c,f):=lF g;show{p,d,Xr,.inl (aI c),λl a=>q _ _ (.li a f)}
  .cases e
 .cases e;have(p,d,rfl,c,f):=bS g;show{p,d,Xr,.inl (aI c),λl a=>q _ _ (.li a f)}
 .cases e
abbrev bls:!I->Option !Bool
 | []=>TH []
 | .bl b::a=>(bls a).map (b :: ·)
 | _=>TF
abbrev allT:!T->↑T
 | [.li a]=>(bls a).map λc=>.im (.bl (c.all id))
 | _=>TF
abbrev pZ:!I->Option !Str
 | []=>TH []
 | .str b::a=>(pZ a).map (b :: ·)
 | _=>TF
def Bf:∀{a:!Str},pZ is*>a->p7 K H is xs->xs=a.map V.str:=by
 induction is generalizing xs with
 | nil=>intro a h r;cases h;show r.nil_inv
 | cons i is d=>
  intro a h r;cases i with
  | str b=>
   dsimp[pZ]at h;cases e:pZ is with
   | none=>rw[e]at h;cases h
   | some j=>
    rw[e]at h;cases h;have(x,g,rfl,c,f):=r.cons_inv;rw[RpI]at c;rw[c,d e f];rfl
  | _=>simp[pZ]at h
abbrev kX:T->!T->↑T
 | .im (.str z),[.li c]=>match pZ c with
  | some a=>if(a.map (·.length)).sum+a.length*z.length<=16777216 then TH (.im (.str (Pd z a)))else TF
  | none=>TF
 | _,_=>TF
def uP:vC K "str" (B7 K) kX:=by
 intro H x vs k l t Q c r e q;unfold kX at e;ext e z i;ext e g a;ext e;cases e;have(v,rfl,h):=lG r;have(p,j,rfl,d,f):=bS h;have:=Bf a f;subst this;rw[dE c];show{z,p,g,Xr,Xr,aI d,by assumption,q _ H (.sc rfl)}
end
end
section
variable {Γ:Gm}{H H':Hp}{X:!En}{e:En}{O:Rho}{Z:St}{E:!En}{v:V}{t:T}{K:yF}
def Sim.partN(S:Sim Γ H O Z E)(C:MU H H'){s:T}(Y:e∈E){f:↑Nat}{p:Option !Ac}(ho:e.r.k=.vw f p){P:V->Prop}(hp:∀F,Rp Γ.K H e.r.t e.v F->∃w G,P w/\Rp Γ.K H' s w G/\∀a∈G,a∈F\/H a=TF):∃w,P w/\Sim Γ H' O Z ({TF,w,{.vw f TF,s}}::E):=by
 have(L,g,u):=S.sl;have l:e∈L.map (·.e):=by rw[u];show yaL _ Y
 have(h,B,rfl):=Is.mp l;have(w,G,h1,Q,y):=hp h.F (g.rp h B);have d:∀a,H a=TF->a∉L.flatMap Hd.own:=λa c z=>by
  have(o,e,_):=(g.ad a z).1;rw[c]at e;cases e
 have A:GW Γ H' L:=by
  have:=g.step (hs:=[]) (L:=L) (H':=H') ∅ ∅ (C.offM _) ∅ (key:=TF) (v:=.non) (r:={.ow,.im .non}) (F:=[]) Jn ∅ (gK (by rw[RpI])) (.inl {Xr,by simp}) (λj i=>by cases i);show this.drop rfl
 show{w,h1,{{_,A.push (v:=w) (r:={.vw f TF,s}) (F:=G) Q ?_ (.inl rfl),by rw[Io,u];rfl},S.al,S.len,λx m j i=>?_}}
 .have k:=A.kd h B;unfold MP at k|-;rw[ho]at k;cases f with
  | none=>show λa c=>(y a c).elim (k a) (d a)
  | some j=>
   have(x,N,U,M,J,x5):=k;show{x,N,U,M,λa c=>(y a c).elim (J a) (λz=>.inr (d a z)),λq hq=>by cases hq}
 .rcases ycM m with rfl|m;cases i;show S.hi x m j i
def yh:∀{ts:!T} {xs:!V} {F:!Addr},Rps K H ts xs F->∃hs:!Hd,hs.map (·.e)=aV xs ts/\hs.flatMap (·.F)=F/\∀h∈hs,Rp K H h.e.r.t h.e.v h.F/\h.e.r.k=.ow/\h.e.key=TF/\∀a∈h.F,a∈F
 | [],xs,F,r=>by
  have(rfl,rfl):=r.nil_inv;show{[],Xr,Xr,by simp}
 | t::ts,xs,F,r=>by
  have(y,s,i,u,rfl,o,q,rfl):=r.cons_inv;have(hs,j,m,l):=yh q;show{{{TF,y,{.ow,t}},i}::hs,by rw[Io,j];rfl,by rw[Iy,m],λh f=>?_};rcases ycM f with rfl|f;show{o,Xr,Xr,λa g=>yaL _ g}
  .have(a,b,c,d):=l h f;show{a,b,c,λx p=>yaR _ (d x p)}
def Sim.split(S:Sim Γ H O Z ({TF,v,{.ow,.tup ts}}::E)):∃a xs,v=.ref a/\SqT Γ.K H a xs/\xs.length=ts.length/\Sim Γ H O Z (aV xs ts++E):=by
 have(L,g,h):=S.sl;rw[IT]at h;have(x,p,rfl,l,G):=aN h;have w:=g.rp x ymS;rw[l,Rp]at w;have(a,xs,J,Y,f):=w;have o:=g.kd x ymS;unfold MP at o;rw[l]at o;have P:x.own=x.F:=by unfold Hd.own;rw[l];rfl
 have(m,B,U,i):=yh f;have N:∀h∈m,h.e.r.k.isOw=TK:=λh Q=>by rw[(i h Q).2.1];rfl
 have d:(m++p).flatMap Hd.own=(x::p).flatMap Hd.own:=by rw[Iz,Iy,gH N,U,P]
 show{a,xs,J,Y,f.length,{{m++p,{?_,?_,λy c=>?_,λy c=>?_,?_,g.fr,g.iol},?_},S.al,S.len,λy c j u=>?_}};rw[d];show g.nd;rw[d];show g.ad
 .rcases yaM c with c|c;show(i y c).1;show g.rp y (ymC _ c)
 .rcases yaM c with c|c
  .unfold MP;rw[(i y c).2.1];show λb hb=>o b ((i y c).2.2.2 b hb)
  .have k:=g.kd y (ymC _ c);unfold MP at k|-;split at k;show k;show k;rw[d];show k
   .have(z,q,s,M,z4,z5):=k;rcases ycM q with rfl|q;rw[l]at s;cases s;show{z,yaR _ q,s,M,by rw[d];show z4,z5}
 .have A:=g.ks;rw[IK,l]at A;rw[IL,List.filterMap_eq_nil_iff.mpr λy c=>(i y c).2.2.1];show A
 .rw[Iu,B,G,IC]
 .rcases yaM c with c|c
  .have:∀{xs:!V} {ts:!T},y∈aV xs ts->y.key=TF:=by
    intro xs
    induction xs with
    | nil=>intro ts h;cases ts<;>cases h
    | cons x xs C=>
     intro ts h;cases ts with
     | nil=>cases h
     | cons t ts=>
      rcases ycM h with rfl|h;rfl;show C h
   rw[this c]at u;cases u
  .show S.hi y (ymC _ c) j u
abbrev partV(a:↑Nat):T->R
 | .im i=>{.ow,.im i}
 | t=>{.vw a TF,t}
abbrev parts:R->Option !R
 | ⟨_,.im (.tup d)⟩=>TH (d.map λi=>{.ow,.im i})
 | ⟨.ow,.tup a⟩=>TH (a.map λt=>{.ow,t})
 | ⟨.vw c _,.tup a⟩=>TH (a.map (partV c))
 | _=>TF
def ng:∀{xs:!V} {ts:!T},aV xs ts=ens xs (ts.map λt=>{.ow,t})
 | [],ts=>by cases ts<;>rfl
 | x::xs,[]=>rfl
 | x::xs,t::ts=>by rw[aV,Io,ens,ng]
def Sim.imms:∀{is:!I} {xs:!V} {E:!En},Sim Γ H O Z E->p7 Γ.K H is xs->Sim Γ H O Z (ens xs (is.map λi=>{.ow,.im i})++E)
 | [],xs,E,S,r=>by obtain rfl:=r.nil_inv;show S
 | i::is,xs,E,S,r=>by
  have(x,d,rfl,c,a):=r.cons_inv;rw[Io,ens,IT];show(Sim.imms S a).imm c
def Sim.parts(S:Sim Γ H O Z (⟨TF,v,r⟩::E))(h:L2.parts r*>rs):∃a xs,v=.ref a/\SqT Γ.K H a xs/\xs.length=rs.length/\Sim Γ H O Z (ens xs rs++E):=by
 unfold L2.parts at h;split at h
 .delta k is;cases h;have(F,r):=S.rd ymS;have(a,xs,e,o,N):=bT ⟨F,r⟩;show{a,xs,e,o,by rw[N.length,Ih],(S.drop rfl).imms N}
 .delta f;cases h;have(a,xs,e,o,hl,S2):=S.split;rw[ng]at S2;show{a,xs,e,o,by rw[hl,Ih],S2}
 .delta m p f;cases h;have(F,r):=S.rd ymS;have(a,xs,G,e,o,N):=oy ⟨F,r⟩;have(L,g,hL):=S.sl;rw[IT]at hL;have(x,s,rfl,U,h2):=aN hL;have rp:=g.rp x ymS;rw[U,Rp]at rp;have(a',l,ev,Q,B):=rp;have S3:Sim Γ H O Z (ens l (f.map (partV m))++E):=by
   have go:∀(f:!T) (xs:!V) (G:!Addr),Rps Γ.K H f xs G->(∀a∈G,a∈x.F)->∃c,GW Γ H (c++x::s)/\c.map (·.e)=ens xs (f.map (partV m))/\∀h∈c,h.e.key=TF:=by
    intro f
    induction f with
    | nil=>intro xs G r _;have(rfl,rfl):=r.nil_inv;show{[],g,Xr,by simp}
    | cons t f ih=>
     intro xs G r P;have(y,r',F1,F2,rfl,r1,r2,rfl):=r.cons_inv;have(c,A,C,e2):=ih r' F2 r2 λa d=>P a (yaR _ d);have J:=A.kd x (yaR _ ymS);unfold MP at J;rw[U]at J;have M:∃h:Hd,GW Γ H (h::(c++x::s))/\h.e={TF,y,partV m t}:=by
      have vw:GW Γ H ({{TF,y,{.vw m TF,t}},F1}::(c++x::s)):=by
       show A.push (v:=y) (r:={.vw m TF,t}) (F:=F1) r1 ?_ (.inl rfl);unfold MP;cases m with
       | none=>show λa d=>J a (P a (yaL _ d))
       | some j=>
        have(z,z1,z2,z3,z4,z5):=J;show{z,z1,z2,z3,λa d=>z4 a (P a (yaL _ d)),λq o=>by cases o}
      cases t with
      | im i=>show{_,A.push (v:=y) (r:={.ow,.im i}) (F:=[]) (gK (aX r1).1) (λa d=>by cases d) (.inr rfl),Xr}
      | _=>show{_,vw,Xr}
     have(h,gh,eh):=M;show⟨h::c,gh,by rw[Io,eh,C];rfl,λz w=>?_⟩;rcases ycM w with rfl|w;rw[eh];show e2 z w
   have(c,A,C,e2):=go f l x.F B λa d=>d;have g2:GW Γ H (c++s):=by
    have p:(c++x::s).Perm (x::(c++s)):=IU;show(A.perm p).drop (by rw[U])
   show{{_,g2,by rw[Iu,C,h2,IC]},S.al,S.len,λy u j Y=>?_};rcases yaM u with u|u
   .rw[<-C]at u;have(z,w,rfl):=Is.mp u;rw[e2 z w]at Y;cases Y
   .show S.hi y (ymC _ u) j Y
  show{a',l,ev,Q,by rw[B.length,Ih],S3}
 .cases h
private def mGNil:MGs:={λa O=>match a with
 | []=>TH O
 | _=>TF,[]}
private def aH(g:MG)(c:MGs):MGs:={λa O=>match a with
 | r::a=>if a.all (aC g.mu)=TK then(match g.run r O with
  | some d=>c.run a d
  | none=>TF)else TF
 | []=>TF,g.mu++c.mu}
private def cx(a:MGs):MG:={λr O=>match parts r with
 | some c=>a.run c O
 | none=>TF,a.mu}
def xU:oP K CO mGNil:=by unhygienic
 intro Γ H O Z E Q vs d g f a c S q;cases d with
 | nil=>
  cases a;have:vs=[]:=Jw.mp c;subst this;show{Xr,q Z H (by rw[show mGNil.mu=[]from rfl,bX];show S)}
 | cons _ _=>cases a
def u7(p:jm K g m)(s:oP K gs ms):oP K (vQ g gs) (aH m ms):=by unhygienic
 intro Γ H O Z E Q vs c y h a d S q;cases c with
 | nil=>cases a
 | cons r c=>
  cases vs with
  | nil=>cases d
  | cons v vs=>
   dsimp[aH]at a q;ext a l;ext a f k;show{v,vs,Xr,?_};rw[ens,IT]at S;show p Γ H O Z _ _ v r f h k S λu o i=>?_;rw[aK,ju l]at i;show s Γ o f u _ _ vs c y h a (by exists d) i λx j w=>q x j (by rw[<-ag];show w)
def xV(h:oP K gs ms)(m:∀rs O d,ms.run rs O*>d->rs.length=n):jm K (zi K n gs) (cx ms):=by
 intro Γ H O Z E Q v r d i c S q;dsimp[cx]at c q;ext c rs k;have(a,g,e,j,f,l):=S.parts k;rw[i]at j;show{a,g,e,j,by rw[f];show m _ _ _ c,h Γ H O Z _ _ g rs d i c f l q}
abbrev consL(mv:!Nat):!R->Rho->↑(!T×Rho)
 | [],O=>TH ([],O)
 | ⟨.ow,t⟩::a,O=>match consL mv a O with
  | some (c,d)=>TH (t::c,d)
  | none=>TF
 | ⟨.vw (TH i) (TH []),t⟩::a,O=>if(mv.contains i&&a.all (aC [i]))=TK then(match O[i]? with
  | some (⇑_)=>(match consL mv a ((ar [i] O).set i TF)with
   | some (c,d)=>TH (t::c,d)
   | none=>TF)
  | _=>TF)else TF
 | _,_=>TF
def Sim.consL:∀{rs:!R} {vs:!V} {ts:!T} {O l:Rho} {A E:!En},Sim Γ H O Z (A++(ens vs rs++E))->vs.length=rs.length->L2.consL mv rs O*>(ts,l)->(∀e∈A,e.r.k=.ow/\e.key=TF)->vs.length=ts.length/\Sim Γ H l Z (A++(aV vs ts++ah mv E))
 | [],[],ts,O,l,A,E,S,_,h,f=>by
  cases h;show{Xr,?_};have:=S.weak mv;rw[aK]at this;have u:ah mv A=A:=JQ.mpr λe c=>by unfold aB;rw[(f e c).1];rfl
  rw[u]at this;show this
 | r::rs,v::vs,ts,O,l,A,E,S,w,h,f=>by
  rw[ens,IT]at S;have(k,t):=r;cases k with
  | ow=>
   dsimp[L2.consL]at h;ext h o G m;cases h;have(q,g):=Sim.consL (rs:=rs) (vs:=vs) (A:=A++[{TF,v,{.ow,t}}]) (E:=E) (by exists S) (by exists w) m (λe c=>by
    rcases yaM c with c|c;show f e c;rw[ysM c];show⟨Xr,Xr⟩)
   show{by simp[q],by rw[aV];simpa using g}
  | io n=>cases h
  | vw a b=>
   cases a with
   | none=>cases h
   | some i=>
    cases b with
    | none=>cases h
    | some p=>
     cases p with
     | cons _ _=>cases h
     | nil=>
      dsimp[L2.consL]at h;ext h s;rw[Il]at s;ext h L q;ext h o G m;cases h;have B:Sim Γ H O Z ({TF,v,{.vw (TH i) (TH []),t}}::(A++(ens vs rs++E))):=S.perm IU;have g:=B.move q;have u:ah [i] A=A:=JQ.mpr λe c=>by unfold aB;rw[(f e c).1];rfl
      rw[aK,u,aK,ju s.2]at g;have(y,x):=Sim.consL (rs:=rs) (vs:=vs) (A:=A++[{TF,v,{.ow,t}}]) (E:=ah [i] E) (g.perm (by
       rw[IC];show(IU).symm)) (by exists w) m (λe c=>by
       rcases yaM c with c|c;show f e c;rw[ysM c];show⟨Xr,Xr⟩)
      show{by simp[y],?_};rw[aV];have C:ah mv (ah [i] E)=ah mv E:=by
       rw[ag];unfold ah;congr 1;funext e;rw[mE];by_cases d:aB mv e=TK
       .rw[d,LQ];unfold aB at d|-;split
        .delta j J;rw[J]at d;have:j≠i:=λz=>by subst z;simp at d;show d (by exists s.1)
         simp[this]
        .rfl
       .rw[L7]at d;rw[d,Mg]
      rw[C]at x;exists x
 | [],_::_,_,_,_,_,_,_,h,_,_=>by cases h
 | _::_,[],_,_,_,_,_,_,h,_,_=>by cases h
abbrev ims:!T->Option !I
 | []=>TH []
 | .im i::a=>(ims a).map (i :: ·)
 | _=>TF
def nK:∀{ts:!T} {is:!I},ims ts*>is->ts=is.map T.im
 | [],is,h=>by cases h;rfl
 | .im i::ts,is,h=>by
  dsimp[ims]at h;cases e:ims ts with
  | none=>rw[e]at h;cases h
  | some a=>rw[e]at h;cases h;rw[Io,<-nK e]
 | .tup _::_,_,h=>by cases h
 | .li _::_,_,h=>by cases h
 | .lst _::_,_,h=>by cases h
 | .di _::_,_,h=>by cases h
 | .dc _::_,_,h=>by cases h
 | .dq _::_,_,h=>by cases h
 | .ins _ _::_,_,h=>by cases h
abbrev mO(ts:!T):T:=match ims ts with
 | some a=>.im (.tup a)
 | none=>.tup ts
abbrev cc(ts:!T):T:=match ims ts with
 | some a=>.li a
 | none=>.lst ts
private def av(mv:!Nat)(a:MA):ME:={λO=>match a.run O with
 | some (c,d)=>if c.length<=1000 then(match consL mv c d with
  | some (g,f)=>TH ({.ow,mO g},f)
  | none=>TF)else TF
 | none=>TF,a.mu++mv}
private def aQ(mv:!Nat)(a:MA):ME:={λO=>match a.run O with
 | some (c,d)=>if c.length<=1000 then(match consL mv c d with
  | some (g,f)=>TH ({.ow,cc g},f)
  | none=>TF)else TF
 | none=>TF,a.mu++mv}
def yq(h:n<=1000):n<=sizeLine:=by rw[No];omega
def yb(c:gq K ta a):be K (G6 ta) (av mv a):=by
 intro Γ H O Z E Q r O' x f S q;dsimp[av]at f q;ext f w C s;ext f l;ext f M P L;cases f;show c Γ H O Z E _ w C x s S λvs Y i z=>{by rw[i];show yq l,λp N=>?_};have(h,k):=Sim.consL (A:=[]) (by exists z) i L ∅;rw[Jr,ag]at k;have(F,g,y,j,J):=k.use h;have d:=MU.laid (o:=.tup vs) N;show q _ _ (J _ (.ref p) (mO M) F (d.offM _) (λa c=>let ⟨o,e,_⟩:=j a c;{o,d a o e}) y (λa c=>{.inl c,let ⟨o,e,m⟩:=j a c;{o,d a o e,m}}) ?_);unfold mO;split
 .delta U B;rw[nK B]at g;have(u,G):=Rps.ims.mp g;subst G;show gK ?_;rw[RpI];show{p,vs,Xr,SqT.of au,u.same d}
 .rw[Rp];show{p,vs,Xr,SqT.of au,g.same d}
def xW(c:gq K ta a):be K (GU ta) (aQ mv a):=by
 intro Γ H O Z E Q r O' B f S q;dsimp[aQ]at f q;ext f y L u;ext f s;ext f U Y P;cases f;show c Γ H O Z E _ y L B u S λvs H1 k G=>{by rw[k];show yq s,λp j=>?_};have(i,l):=Sim.consL (A:=[]) (by exists G) k P ∅;rw[Jr,ag]at l;have(F,g,C,h,N):=l.use i;have d:=MU.laid (o:=.lst vs) j;have w:p∉F:=λz=>by have(o,e,_):=h p z;rw[j]at e;cases e
 show q _ _ (N _ (.ref p) (cc U) (p::F) (d.offM _) (λa c=>let ⟨o,e,_⟩:=h a c;{o,d a o e}) (IW.mpr ⟨w,C⟩) (λa c=>?_) ?_)
 .rcases ycM c with rfl|c;show{.inr j,_,au,Xr};show{.inl c,let ⟨o,e,m⟩:=h a c;{o,d a o e,m}}
 .unfold cc;split
  .delta is J;rw[nK J]at g;have(x,M):=Rps.ims.mp g;subst M;rw[Rp];show{p,vs,Xr,.inl au,x.same d,Xr}
  .rw[Rp];show{p,vs,F,Xr,.inl au,g.same d,Xr}
end
section
variable {Γ:Gm}{H H':Hp}{O:Rho}{Z:St}{E:!En}{v x y:V}{t:T}{K:yF}{Q:VK}
abbrev ixK:Kd->↑Ac->↑Kd
 | .ow,_=>TH .ow
 | .io _,_=>TF
 | .vw (TH r) (TH p),TH a=>TH (.vw (TH r) (TH (p++[a])))
 | .vw c _,_=>TH (.vw c TF)
abbrev ixP(k:Kd) (a:↑Ac):T->↑R
 | .im i=>↥i
 | t=>match ixK k a with
  | some c=>TH ⟨c,t⟩
  | none=>TF
abbrev ixI(i:I) (n:Int):↑R:=match i with
 | .tup a=>(atI a n).map λi=>{.ow,.im i}
 | .ls a=>(atI a n).map λi=>{.ow,.im i}
 | .str z=>if z.length<=sizeLine then(atI (sL z) n).map λc=>{.ow,.im (.str {#[c]})}else TF
 | _=>TF
abbrev ixX(k:Kd) (t:T) (n:Int):↑R:=match t with
 | .im i=>ixI i n
 | .li c=>(atI c n).map λi=>{.ow,.im i}
 | .lst a=>(match ixN a.length n with
  | some j=>(a[j]?).bind (ixP k (TH (.ix j)))
  | none=>TF)
 | .tup a=>(match ixN a.length n with
  | some j=>(a[j]?).bind (ixP k TF)
  | none=>TF)
 | _=>TF
private def ixR(r:R)(t:T):↑R:=match isI t with
 | some n=>ixX r.k r.t n
 | none=>TF
private def mIx(a b:ME):ME:={λO=>match a.run O with
 | some (c,d)=>match b.run d with
  | some (f,e)=>if aC b.mu c=TK then(match ixR c f.t with
   | some r=>TH (r,e)
   | none=>TF)else TF
  | none=>TF
 | none=>TF,a.mu++b.mu}
def kG(r:p7 K H is xs)(e:atI is n*>i):∃w,atI xs n*>w/\RpI K H i w:=by
 unfold atI at e|-;rw[r.length];cases h:ixN is.length n with
 | none=>rw[h]at e;cases e
 | some j=>rw[h]at e;show r.get e
def Sim.takeO{s:T}(S:Sim Γ H O Z ({TF,x,{.ow,t}}::E)){P:V->Prop}(m:∀F,Rp Γ.K H t x F->∃w A G B,P w/\Rp Γ.K H s w G/\F=A++G++B):∃w,P w/\Sim Γ H O Z ({TF,w,{.ow,s}}::E):=by
 have(F,j,g,f,h):=Sim.use (vs:=[x]) (ts:=[t]) S rfl;have(y,r,i,u,e,l,q,rfl):=j.cons_inv;cases e;have:=q.nil_inv.2;subst this;rw[IM]at g f h;have(w,A,G,B,p,k,rfl):=m i l;have d:∀a∈G,a∈A++G++B:=λa c=>yaL _ (yaR _ c);show{w,p,h H w s G (MJ.refl _ _) (λa c=>let ⟨o,e,_⟩:=f a c;⟨o,e⟩) (Im.mp (Im.mp g).1).2.1 (λa c=>{.inl (d a c),f a (d a c)}) k}
def qq{a:Type}{xs:!a}{n:Int}{j m:Nat}{w : a}(h:ixN m n*>j)(c:xs.length=m)(d:xs[j]?*>w):atI xs n*>w:=by
 unfold atI;rw[c,h];show d
def Sim.ixL{k:Kd}{ts:!T}{s:T}{j:Nat}{n:Int}{r:R}(S:Sim Γ H O Z ({TF,x,{k,.lst ts}}::E))(hn:ixN ts.length n*>j)(hj:ts[j]?*>s)(M:L2.ixP k (TH (.ix j)) s*>r) :
  ∃w,(∀Q:VK,Q w H->rIx Γ.K x (.int n) H Q)/\Sim Γ H O Z (⟨TF,w,r⟩::E):=by
 have h:∀F,Rp Γ.K H (.lst ts) x F->∃w A G B,(∀Q:VK,Q w H->rIx Γ.K x (.int n) H Q)/\Rp Γ.K H s w G/\F=A++G++B:=λF g=>by
  rw[Rp]at g;have(a,Y,F',rfl,f,u,rfl):=g;have(w,A,G,B,h4,h5,h6,_,_):=u.at hj;show{w,a::A,G,B,λQ q=>.inl {a,Y,n,w,Xr,Xr,aI f,qq hn u.length h4,q},h5,by rw[h6];simp}
 have d:∀z p,k=.vw z p->∃w,(∀Q:VK,Q w H->rIx Γ.K x (.int n) H Q)/\Sim Γ H O Z ({TF,w,{.vw z TF,s}}::E):=λz p hk=>by
  have(w,l,S2):=S.part (e:={TF,x,{k,.lst ts}}) ymS hk (P:=λw=>∀Q:VK,Q w H->rIx Γ.K x (.int n) H Q) (s:=s) (λF g=>by
   have(w,A,G,B,l,f,u):=h F g;show{w,G,l,f,λa ha=>by rw[u];show yaL _ (yaR _ ha)})
  show{w,l,S2.swap.drop rfl}
 have J:∀C,ixK k (TH (.ix j))*>C->∃w,(∀Q:VK,Q w H->rIx Γ.K x (.int n) H Q)/\Sim Γ H O Z ({TF,w,⟨C,s⟩}::E):=λC c=>by
  cases k with
  | ow=>
   cases c;show S.takeO h
  | io m=>cases c
  | vw z p=>
   cases z with
   | none=>
    cases c;show d TF p rfl
   | some i=>
    cases p with
    | none=>cases c;show d (TH i) TF rfl
    | some p=>
     cases c;have(w,l,S2):=S.partP (e:={TF,x,{.vw (TH i) (TH p),.lst ts}}) ymS rfl (a:=.ix j) (s:=s) hj;show{w,λQ q=>?_,S2.swap.drop rfl};have(F,g):=S.rd ymS;have(a,Y,G,e1,f,u):=gL ⟨F,g⟩;have(a',X,e2,L,g2):=l;have N:x=.ref a:=e1;have U:x=.ref a':=e2;rw[N]at U;cases U;have e3:X=Y:=by
      rcases f with f|⟨o,f⟩;rw[f]at L;cases L;rfl;rw[f]at L;cases L
     subst e3;rw[N];show .inl {a,X,n,w,Xr,Xr,SqL.of L,qq hn u.length g2,q}
 cases s with
 | im i=>
  cases M;have(F,g):=S.rd ymS;have(w,A,G,B,l,f,_):=h F g;show{w,l,(S.drop rfl).imm (aX f).1}
 | _=>
  dsimp[L2.ixP]at M;split at M;delta C e;cases M;show J C e;cases M
def Sim.ixT{k:Kd}{ts:!T}{s:T}{j:Nat}{n:Int}{r:R}(S:Sim Γ H O Z ({TF,x,{k,.tup ts}}::E))(hn:ixN ts.length n*>j)(hj:ts[j]?*>s)(o:L2.ixP k TF s*>r) :
  ∃w,(∀Q:VK,Q w H->rIx Γ.K x (.int n) H Q)/\Sim Γ H O Z (⟨TF,w,r⟩::E):=by
 have d:∀F,Rp Γ.K H (.tup ts) x F->∃w A G B,(∀Q:VK,Q w H->rIx Γ.K x (.int n) H Q)/\Rp Γ.K H s w G/\F=A++G++B:=λF g=>by
  rw[Rp]at g;have(a,L,rfl,h,z):=g;have(w,A,G,B,X,J,U,_,_):=z.at hj;show{w,A,G,B,λQ q=>.inr (.inl {a,L,n,w,Xr,Xr,h,qq hn z.length X,q}),J,U}
 have u:∀f,ixK k TF*>f->∃w,(∀Q:VK,Q w H->rIx Γ.K x (.int n) H Q)/\Sim Γ H O Z ({TF,w,⟨f,s⟩}::E):=λf c=>by
  cases k with
  | ow=>
   cases c;show S.takeO d
  | io m=>cases c
  | vw C p=>
   have N:f=.vw C TF:=by cases C<;>cases p<;>cases c<;>rfl
   subst N;have(w,l,Y):=S.part (e:={TF,x,{.vw C p,.tup ts}}) ymS rfl (P:=λw=>∀Q:VK,Q w H->rIx Γ.K x (.int n) H Q) (s:=s) (λF g=>by
    have(w,A,G,B,l,h,z):=d F g;show{w,G,l,h,λa M=>by rw[z];show yaL _ (yaR _ M)})
   show{w,l,Y.swap.drop rfl}
 cases s with
 | im i=>
  cases o;have(F,g):=S.rd ymS;have(w,A,G,B,l,h,_):=d F g;show{w,l,(S.drop rfl).imm (aX h).1}
 | _=>
  dsimp[L2.ixP]at o;split at o;delta f e;cases o;show u f e;cases o
def Sim.ixR(h:L2.ixR ra tb*>r)(S:Sim Γ H O Z (⟨TF,x,ra⟩::E))(G:Rpx Γ.K H tb y):∃w,(∀Q:VK,Q w H->rIx Γ.K x y H Q)/\Sim Γ H O Z (⟨TF,w,r⟩::E):=by
 have a:Rpx Γ.K H ra.t x:=S.rd (e:=⟨TF,x,ra⟩) ymS;unfold L2.ixR at h;ext h n J;cases dP J;have(L,C):=ra;replace a:Rpx Γ.K H C x:=a;rw[aW G];unfold ixX at h;dsimp only at h;split at h
 .unfold ixI at h;split at h
  .delta d;cases h0:atI d n with
   | none=>rw[h0]at h;cases h
   | some i=>
    rw[h0]at h;cases h;have(p,g,l,o,m):=bT a;have(w,f,k):=kG m h0;show{w,λQ q=>.inr (.inl ⟨p,g,n,w,l,Xr,o,f,q⟩),(S.drop rfl).imm k}
  .delta d;cases h0:atI d n with
   | none=>rw[h0]at h;cases h
   | some i=>
    rw[h0]at h;cases h;have(p,g,l,o,m):=lF a;have(w,f,k):=kG m h0;show{w,λQ q=>.inl {p,g,n,w,l,Xr,aI o,f,q},(S.drop rfl).imm k}
  .delta z;ext h B;cases h0:atI (sL z) n with
   | none=>rw[h0]at h;cases h
   | some c=>
    rw[h0]at h;cases h;show{_,λQ q=>.inr (.inr {z,n,c,dE a,Xr,B,h0,q}),(S.drop rfl).imm (lJ rfl)}
  .cases h
 .delta d;cases h0:atI d n with
  | none=>rw[h0]at h;cases h
  | some i=>
   rw[h0]at h;cases h;have(p,g,l,o,m):=bS a;have(w,f,k):=kG m h0;show{w,λQ q=>.inl {p,g,n,w,l,Xr,aI o,f,q},(S.drop rfl).imm k}
 .delta A;ext h j u;cases h0:A[j]? with
  | none=>rw[h0]at h;cases h
  | some s=>
   rw[h0]at h;show S.ixL u h0 h
 .delta A;ext h j u;cases h0:A[j]? with
  | none=>rw[h0]at h;cases h
  | some s=>
   rw[h0]at h;show S.ixT u h0 h
 .cases h
def ED(g:be K ta a)(h:be K tb b):be K (tOp (rIx K) ta tb) (mIx a b):=by unhygienic
 intro Γ H O Z E Q r J d c S q;dsimp[mIx]at c;ext c j f i;ext c u G s;ext c k;ext c B A;cases c;show g Γ H O Z E _ j f d i S λx l p=>?_;show h Γ l f Z _ _ u _ d s p λy C e=>?_;rw[ax (bO k),ag]at e;have z:=e.rd ymS;have(w,m,o):=Sim.ixR A (e.drop rfl) z;rw[<-d];show m Q (q w _ o)
structure MO where
 run:Rho->↑(↑Int×Rho)
 mu:!Nat
abbrev vD(K:yF)(c:TO)(m:MO):Prop:=∀(Γ:Gm) (H:Hp) (O:Rho) (Z:St) (E:!En) (Q:↑Int->Hp->Prop) (o:↑Int) (a:Rho),Γ.K=K->m.run O*>(o,a)->Sim Γ H O Z E->(∀H',Sim Γ H' a Z (ah m.mu E)->Q o H')->c Z H Q
private def mNoPart:MO:={λO=>TH (TF,O),[]}
private def fJ(a:ME):MO:={λO=>match a.run O with
 | some (⟨_,.im (.int n)⟩,c)=>TH (TH n,c)
 | _=>TF,a.mu}
def rQ:vD K tL mNoPart:=by unhygienic
 intro Γ H O Z E Q o d c a S q;cases a;show q H (by rw[show mNoPart.mu=[]from rfl,bX];show S)
def xZ(e:be K ta a):vD K (tM ta) (fJ a):=by unhygienic
 intro Γ H O Z E Q o j h c S q;dsimp[fJ]at c;ext c k n i f;cases c;show e Γ H O Z E _ _ _ h f S λx g d=>{n,aW (d.rd ymS),q g (d.drop rfl)}
def p7.cut(r:p7 K H is xs)(lo a:↑Int):p7 K H (dv is lo a) (kN xs lo a):=by
 unfold dv kN;rw[r.length];show(r.drop _).take _
def Rps.cut(r:Rps K H ts xs F)(lo a:↑Int):∃A G B,Rps K H (dv ts lo a) (kN xs lo a) G/\F=A++G++B:=by
 unfold dv kN;rw[r.length];have(A,e,g,c,rfl):=r.take (HT.sIx ts.length 0 lo);have(G,B,d,f,rfl):=c.take (HT.sIx ts.length ts.length a-HT.sIx ts.length 0 lo);show{A,G,B,d,by simp}
abbrev slI(i:I) (lo c:↑Int):↑R:=match i with
 | .tup a=>if HT.sIx a.length 0 lo=0/\HT.sIx a.length a.length c=a.length then TF else ↥(.tup (dv a lo c))
 | .str z=>if z.length<=sizeLine then ↥(.str (oL (dv (sL z) lo c)))else TF
 | _=>TF
abbrev slX(k:Kd) (t:T) (lo a:↑Int):↑R:=match t with
 | .li c=>⇑(.li (dv c lo a))
 | .im i=>slI i lo a
 | .lst d=>(match k with
  | .vw e _=>TH {.vw e TF,.lst (dv d lo a)}
  | _=>TF)
 | _=>TF
private def slR(r:R)(lo a:↑Int):↑R:=slX r.k r.t lo a
private def mSl(a:ME)(lo c:MO):ME:={λO=>match a.run O with
 | some (d,e)=>match lo.run e with
  | some (l,f)=>match c.run f with
   | some (h,g)=>if aC (lo.mu++c.mu) d=TK then(match slR d l h with
    | some r=>TH (r,g)
    | none=>TF)else TF
   | none=>TF
  | none=>TF
 | none=>TF,a.mu++(lo.mu++c.mu)}
def EG{ta:TE}{tl th:TO}{a:ME}{lo hi:MO}(ha:be K ta a)(hl:vD K tl lo)(hh:vD K th hi):be K (tSl (rSl K) ta tl th) (mSl a lo hi):=by unhygienic
 intro Γ H O Z E Q r O' L g S q;dsimp[mSl]at g;ext g ra O1 e1;ext g l O2 e2;ext g h O3 N;ext g al;ext g r0 c;cases g;show ha Γ H O Z E _ ra O1 L e1 S λx H1 S1=>?_;show hl Γ H1 O1 Z _ _ l _ L e2 S1 λH2 S2=>?_;show hh Γ H2 O2 Z _ _ h _ L N S2 λX j=>?_;rw[ag,ax (bO al),ag]at j;have k:=j.rd ymS;unfold slR slX at c;have(k0,t0):=ra;replace k:Rpx Γ.K X t0 x:=k;dsimp only at c;split at c
 .cases c;have(p,f,m,e,J):=bS k;show .inr (.inl {p,f,m,aI e,λp i=>q _ _ ((j.drop rfl).fresh (.li i (J.cut l h)))})
 .unfold slI at c;split at c
  .delta is;split at c;cases c
   .delta U;cases c;have(p,f,m,e,J):=bT k;rw[L]at e;show .inl {p,f,m,e,by rw[J.length];show U,λp i=>q _ _ ((j.drop rfl).fresh (.tup i (J.cut l h)))}
  .ext c hz;cases c;show .inr (.inr {_,dE k,hz,q _ _ ((j.drop rfl).imm (lJ rfl))})
  .cases c
 .delta ts;ext c ro p0;cases c;have(p,f,F,M,e,J):=gL k;have m:x=.ref p:=M;show .inr (.inl {p,f,m,aI e,λC i=>?_});have(w,U,S4):=j.partN (H':=upd X C (.lst (kN f l h))) (MU.laid i) (s:=.lst (dv ts l h)) ymS rfl (P:=λw=>w=.ref C) (λF rp=>by
   have z:Rp Γ.K X (.lst ts) x F:=rp;rw[Rp]at z;have(a',xs',F',u,d,Y,rfl):=z;rw[m]at u;cases u;have N:xs'=f:=by
    rcases e with e|⟨o,e⟩<;>rcases d with d|⟨o',d⟩<;>rw[e]at d<;>cases d<;>rfl
   subst N;have(A,G,B,g3,rfl):=Y.cut l h;show{.ref C,C::G,Xr,?_,λb hb=>?_}
   .rw[Rp];show{C,_,G,Xr,.inl au,g3.same (MU.laid i),Xr}
   .rcases ycM hb with rfl|hb;show .inr i;show .inl (ymC _ (yaL _ (yaR _ hb))))
  subst U;show q _ _ (S4.swap.drop rfl)
 .cases c
private def yd:T->↑T
 | .im (.tup a)=>TH (.im (.tup a.reverse))
 | _=>TF
def A3(z:be K e a):be K (yu K e) (mUn yd a):=by unhygienic
 intro Γ H O Z E Q r J h c S q;dsimp[mUn]at c;ext c g C m;ext c t f;cases c;show z Γ H O Z E _ g _ h m S λx G i=>?_;have u:=i.rd ymS;have(k,e):=g;unfold yd at f;ext f o l;cases f;have d:e=.im (.tup o):=l;subst d;have(p,s,w,j,B):=bT u;rw[h]at j;show{p,s,w,j,λp A=>q _ _ ((i.drop rfl).fresh (.tup A B.reverse))}
abbrev cA(K:yF)(red:V->!V->Hp->VK->Prop)(f:T->!T->↑(T×I)):Prop:=∀(H:Hp) (w:V) (vs:!V) (s:T) (d:!T) (e:T) (i:I) (G F:!Addr) (Q:VK),Rp K H s w G->Rps K H d vs F->(G++F).Nodup->(∀a∈G++F,Mu H a)->f s d*>(e,i) ->
 (∀v H' c,MJ G H H'->(∀a∈G,∃o,H' a*>o)->c.Nodup->(∀a∈c,(a∈G++F\/H a=TF)/\Mu H' a)->Rp K H' e w c->RpI K H' i v->Q v H')->red w vs H Q
private def mutR(i:Nat)(mv:!Nat)(f:T->!T->↑(T×I))(r0:R)(rs:!R)(d:Rho):↑(R×Rho):=match r0 with
 | ⟨.vw (TH j) (TH p),s⟩=>if(decide (j=i) &&  ~~~mv.contains i)=TK then(match consL mv rs d with
  | some (e,c)=>(match f s e with
   | some (g,a)=>(match c[i]? with
    | some (TH ⟨k,t⟩)=>if k.isOw=TK then TH ({.ow,.im a},(ar [i] c).set i (TH {k,t.put p g}))else TF
    | _=>TF)
   | none=>TF)
  | none=>TF)else TF
 | _=>TF
def Sim.mutR(u : Γ.K=K)(hp:cA K red f)(h:L2.mutR i mv f r0 rs O1*>(r,O'))(L:vs.length=rs.length)(S:Sim Γ H O1 Z (ens vs rs++⟨TF,x,r0⟩::E))(q:∀v H',Sim Γ H' O' Z (⟨TF,v,r⟩::ah (mv++[i]) E)->Q v H'):red x vs H Q:=by
 unfold L2.mutR at h;ext h j p s;ext h z;rw[Il,decide_eq_true_eq,I0]at z;have(rfl,m):=z;ext h ts O2 M;ext h J o e2;ext h k t P;ext h Y;cases h;have(l,C):=Sim.consL (A:=[]) (by exists S) L M ∅;rw[Jr,ax (show aB mv {TF,x,{.vw (TH j) (TH p),s}}=TK by unfold aB;dsimp[Kd.root];rw[m];rfl)]at C;have(G,F,B,w,X,h4,N):=C.mut l P Y;rw[u]at B w;show hp H x vs s ts J o G F Q B w X h4 e2 λv H' U a b c d e g=>q v H' ?_;rw[<-ag];rw[<-u]at e g;show(N H' J U a b c d e).imm g
private def cf(i:Nat)(mv:!Nat)(f:T->!T->↑(T×I))(o:ME)(a:MA):ME:={λO=>match o.run O with
 | some (c,d)=>match a.run d with
  | some (g,e)=>if aC a.mu c=TK then L2.mutR i mv f c g e else TF
  | none=>TF
 | none=>TF,(o.mu++a.mu)++(mv++[i])}
def tz(J:cA K red f)(g:∀(H:Hp) (x:V) (h:T) ts r,Rpx K H h x->f h ts*>r->tyV K T0 x H)(ho:be K to o)(B:gq K ta a):be K (tBM K T0 red to ta) (cf i mv f o a):=by
 intro Γ H O Z E Q r N e c S q;dsimp[cf]at c q;ext c z A p;ext c w M u;ext c C;show ho Γ H O Z E _ z _ e p S λx k j=>?_;have d:=j.rd ymS;rw[e]at d;show{?_,?_}
 .unfold L2.mutR at c;ext c;ext c;ext c;ext c G;show g k x _ _ _ d G
 .show B Γ k A Z _ _ w _ e u j λvs L m l=>?_;rw[ax (bO C),ag]at l;show Sim.mutR e J c m l λv H' s=>q v H' (by rw[<-ag];show s)
private def jX(i:Nat)(f:T->!T->↑(T×I))(o:ME):ME:={λO=>match o.run O with
 | some (a,c)=>L2.mutR i [] f a [] c
 | none=>TF,o.mu++[i]}
def xX(s:cA K red f)(e:∀(H:Hp) (x:V) (g:T) ts r,Rpx K H g x->f g ts*>r->tyV K T0 x H)(ho:be K to o):be K (EN K T0 red to) (jX i f o):=by
 intro Γ H O Z E Q r w d a S q;dsimp[jX]at a q;ext a j u k;show ho Γ H O Z E _ j _ d k S λx m h=>?_;have c:=h.rd ymS;rw[d]at c;show{?_,?_}
 .unfold L2.mutR at a;ext a;ext a;ext a;ext a p;show e m x _ _ _ c p
 .show Sim.mutR (vs:=[]) (mv:=[]) d s a rfl h λv H' l=>q v H' (by rw[<-ag];show l)
def i6(h:Rp K H (.li is) w G)(f:∀a∈G,Mu H a):∃a xs,w=.ref a/\H a*>(.lst xs)/\p7 K H is xs/\G=[a]:=by
 rw[Rp]at h;have(a,xs,c,e,d,rfl):=h;show{a,xs,c,(f a ymS).lst e,d,Xr}
def Dc(h:Rp K H (.lst ts) w G)(d:∀a∈G,Mu H a):∃a xs F,w=.ref a/\H a*>(.lst xs)/\Rps K H ts xs F/\G=a::F:=by
 rw[Rp]at h;have(a,xs,F,e,c,f,rfl):=h;show{a,xs,F,e,(d a ymS).lst c,f,Xr}
def gf(f:H a*>(.lst xs))(g:p7 K H is' xs')(h:RpI K H i v)
  (q:∀v H' d,MJ [a] H H'->(∀b∈[a],∃o,H' b*>o)->d.Nodup->(∀b∈d,(b∈[a]++F\/H b=TF)/\Mu H' b)->Rp K H' (.li is') (.ref a) d->RpI K H' i v->Q v H'):Q v (upd H a (.lst xs')):=by
 have e:∀b∈[a],Mu H b:=λb c=>by rw[ysM c];show{_,f,Xr}
 show q v _ [a] MJ.upd (λb c=>by rw[ysM c];show{_,au}) ∅ (λb c=>?_) ?_ (h.off MJ.upd e);rw[ysM c];show{.inl ∅,_,au,Xr};rw[Rp];show{a,xs',Xr,.inl au,g.off MJ.upd e,Xr}
def tP(k:H a*>(.lst xs))(f:(a::F').Nodup)(l:∀b∈F',Mu H b)(s:∀b∈F',b∈(a::G)++F)(p:Rps K H ts' xs' F')(u:RpI K H i v)
  (q:∀v H' d,MJ (a::G) H H'->(∀b∈a::G,∃o,H' b*>o)->d.Nodup->(∀b∈d,(b∈(a::G)++F\/H b=TF)/\Mu H' b)->Rp K H' (.lst ts') (.ref a) d->RpI K H' i v->Q v H') (r:∀b∈G,∃o,H b*>o):Q v (upd H a (.lst xs')):=by
 have j:∀b∈[a],Mu H b:=λb c=>by rw[ysM c];show{_,k,Xr}
 have g:∀b∈F',b≠a:=λb c z=>(IW.mp f).1 (z▸c);show q v _ (a::F') (MJ.upd.mono λb c=>by rw[ysM c];show ymS) (λb c=>?_) f (λb c=>?_) ?_ (u.off MJ.upd j)
 .by_cases e:b=a;subst e;show{_,au}
  .rcases ycM c with z|z;show absurd z e;have(o,h):=r b z;show{o,by rw[aZ e];show h}
 .rcases ycM c with rfl|c;show{.inl ∅,_,au,Xr}
  .show{.inl (s b c),?_};have(o,h,m):=l b c;show{o,by rw[aZ (g b c)];show h,m}
 .rw[Rp];show{a,xs',F',Xr,.inl au,p.off MJ.upd j (λb c z=>g b c (ysM z)),Xr}
abbrev ap1(s t:T):↑(T×I):=match s with
 | .li a=>(match t with
  | .im i=>if a.length<sizeLine then TH (.li (a++[i]),.non)else TF
  | _=>if a.length<sizeLine then TH (.lst (a.map .im++[t]),.non)else TF)
 | .lst c=>if c.length<sizeLine then TH (.lst (c++[t]),.non)else TF
 | _=>TF
private def apT(s:T)(ts:!T):↑(T×I):=l1 (ap1 s) ts
def pR(h:Rps K H [t] vs F):∃v,vs=[v]/\Rp K H t v F:=by
 have(v,r,d,e,rfl,a,c,rfl):=h.cons_inv;have(rfl,rfl):=c.nil_inv;show{v,Xr,by rw[IM];show a}
def HW(h:Rps K H [t,u] vs F):∃v w a c,vs=[v,w]/\Rp K H t v a/\Rp K H u w c/\F=a++c:=by
 have(v,r,a,c,rfl,e,d,rfl):=h.cons_inv;have(w,rfl,f):=pR d;show⟨v,w,a,c,Xr,e,f,Xr⟩
def bM:RpI K H .non .non:=by rw[RpI]
def pC:cA K n9 apT:=by
 intro H w vs s J L i G F Q h A p j e q;unfold apT at e;have u:=bP e;clear e;have(C,rfl,e):=u;have(y,rfl,o):=pR A;unfold ap1 at e;split at e
 .delta B;have(a,l,rfl,f,d,rfl):=i6 h λa m=>j a (yaL _ m);split at e
  .have(g,e):=aS e;cases e;show{a,l,y,Xr,Xr,f,by rw[d.length];show g,gf f (d.append (.one (aX o).1)) bM q}
  .have(g,e):=aS e;cases e;show{a,l,y,Xr,Xr,f,by rw[d.length];show g,tP (G:=[]) (F:=F) (F':=F) f p (λb c=>j b (yaR _ c)) (λb c=>yaR _ c) ?_ bM q ∅};have:=Rps.append (Rps.ims.mpr ⟨d,Xr⟩) (Rps.cons o Rps.nil);exists this
 .have(g,e):=aS e;cases e;have(a,l,k,rfl,f,d,rfl):=Dc h λa m=>j a (yaL _ m);have r:∀b∈k++F,b∈(a::k)++F:=λb c=>(yaM c).elim (λz=>yaL _ (ymC _ z)) λz=>yaR _ z;show{a,l,y,Xr,Xr,f,by rw[d.length];show g,tP (G:=k) (F:=F) (F':=k++F) f (by exists p) (λb c=>j b (r b c)) r ?_ bM q (λb c=>d.dom b c)};have:=Rps.append d (Rps.cons o Rps.nil);exists this
 .cases e
def nh(h:Rpx K H (.li is) x):tyV K "list" x H:=by
 have(a,d,rfl,c,e):=bS h;show .inl {Xr,d,aI c}
def ES(h:Rpx K H (.lst is) x):tyV K "list" x H:=by
 have(a,d,F,rfl,c,e):=gL h;show .inl {Xr,d,aI c}
def vn(H:Hp)(x:V)(a:T)(ts:!T)(r:T×I)(h:Rpx K H a x)(e:apT a ts*>r):tyV K "list" x H:=by
 unfold apT at e;have(t,_,e):=bP e;unfold ap1 at e;split at e;show nh h;show ES h;cases e
abbrev CI(s t:T):↑(T×I):=match vY s with
 | some c=>(match vY t with
  | some a=>if c.length+a.length<=sizeLine then TH (.li (c++a),.non)else TF
  | none=>(match CU t with
   | some a=>if c.length+a.length<=sizeLine then TH (.li (c++a),.non)else TF
   | none=>TF))
 | none=>TF
private def j4(s:T)(ts:!T):↑(T×I):=l1 (CI s) ts
def pD:cA K (xH K) j4:=by
 intro H w vs s N P i G F Q m z L u e q;unfold j4 at e;have r:=bP e;clear e;have(M,rfl,e):=r;have(y,rfl,k):=pR z;unfold CI at e;ext e J B;cases fG B;have(a,o,rfl,f,d,rfl):=i6 m λa C=>u a (yaL _ C);split at e
 .delta A l;cases fG l;have(g,e):=aS e;cases e;rw[Rp]at k;have(b,h,rfl,j,c,rfl):=k;show .inl {a,b,o,h,Xr,Xr,f,j,by rw[d.length,c.length];show g,gf f (d.append c) bM q}
 .ext e A l;cases o9 l;have(g,e):=aS e;cases e;have p:=(aX k).1;rw[RpI]at p;have(b,h,rfl,j,c):=p;show .inr {a,b,o,h,Xr,Xr,f,j,by rw[d.length,c.length];show g,gf f (d.append c) bM q}
def vo(H:Hp)(x:V)(a:T)(ts:!T)(r:T×I)(h:Rpx K H a x)(e:j4 a ts*>r):tyV K "list" x H:=by
 unfold j4 at e;have(t,_,e):=bP e;unfold CI at e;ext e d c;cases fG c;show nh h
private def nX:T->!T->↑(T×I)
 | .li a,[]=>match a[a.length-1]? with
  | some i=>TH (.li a.dropLast,i)
  | none=>TF
 | _,_=>TF
def p7.dropLast(h:p7 K H is xs):p7 K H is.dropLast xs.dropLast:=by
 rw[Lv,Lv,h.length];show h.take _
def xg:cA K Ex nX:=by
 intro H w vs s z A i G F Q d m u k e q;unfold nX at e;ext e p;ext e j o;cases e;have(a,l,rfl,g,c,rfl):=i6 d λa h=>k a (yaL _ h);have(rfl,rfl):=m.nil_inv;have(y,f,r):=c.get o;rw[<-c.length]at f;show{a,l,y,Xr,Xr,g,f,gf g c.dropLast r q}
def ET(H:Hp)(x:V)(a:T)(ts:!T)(r:T×I)(h:Rpx K H a x)(e:nX a ts*>r):tyV K "list" x H:=by
 unfold nX at e;split at e;show nh h;cases e
abbrev CT(s n t:T):↑(T×I):=match vY s with
 | some a=>(match isI n with
  | some n=>(match t with
   | .im i=>if 0<=n/\n<=a.length/\a.length<sizeLine then TH (.li (a.take n.toNat++i::a.drop n.toNat),.non)else TF
   | _=>TF)
  | none=>TF)
 | none=>TF
private def nL(s:T)(ts:!T):↑(T×I):=l2 (CT s) ts
def pE:cA K oe nL:=by
 intro H w vs s P S i G F Q f o J l e q;unfold nL at e;have h:=k7 e;clear e;have(M,L,rfl,e):=h;have(y,z,j,N,rfl,r,B,rfl):=HW o;unfold CT at e;ext e C p;cases fG p;have(a,m,rfl,g,c,rfl):=i6 f λa u=>l a (yaL _ u);ext e n A;cases dP A;ext e;have(d,e):=aS e;cases e;have k:=aW ⟨j,r⟩;subst k;show{a,m,n,z,Xr,Xr,g,d.1,by rw[c.length];show d.2.1,by rw[c.length];show d.2.2,gf g ((c.take _).append (.cons (aX B).1 (c.drop _))) bM q}
def vp(H:Hp)(x:V)(a:T)(ts:!T)(r:T×I)(h:Rpx K H a x)(e:nL a ts*>r):tyV K "list" x H:=by
 unfold nL at e;have(t,u,_,e):=k7 e;unfold CT at e;ext e d c;cases fG c;show nh h
abbrev qD:T->!T->↑(T×I)
 | .li a,[]=>TH (.li [],.non)
 | _,_=>TF
def rm:cA K rK qD:=by
 intro H w vs s m o i G F Q c j k g e q;unfold qD at e;ext e;cases e;have(a,h,rfl,d,l,rfl):=i6 c λa f=>g a (yaL _ f);have(rfl,rfl):=j.nil_inv;show{a,h,Xr,Xr,d,gf d .nil bM q}
def yz(H:Hp)(x:V)(a:T)(ts:!T)(r:T×I)(h:Rpx K H a x)(e:qD a ts*>r):tyV K "list" x H:=by
 unfold qD at e;split at e;show nh h;cases e
private def yl(s:T)(n:T)(v:T):↑T:=match s,n,v with
 | .li a,.im (.int n),.im i=>match ixN a.length n with
  | some j=>TH (.li (a.set j i))
  | none=>TF
 | _,_,_=>TF
private def qT(j:Nat)(o i:ME):MG:={λr O=>match r with
 | ⟨.ow,f⟩=>match o.run O with
  | some (⟨.vw (TH d) (TH p),s⟩,e)=>match i.run e with
   | some (c,a)=>if(decide (d=j) &&  ~~~i.mu.contains j)=TK then(match yl s c.t f with
    | some g=>(match a[j]? with
     | some (TH ⟨k,t⟩)=>if k.isOw=TK then TH ((ar [j] a).set j (TH {k,t.put p g}))else TF
     | _=>TF)
    | none=>TF)else TF
   | none=>TF
  | _=>TF
 | _=>TF,(o.mu++i.mu)++[j]}
def p7.set'(a:RpI K H i w)(n:Nat)(h:p7 K H is xs):p7 K H (is.set n i) (xs.set n w):=p7.set a n h
def A5(ho:be K to o)(hi:be K ti i):jm K (CP to ti Cb) (qT j o i):=by
 intro Γ H O Z E Q v r O' u c S q;dsimp[qT]at c q;ext c C;ext c X p s O1 L;ext c l O2 e2;ext c B;rw[Il,decide_eq_true_eq,I0]at B;have(rfl,g):=B;ext c s' d;ext c k t e4;ext c hw;cases c;show ho Γ H O Z _ _ _ _ u L S λx H1 S1=>?_;show hi Γ H1 O1 Z _ _ _ _ u e2 S1 λy U h=>?_;have Y:aB i.mu {TF,x,{.vw (TH X) (TH p),s}}=TK:=by unfold aB;dsimp[Kd.root];rw[g];rfl
 have k2:∀M:!Nat,aB M {TF,v,{.ow,C}}=TK:=λM=>rfl;rw[ax Y,ag,ax (k2 _)]at h;have ry:=h.rd ymS;have J:=h.drop rfl;have(G,F,h1,h2,h3,h4,h5):=Sim.mut (vs:=[v]) (ts:=[C]) (J.perm (List.Perm.swap _ _ _)) rfl e4 hw;generalize f:l.t=tri at d;unfold yl at d;ext d is n i0;ext d m hm;cases d;have(a,P,rfl,w,A,rfl):=i6 h1 λa ha=>h4 a (yaL _ ha);have(z,ez,g3):=pR h2;cases ez;have(g4,rfl):=aX g3;have e:∃F,Rp Γ.K U l.t y F:=ry;have N:y=.int n:=by rw[f]at e;show aW e
 subst N;show{a,P,n,m,Xr,Xr,w,by rw[A.length];show hm,?_};show gf (Q:=λ_ H'=>Q Z H') (F:=[]) (v:=.non) (i:=.non) w (A.set' g4 m) bM λv' H' G' a1 a2 a3 a4 a5 _=>q Z H' ?_;have:=h5 H' _ G' a1 a2 a3 a4 a5;rw[ag]at this;show this
end
section
variable {Γ:Gm}{H H':Hp}{O:Rho}{Z:St}{E:!En}{v x y:V}{t:T}{K:yF}{Q:VK}
def jr(h:∀j∈N,j∈M)(k:aB M e=TK):aB N e=TK:=by
 unfold aB at k|-;split at k
 .delta j a;dsimp[I0,Jy,decide_eq_false_iff_not]at k|-;show λz=>k (h j z)
 .rfl
def dY(h:∀j∈N,j∈M)(E:!En):ah N (ah M E)=ah M E:=by
 unfold ah;rw[JQ];intro e a;show jr h (Ix.mp a).2
abbrev itW(c:MT) (b:MS):Nat->Rho->↑(Fl×Rho)
 | 0,_=>TF
 | n+1,O=>match c.run O with
  | some (TK,d)=>(match b.run d with
   | some (.nx,a)=>itW c b n a
   | some (.ct,a)=>itW c b n a
   | some (.bk,a)=>TH (.nx,a)
   | some (.rt t,a)=>TH (.rt t,a)
   | none=>TF)
  | some (TJ,d)=>TH (.nx,d)
  | none=>TF
def fH:∀{n:Nat} {O:Rho} {r:Fl×Rho},itW c b n O*>r->∀m,n<=m->itW c b m O*>r
 | 0,_,_,h,_,_=>by cases h
 | n+1,O,r,h,m,i=>by
  obtain⟨a,rfl⟩:∃a,m=a+1:={m-1,by omega};rw[itW]at h|-;split at h
  .delta f g;split at h;delta d e;show fH h a ⋯;delta d e;show fH h a ⋯;show h;show h;show h
  .show h
  .show h
abbrev yD(c:MT) (b:MS) (O:Rho):↑(Fl×Rho):=@dite _ (∃n,(itW c b n O).isSome=TK) (Classical.propDecidable _) (λh=>itW c b (Pn h) O) (λ_=>TF)
private def dz(c:MT)(b:MS):MS:={yD c b,c.mu++b.mu}
def vt(h:itW c b n O*>r):(dz c b).run O*>r:=by unhygienic
 have d:∃n,(itW c b n O).isSome=TK:={n,by rw[h];rfl};change yD c b O=_;unfold yD;rw[dif_pos d];have f:=Classical.choose_spec d;cases e:itW c b (Pn d) O with
 | none=>rw[e]at f;cases f
 | some i=>
  have a:=fH h (max n (Pn d)) (Lp _ _);have g:=fH e (max n (Pn d)) (Ld _ _);rw[a]at g;show g.symm
def yR(h:(dz c b).run O*>r):∃n,itW c b n O*>r:=by unhygienic
 have a:yD c b O*>r:=h;unfold yD at a;split at a;show{_,a};cases a
def vb(J:fg K tc c)(s:ff K tb b):ff K (yv tc tb) (dz c b):=by unhygienic
 intro Γ H O Z E D f N o P U S q;have(n,Y):=yR U;have qe:(dz c b).mu=c.mu++b.mu:=rfl;rw[qe]at q;have z:ah c.mu (ah (c.mu++b.mu) E)=ah (c.mu++b.mu) E:=dY (λj A=>yaL _ A) E;have u:ah b.mu (ah (c.mu++b.mu) E)=ah (c.mu++b.mu) E:=dY (λj A=>yaR _ A) E;have d:=bW (M:=c.mu++b.mu) P;have C:=S.weak (c.mu++b.mu);generalize ah (c.mu++b.mu) E=E0 at q z u d C;show{λm Z H=>∃O,itW c b m O*>(f,N)/\Sim Γ H O Z E0,⟨n,O,Y,C⟩,?_}
 .rintro m i L ⟨G,a,B⟩;cases m with
  | zero=>cases a
  | succ m=>
   rw[itW]at a;split at a
   .delta l w;show J Γ L G i E0 _ TK l o w B λp h=>qN ?_;rw[z]at h;show{λr H'=>∃O,itW c b m O*>(f,N)/\Sim Γ H' O r E0,λr H' ⟨g,X,e⟩=>{m,Lc m,g,X,e},?_};split at a
    .delta g k;show s Γ p l i E0 _ .nx g o d k h λr H' e=>{g,a,by rw[u]at e;show e}
    .delta g k;show s Γ p l i E0 _ .ct g o d k h λr H' e=>{g,a,by rw[u]at e;show e}
    .delta g k;cases a;show s Γ p l i E0 _ .bk _ o d k h λr H' e=>q r H' (by rw[u]at e;show e)
    .delta t g k;cases a;show s Γ p l i E0 _ (.rt t) _ o d k h q
    .cases a
   .delta l w;cases a;show J Γ L G i E0 _ TJ _ o w B λp h=>qM (q i p (by rw[z]at h;show h))
   .cases a
structure MI where
 run:Rho->↑((!R×!R)×Rho)
 mu:!Nat
abbrev fN(Γ:Gm)(J:It)(vs:!V)(a:!R)(items:!R):Prop:=∀(H:Hp) (O:Rho) (Z:St) (E:!En),Sim Γ H O Z (ens vs a++E)->(∀i,items.length<=i->J.stop i H)/\∀i r,items[i]?*>r->J.go i H/\∀x H',J.yld i H x H'->Sim Γ H' O Z (⟨TF,x,r⟩::(ens vs a++E))
abbrev kF(K:yF)(g:TI)(m:MI):Prop:=∀(Γ:Gm) (H:Hp) (O:Rho) (Z:St) (E:!En) (e:It->Hp->Prop) (a:!R) (c:!R) (f:Rho),Γ.K=K->m.run O*>((a,c),f)->Sim Γ H O Z E->(∀d:Gm,d.K=Γ.K->(∀H O Z E,Sim d H O Z E->Sim Γ H O Z E)->∀J vs H',vs.length=a.length->Sim d H' f Z (ens vs a++ah m.mu E)->fN d J vs a c->e J H')->g Z H e
def cw:∀{A:!En},(∀e∈A,aB M e=TK)->ah M A=A
 | [],_=>rfl
 | e::A,h=>by rw[ax (h e ymS),cw λx a=>h x (ymC _ a)]
def iS:∀{vs:!V} {rs:!R},rs.all (aC M)=TK->∀e∈ens vs rs,aB M e=TK
 | [],rs,_,e,h=>by cases rs<;>cases h
 | _::_,[],_,e,h=>by cases h
 | v::vs,r::rs,a,e,h=>by
  rw[JY,Il]at a;rcases ycM h with rfl|h;show a.1;show iS a.2 e h
def oX:∀{vs:!V} {rs:!R},∀e∈ens vs rs,e.key=TF
 | [],rs,e,h=>by cases rs<;>cases h
 | _::_,[],e,h=>by cases h
 | v::vs,r::rs,e,h=>by
  rcases ycM h with rfl|h;rfl;show oX e h
abbrev lA(n:Int):R:={.ow,.im (.int n)}
abbrev rO:R:={.ow,.im .non}
abbrev iH(lo:Int) (n:Nat):!R:=(I8 n).map λi:Nat=>lA (lo+(i:Int))
def qf{lo:Int}{n:Nat}:fN Γ (Itr lo n) [.non] [rO] (iH lo n):=λH O Z E S=>by
 show{λi f=>(show n<=i by simpa[iH]using f),λi r a=>?_};unfold iH at a;rw[Iw]at a;cases e:(I8 n)[i]? with
 | none=>rw[e]at a;cases a
 | some m=>
  rw[e]at a;cases a;have(c,d):=Ii.mp e;simp at c d;subst d;show{c,λx H' y=>?_};have(rfl,rfl):=y;show S.imm (lJ rfl)
abbrev ii2(x y:T):↑(Int×Int):=match isI x with
 | some i=>(match isI y with
  | some j=>TH (i,j)
  | none=>TF)
 | none=>TF
def zn{x y:T}{i j:Int}(h:ii2 x y*>(i,j)):x=.im (.int i)/\y=.im (.int j):=by
 unfold ii2 at h;ext h a c;ext h b d;cases h;show{dP c,dP d}
private def bi(a:MA):MI:={λO=>match a.run O with
 | some (d,c)=>(match l1 isI (d.map (·.t))with
  | some j=>if -(2^62)<=j/\j<2^62 then TH (([rO],iH 0 j.toNat),c)else TF
  | none=>TF)
 | none=>TF,a.mu}
private def gl(a:MA):MI:={λO=>match a.run O with
 | some (d,c)=>(match l2 ii2 (d.map (·.t))with
  | some (i,j)=>if -(2^62)<=i/\i<2^62/\-(2^62)<=j/\j<2^62 then TH (([rO],iH i (j-i).toNat),c)else TF
  | none=>TF)
 | none=>TF,a.mu}
def x8(p:gq K ta a):kF K (BI ta) (bi a):=by unhygienic
 intro Γ H O Z E A r d G l c S q;dsimp[bi]at c;ext c B C k;ext c j u;have(h,e):=aS c;cases e;have(t,o,m):=bP u;cases dP m;show p Γ H O Z E _ _ _ l k S λvs s i g=>?_;have f:=g.rds i;rw[o]at f;have(w,rfl,z):=lG f;show{j,by rw[aW z],h.1,h.2,q Γ rfl (λ_ _ _ _ S=>S) _ [.non] s rfl ?_ qf};show g.drops.imm bM
def x9(p:gq K ta a):kF K (BJ ta) (gl a):=by unhygienic
 intro Γ H O Z E G r d N l c S q;dsimp[gl]at c;ext c J L k;ext c i j z;have(B,e):=aS c;cases e;have(t,u,o,m):=k7 z;have(rfl,rfl):=zn m;show p Γ H O Z E _ _ _ l k S λvs s h g=>?_;have f:=g.rds h;rw[o]at f;have(w,M,rfl,C,A):=EL f;show{i,j,by rw[aW C,aW A],B,q Γ rfl (λ_ _ _ _ S=>S) _ [.non] s rfl ?_ qf};show g.drops.imm bM
abbrev iw:R->Option !R
 | ⟨_,.li a⟩=>TH (a.map λi=>{.ow,.im i})
 | ⟨.vw c _,.lst d⟩=>TH (d.map (partV c))
 | ⟨_,.im (.ls a)⟩=>TH (a.map λi=>{.ow,.im i})
 | _=>TF
abbrev kW:R->Option !R
 | ⟨_,.im (.tup a)⟩=>TH (a.map λi=>{.ow,.im i})
 | _=>TF
abbrev wo(a:ME):MI:={λO=>match a.run O with
 | some (r,c)=>(match iw r with
  | some d=>TH (([r],d),c)
  | none=>TF)
 | none=>TF,a.mu}
abbrev C9(a:ME):MI:={λO=>match a.run O with
 | some (r,c)=>(match kW r with
  | some d=>TH (([r],d),c)
  | none=>TF)
 | none=>TF,a.mu}
def Rd.det(h:Rd H a (.lst xs))(g:Rd H a (.lst ys)):xs=ys:=by
 rcases h with h|⟨o,h⟩<;>rcases g with g|⟨c,g⟩<;>rw[h]at g<;>cases g<;>rfl
def aA{c d:Type}{f : c->d}{l:!c}{i:Nat}{b : d}(h:(l.map f)[i]?*>b):∃a,l[i]?*>a/\f a=b:=by
 rw[Iw]at h;cases e:l[i]? with
 | none=>rw[e]at h;cases h
 | some a=>rw[e]at h;show{a,Xr,IG.inj h}
def Sim.partV(S:Sim Γ H O Z E)(c:e∈E)(ho:e.r.k=.vw ro p)(d:∀F,Rp Γ.K H e.r.t e.v F->∃G,Rp Γ.K H s w G/\∀a∈G,a∈F):Sim Γ H O Z ({TF,w,L2.partV ro s}::E):=by
 cases s with
 | im i=>
  have(F,r):=S.rd c;have(G,g,_):=d F r;show S.imm (aX g).1
 | _=>
  have(f,j,h):=S.part c ho (P:=λf=>f=w) (s:=_) (λF r=>let ⟨G,g,l⟩:=d F r;⟨w,G,Xr,g,l⟩);subst j;show h
def Fb{a:Addr}{g:R}{items:!R}(d:iw g*>items):fN Γ (Itl Γ.K a) [.ref a] [g] items:=λH O Z E S=>by
 replace S:Sim Γ H O Z ({TF,.ref a,g}::E):=S;have z:Rpx Γ.K H g.t (.ref a):=S.rd (e:={TF,.ref a,g}) ymS;unfold iw at d;split at d
 .cases d;have(L,f,m,c,l):=bS z;cases m;show{λi d=>{f,aI c,by rw[l.length];simpa using d},λi r s=>?_};have(j,o,rfl):=aA s;have(w,h,k):=l.get o;show{{f,w,aI c,h},λx H' y=>?_};obtain⟨rfl,y⟩:=y;have:=y f (aI c);rw[h]at this;cases this;show S.imm k
 .delta M p J;cases d;have(L,f,F,m,c,l):=gL z;cases m;show{λi d=>{f,aI c,by rw[l.length];simpa using d},λi r s=>?_};have(j,o,rfl):=aA s;have(w,A,G,B,h,k,_):=l.at o;show{{f,w,aI c,h},λx H' y=>?_};obtain⟨rfl,y⟩:=y;have:=y f (aI c);rw[h]at this;cases this;show S.partV (e:={TF,.ref a,{.vw M p,.lst J}}) ymS rfl λF P=>?_;have q:Rp Γ.K _ (.lst J) (.ref a) F:=P;rw[Rp]at q;have(U,xs',F',m,N,k2,rfl):=q;cases m;have:=N.det c;subst this;have(w',A',Y,B',u,C,X,_):=k2.at o;rw[h]at u;cases u;show{Y,C,λb hb=>by rw[X];show ymC _ (yaL _ (yaR _ hb))}
 .cases d;have(L,f,m,c,l):=lF z;cases m;show{λi d=>{f,aI c,by rw[l.length];simpa using d},λi r s=>?_};have(j,o,rfl):=aA s;have(w,h,k):=l.get o;show{{f,w,aI c,h},λx H' y=>?_};obtain⟨rfl,y⟩:=y;have:=y f (aI c);rw[h]at this;cases this;show S.imm k
 .cases d
def oq(u:be K ta a):kF K (sI K ta) (wo a):=by
 intro Γ H O Z E z o i C l g S q;dsimp[wo]at g;ext g f B r;ext g A h;cases g;show u Γ H O Z E _ _ _ l r S λx k m=>?_;have j:Rpx Γ.K k f.t x:=m.rd (e:=⟨TF,x,f⟩) ymS;have w:∃a c,x=.ref a/\SqL K k a c:=by
  unfold iw at h;split at h;have(a,c,e,d,p):=bS j;show{a,c,e,aI d};have(a,c,F,e,d,p):=gL j;show{a,c,e,aI d};have(a,c,e,d,p):=lF j;show{a,c,e,aI d};cases h
 have(b,c,rfl,s):=w;show{b,Xr,⟨c,s⟩,q Γ rfl (λ_ _ _ _ S=>S) _ [.ref b] k rfl m (by rw[<-l];show Fb h)}
def Fc{a:Addr}{c:R}{items:!R}(d:kW c*>items):fN Γ (Itt Γ.K a) [.ref a] [c] items:=λH O Z E S=>by
 replace S:Sim Γ H O Z ({TF,.ref a,c}::E):=S;have p:Rpx Γ.K H c.t (.ref a):=S.rd (e:={TF,.ref a,c}) ymS;unfold kW at d;ext d;cases d;have(s,f,o,h,l):=bT p;cases o;show{λi d=>{f,h,by rw[l.length];simpa using d},λi r m=>?_};have(j,q,rfl):=aA m;have(w,k,g):=l.get q;show{⟨f,w,h,k⟩,λx H' y=>?_};obtain⟨rfl,y⟩:=y;have:=y f h;rw[k]at this;cases this;show S.imm g
def AV(s:be K ta a):kF K (zm K ta) (C9 a):=by
 intro Γ H O Z E w m h C i f S q;dsimp[C9]at f;ext f d A o;ext f z g;cases f;show s Γ H O Z E _ _ _ i o S λx j k=>?_;have r:Rpx Γ.K j d.t x:=k.rd (e:=⟨TF,x,d⟩) ymS;have u:∃a c,x=.ref a/\SqT K j a c:=by
  unfold kW at g;split at g;have(a,c,e,l,B):=bT r;rw[i]at l;show⟨a,c,e,l⟩;cases g
 have(b,c,rfl,p):=u;show{b,Xr,⟨c,p⟩,q Γ rfl (λ_ _ _ _ S=>S) _ [.ref b] j rfl k (by rw[<-i];show Fc g)}
def M3.back{Γ c:Gm}{d:Rho}{E:!En}{D:M6}{f:Fl}(bk:∀H O Z E,Sim c H O Z E->Sim Γ H O Z E)(q:M3 Γ d E D f):M3 c d E D f:=by
 cases f with
 | nx=>show λa H' S=>q a H' (bk _ _ _ _ S)
 | bk=>show λa H' S=>q a H' (bk _ _ _ _ S)
 | ct=>show λa H' S=>q a H' (bk _ _ _ _ S)
 | rt t=>show λv a H' S=>q v a H' (bk _ _ _ _ S)
abbrev fQ(g:R->Rho->↑Rho) (b:Rho->↑(Fl×Rho)):!R->Rho->↑(Fl×Rho)
 | [],O=>TH (.nx,O)
 | r::c,O=>match g r O with
  | some d=>(match b d with
   | some (.nx,a)=>fQ g b c a
   | some (.ct,a)=>fQ g b c a
   | some (.bk,a)=>TH (.nx,a)
   | some (.rt t,a)=>TH (.rt t,a)
   | none=>TF)
  | none=>TF
private def bY(it:MI)(g:MG)(b:MS):MS:={λO=>match it.run O with
 | some ((c,a),d)=>if(c.all (aC (g.mu++b.mu))&&a.all (aC (g.mu++b.mu)))=TK then fQ g.run b.run a d else TF
 | none=>TF,it.mu++(g.mu++b.mu)}
def AR(hi:kF K wi it)(hg:jm K g mg)(U:ff K tb b):ff K (GQ wi g tb) (bY it mg b):=by
 intro Γ H O Z E D f O' l hE G S q;dsimp[bY]at G q;ext G c a O1 e1;ext G al;rw[Il]at al;show hi Γ H O Z E _ c a O1 l e1 S λΓ hK2 bk J vs H1 hlv S1 wk=>?_;replace l:=hK2.trans l;replace q:=M3.back bk q;rw[<-ag]at q;have A:=bW (M:=it.mu) hE;generalize ah it.mu E=E1 at q S1 A;have ks:∀e∈ens vs c,aB (mg.mu++b.mu) e=TK:=iS al.1;have kg:ah mg.mu (ens vs c++ah (mg.mu++b.mu) E1)=ens vs c++ah (mg.mu++b.mu) E1:=by
  rw[aK,cw (λe h=>jr (λj w=>yaL _ w) (ks e h)),dY (λj w=>yaL _ w)]
 have P:ah b.mu (ens vs c++ah (mg.mu++b.mu) E1)=ens vs c++ah (mg.mu++b.mu) E1:=by
  rw[aK,cw (λe h=>jr (λj w=>yaR _ w) (ks e h)),dY (λj w=>yaR _ w)]
 have S2:=S1.weak (mg.mu++b.mu);rw[aK,cw ks]at S2;have B:=bW (M:=mg.mu++b.mu) A;generalize ah (mg.mu++b.mu) E1=E2 at q kg P S2 B;have k:∀e∈ens vs c++E2,e.key=TF:=λe h=>by
  rcases yaM h with h|h;show oX e h;show B e h
 show{λi m Z H=>m=a.length-i/\i<=a.length/\∃O,fQ mg.run b.run (a.drop i) O*>(f,O')/\Sim Γ H O Z (ens vs c++E2),{a.length,by simp,Jm _,O1,by simpa using G,S2},?_};rintro i m X H2 ⟨rfl,hil,O2,d,S3⟩;have(w1,w2):=wk H2 O2 X E2 S3;by_cases u:i<a.length
 .have hx:a[i]?=TH a[i]:=by simp[u]
  have(w3,w4):=w2 i _ hx;rw[JC u,fQ]at d;show .inr {w3,λz H'=>∃O,fQ mg.run b.run (a.drop (i+1)) O*>(f,O')/\Sim Γ H' O z (ens vs c++E2),λz H' ⟨s,h3,Y⟩=>{a.length-(i+1),by omega,Xr,u,s,h3,Y},λx H3 y=>?_};have Y:=w4 x H3 y;ext d s e3;show hg Γ H3 O2 X _ _ x _ s l e3 Y λL N C=>?_;rw[kg]at C;split at d
  .delta p r;show U Γ N s L _ _ .nx p l k r C λz H' o=>{p,d,by rw[P]at o;show o}
  .delta p r;show U Γ N s L _ _ .ct p l k r C λz H' o=>{p,d,by rw[P]at o;show o}
  .delta p r;cases d;show U Γ N s L _ _ .bk _ l k r C λz H' o=>q z H' (by rw[P]at o;show o.drops)
  .delta t p r;cases d;show U Γ N s L _ _ (.rt t) _ l k r C q
  .cases d
 .have e:i=a.length:=by omega
  subst e;rw[KB,fQ]at d;cases d;show .inl {w1 _ (Iq _),q X H2 S3.drops}
end
abbrev jL(π:Nat->Nat):Kd->Kd
 | .vw (TH j) p=>.vw (TH (π j)) p
 | k=>k
abbrev jM(π:Nat->Nat) (r:R):R:={jL π r.k,r.t}
abbrev cz(π:Nat->Nat) (e:En):En:={e.key.map π,e.v,jM π e.r}
section
variable {Γ:Gm}{H H':Hp}{O:Rho}{Z:St}{E X:!En}{v x y:V}{t:T}{K:yF}{Q:VK}{π:Nat->Nat}
def tD(k:Kd):(jL π k).isOw=k.isOw:=by
 cases k with
 | vw a b=>cases a<;>rfl
 | _=>rfl
def mX(k:Kd):(jL π k).root=k.root.map π:=by
 cases k with
 | vw a b=>cases a<;>rfl
 | _=>rfl
def HE.ren(S:HE Γ H X)(inj:∀e∈X,∀f∈X,∀a b,e.key*>a->f.key*>b->π a=π b->a=b):HE Γ H (X.map (cz π)):=by
 have(L,g,rfl):=S;have c:∀L:!Hd,(L.map λh:Hd=>({cz π h.e,h.F}:Hd)).flatMap Hd.own=L.flatMap Hd.own:=by
  intro L
  induction L with
  | nil=>rfl
  | cons h L o=>
   rw[Io,Iy,Iy,o];congr 1;unfold Hd.own;change(if(jL π h.e.r.k).isOw=TK then h.F else [])=_;rw[tD]
 show{L.map λh=>{cz π h.e,h.F},{by rw[c];show g.nd,by rw[c];show g.ad,λh u=>?_,λh u=>?_,?_,g.fr,g.iol},by rw[IN,IN];rfl}
 .have(l,s,rfl):=Is.mp u;show g.rp l s
 .have(l,s,rfl):=Is.mp u;have k:=g.kd l s;unfold MP at k|-;change match jL π l.e.r.k with
   | .ow=>_|.io k=>_|.vw TF _=>_|.vw (TH j) p=>_
  cases ek:l.e.r.k with
  | ow=>rw[ek]at k;show k
  | io n=>rw[ek]at k;show k
  | vw a p=>
   rw[ek]at k;cases a with
   | none=>rw[c];show k
   | some j=>
    have(x,J,P,B,A,M):=k;show{{cz π x.e,x.F},IX J,by change x.e.key.map π=_;rw[P];rfl,by change(jL π x.e.r.k).isOw=TK;rw[tD];show B,λa U=>by rw[c];show A a U,M}
 .rw[Kr];have e:(λh:Hd=>h.e.key)∘(λh:Hd=>({cz π h.e,h.F}:Hd))=λh=>h.e.key.map π:=rfl;rw[e];have:∀d:!Hd,(∀h∈d,h∈L)->(d.filterMap λh=>h.e.key).Nodup->(d.filterMap λh=>h.e.key.map π).Nodup:=by
   intro d
   induction d with
   | nil=>intro _ _;show Jn
   | cons h d o=>
    intro m i;rw[IK]at i|-;cases ek:h.e.key with
    | none=>rw[ek]at i;show o (λx w=>m x (ymC _ w)) i
    | some a=>
     rw[ek]at i;have(G,N):=IW.mp i;show IW.mpr {λC=>?_,o (λx w=>m x (ymC _ w)) N};have(y,z,q):=I9.mp C;cases eb:y.e.key with
     | none=>rw[eb]at q;cases q
     | some b=>
      rw[eb]at q;have Y : π b=π a:=IG.inj q;have:=inj y.e (IX (m y (ymC _ z))) h.e (IX (m h ymS)) b a eb ek Y;subst this;show G (I9.mpr ⟨y,z,eb⟩)
  show this L (λ_ h=>h) g.ks
def HE.filt(S:HE Γ H X)(p:En->Bool)(m:∀e∈X,p e=TK->∀j,e.r.k.root*>j->∀f∈X,f.key*>j->p f=TK):HE Γ H (X.filter p):=by
 have(L,g,rfl):=S;show{L.filter λh=>p h.e,g.sub Jq λh d j i x a o q=>?_,by rw[KN];rfl};have(l,c):=Ix.mp d;show Ix.mpr {a,m h.e (IX l) c j i x.e (IX a) o}
def ents_iff:e∈aD 0 Z O ↔ ∃i,e.key*>i/\O[i]?*>(TH e.r)/\Z[i]?*>(TH e.v):=by
 constructor
 .intro h;have(i,a,d,c):=dw h;show{i,by rw[a,IZ],d,c}
 .rintro⟨i,a,d,c⟩;have:=(bF (k:=0) c d).mem_iff.mpr ymS;have f:e={TH (0+i),e.v,e.r}:=by cases e;dsimp[En.mk.injEq,and_self,and_true,IZ];show a
  rw[f];show this
def nH:∀{k:Nat} {Z:! ↑V} {O:Rho},(aD k Z O).Pairwise λa b=>∃i j,a.key*>i/\b.key*>j/\i<j
 | _,[],_=>List.Pairwise.nil
 | _,x::_,[]=>by cases x<;>show List.Pairwise.nil
 | k,x::Z,y::O=>by
  have c:=nH (k:=k+1) (Z:=Z) (O:=O);cases x with
  | none=>simpa[aD]using c
  | some v=>
   cases y with
   | none=>simpa[aD]using c
   | some r=>
    dsimp[aD];show List.Pairwise.cons (λb e=>?_) c;have(i,d,_,_):=dw e;show{k,k+1+i,Xr,d,by lia}
def ents_nodup:(aD k Z O).Nodup:=by
 show List.Pairwise.imp ?_ nH;rintro a b ⟨i,j,d,c,e⟩ rfl;rw[d]at c;cases c;lia
abbrev bV(fr:! ↑Nat) (j:Nat):Bool:=match fr[j]? with
 | some (TH i)=>i==j
 | _=>TJ
abbrev piF(fr:! ↑Nat) (j:Nat):Nat:=if bV fr j=TK then j else fr.length+j
abbrev psF(fr:! ↑Nat) (k:Nat):Nat:=if k<fr.length then k else k-fr.length
abbrev j5(π:Nat->Nat):Nat->! ↑Nat->Rho->Rho
 | _,[],_=>[]
 | k,o::a,r::O=>(if o*>k then r.map (jM π)else TF)::j5 π (k+1) a O
 | k,o::a,[]=>TF::j5 π (k+1) a []
abbrev inR(fr:! ↑Nat) (O:Rho):Rho:=j5 (piF fr) 0 fr O
abbrev ik(c : Nat->Nat) (d a:!Nat):Nat->! ↑Nat->Rho->Rho->Rho
 | k,o::f,e::g,r::O=>(if o*>k then(bA d e).map (jM c)else bA a r)::ik c d a (k+1) f g O
 | _,[],_,O=>O.map (bA a)
 | _,_::_,[],O=>O.map (bA a)
 | _,_::_,_::_,[]=>[]
abbrev tgF(fr:! ↑Nat):!Nat:=(I8 fr.length).filter λi=> ~~~bV fr i
abbrev muF(fr:! ↑Nat) (a:!Nat):!Nat:=a.filter (bV fr)
abbrev ci(fr:! ↑Nat) (c:!Nat) (a O:Rho):Rho:=ik (psF fr) (tgF fr) (muF fr c) 0 fr a O
def capB_iff:bV fr j=TK↔fr[j]?*>(TH j):=by
 unfold bV;split;delta i h;rw[h];simp
 .delta h;constructor;intro z;cases z;intro z;show absurd z (h j)
def kR:∀{k:Nat} {fr:! ↑Nat} {O:Rho} {i:Nat} {a:R},(j5 π k fr O)[i]?*>(TH a)↔fr[i]?*>(TH (k+i))/\∃r,O[i]?*>(TH r)/\a=jM π r
 | k,[],O,i,a=>by simp[j5]
 | k,o::fr,[],0,a=>by simp[j5]
 | k,o::fr,[],i+1,a=>by
  rw[j5,Jg,kR (k:=k+1) (fr:=fr) (O:=[]) (i:=i)];simp
 | k,o::fr,r::O,0,a=>by
  rw[j5,JO,JO,JO];by_cases h:o*>k
  .subst h;rw[if_pos rfl];cases r with
   | none=>simp
   | some r=>simp[eq_comm]
  .rw[if_neg h];constructor;intro z;cases z;rintro⟨c,_⟩;show absurd (by exists c) h
 | k,o::fr,r::O,i+1,a=>by
  rw[j5,Jg,Jg,Jg,kR (k:=k+1) (fr:=fr) (O:=O) (i:=i),show k+1+i=k+(i+1) by lia]
def iU:∀{k:Nat} {fr:! ↑Nat} {O:Rho},(j5 π k fr O).length=fr.length
 | k,[],O=>rfl
 | k,o::fr,[]=>by rw[j5,Iv,iU,Iv]
 | k,o::fr,r::O=>by rw[j5,Iv,iU,Iv]
def inR_get:(inR fr O)[i]?*>(TH r')↔bV fr i=TK/\∃r,O[i]?*>(TH r)/\r'=jM (piF fr) r:=by
 unfold inR;rw[kR,IZ,capB_iff]
def iV(h:bV fr i=TK):(bG fr Z)[i]?*>(Z.getD i TF):=by
 unfold bG;rw[Iw,capB_iff.mp h];rfl
def getD_some:Z.getD i TF*>v↔Z[i]?*>(TH v):=by
 rw[Ja];cases h:Z[i]? with
 | none=>simp
 | some o=>simp
def dU(h:bV fr j=TK):piF fr j=j:=by unfold piF;rw[if_pos h]
def cK(h:bV fr j=TJ):piF fr j=fr.length+j:=by unfold piF;rw[if_neg (by rw[h];simp)]
def bJ(h:bV fr j=TK):j<fr.length:=(Ii.mp (capB_iff.mp h)).1
def Am(h:piF fr a=piF fr b):a=b:=by
 cases ha:bV fr a<;>cases hb:bV fr b;rw[cK ha,cK hb]at h;lia;rw[cK ha,dU hb]at h;have:=bJ hb;lia;rw[dU ha,cK hb]at h;have:=bJ ha;lia;rw[dU ha,dU hb]at h;show h
def xk(a:Nat):psF fr (piF fr a)=a:=by
 cases ha:bV fr a;rw[cK ha];unfold psF;rw[if_neg (by lia)];lia;rw[dU ha];unfold psF;rw[if_pos (bJ ha)]
def ot(e:En):cz (psF fr) (cz (piF fr) e)=e:=by
 obtain⟨c,v,⟨k,t⟩⟩:=e;have f:(c.map (piF fr)).map (psF fr)=c:=by cases c<;>simp[xk]
 have d:jL (psF fr) (jL (piF fr) k)=k:=by
  cases k with
  | vw a p=>cases a<;>simp[jL,xk]
  | _=>rfl
 change({(c.map (piF fr)).map (psF fr),v,{jL (psF fr) (jL (piF fr) k),t}}:En)=_;rw[f,d]
abbrev fw(fr:! ↑Nat) (e:En):Bool:=match e.key with
 | some j=>bV fr j
 | none=>TJ
def jy{c p:Type}{f : c->p}{l:!c}(h:l.Nodup)(inj:∀a∈l,∀b∈l,f a=f b->a=b):(l.map f).Nodup:=by
 induction l with
 | nil=>show Jn
 | cons a l g=>
  have(j,m):=IW.mp h;rw[Io];show IW.mpr {λk=>?_,g m λx o y i=>inj x (ymC _ o) y (ymC _ i)};have(b,d,e):=Is.mp k;have:=inj b (ymC _ d) a ymS e;subst this;show j d
def inn_perm{fr:! ↑Nat}:((aD 0 Z O).map (cz (piF fr))).Perm (aD 0 (bG fr Z) (inR fr O)++((aD 0 Z O).filter λe=> ~~~fw fr e).map (cz (piF fr))):=by
 have inj:∀a∈aD 0 Z O,∀b∈aD 0 Z O,cz (piF fr) a=cz (piF fr) b->a=b:=λa _ b _ h=>by
  have:=congrArg (cz (psF fr)) h;rwa [ot,ot]at this
 have l:=jy (ents_nodup (k:=0) (Z:=Z) (O:=O)) inj;have B:(((aD 0 Z O).filter λe=> ~~~fw fr e).map (cz (piF fr))).Nodup:=l.sublist (Jq.map _);show(KY l (Im.mpr {ents_nodup,B,?_})).mpr λe=>?_
 .rintro a M b P rfl;have(i,s,w,A):=ents_iff.mp M;have(c,_):=inR_get.mp w;have(f,g,rfl):=Is.mp P;have(u,d):=Ix.mp g;have(j,p,J,C):=ents_iff.mp u;have L:bV fr j=TJ:=by unfold fw at d;rw[p]at d;exists d
  have o:(f.key.map (piF fr))*>i:=s;rw[p]at o;have m:piF fr j=i:=by exists o
  rw[cK L]at m;have:=bJ c
  lia
 .rw[Kb];constructor
  .intro q;have(f,g,rfl):=Is.mp q;have(j,p,J,C):=ents_iff.mp g;cases c:bV fr j;show .inr (Is.mpr {f,Ix.mpr {g,by unfold fw;rw[p];simp[c]},Xr})
   .left;show ents_iff.mpr {j,?_,inR_get.mpr {c,_,J,Xr},?_}
    .change f.key.map (piF fr)=_;rw[p];simp[dU c]
    .rw[iV c,getD_some.mpr C];rfl
  .rintro(q|q)
   .have(i,s,w,A):=ents_iff.mp q;have(c,r,N,G):=inR_get.mp w;rw[iV c]at A;have z:=getD_some.mp (IG.inj A);show Is.mpr {{TH i,e.v,r},ents_iff.mpr ⟨i,Xr,N,z⟩,?_};cases e;simp only at s G;simp[cz,dU c,s,G]
   .have(f,g,rfl):=Is.mp q;show IX (Ix.mp g).1
abbrev lh(fr:! ↑Nat) (Z:St) (O:Rho) (E:!En):!En:=(E++(aD 0 Z O).filter λe=> ~~~fw fr e).map (cz (piF fr))
abbrev dO(fr:! ↑Nat) (n:Nat):Bool:=decide (n<=fr.length)&&(I8 fr.length).all λi=> ~~~bV fr i||decide (i<n)
def nI(h:dO fr n=TK)(a:bV fr j=TK):j<n:=by
 unfold dO at h;rw[Il]at h;have:=JE.mp h.2 j (JJ.mpr (bJ a));rw[a]at this;exists this
def Sim.inn(S:Sim Γ H O Z E)(q:dO fr O.length=TK):Sim Γ H (inR fr O) (bG fr Z) (lh fr Z O E):=by
 show{?_,λi r h=>?_,by rw[fE];unfold inR;rw[iU],λe k j s=>?_}
 .have:=S.sl.ren (π:=piF fr) λe _ f _ a b _ _ h=>Am h;rw[Iu]at this;show this.perm ?_;unfold lh;rw[Iu,IC];show(inn_perm.append_left _).trans (List.perm_append_comm.append_left _)
 .have(d,l,p,_):=inR_get.mp h;have(v,o):=S.al i l p;show{v,by rw[iV d,getD_some.mpr o]}
 .unfold inR;rw[iU];unfold lh at k;have(f,g,rfl):=Is.mp k;have c:f.key.map (piF fr)*>j:=s;cases hk:f.key with
  | none=>rw[hk]at c;cases c
  | some i=>
   rw[hk]at c;have m:piF fr i=j:=by exists c
   have d:bV fr i=TJ:=by
    rcases yaM g with z|z
    .cases d:bV fr i with
     | false=>rfl
     | true=>
      have:=nI q d;have:=S.hi f z i hk
      lia
    .have:=(Ix.mp z).2;unfold fw at this;rw[hk]at this;exists this
   rw[cK d]at m
   lia
def mR:∀{k:Nat} {fr:! ↑Nat} {a O:Rho} {i:Nat},i < O.length->O.length<=fr.length->fr.length=a.length->(ik ψ tg mu k fr a O)[i]?*>(if fr[i]?*>(TH (k+i))then(bA tg (a.getD i TF)).map (jM ψ)else bA mu (O.getD i TF))
 | k,fr,a,[],i,h,_,_=>by cases h
 | k,[],a,r::O,i,_,h,_=>by simp at h
 | k,o::fr,[],r::O,i,_,_,h=>by cases h
 | k,o::fr,e::a,r::O,0,h,c,d=>by
  rw[ik,JO,JO];simp
 | k,o::fr,e::a,r::O,i+1,h,c,d=>by
  rw[ik,Jg,mR (k:=k+1) (by exists h) (by exists c) (by exists d),Jg,show k+1+i=k+(i+1) by lia];simp
def jA:∀{k:Nat} {fr:! ↑Nat} {a O:Rho},(ik ψ tg mu k fr a O).length=O.length
 | k,[],a,O=>by cases a<;>simp[ik]
 | k,o::fr,[],O=>by simp[ik]
 | k,o::fr,c::a,[]=>by simp[ik]
 | k,o::fr,c::a,r::O=>by rw[ik,Iv,jA,Iv]
def jj:i∈tgF fr↔i<fr.length/\bV fr i=TJ:=by
 unfold tgF;rw[Ix,JJ];simp
def killO_iff:bA M o*>r↔o*>r/\dJ M r=TK:=by
 cases o with
 | none=>simp[bA]
 | some x=>
  dsimp[bA];split
  .delta h;constructor;intro z;cases z;show⟨Xr,h⟩;rintro⟨z,_⟩;rw[z]
  .delta h;constructor;intro z;cases z;rintro⟨z,a⟩;cases z;show absurd a h
def wb(a:∀j∈mu,j<fr.length)(e:En):aB mu (cz (piF fr) e)=aB (muF fr mu) e:=by
 unfold aB;change(match (jL (piF fr) e.r.k).root with|some j=> ~~~mu.contains j|none=>TK)=_;rw[mX];cases e.r.k.root with
 | none=>rfl
 | some j=>
  change(~~~mu.contains (piF fr j)) =  ~~~(muF fr mu).contains j;congr 1;rw[Jo];dsimp[Jy,decide_eq_true_eq,muF,Ix];cases hc:bV fr j
  .rw[cK hc];constructor;intro z;have:=a _ z;lia;rintro⟨_,z⟩;cases z
  .rw[dU hc];simp
def zA(e:En):aB (tgF fr) (cz (piF fr) e)=TK:=by
 unfold aB;change(match (jL (piF fr) e.r.k).root with|some j=> ~~~(tgF fr).contains j|none=>TK)=_;rw[mX];cases e.r.k.root with
 | none=>rfl
 | some j=>
  change(~~~(tgF fr).contains (piF fr j))=TK;dsimp[Jy,I0,decide_eq_false_iff_not,jj];rintro⟨c,a⟩;cases hc:bV fr j;rw[cK hc]at c;lia;rw[dU hc,hc]at a;cases a
def Sim.outt{fr:! ↑Nat}{B:!Nat}{Y:Rho}{Z2:St}(S:Sim Γ H' Y Z2 (ah B (lh fr Z O E)))(hf:dO fr O.length=TK)(hmu:∀j∈B,j<fr.length)(hl : Y.length=fr.length)(kp:Kp fr (bG fr Z) Z2)
  (al:∀(i:Nat) r,O[i]?*>(TH r)->∃v,Z[i]?*>(TH v)) (len:Z.length=O.length) (hi:∀e∈E,∀j,e.key*>j->O.length<=j):Sim Γ H' (ci fr B Y O) Z (ah (muF fr B) E):=by
 have hn : O.length<=fr.length:=by unfold dO at hf;rw[Il,decide_eq_true_eq]at hf;show hf.1
 have val:∀{i:Nat} {w:V},bV fr i=TK->Z2[i]?*>(TH w)->Z[i]?*>(TH w):=λ{i w} d h=>by
  rw[kp.2 i i (capB_iff.mp d),iV d]at h;show getD_some.mp (IG.inj h)
 have eE:ah B (lh fr Z O E)=(ah (muF fr B) (E++(aD 0 Z O).filter λe=> ~~~fw fr e)).map (cz (piF fr)):=by
  unfold lh ah;rw[KN];congr 1;apply K5;intro e _;show wb hmu e
 have s1:=(S.sl.kill (tgF fr));rw[aK,eE]at s1;have e1:ah (tgF fr) ((ah (muF fr B) (E++(aD 0 Z O).filter λe=> ~~~fw fr e)).map (cz (piF fr)))=(ah (muF fr B) (E++(aD 0 Z O).filter λe=> ~~~fw fr e)).map (cz (piF fr)):=by
  unfold ah;rw[JQ];intro e C;have(f,_,rfl):=Is.mp C;show zA f
 rw[e1]at s1
 let p:En->Bool:=λe=>match e.key with
  | some k=> ~~~(tgF fr).contains k
  | none=>TK
 have kout:∀f∈E++(aD 0 Z O).filter λe=> ~~~fw fr e,∀j,f.key*>j->bV fr j=TJ:=λf q j P=>by
  rcases yaM q with z|z
  .cases d:bV fr j with
   | false=>rfl
   | true=>have:=nI hf d;have:=hi f z j P;lia
  .have:=(Ix.mp z).2;unfold fw at this;rw[P]at this;exists this
 have pO:∀e∈(ah (muF fr B) (E++(aD 0 Z O).filter λe=> ~~~fw fr e)).map (cz (piF fr)),p e=TK:=λe C=>by
  have(f,q,rfl):=Is.mp C;have hf'':=(Ix.mp q).1;change(match f.key.map (piF fr)with|some k=> ~~~(tgF fr).contains k|none=>TK)=TK;cases L:f.key with
  | none=>rfl
  | some j=>
   have:=kout f hf'' j L;dsimp[JU,Jy,I0,decide_eq_false_iff_not,jj];rw[cK this]
   lia
 have s2:=s1.filt p λe C _ j P f q L=>by
  change(match f.key with|some k=> ~~~(tgF fr).contains k|none=>TK)=TK;rw[L];have hm:e∈ah (tgF fr) (ah B (lh fr Z O E)++aD 0 Z2 Y):=by rw[aK,eE,e1];show C
  by_cases u:j∈tgF fr;show absurd P (le (M:=tgF fr) (i:=j) u e hm);simp[u]
 rw[IY,JQ.mpr pO]at s2;have s3:=s2.ren (π:=psF fr) (λe C f q a b ha hb A=>by
  have key:∀e∈(ah (muF fr B) (E++(aD 0 Z O).filter λe=> ~~~fw fr e)).map (cz (piF fr))++(ah (tgF fr) (aD 0 Z2 Y)).filter p,∀a,e.key*>a->(∃j,a=fr.length+j/\bV fr j=TJ)\/bV fr a=TK:=λe C a ha=>by
   rcases yaM C with z|z
   .left;have(g,hg,rfl):=Is.mp z;have hg':=(Ix.mp hg).1;have ha':g.key.map (piF fr)*>a:=ha;cases L:g.key with
    | none=>rw[L]at ha';cases (ha')
    | some j=>
     have d:=kout g hg' j L;rw[L]at ha';have:piF fr j=a:=by exists ha'
     show{j,by rw[<-this,cK d],d}
   .right;have(z1,z2):=Ix.mp z;have(i,c,l,s):=ents_iff.mp (Ix.mp z1).1;rw[ha]at c;cases (c);have G:(match e.key with|some k=> ~~~(tgF fr).contains k|none=>TK)=TK:=z2;rw[ha]at G;have m:a<fr.length:=by
     have:=(Ii.mp l).1
     lia
    dsimp[Jy,I0,decide_eq_false_iff_not,jj]at G;cases d:bV fr a with
    | true=>rfl
    | false=>show absurd ⟨m,d⟩ G
  rcases key e C a ha with⟨j,rfl,P⟩|P<;>rcases key f q b hb with⟨j',rfl,u⟩|u;unfold psF at A;rw[if_neg (by lia),if_neg (by lia)]at A;lia
  .unfold psF at A;rw[if_neg (by lia),if_pos (bJ u)]at A;have:j=b:=by lia
   subst this;rw[P]at u;cases (u)
  .unfold psF at A;rw[if_pos (bJ P),if_neg (by lia)]at A;have:j'=a:=by lia
   subst this;rw[u]at P;cases (P)
  .unfold psF at A;rw[if_pos (bJ P),if_pos (bJ u)]at A;show A)
 rw[Iu,IN]at s3;have e2:(ah (muF fr B) (E++(aD 0 Z O).filter λe=> ~~~fw fr e)).map (cz (psF fr)∘cz (piF fr))=ah (muF fr B) (E++(aD 0 Z O).filter λe=> ~~~fw fr e):=by
  conv=>rhs;rw[<-List.map_id (ah (muF fr B) (E++(aD 0 Z O).filter λe=> ~~~fw fr e))]
  apply KR;intro e _;show ot e
 rw[e2,aK,IC]at s3;have olen:(ci fr B Y O).length=O.length:=by unfold ci;show jA
 have J:∀{i:Nat} {r:R},(ci fr B Y O)[i]?*>(TH r)↔i < O.length/\((bV fr i=TK/\∃N,Y[i]?*>(TH N)/\dJ (tgF fr) N=TK/\r=jM (psF fr) N)\/(bV fr i=TJ/\O[i]?*>(TH r)/\dJ (muF fr B) r=TK)):=λ{i r}=>by
  by_cases m:i < O.length
  .unfold ci;rw[mR m hn hl.symm,IZ];cases d:bV fr i
   .rw[if_neg (λz=>by rw[capB_iff.mpr z]at d;cases (d))];rw[IG.injEq,killO_iff];have : O.getD i TF*>r↔O[i]?*>(TH r):=by
     rw[Ja];cases O[i]?<;>simp
    rw[this];simp[m]
   .rw[if_pos (capB_iff.mp d)];rw[IG.injEq,IE];constructor
    .rintro⟨N,c,l⟩;have(s,h4):=killO_iff.mp c;show{m,.inl {Xr,N,?_,h4,l.symm}};rw[Ja]at s;cases h5 : Y[i]? with
     | none=>rw[h5]at s;cases (s)
     | some o=>rw[h5]at s;have:o*>N:=s;rw[this]
    .rintro⟨_,⟨_,N,c,l,s⟩|⟨z,_⟩⟩;show{N,killO_iff.mpr {by rw[Ja,c];rfl,l},s.symm};cases (z)
  .constructor
   .intro z;have:=(Ii.mp z).1;rw[olen]at this;show absurd this m
   .rintro⟨z,_⟩;show absurd z m
 show{s3.perm (List.Perm.append_left _ ?_),λi r h=>?_,by rw[olen];show len,λe C j P=>by rw[olen];show hi e (Ix.mp C).1 j P}
 .have ndA:(ah (muF fr B) ((aD 0 Z O).filter λe=> ~~~fw fr e)).Nodup:=ents_nodup.sublist (Jq.trans Jq);have inB:∀e∈(ah (tgF fr) (aD 0 Z2 Y)).filter p,∃i,e.key*>i/\bV fr i=TK/\Y[i]?*>(TH e.r)/\Z2[i]?*>(TH e.v)/\dJ (tgF fr) e.r=TK:=λe C=>by
   have(z1,z2):=Ix.mp C;have(z3,z4):=Ix.mp z1;have(i,c,l,s):=ents_iff.mp z3;have G:(match e.key with|some k=> ~~~(tgF fr).contains k|none=>TK)=TK:=z2;rw[c]at G;have m:i<fr.length:=by
    have:=(Ii.mp l).1
    lia
   dsimp[Jy,I0,decide_eq_false_iff_not,jj]at G;show{i,c,?_,l,s,z4};cases d:bV fr i with
   | true=>rfl
   | false=>show absurd ⟨m,d⟩ G
  have ndB:(((ah (tgF fr) (aD 0 Z2 Y)).filter p).map (cz (psF fr))).Nodup:=by
   show jy (ents_nodup.sublist (Jq.trans Jq)) λa ha b hb h=>?_;have(i,c,l,s,h4,_):=inB a ha;have(j,U,g2,g3,g4,_):=inB b hb;have L:a.key.map (psF fr)=b.key.map (psF fr):=congrArg En.key h;rw[c,U]at L;have hk':psF fr i=psF fr j:=by exists L
   unfold psF at hk';rw[if_pos (bJ l),if_pos (bJ g2)]at hk';subst hk';rw[s]at g3;rw[h4]at g4;cases (a);cases (b);simp only at c U g3 g4;have e1:=IG.inj (IG.inj g3);have e2:=IG.inj (IG.inj g4);simp[c,U,e1,e2]
  show(KY (Im.mpr {ndA,ndB,?_}) ents_nodup).mpr λe=>?_
  .rintro a ha b hb rfl;have(f,q,hfe):=Is.mp hb;have(i,c,l,_):=inB f q;have L:f.key.map (psF fr)=a.key:=congrArg En.key hfe;rw[c]at L;have hk':a.key*>i:=by rw[<-L];simp[psF,bJ l]
   have(y1,y2):=Ix.mp (Ix.mp ha).1;unfold fw at y2;rw[hk']at y2;simp[l]at y2
  .rw[Kb,ents_iff];constructor
   .rintro(C|C)
    .have(z1,z2):=Ix.mp C;have(z3,z4):=Ix.mp z1;have(i,c,l,s):=ents_iff.mp z3;unfold fw at z4;rw[c]at z4;show{i,c,J.mpr {(Ii.mp l).1,.inr {by simpa using z4,l,z2}},s}
    .have(f,q,rfl):=Is.mp C;have(i,c,l,s,h4,h5):=inB f q;show{i,?_,J.mpr {nI hf l,.inl ⟨l,f.r,s,h5,Xr⟩},val l h4};change f.key.map (psF fr)*>i;rw[c];simp[psF,bJ l]
   .rintro⟨i,c,l,s⟩;obtain⟨m,⟨d,N,U,g2,g3⟩|⟨d,U,g2⟩⟩:=J.mp l
    .right;have(w,hw):=S.al i N U;have hw':=val d hw;rw[s]at hw';have ew:e.v=w:=IG.inj (IG.inj hw');show Is.mpr {{TH i,w,N},Ix.mpr {Ix.mpr {ents_iff.mpr ⟨i,Xr,U,hw⟩,g2},?_},?_}
     .change(~~~(tgF fr).contains i)=TK;dsimp[Jy,I0,decide_eq_false_iff_not,jj];rintro⟨_,z⟩;rw[d]at z;cases (z)
     .cases (e);simp only at c g3 ew;simp[cz,c,g3,ew,psF,bJ d]
    .left;show Ix.mpr {Ix.mpr {ents_iff.mpr ⟨i,c,U,s⟩,?_},g2};unfold fw;rw[c];simp[d]
 .obtain⟨m,⟨d,N,U,g2,g3⟩|⟨d,U,g2⟩⟩:=J.mp h
  .have(w,hw):=S.al i N U;show{w,val d hw}
  .show al i r U
end
section
variable {Γ:Gm}{H H':Hp}{O:Rho}{Z:St}{E X:!En}{v x y:V}{t:T}{K:yF}{Q:VK}
def Sim.mkL(S:Sim Γ H O Z (aV vs ts++E))(i:vs.length=ts.length)(h:H p=TF):Sim Γ (upd H p (.lst vs)) O Z ({TF,.ref p,{.ow,cc ts}}::E):=by
 have(F,f,q,g,r):=S.use i;have d:=MU.laid (o:=.lst vs) h;have j:p∉F:=λz=>by have(o,e,_):=g p z;rw[h]at e;cases e
 show r _ (.ref p) (cc ts) (p::F) (d.offM _) (λa c=>let ⟨o,e,_⟩:=g a c;{o,d a o e}) (IW.mpr ⟨j,q⟩) (λa c=>?_) ?_
 .rcases ycM c with rfl|c;show{.inr h,_,au,Xr};show{.inl c,let ⟨o,e,m⟩:=g a c;{o,d a o e,m}}
 .unfold cc;split
  .delta u s;rw[nK s]at f;have(k,l):=Rps.ims.mp f;subst l;rw[Rp];show{p,vs,Xr,.inl au,k.same d,Xr}
  .rw[Rp];show{p,vs,F,Xr,.inl au,f.same d,Xr}
def nc:∀{vs:!V} {ts:!T},vs.length=ts.length->aV (vs++[v]) (ts++[t])=aV vs ts++[{TF,v,{.ow,t}}]
 | [],[],_=>rfl
 | a::vs,b::ts,h=>by
  rw[IT,IT,aV,aV,nc (by exists h),IT]
 | [],_::_,h=>by cases h
 | _::_,[],h=>by cases h
def iy:∀{vs:!V} {ts:!T},ah M (aV vs ts)=aV vs ts
 | [],ts=>by cases ts<;>rfl
 | a::vs,[]=>rfl
 | a::vs,b::ts=>by rw[aV,ax rfl,iy]
abbrev cC(fr:! ↑Nat) (M:!Nat) (g:MG) (c:MT) (e:ME):!R->Rho->!T->↑(!T×Rho)
 | [],O,a=>TH (a,O)
 | r::f,O,a=>match g.run (jM (piF fr) r) (inR fr O)with
  | some i=>(match c.run i with
   | some (TK,d)=>(match e.run d with
    | some (⟨.ow,t⟩,h)=>cC fr M g c e f (ci fr M h O) (a++[t])
    | _=>TF)
   | some (TJ,d)=>cC fr M g c e f (ci fr M d O) a
   | none=>TF)
  | none=>TF
def fK:lh fr Z O (e::E)=cz (piF fr) e::lh fr Z O E:=rfl
def i9:(ci fr M Oi O).length=O.length:=jA
def t8(hK : Γ.K=K)(wk:fN Γ J vs srcs items)(hgk:ee fr g)(hg:jm K g mg)(hc:fg K tc c)(he:be K te e)(hM:M=mg.mu++(c.mu++e.mu))
  (hmu:∀j∈M,j<fr.length) (ks:∀e∈ens vs srcs,aB (muF fr M) e=TK) {o:!En} (kE:ah (muF fr M) o=o) {k:!T} {OF:Rho} {acc0:!V} {ts0:!T} (hl0:acc0.length=ts0.length) (hz:acc0.length+items.length<sizeLine)
  (hf:dO fr O.length=TK) (S:Sim Γ H O Z (ens vs srcs++(aV acc0 ts0++o))) (hr:cC fr M mg c e items O ts0*>(k,OF))
  (q:∀a H',a.length=k.length->a.length<=acc0.length+items.length->OF.length=O.length->Sim Γ H' OF Z (ens vs srcs++(aV a k++o))->N a H'):Fj J (bG fr Z) g tc te acc0 H N:=by
 have kE2:∀a f,ah (muF fr M) (ens vs srcs++(aV a f++o))=ens vs srcs++(aV a f++o):=λa f=>by rw[aK,cw ks,aK,iy,kE]
 show{λi m a H=>m=items.length-i/\i<=items.length/\a.length<=acc0.length+i/\∃h f,cC fr M mg c e (items.drop i) h f*>(k,OF)/\a.length=f.length/\h.length=O.length/\Sim Γ H h Z (ens vs srcs++(aV a f++o)),{items.length,by simp,Jm _,by omega,O,ts0,by simpa using hr,hl0,Xr,S},?_};rintro i m a H1 ⟨rfl,hil,hal,h,f,l,hl,hO,r⟩;show{by omega,?_};have(w1,w2):=wk H1 h Z _ r;by_cases U:i<items.length
 .have hx:items[i]?=TH items[i]:=by simp[U]
  have(w3,w4):=w2 i _ hx;rw[JC U,cC]at l;show .inr {w3,λd H'=>d.length<=acc0.length+(i+1)/\∃h f,cC fr M mg c e (items.drop (i+1)) h f*>(k,OF)/\d.length=f.length/\h.length=O.length/\Sim Γ H' h Z (ens vs srcs++(aV d f++o)),λd H' ⟨ha,G,ts3,h3,hl3,hO3,S3⟩=>{items.length-(i+1),by omega,Xr,U,ha,G,ts3,h3,hl3,hO3,S3},λx H2 y=>?_};have S2:=w4 x H2 y;have L:dO fr h.length=TK:=by rw[hO];show hf
  have S3:=S2.inn L;rw[fK]at S3;ext l O2 e2;show hgk x (bG fr Z) H2 (λP H3=>Kp fr (bG fr Z) P->_) _ (λP H3 z Y=>z Y) ?_;show hg Γ H2 (inR fr h) (bG fr Z) _ _ x _ O2 hK e2 S3 λP H3 S4 Y=>?_;split at l
  .delta G e3;show hc Γ H3 O2 P _ _ TK G hK e3 S4 λH4 S5=>qN ?_;ext l t O4 e4;show he Γ H4 G P _ _ _ O4 hK e4 S5 λw H5 p=>?_;rw[ag,ag]at p;rw[<-hM]at p;have S7:Sim Γ H5 O4 P (ah M (lh fr Z h ({TF,w,{.ow,t}}::(ens vs srcs++(aV a f++o))))):=by
    rw[fK,ax (show aB M (cz (piF fr) {TF,w,{.ow,t}})=TK from rfl)];show p
   have s : O4.length=fr.length:=by rw[<-p.len,Y.1,fE]
   have S8:=S7.outt L hmu s Y r.al r.len (λe' u j hj=>by
    rcases ycM u with rfl|u;cases hj;show r.hi e' u j hj)
   rw[ax (show aB (muF fr M) {TF,w,{.ow,t}}=TK from rfl),kE2]at S8;show{by simp;omega,_,_,l,by simp[hl],by rw[i9,hO],?_};rw[nc hl,IC];show S8.perm ?_;have pp:∀(A B C:!En) (x:En),(x::(A++(B++C))).Perm (A++(B++(x::C))):=λA B C x=>by
    rw[<-IC,<-IC];show IU.symm
   show pp _ _ _ _
  .delta G e3;show hc Γ H3 O2 P _ _ TJ G hK e3 S4 λH4 S5=>qM ?_;have p:=S5.weak e.mu;rw[ag,ag]at p;rw[<-hM]at p;have s : G.length=fr.length:=by rw[<-p.len,Y.1,fE]
   have S8:=p.outt L hmu s Y r.al r.len r.hi;rw[kE2]at S8;show{by omega,_,_,l,hl,by rw[i9,hO],S8}
  .cases l
 .have ei:i=items.length:=by omega
  subst ei;rw[KB,cC]at l;cases l;show .inl {w1 _ (Iq _),q a H1 hl hal hO r}
abbrev dM(M:!Nat) (n:Nat):Bool:=M.all λj=>decide (j<n)
def ph(h:dM M n=TK):∀j∈M,j<n:=λj a=>by
 have:=JE.mp h j a;exists this
private def aM(fr:! ↑Nat)(it:MI)(g:MG)(c:MT)(e:ME):ME:={λO=>match it.run O with
 | some ((d,a),f)=>if(dO fr f.length&&dM (g.mu++(c.mu++e.mu)) fr.length&&d.all (aC (muF fr (g.mu++(c.mu++e.mu))))&&decide (a.length<sizeLine))=TK then(match cC fr (g.mu++(c.mu++e.mu)) g c e a f []with
  | some (i,h)=>TH ({.ow,cc i},h)
  | none=>TF)else TF
 | none=>TF,it.mu++muF fr (g.mu++(c.mu++e.mu))}
def pP(U:kF K wi it)(l:ee fr g)(P:jm K g mg)(hc:fg K tc c)(he:be K te e):be K (yt wi fr g tc te) (aM fr it mg c e):=by
 intro Γ H O Z E Q r O' i h S q;dsimp[aM]at h q;ext h a f O1 B;ext h u;dsimp[Il,decide_eq_true_eq]at u;obtain⟨⟨⟨b1,C⟩,b3⟩,G⟩:=u;ext h ts O2 e2;cases h;show U Γ H O Z E _ a f O1 i B S λΓ k L J vs H1 hlv p wk=>?_;replace i:=k.trans i;replace q:=λv H' S=>q v H' (L _ _ _ _ S);rw[<-ag]at q;generalize ah it.mu E=E1 at q p;have s:∀e'∈ens vs a,aB (muF fr (mg.mu++(c.mu++e.mu))) e'=TK:=iS b3;have m:=p.weak (muF fr (mg.mu++(c.mu++e.mu)));rw[aK,cw s]at m;have o:=dY (M:=muF fr (mg.mu++(c.mu++e.mu))) (N:=muF fr (mg.mu++(c.mu++e.mu))) (λj hj=>hj) E1;generalize ah (muF fr (mg.mu++(c.mu++e.mu))) E1=E2 at q m o;show t8 (acc0:=[]) (ts0:=[]) i wk l P hc he rfl (ph C) s o rfl (by exists G) b1 m e2 λY H' w _ _ A d z=>?_;show q _ _ (A.drops.mkL w z)
end
section
variable {Γ:Gm}{H H':Hp}{L:!Hd}{O:Rho}{Z:St}{E X:!En}{v w x y:V}{t s:T}{K:yF}{Q:VK}
def GW.stepN(G:GW Γ H (hs++L))(ho:∀h∈hs,h.e.r.k.isOw=TK)(hr:∀g∈L,∀h∈hs,∀j,h.e.key*>j->g.e.r.k.root≠TH j)
  (f:MJ (hs.flatMap (·.F)) H H') (dom:∀a∈hs.flatMap (·.F),∃o,H' a*>o) (nd:(ns.flatMap (·.F)).Nodup) (M:∀a∈ns.flatMap (·.F),(a∈hs.flatMap (·.F)\/H a=TF)/\Mu H' a) (hp:∀n∈ns,Rp Γ.K H' n.e.r.t n.e.v n.F)
  (hk:∀n∈ns,(n.e.r.k=.ow/\∀a∈n.F,H a=TF \/ ∃h∈hs,h.e.r.k=.ow/\a∈h.F) \/ ∃k,n.e.r.k=.io k/\Γ.iov[k]?*>n.e.v) (B:((ns++L).filterMap λh=>h.e.key).Nodup):GW Γ H' (ns++L):=by
 have N:∀n∈ns,n.e.r.k.isOw=TK:=λn hn=>by rcases hk n hn with⟨e,_⟩|⟨k,e,_⟩<;>rw[e]<;>rfl
 have eo:=gH ho;have en:=gH N;have U:=G.nd;rw[Iz,eo]at U;have S:=(Im.mp U).2.1;have dj:=(Im.mp U).2.2;have J:∀a∈L.flatMap Hd.own,Mu H a/\(Γ.H0 a=TF\/a ∈ Γ.io):=λa c=>G.ad a (by rw[Iz];show yaR _ c);have A:∀a∈hs.flatMap (·.F),Mu H a/\(Γ.H0 a=TF\/a ∈ Γ.io):=λa c=>G.ad a (by rw[Iz,eo];show yaL _ c);have ap:=G.apart hr ho;have C:∀g∈L,∀a∈g.F,a∉hs.flatMap (·.F):=λg i a c l=>by
  have(h,hh,u):=Ju.mp l;show ap g i a c h hh u
 show{?_,λa c=>?_,λx d=>?_,λx d=>?_,B,λb o e n=>?_,λa c=>?_}
 .rw[Iz,en];show Im.mpr {nd,S,λa c b hb=>?_};rintro rfl;rcases(M a c).1 with z|z;show dj a z a hb rfl
  .have(o,e,_):=(J a hb).1;rw[z]at e;cases e
 .rw[Iz,en]at c;rcases yaM c with c|c
  .show{(M a c).2,?_};rcases(M a c).1 with z|z;show(A a z).2;show .inl (G.new0 z)
  .obtain⟨⟨o,e,m⟩,z⟩:=J a c;show{{o,f a o e λl=>dj a l a c rfl,m},z}
 .rcases yaM d with d|d;show hp x d;show(G.rp x (yaR _ d)).off f (λa c=>(A a c).1) (C x d)
 .rcases yaM d with d|d
  .unfold MP;rcases hk x d with⟨e,eh⟩|⟨k,e,ek⟩
   .dsimp[e];intro a c;rcases eh a c with z|⟨h,hh,he,u⟩;show G.new0 z
    .have q:=G.kd h (yaL _ hh);unfold MP at q;rw[he]at q;show q a u
   .dsimp[e];show ek
  .have k:=G.kd x (yaR _ d);have st:∀a∈x.F,a∉(hs++L).flatMap Hd.own->a∉(ns++L).flatMap Hd.own:=λa c n z=>by
    rw[Iz,en]at z;rcases yaM z with z|z
    .rcases(M a z).1 with w|w;show n (by rw[Iz,eo];show yaL _ w)
     .have(o,e):=(G.rp x (yaR _ d)).dom a c;rw[w]at e;cases e
    .show n (by rw[Iz];show yaR _ z)
   unfold MP at k|-;split at k;show k;show k;show λa c=>st a c (k a c)
   .delta j p e;have(g,h1,h2,Y,h4,P):=k;rcases yaM h1 with i|i;show absurd (by rw[e];rfl) (hr x d g i j h2)
    .show{g,yaR _ i,h2,Y,λa c=>(h4 a c).imp id (st a c),λq hq=>{(P q hq).1,?_}};show nw f (F:=g.F) (C g i) (G.muF (yaR _ i) Y) (λa c=>c) (G.ndF (yaR _ i) Y) (G.rp g (yaR _ i)) (P q hq).1 (P q hq).2
 .show f b o (G.fr b o e n) λl=>?_;rcases(A b l).2 with z|z;rw[z]at e;cases e;show n z
 .have(o,e):=G.iol a c;by_cases l:a∈hs.flatMap (·.F);show dom a l;show{o,f a o e l}
def GW.uniq(g:GW Γ H L){x z:Hd}{i:Nat}(d:x∈L)(hz:z∈L)(f:x.e.key*>i)(c:z.e.key*>i):x=z:=by
 have a:=g.ks;by_cases q:x=z;show q
 .exfalso;have(A,B,rfl):=Ks d;rw[IL,IK,f]at a;rcases yaM hz with hz|hz;show(Im.mp a).2.2 i (I9.mpr ⟨z,hz,c⟩) i ymS rfl
  .rcases ycM hz with hz|hz;show q hz.symm;show(IW.mp (Im.mp a).2.1).1 (I9.mpr ⟨z,hz,c⟩)
def Sim.place{i:Nat}{p:!Ac}{r:R}{v0:V}(S:Sim Γ H O Z E)(q:({TF,w,{.vw (TH i) (TH p),s}}:En)∈E)(h : O[i]?*>(TH r))(k:Z[i]?*>(TH v0)):r.t.sub p*>s/\atP Γ.K H v0 p w:=by
 have(v1,a,u):=S.slot h;rw[k]at a;cases a;have(L,g,e):=S.sl;have o:({TF,w,{.vw (TH i) (TH p),s}}:En)∈L.map (·.e):=by rw[e];show yaL _ q
 have(y,m,l):=Is.mp o;have c:=g.kd y m;unfold MP at c;rw[l]at c;have(x,A,C,J,G,B):=c;have d:({TH i,v0,r}:En)∈L.map (·.e):=by rw[e];show u
 have(z,j,f):=Is.mp d;have:=g.uniq A j C (by rw[f]);subst this;have:=B p rfl;rw[f]at this;show this
def HE.dropsN:∀{A X:!En},HE Γ H (A++X)->(∀e∈A,e.key=TF)->HE Γ H X
 | [],_,S,_=>S
 | a::A,X,S,h=>HE.dropsN (HE.drop S (h a ymS)) λe c=>h e (ymC _ c)
def nF:∀{vs:!V} {rs:!R} {m:Nat} {r:R} {x:V},rs[m]?*>r->vs[m]?*>x->(⟨TF,x,r⟩:En)∈ens vs rs
 | [],_,m,_,_,_,h=>by simp at h
 | _::_,[],m,_,_,h,_=>by simp at h
 | v::vs,d::rs,0,r,x,c,a=>by simp at c a;subst c a;show ymS
 | v::vs,d::rs,m+1,r,x,c,a=>ymC _ (nF (by exists c) (by exists a))
def sC:∀{vs:!V} {rs:!R} {e:En},e∈ens vs rs->e.key=TF
 | [],rs,e,h=>by cases rs<;>cases h
 | _::_,[],e,h=>by cases h
 | v::vs,r::rs,e,h=>by
  rcases ycM h with rfl|h;rfl;show sC h
def Sim.io{vs:!V}{rs:!R}{k i:Nat}{p:!Ac}{kd:Kd}{t0:T}(S:Sim Γ H O Z (ens vs rs++E))(hk:rs[k]?*>{.vw (TH i) (TH p),s})(hw:vs[k]?*>w)(hal:∀m r,m≠k->rs[m]?*>r->aC [i] r=TK)(h : O[i]?*>(TH ⟨kd,t0⟩))(ho:kd.isOw=TK) :
  ∃G,Rp Γ.K H s w G/\G.Nodup/\(∀a∈G,Mu H a)/\(∀m r x,m≠k->rs[m]?*>r->vs[m]?*>x->∃F,Rp Γ.K H r.t x F/\∀a∈F,a∉G) /\
  ∀H' J v t F P,MJ G H H'->(∀a∈G,∃o,H' a*>o)->(F++P).Nodup->(∀a∈F,H a=TF/\Mu H' a)->(∀a∈P,(a∈G\/H a=TF)/\Mu H' a)->Rp Γ.K H' J w P->Rp Γ.K H' t v F->Sim Γ H' ((ar [i] O).set i (TH {kd,t0.put p J})) Z ({TF,v,{.ow,t}}::ah [i] E):=by
 have hil:i < O.length:=(Ii.mp h).1;have(v0,hv0,h1,h2,h3):=S.out h ho;have pl:=S.place (yaL _ (nF hk hw)) h hv0;have(L,g,eL):=h1;have(x,L',rfl,ex,U):=aN eL;have Y:x.e.r.k.isOw=TK:=by rw[ex];show ho
 have nx:=g.ndF ymS Y;have mx:=g.muF ymS Y;have hsub:x.e.r.t.sub p*>s:=by rw[ex];show pl.1
 have(w',A,G,B,z1,z2,z3,z4):=(g.rp x ymS).atP mx nx hsub;have ew:w'=w:=by rw[ex]at z1;show iQ z1 pl.2
 subst ew;have N:∀a∈G,a∈x.F:=λa c=>by rw[z3];show yaL _ (yaR _ c)
 have ndx:=nx;rw[z3]at ndx;have M:=Im.mp ndx;have ndG:=Im.mp M.1;have keyL:∀g∈L',g.e.key≠TH i:=λy hy=>h3 y.e (by rw[<-U];show IX hy);have l:∀g∈L',g.e.r.k.root≠TH i:=λy hy=>h2 y.e (by rw[<-U];show IX hy);have ap:=GW.apart (hs:=[x]) (L:=L') g (λy hy z u j hj=>by rw[ysM u,ex]at hj;cases hj;show l y hy) (λz u=>by rw[ysM u];show Y);show{G,z2,ndG.2.1,λa c=>mx a (N a c),λm r y C hr hy=>?_,λH' J v t F P off dom nd hF hG rp' rpt=>?_}
 .have hmem:(⟨TF,y,r⟩:En)∈ah [i] (ens vs rs++E):=Ix.mpr {yaL _ (nF hr hy),hal m r C hr};have hmem2:(⟨TF,y,r⟩:En)∈L'.map (·.e):=by rw[U];show yaL _ hmem
  have(z,u,ez):=Is.mp hmem2;have rz:=g.rp z (ymC _ u);rw[ez]at rz;show{z.F,rz,λa c hg=>ap z u a c x ymS (N a hg)}
 .have apAB:∀a,(a∈A\/a∈B)->a∉G:=λa c C=>by
   rcases c with q|q;show ndG.2.2 a q a C rfl;show M.2.2 a (yaR _ C) a q rfl
  have f:∀a,(a∈A\/a∈B)->a∈x.F:=λa c=>by
   rw[z3];rcases c with q|q;show yaL _ (yaL _ q);show yaR _ q
  have rp2:=z4 H' J P off rp';have nFG:=Im.mp nd;have d:∀a,(a∈A\/a∈B)->H a≠TF:=λa c z=>by have(o,e1,_):=mx a (f a c);rw[z]at e1;cases e1
  have nG':∀a,(a∈A\/a∈B)->a∉P:=λa c hg=>by
   rcases(hG a hg).1 with z|z;show apAB a c z;show d a c z
  have ndR:(A++P++B).Nodup:=by
   show Im.mpr {Im.mpr {ndG.1,nFG.2.1,λa c b hb e=>nG' a (.inl c) (e▸hb)},M.2.1,λa c b hb e=>?_};subst e;rcases yaM c with z|z;show M.2.2 a (yaL _ z) a hb rfl;show nG' a (.inr hb) z
  have memR:∀a∈A++P++B,(a∈x.F\/H a=TF)/\Mu H' a:=λa c=>by
   have old:a∈A\/a∈B->(a∈x.F\/H a=TF)/\Mu H' a:=λq=>by
    have(o,e1,m1):=mx a (f a q);show{.inl (f a q),o,off a o e1 (apAB a q),m1}
   rcases yaM c with z|z
   .rcases yaM z with z|z;show old (.inl z);show{(hG a z).1.imp (N a) id,(hG a z).2}
   .show old (.inr z)
  have st:=GW.stepN (hs:=[x]) (L:=L') (H':=H') (ns:=[{{TF,v,{.ow,t}},F},{{TH i,v0,{kd,t0.put p J}},A++P++B}]) g (λz u=>by rw[ysM u];show Y) (λy hy z u j hj=>by rw[ysM u,ex]at hj;cases hj;show l y hy)
   (by simpa using off.mono N) (λa c=>by
    have ha':a∈x.F:=by exists c
    by_cases hg:a∈G;show dom a hg;have(o,e1,_):=mx a ha';show{o,off a o e1 hg})
   (by
    dsimp[Iy,KC,IM];show Im.mpr {nFG.1,ndR,λa c b hb e=>?_};subst e;rcases yaM hb with z|z
    .rcases yaM z with z|z;show d a (.inl z) (hF a c).1;show nFG.2.2 a c a z rfl
    .show d a (.inr z) (hF a c).1)
   (λa c=>by
    dsimp[Iy,KC,IM]at c|-;rcases yaM c with z|z;show{.inr (hF a z).1,(hF a z).2};show memR a z)
   (λn hn=>by
    rcases ycM hn with rfl|hn;show rpt;rw[ysM hn];rw[ex]at rp2;show rp2)
   (λn hn=>by
    rcases ycM hn with rfl|hn;show .inl {Xr,λa c=>.inl (hF a c).1}
    .rw[ysM hn];have kx:=g.kd x ymS;unfold MP at kx;rw[ex]at kx;cases kd with
     | ow=>show .inl {Xr,λa c=>(memR a c).1.elim (λz=>.inr {x,ymS,by rw[ex],z}) .inl}
     | io n=>show .inr ⟨n,Xr,kx⟩
     | vw a b=>cases ho)
   (by
    have ks:=g.ks;rw[IK,ex]at ks;show ks)
  have S2:=S.kill [i];have SL:HE Γ H' ({TF,v,{.ow,t}}::{TH i,v0,{kd,t0.put p J}}::(ah [i] (ens vs rs++E)++aD 0 Z ((ar [i] O).set i TF))):={_,st,by rw[Iu,U];rfl};have SL2:HE Γ H' ({TF,v,{.ow,t}}::{TH i,v0,{kd,t0.put p J}}::(ah [i] E++aD 0 Z ((ar [i] O).set i TF))):=by
   rw[aK,IC]at SL;have pp:({TF,v,{.ow,t}}::{TH i,v0,{kd,t0.put p J}}::(ah [i] (ens vs rs)++(ah [i] E++aD 0 Z ((ar [i] O).set i TF)))).Perm (ah [i] (ens vs rs)++({TF,v,{.ow,t}}::{TH i,v0,{kd,t0.put p J}}::(ah [i] E++aD 0 Z ((ar [i] O).set i TF)))):=by
    show List.Perm.trans ?_ (IU.symm);show List.Perm.cons _ ?_;show IU.symm
   show(SL.perm pp).dropsN λe he=>sC (Ix.mp he).1
  show S2.back (E':={TF,v,{.ow,t}}::ah [i] E) (SL2.perm ?_) (by simp[aP]) rfl (λm r' C=>?_) (λe he j hj=>?_)
  .have pq:=(gx (k:=0) (Z:=Z) (O:=ar [i] O) (v:=v0) (r:={kd,t0.put p J}) (by rw[S.len];show hil) (by rw[aP];show hil)).append_left (ah [i] E);rw[IZ]at pq;have eZ:Z.set i (TH v0)=Z:=by
    apply JW;intro m;by_cases C:m=i;subst C;rw[hv0];simp[S.len,hil];rw[ID (NA C)]
   rw[eZ]at pq;rw[IT];show List.Perm.cons _ ((IU.symm).trans pq.symm)
  .by_cases e:m=i;subst e;show⟨v0,hv0⟩;rw[ID (NA e)]at C;show S2.al m r' C
  .rcases ycM he with rfl|he;cases hj;rw[aK];show yaR _ he
abbrev spP(K:yF)(run:!T->↑T):Sp:=λvs H Q _=>∃a t,M0 K H a vs/\run a*>t/\∀v H',New K H H' t v->Q v H'
abbrev spI(K:yF)(k:Nat)(run:!T->↑(T×T)):Sp:=λvs H Q _=>∃c s w G t e,vs.length=c.length/\vs[k]?*>w/\c[k]?*>s/\Rp K H s w G/\G.Nodup/\(∀a∈G,Mu H a)/\(∀(m:Nat) x u,m≠k->vs[m]?*>x->c[m]?*>u->∃F,Rp K H u x F/\∀a∈F,a∉G)/\run c*>(t,e) /\
 ∀v H' F d,MJ G H H'->(∀a∈G,∃o,H' a*>o)->(F++d).Nodup->(∀a∈F,H a=TF/\Mu H' a)->(∀a∈d,(a∈G\/H a=TF)/\Mu H' a)->Rp K H' e w d->Rp K H' t v F->Q v H'
def u4{run:!T->↑T}{c:TA}{a:MA}(d:gq K c a):be K (m8 (spP K run) [] E0 c) (mB run a):=by
 have e:m8 (spP K run) [] E0 c=tCB (λvs H Q=>spP K run vs H Q E0) c:=by
  funext Z H Q;change(c Z H λvs f=>spP K run (vs++[]) f Q E0)=_;dsimp[IM];rfl
 rw[e];show tw (λH vs g t Q r e q=>⟨g,t,r,e,q⟩) d
private def am(k j:Nat)(run:!T->↑(T×T))(a:MA):ME:={λO=>match a.run O with
 | some (c,e)=>(match c[k]? with
  | some ⟨.vw (TH i) (TH p),_⟩=>if(decide (i=j)&&(I8 c.length).all λm=>decide (m=k)||aC [j] (c.getD m ⟨.ow,.im .non⟩))=TK then(match run (c.map (·.t))with
   | some (t,g)=>(match e[j]? with
    | some (TH ⟨d,f⟩)=>if d.isOw=TK then TH ({.ow,t},(ar [j] e).set j (TH {d,f.put p g}))else TF
    | _=>TF)
   | none=>TF)else TF
  | _=>TF)
 | none=>TF,a.mu++[j]}
def uZ{k j:Nat}{run:!T->↑(T×T)}{A:TA}{a:MA}(ha:gq K A a):be K (m8 (spI K k run) [] E0 A) (am k j run a):=by
 intro Γ H O Z E Q r O' g c S q;change A Z H λvs P=>spI K k run (vs++[]) P Q E0;dsimp[IM];dsimp[am]at c q;ext c d O1 e1;ext c i p s B;ext c hb;rw[Il,decide_eq_true_eq]at hb;have(rfl,l):=hb;ext c t Y e3;ext c kd t0 e4;ext c ho;cases c;show ha Γ H O Z E _ d O1 g e1 S λvs P C S1=>?_;have z:k<d.length:=(Ii.mp B).1;obtain⟨w,U⟩:∃w,vs[k]?*>w:={vs[k],by simp[C,z]};have f:∀m r,m≠k->d[m]?*>r->aC [i] r=TK:=λm r h c=>by
  have o:=(Ii.mp c).1;have:=JE.mp l m (JJ.mpr o);rw[Ja,c]at this;simpa[h]using this
 have(G,N,g2,g3,g4,g5):=S1.io B U f e4 ho;rw[g]at N;show{d.map (·.t),s,w,G,t,Y,by rw[Ih,C],U,by rw[Iw,B];rfl,N,g2,g3,λm x u h hx e=>?_,e3,λv H' F G' a1 a2 a3 a4 a5 J M=>q v H' ?_}
 .rw[Iw]at e;cases c:d[m]? with
  | none=>rw[c]at e;cases e
  | some r=>
   rw[c]at e;cases e;have:=g4 m r x h c hx;rw[g]at this;show this
 .rw[<-g]at J M;have:=g5 H' Y v t F G' a1 a2 a3 a4 a5 J M;rw[ag]at this;show this
abbrev roR:T->R
 | .im i=>{.ow,.im i}
 | t=>{.vw TF TF,t}
abbrev de(ts:!T) (n:Nat):Rho:=(ts.map λt=>TH (roR t))++Ik (n-ts.length) TF
def iq:∀(k n m:Nat),aD k (Ik n TF) (Ik m TF)=[]
 | _,0,_=>rfl
 | _,n+1,0=>rfl
 | k,n+1,m+1=>by dsimp[Jb,aD];show iq (k+1) n m
def tG{H0:Hp}{io:!Addr}{iov:!V}(n m:Nat):∀{ts:!T} {vs:!V} {k:Nat},M0 K H ts vs->∃L:!Hd,L.map (·.e)=aD k (vs.map TH++Ik n TF) ((ts.map λt=>TH (roR t))++Ik m TF)/\L.flatMap Hd.own=[]/\(∀h∈L,Rp K H h.e.r.t h.e.v h.F)/\(∀h∈L,(h.e.r.k=.ow/\h.F=[])\/h.e.r.k=.vw TF TF)
 | [],vs,k,r=>by
  rw[M0]at r;subst r;show{[],by simp[iq],Xr,by simp,by simp}
 | t::ts,vs,k,r=>by
  obtain⟨v,vr,rfl,⟨F,f⟩,o⟩:=r;have(L,j,p,l,q):=tG (H0:=H0) (io:=io) (iov:=iov) n m (k:=k+1) o;have d:∃c,Rp K H (roR t).t v c/\(((roR t).k=.ow/\c=[])\/(roR t).k=.vw TF TF):=by
   cases t with
   | im i=>show{[],gK (aX f).1,.inl ⟨Xr,Xr⟩}
   | _=>show{F,f,.inr rfl}
  have(c,u,g):=d;show{{{TH k,v,roR t},c}::L,by simp[aD,j],?_,λh a=>?_,λh a=>?_}
  .rw[Iy,p,IM];unfold Hd.own;rcases g with⟨e,rfl⟩|e;simp;rw[show({{TH k,v,roR t},c}:Hd).e.r.k=(roR t).k from rfl,e];rfl
  .rcases ycM a with rfl|a;show u;show l h a
  .rcases ycM a with rfl|a
   .rcases g with⟨e,rfl⟩|e;show .inl ⟨e,Xr⟩;show .inr e
   .show q h a
def M0.length:∀{ts:!T} {vs:!V},M0 K H ts vs->vs.length=ts.length
 | [],vs,r=>by rw[M0]at r;subst r;rfl
 | t::ts,vs,r=>by have(v,vr,rfl,_,a):=r;rw[Iv,Iv,M0.length a]
def pV{ts:!T}{vs:!V}{n m:Nat}(a:vs.length=ts.length)(i:Nat)(r:R)(h:((ts.map λt=>TH (roR t))++Ik m TF)[i]?*>(TH r)):∃v,(vs.map TH++Ik n TF)[i]?*>(TH v):=by
 have c:i<ts.length:=by
  by_cases e:i<ts.length;show e
  .rw[JA (by simp;omega),K9]at h;split at h<;>cases h
 show{vs[i],?_};rw[Jj (by simp;omega),Iw];simp[a,c]
def sD:((aD k Z O).filterMap λe=>e.key).Nodup:=by
 have:=nH (k:=k) (Z:=Z) (O:=O);show List.Pairwise.filterMap (R:=λa b=>∃i j,a.key*>i/\b.key*>j/\i<j) (λe:En=>e.key) (λa m ⟨i,j,g,f,l⟩ b d h c=>?_) this;rw[g]at d;rw[f]at c;cases d;cases c;omega
def Bd{ts:!T}{vs:!V}{N:!Str}(r:M0 K H ts vs):Sim {K,H,[],[]} H (de ts N.length) (start N vs) []:=by
 have(L,c,a,l,g):=tG (H0:=H) (io:=[]) (iov:=[]) (N.length-vs.length) (N.length-ts.length) (k:=0) r;show{{L,{by rw[a];show Jn,by rw[a];simp,l,λh j=>?_,?_,λb o e _=>e,by simp},by rw[c];rfl},λi f h=>pV r.length i f h,?_,by simp}
 .unfold MP;rcases g h j with⟨e,d⟩|e;rw[e,d];simp;rw[e,a];simp
 .have:(L.filterMap λh=>h.e.key)=(L.map (·.e)).filterMap λe=>e.key:=by rw[Kr];rfl
  rw[this,c];show sD
 .simp[start,de,r.length]
abbrev dD(m:MS) (n:Nat) (ts:!T):↑T:=match m.run (de ts n)with
 | some (.rt t,_)=>TH t
 | some (.nx,_)=>TH (.im .non)
 | _=>TF
def BG(S:Sim {K,H0,[],[]} H' O Z [{TF,v,{.ow,t}}]):New K H0 H' t v:=by
 have(L,g,e):=S.sl;have(x,l,rfl,d,_):=aN e;have i:=g.rp x ymS;rw[d]at i;have c:=g.kd x ymS;unfold MP at c;rw[d]at c;have j:x.e.r.k.isOw=TK:=by rw[d];rfl
 show{λb o h=>g.fr b o h ∅,x.F,i,g.ndF ymS j,λa f=>{c a f,g.muF ymS j a f}}
def Def.mp{P:Nv}{W:NB}{o:Str->↑Nk}{g:Heap}{k:Nat}{name:Str}{st:Stmt}{N l:!Str}(d:Def K o name st l)(S:p8 N l (ak st)){m:MS}
  (j:∀(f:Addr) (c:Nk) (A:NM) (a:!Env) (s:Nm) (H:Hp) (E:XK),MV k (A.deeper (Pt name (ak st) s.heap.objs.size f c))->Fm (lW CX0 P W K o g N name (ak st) f c A a s H E).nox (bE st) m)
  {run:!T->↑T} (i:∀ts,run ts=if ts.length=l.length then dD m N.length ts else TF):Has P W K o g (k+1) name l (spP K run):=by
 show d.has S (λvs H Q E h=>?_) (λf c A a s H vs Q E Y h=>?_)
 .have(ts,t,r,e,_):=h;rw[i]at e;split at e;delta G;rw[r.length,G];cases e
 .have(ts,t,r,e,q):=h;rw[i]at e;ext e;have(J,M,B):=j f c A a s H E Y;show{J,M,?_};have C:=Bd (N:=N) r;unfold dD at e;split at e
  .delta t0 z p;cases e;show B {K,H,[],[]} H _ _ [] _ _ z rfl ∅ p C λv U H' u=>q v H' (BG u)
  .delta z p;cases e;show B {K,H,[],[]} H _ _ [] _ .nx z rfl ∅ p C λU H' u=>q .non H' (BG (u.imm bM))
  .cases e
abbrev fX(k:Nat) (ts:!T) (n:Nat):Rho:=(de ts n).set k (TH {.io 0,ts.getD k (.im .non)})
abbrev fm(m:MS) (k n:Nat) (ts:!T):↑(T×T):=match m.run (fX k ts n)with
 | some (.rt t,c)=>(match c[k]? with
  | some (TH ⟨.io 0,a⟩)=>TH (t,a)
  | _=>TF)
 | some (.nx,c)=>(match c[k]? with
  | some (TH ⟨.io 0,a⟩)=>TH (.im .non,a)
  | _=>TF)
 | _=>TF
def pU{G:!Addr}(n m:Nat):∀{ts:!T} {vs:!V} {k:Nat},vs.length=ts.length->(∀(i:Nat) x u,vs[i]?*>x->ts[i]?*>u->∃F,Rp K H u x F/\∀a∈F,a∉G)->∃L:!Hd,L.map (·.e)=aD k (vs.map TH++Ik n TF) ((ts.map λt=>TH (roR t))++Ik m TF)/\L.flatMap Hd.own=[]/\(∀h∈L,Rp K H h.e.r.t h.e.v h.F/\∀a∈h.F,a∉G)/\(∀h∈L,(h.e.r.k=.ow/\h.F=[])\/h.e.r.k=.vw TF TF)
 | [],[],k,_,_=>{[],by simp[iq],Xr,by simp,by simp}
 | t::ts,v::vs,k,p,r=>by
  have(F,l,g):=r 0 v t rfl rfl;have(L,B,z,C,J):=pU (G:=G) n m (ts:=ts) (vs:=vs) (k:=k+1) (by exists p) (λi x u M q=>r (i+1) x u (by exists M) (by exists q));have f:∃d,Rp K H (roR t).t v d/\(∀a∈d,a∉G)/\(((roR t).k=.ow/\d=[])\/(roR t).k=.vw TF TF):=by
   cases t with
   | im i=>show{[],gK (aX l).1,by simp,.inl ⟨Xr,Xr⟩}
   | _=>show{F,l,g,.inr rfl}
  have(d,A,j,o):=f;show{{{TH k,v,roR t},d}::L,by simp[aD,B],?_,λh c=>?_,λh c=>?_}
  .rw[Iy,z,IM];unfold Hd.own;rcases o with⟨e,rfl⟩|e;simp;rw[show({{TH k,v,roR t},d}:Hd).e.r.k=(roR t).k from rfl,e];rfl
  .rcases ycM c with rfl|c;show⟨A,j⟩;show C h c
  .rcases ycM c with rfl|c
   .rcases o with⟨e,rfl⟩|e;show .inl ⟨e,Xr⟩;show .inr e
   .show J h c
 | [],_::_,_,h,_=>by cases h
 | _::_,[],_,h,_=>by cases h
def Bc{ts:!T}{vs:!V}{N:!Str}{k:Nat}{G:!Addr}(j:vs.length=ts.length)(hw:vs[k]?*>w)(hs:ts[k]?*>s)(rp:Rp K H s w G)(nd:G.Nodup)(U:∀a∈G,Mu H a)(ro:∀(m:Nat) x u,m≠k->vs[m]?*>x->ts[m]?*>u->∃F,Rp K H u x F/\∀a∈F,a∉G):Sim {K,H,G,[w]} H (fX k ts N.length) (start N vs) []:=by
 have f:k<ts.length:=(Ii.mp hs).1;have M:(vs.set k .non).length=(ts.set k (.im .non)).length:=by simp[j]
 have(L,S,h2,h3,h4):=pU (K:=K) (H:=H) (G:=G) (N.length-vs.length) (N.length-ts.length) (ts:=ts.set k (.im .non)) (vs:=vs.set k .non) (k:=0) M (λm x u C B=>by
  by_cases e:m=k
  .subst e;simp[j,f]at C B;subst C B;show{[],gK bM,by simp}
  .rw[ID (NA e)]at C B;show ro m x u e C B)
 have eZ:(vs.set k .non).map TH++Ik (N.length-vs.length) TF=(start N vs).set k (TH .non):=by
  unfold start;rw[LC _ _ (by simp[j,f]),Ll]
 have eO:((ts.set k (.im .non)).map λt=>TH (roR t))++Ik (N.length-ts.length) TF=(de ts N.length).set k (↥(.non)):=by
  unfold de;rw[LC _ _ (by simp[f]),Ll];rfl
 rw[eZ,eO]at S;have z:k<(de ts N.length).length:=by simp[de];omega
 have p:k<(start N vs).length:=by simp[start,j];omega
 have J:=gx (k:=0) (Z:=start N vs) (O:=de ts N.length) (v:=.non) (r:={.ow,.im .non}) p z;rw[IZ,<-S]at J;have(L2,pL,eL):=mT J L rfl;have(x,l,rfl,ex,e3):=aN eL;have g:∀h∈l,h∈L:=λh c=>pL.mem_iff.mpr (ymC _ c);have q:l.flatMap Hd.own=[]:=by
  rw[Le];intro h c;rw[Le]at h2;show h2 h (g h c)
 have d:(({{TH k,w,{.io 0,s}},G}:Hd)::l).flatMap Hd.own=G:=by rw[Iy,q,IM];rfl
 have ht:ts.getD k (.im .non)=s:=by rw[Ja,hs];rfl
 have P:(start N vs).set k (TH w)=start N vs:=by
  apply JW;intro m;by_cases Y:m=k
  .subst Y;rw[Jp p];unfold start;rw[Jj (by simp[j,f]),Iw,hw];rfl
  .rw[ID (NA Y)]
 have p2:=gx (k:=0) (Z:=start N vs) (O:=de ts N.length) (v:=w) (r:={.io 0,s}) p z;rw[IZ,P]at p2;have gw:GW {K,H,G,[w]} H ({{TH k,w,{.io 0,s}},G}::l):=by
  show{by rw[d];show nd,λa A=>by rw[d]at A;show{U a A,.inr A},λh c=>?_,λh c=>?_,?_,λb o e _=>e,λa A=>let ⟨o,e,_⟩:=U a A;⟨o,e⟩}
  .rcases ycM c with rfl|c;show rp;show(h3 h (g h c)).1
  .rcases ycM c with rfl|c;rfl
   .unfold MP;rcases h4 h (g h c)with⟨e,eF⟩|e;rw[e,eF];simp;rw[e,d];show(h3 h (g h c)).2
  .have e5:(({{TH k,w,{.io 0,s}},G}:Hd)::l).filterMap (λh=>h.e.key)=(x::l).filterMap λh=>h.e.key:=by rw[IK,IK,ex]
   rw[e5];have e6:((x::l).filterMap λh=>h.e.key)=((x::l).map (·.e)).filterMap λe=>e.key:=by rw[Kr];rfl
   rw[e6,eL];have:=(J.filterMap (λe:En=>e.key)).nodup_iff.mp (by rw[S];show sD);show this
 show{HE.perm {_,gw,Xr} ?_,λi r' h=>?_,?_,by simp}
 .rw[Io,e3,Jr];unfold fX;rw[ht];show p2.symm
 .unfold fX at h;rw[ht]at h;by_cases e:i=k
  .subst e;show{w,?_};unfold start;rw[Jj (by simp[j,f]),Iw,hw];rfl
  .rw[ID (NA e)]at h;show pV j i r' h
 .simp[start,fX,de,j]
def BF{H0:Hp}{G:!Addr}{u:V}{k:Nat}{M:T}(S:Sim {K,H0,G,[u]} H' O Z [{TF,v,{.ow,t}}])(h : O[k]?*>(TH {.io 0,M})):∃F B,MJ G H0 H'/\(∀a∈G,∃o,H' a*>o)/\(F++B).Nodup/\(∀a∈F,H0 a=TF/\Mu H' a)/\(∀a∈B,(a∈G\/H0 a=TF)/\Mu H' a)/\Rp K H' M u B/\Rp K H' t v F:=by
 have(w,hw,P):=S.slot h;have(L,g,e):=S.sl;rw[IT]at e P;have(x,L',rfl,q,e2):=aN e;have J:({TH k,w,{.io 0,M}}:En)∈L'.map (·.e):=by
  rw[e2];rcases ycM P with z|z;cases z;show z
 have(y,j,m):=Is.mp J;have i:=g.rp x ymS;rw[q]at i;have f:=g.rp y (ymC _ j);rw[m]at f;have C:=g.kd x ymS;unfold MP at C;rw[q]at C;have A:=g.kd y (ymC _ j);unfold MP at A;rw[m]at A;have ew:u=w:=by exists A
 subst ew;have l:x.e.r.k.isOw=TK:=by rw[q];rfl
 have c:y.e.r.k.isOw=TK:=by rw[m];rfl
 show{x.F,y.F,λb o N n=>g.fr b o N n,g.iol,?_,λa d=>{C a d,g.muF ymS l a d},λa d=>?_,f,i}
 .have p:=g.nd;rw[Iy]at p;have Y:x.own=x.F:=by unfold Hd.own;rw[if_pos l]
  rw[Y]at p;have U:=Im.mp p;show Im.mpr {U.1,g.ndF (ymC _ j) c,λa d b N=>U.2.2 a d b (Ju.mpr {y,j,i5 c N})}
 .have:=g.ad a (Ju.mpr {y,ymC _ j,i5 c d});show⟨this.2.symm,this.1⟩
def Def.mi{P:Nv}{W:NB}{u:Str->↑Nk}{g:Heap}{k:Nat}{name:Str}{st:Stmt}{N o:!Str}{j:Nat}(d:Def K u name st o)(S:p8 N o (ak st)){m:MS}
  (l:∀(f:Addr) (c:Nk) (A:NM) (a:!Env) (s:Nm) (H:Hp) (E:XK),MV k (A.deeper (Pt name (ak st) s.heap.objs.size f c))->Fm (lW CX0 P W K u g N name (ak st) f c A a s H E).nox (bE st) m)
  {run:!T->↑(T×T)} (i:∀ts,run ts=if ts.length=o.length then fm m j N.length ts else TF):Has P W K u g (k+1) name o (spI K j run):=by
 show d.has S (λvs H Q E h=>?_) (λf c A a s H vs Q E hr h=>?_)
 .obtain⟨ts,s0,w,G,t,s',p,_,_,_,_,_,_,e,_⟩:=h;rw[i]at e;split at e;delta h2;rw[p,h2];cases e
 .obtain⟨ts,s0,w,G,t,s',p,hw,hs,rp,nd,mu,ro,e,q⟩:=h;rw[i]at e;ext e;have(tS,p1,p2):=l f c A a s H E hr;show{tS,p1,?_};have S0:=Bc (N:=N) p hw hs rp nd mu ro;unfold fm at e;split at e
  .delta t0 O' z;ext e s1 e2;cases e;show p2 {K,H,G,[w]} H _ _ [] _ _ O' rfl ∅ z S0 λv Z' H' C=>?_;have(F,M,a1,B,U,Y,a5,r,J):=BF C e2;show q v H' F M a1 B U Y a5 r J
  .delta O' z;ext e s1 e2;cases e;show p2 {K,H,G,[w]} H _ _ [] _ .nx O' rfl ∅ z S0 λZ' H' C=>?_;have(F,M,a1,B,U,Y,a5,r,J):=BF (C.imm bM) e2;show q .non H' F M a1 B U Y a5 r J
  .cases e
end
structure CK{ι : Type}(C:ι->Cx)(P:Nv)(W:NB)(K:yF)(mg:Str->↑Nk)(base:Heap)(k:Nat):Prop where
 prog:∀i,(C i).prog=P
 w:∀i,(C i).w=W
 kk:∀i,(C i).K=K
 mg:∀i,(C i).mg=mg
 base:∀i,(C i).base=base
 calm:∀i,(C i).calm=TK
 room:∀i,MV k (C i).A
section
variable {ι : Type}{C:ι->Cx}{P:Nv}{W:NB}{K:yF}{mg:Str->↑Nk}{base:Heap}{k:Nat}
noncomputable abbrev ip(C:ι->Cx) (scope:O8) (N':!Str):ι×Bk->Cx:=λp=>cxB (C p.1) scope N' p.2
def CK.blk(a:CK C P W K mg base k)  : CK (ip C scope N') P W K mg base k:=
 {λp=>a.prog p.1,λp=>a.w p.1,λp=>a.kk p.1,λp=>a.mg p.1,λp=>a.base p.1,λp=>a.calm p.1,λp=>a.room p.1}
structure QE(C:ι->Cx)(K:yF)(e:Expr)(m:ME):Prop where
 ex:∃te,(∀i,PE (C i) e te)/\be K te m
structure QT(C:ι->Cx)(K:yF)(e:Expr)(m:MT):Prop where
 ex:∃te,(∀i,PT (C i) e te)/\fg K te m
structure QW(C:ι->Cx)(K:yF)(e:Expr)(m:MT):Prop where
 ex:∃te,(∀i,PW (C i) e te)/\fg K te m
structure QTs(C:ι->Cx)(K:yF)(e:!Expr)(m:MT):Prop where
 ex:∃te,(∀i,PTs (C i) e te)/\fg K te m
structure QA(C:ι->Cx)(K:yF)(es:!Expr)(m:MA):Prop where
 ex:∃ta,(∀i,PA (C i) es ta)/\bo es=TK/\gq K ta m
structure QS(C:ι->Cx)(K:yF)(st:Stmt)(m:MS):Prop where
 ex:∃ts,(∀i,PS (C i) st ts)/\ff K ts m
structure QSs(C:ι->Cx)(K:yF)(st:!Stmt)(m:MS):Prop where
 ex:∃ts,(∀i,PSs (C i) st ts)/\ff K ts m
structure QG(C:ι->Cx)(K:yF)(fr:Option ! ↑Nat)(e:Expr)(m:MG):Prop where
 ex:∃g,(∀i,PG (C i) e g)/\jm K g m/\∀f,fr*>f->ee f g
structure QGs(C:ι->Cx)(K:yF)(fr:Option ! ↑Nat)(n:Nat)(es:!Expr)(m:MGs):Prop where
 ex:∃g,(∀i,PGs (C i) es g)/\oP K g m/\(∀f,fr*>f->kC f g)/\(∀rs O O',m.run rs O*>O'->rs.length=n)
structure QI(C:ι->Cx)(K:yF)(tg e:Expr)(m:MI):Prop where
 ex:∃wi,(∀i,PI (C i) tg e wi)/\kF K wi m
structure QO(C:ι->Cx)(K:yF)(e:↑Expr)(m:MO):Prop where
 ex:∃t,(∀i,PO (C i) e t)/\vD K t m
section
variable {a b c e o:Expr}{es:!Expr}{ma mb mc m:ME}{ms:MA}{pos:Pos}{mt mt':MT}
def gm:QE C K (.Constant (.int i) j pos) (mC (.int i)):={_,λ_=>wO,xR rfl}
def pG:QE C K (.Constant (.bool x) j pos) (mC (.bl x)):={_,λ_=>BW,xR rfl}
def Gw:QE C K (.Constant (.str x) j pos) (mC (.str x)):={_,λ_=>D0,xR rfl}
def aO(n:Nat)(h:∀i,(C i).N[n]?*>x:=by intro _;rfl)(g:∀i,Vis (C i).env.scope x:=by first|show λ_=>PV rfl|show λ_=>OT (PV rfl)|show λ_=>OT (OT rfl))(f:(x==("__debug__" : Str))=TJ:=by decide)(d:(x==("__classdict__" : Str))=TJ:=by decide):QE C K (.Name x pos) (af n):={_,λi=>lq (h i) (g i) f d,A7}
def aL:QA C K [] mNil:={_,λ_=>wK,Xr,AX}
def bd(g:QE C K e m)(f:QA C K es ms)(hs:ce e=TJ:=by rfl):QA C K (e::es) (aa m ms):=by
 have(j,a,b):=g;have(h,c,n,d):=f;show{_,λi=>jb (a i) (c i) hs,by rw[bo,hs,n];rfl,xS b d}
def uV{op:Operator}{red:yF->R2}{f:T->T->↑T}(q:CK C P W K mg base k)(ho:∀X:Cx,OpR X (N1 op) (red X.K))(j:cZ K (red K) f)(d:QE C K a ma)(g:QE C K b mb):QE C K (.BinOp a op b pos) (mOp f ma mb):=by
 have(s,p,r):=d;have(t,l,h):=g;show{_,λi=>Gf (r:=red K) (by have:=ho (C i);rw[q.kk i]at this;show this) (p i) (l i),lD j r h}
def BY(d:CK C P W K mg base k)(g:QE C K a ma)(f:QE C K b mb):QE C K (.BinOp a .Add b pos) (mOp bh ma mb):=uV d (red:=xF) (λ_=>zU) wW g f
def Gx(g:CK C P W K mg base k)(d:QE C K a ma)(f:QE C K b mb):QE C K (.BinOp a .Sub b pos) (mOp cv ma mb):=uV g (red:=λ_=>rI0 λi j=>.int (i-j)) (λ_=>Du) xi d f
def B2(d:CK C P W K mg base k)(g:QE C K a ma)(f:QE C K b mb):QE C K (.BinOp a .Mult b pos) (mOp cJ ma mb):=uV d (red:=xL) (λ_=>zW) xc g f
def El(g:CK C P W K mg base k)(d:QE C K a ma)(f:QE C K b mb):QE C K (.BinOp a .FloorDiv b pos) (mOp jU ma mb):=uV g (red:=λ_=>rI qh λi j=>.int (i / j)) (λ_=>uC) uO d f
def xu(g:CK C P W K mg base k)(d:QE C K a ma)(f:QE C K b mb):QE C K (.BinOp a .Mod b pos) (mOp fV ma mb):=uV g (red:=λ_=>rI (λ_ j=>0<j) λi j=>.int (i % j)) (λ_=>Dp) xb d f
def Gr(g:CK C P W K mg base k)(d:QE C K a ma)(f:QE C K b mb):QE C K (.BinOp a .Pow b pos) (mOp uL ma mb):=uV g (red:=λ_=>rI Cp λi j=>.int (i^j.toNat)) (λ_=>Dt) xh d f
abbrev gi(op:Sw)(f:T->T->↑T):Prop:=∃d:yF->R2,(∀X:Cx,X.A.units+64<NN->OpR X (NT op) (d X.K))/\∀K,cZ K (d K) f
def HB:gi .Lt (fA λi j=>decide (i<j)):={λ_=>_,λ_ _=>FP,λ_=>lr}
def Hz:gi .Gt (fA λi j=>decide (j<i)):={λ_=>_,λ_ _=>FO,λ_=>lr}
def Hy:gi .GtE (fA λi j=>decide (j<=i)):={λ_=>_,λ_ _=>FN,λ_=>lr}
def CA:gi .Eq eqT:={Et,λ_ d=>Dl d,λ_=>As}
def tX:gi .NotEq neT:={Ew,λ_ d=>Ds d,λ_=>Au}
def HA:gi .In inT:={Eu,λ_ d=>Do d,λ_=>At}
def Fp:gi .NotIn uz:={og,λ_ d=>uF d,λ_=>xf}
def xr(g:CK C P W K mg base k)(s:gi op f)(h:QE C K a ma)(j:QE C K b mb)(v:OI op b=TJ):QE C K (.Compare a [op] [b] pos) (mOp f ma mb):=by
 have(d,l,t):=s;have(w,p,r):=h;have(x,u,q):=j;show{_,λi=>Ae (r:=d K) (by have:=l (C i) (g.room i).units;rw[g.kk i]at this;show this) (p i) (u i) v,lD (t K) r q}
def eC(g:CK C P W K mg base k)(s:gi op f)(h:QE C K a ma)(j:QE C K b mb)(v:OI op b=TJ):QT C K (.Compare a [op] [b] pos) (aT (mOp f ma mb)):=by
 have(d,l,t):=s;have(w,p,r):=h;have(x,u,q):=j;show{_,λi=>AD (r:=d K) (by have:=l (C i) (g.room i).units;rw[g.kk i]at this;show this) (p i) (u i) v,pQ (lD (t K) r q)}
def xD(f:QE C K e m)(g:∀i d,Rv e (C i).env d=(do let v <-d;OX e.pos;N8 [v] (Sx v)):=by intro _ _;rfl):QT C K e (aT m):=by
 have(h,p,r):=f;show{_,λi=>Eh (p i) (g i),EH r}
def xC(h:CK C P W K mg base k)(f:QE C K e m)(g:∀i d,Rv e (C i).env d=(do let v <-d;OX e.pos;N8 [v] (Sx v)):=by intro _ _;rfl):QT C K e (qU m):=by
 have(j,p,r):=f;show{_,λi=>HY (h.kk i) (p i) (g i),A6 r}
def xB(d:QT C K a mt):QT C K (.UnaryOp .Not a pos) (uw mt):=by
 have(f,p,r):=d;show{_,λi=>Eg (p i),AY r}
def tp(d:QT C K a mt):QW C K (.BoolOp .And [a] pos) mt:=by
 have(f,p,r):=d;show{_,λi=>AG (p i),r}
def rJ(d:QT C K a mt):QW C K (.BoolOp .Or [a] pos) mt:=by
 have(f,p,r):=d;show{_,λi=>Ek (p i),r}
def xE{rest:!Expr}(d:QT C K a mt)(f:QW C K (.BoolOp .And (b::rest) pos) mt'):QW C K (.BoolOp .And (a::b::rest) pos) (lZ mt mt'):=by
 have(j,p,r):=d;have(l,h,g):=f;show{_,λi=>Ej (p i) (h i),AO r g}
def tq{rest:!Expr}(d:QT C K a mt)(f:QW C K (.BoolOp .Or (b::rest) pos) mt'):QW C K (.BoolOp .Or (a::b::rest) pos) (mOr mt mt'):=by
 have(j,p,r):=d;have(l,h,g):=f;show{_,λi=>Gk (p i) (h i),EE r g}
def QW.t(h:QW C K e mt):QT C K e mt:=by
 have(d,p,r):=h;show{_,λi=>(p i).pt,r}
def B3(h:QE C K a m):QE C K (.BoolOp op [a] pos) m:=by
 have(d,p,r):=h;show{_,λi=>DZ (p i),r}
def Gq{rest:!Expr}(d:QE C K a ma)(f:QE C K (.BoolOp .Or (b::rest) pos) mb):QE C K (.BoolOp .Or (a::b::rest) pos) (qS ma mb):=by
 have(j,p,r):=d;have(l,h,g):=f;show{_,λi=>Gg (p i) (h i),AZ r g}
def pH(mv:!Nat)(h:QA C K es ms):QE C K (.List es pos) (aQ mv ms):=by
 have(d,p,_,r):=h;show{_,λi=>DY (p i),xW r}
def pI(mv:!Nat)(h:QA C K es ms):QE C K (.Tuple es x1 pos) (av mv ms):=by
 have(d,p,_,r):=h;show{_,λi=>D3 (p i),yb r}
def Go(j:CK C P W K mg base k)(d:QE C K a ma)(f:QE C K b mb)(hs:sj b:=by show λ_ _=>rfl):QE C K (.Subscript a b pos) (mIx ma mb):=by
 have(l,p,r):=d;have(q,h,g):=f;show{_,λi=>Ge (HM (j.kk i)) (p i) (h i) hs,ED r g}
def AI:QO C K TF mNoPart:={_,λ_=>Ap,rQ}
def AJ(h:QE C K e m):QO C K (TH e) (fJ m):=by
 have(d,p,r):=h;show{_,λi=>nW (p i),xZ r}
def HU{lo j:↑Expr}{h g:MO}{s:Pos}(w:CK C P W K mg base k)(l:QE C K a ma)(q:QO C K lo h)(u:QO C K j g):QE C K (.Subscript a (.Slice lo j TF s) pos) (mSl ma h g):=by
 have(z,p,r):=l;have(x,v,t):=q;have(y,f,d):=u;show{_,λi=>wQ (r:=rSl K) (by have:=HX (X:=C i);rw[w.kk i]at this;show this) (p i) (v i) (f i),EG r t d}
def Gv(f:CK C P W K mg base k)(d:QE C K a ma):QE C K (.Subscript a (.Slice TF TF (TH (.UnaryOp .USub (.Constant (.int 1) j p1) p2)) p3) pos) (mUn yd ma):=by
 have(g,p,r):=d;show{_,λi=>HV (f.kk i) (p i),A3 r}
def lx{x:Str}{p:Pos}{j:Nat}{s:!Str}{run:!T->↑T}(d:CK C P W K mg base k)(h:Has P W K mg base j x s (spP K run))(g:QA C K (e::es) ms)(t:j<=k:=by first|decide|omega)(l:∀i,Gl (C i) x:=by intro _;rfl)(f:(x==("__debug__" : Str))=TJ:=by decide):QE C K (.Call (.Name x p) (e::es) [] pos) (mB run ms):=by
 have(u,q,n,r):=g;show{_,λi=>wN (by rw[d.prog i,d.w i,d.kk i,d.mg i,d.base i];show h) ((d.room i).mono t) (l i) (q i) n f,u4 r}
def lw(l:Nat){x:Str}{p:Pos}{j g:Nat}{u:!Str}{run:!T->↑(T×T)}(d:CK C P W K mg base k)(h:Has P W K mg base j x u (spI K g run))(s:QA C K (e::es) ms)(v:j<=k:=by first|decide|omega)(t:∀i,Gl (C i) x:=by intro _;rfl)(f:(x==("__debug__" : Str))=TJ:=by decide):QE C K (.Call (.Name x p) (e::es) [] pos) (am g l run ms):=by
 have(y,q,n,r):=s;show{_,λi=>wN (by rw[d.prog i,d.w i,d.kk i,d.mg i,d.base i];show h) ((d.room i).mono v) (t i) (q i) n f,uZ r}
abbrev oO(x:Str)(f:!T->↑T):Prop:=∃(id:String) (d:yF->!V->Hp->VK->Prop),Oc x*>(.builtin id)/\(∀X:Cx,X.calm=TK->MQ X (.builtin id) (d X.K))/\∀K,fv K (d K) f
abbrev tV(x:Str)(f:!T->↑T):Prop:=∃(id:String) (d:yF->!V->Hp->VK->Prop),Oc x*>(.type id)/\(∀X:Cx,X.calm=TK->MQ X (.type id) (d X.K))/\∀K,fv K (d K) f
def mU(d:CK C P W K mg base k)(l:oO x f)(u:mg x=TF)(j:QA C K (e::es) ms)(t:∀i,Gl (C i) x:=by intro _;rfl)(v:x≠("__name__" : Str):=by decide)(g:(x==("__debug__" : Str))=TJ:=by decide):QE C K (.Call (.Name x p) (e::es) [] pos) (mB f ms):=by
 have(id,h,s,w,y):=l;have(z,q,n,r):=j;show{_,λi=>mS (r:=h K) (by have:=w (C i) (d.calm i);rw[d.kk i]at this;show this) (t i) (by rw[d.mg i];show u) s (q i) n v g,tw (y K) r}
def xw(d:CK C P W K mg base k)(l:tV x f)(u:mg x=TF)(j:QA C K (e::es) ms)(t:∀i,Gl (C i) x:=by intro _;rfl)(v:x≠("__name__" : Str):=by decide)(g:(x==("__debug__" : Str))=TJ:=by decide):QE C K (.Call (.Name x p) (e::es) [] pos) (mB f ms):=by
 have(id,h,s,w,y):=l;have(z,q,n,r):=j;show{_,λi=>ln (r:=h K) (by have:=w (C i) (d.calm i);rw[d.kk i]at this;show this) (t i) (by rw[d.mg i];show u) s (q i) n v g,tw (y K) r}
def b_len:oO "len" cY:={_,xJ,PySem.boot_len,λ_ _=>tZ,λ_=>w6}
def b_min:oO "min" pk:={_,λ_=>_,Mz,λ_ h=>t5 h,λ_=>xa}
def b_max:oO "max" nT:={_,λ_=>_,MB,λ_ h=>t3 h,λ_=>w9}
def b_int:tV "int" j6:={_,λ_=>_,MC,λ_ _=>tY,λ_=>wY}
def b_tuple:tV "tuple" jl:={_,xM,Mn,λ_ _=>lV,λ_=>xj}
def b_list:tV "list" pf:={_,xK,J4,λ_ _=>nC,λ_=>w8}
abbrev vA(g:String)(name:Str)(f:T->!T->↑T):Prop:=∃(id:String) (d:yF->V->!V->Hp->VK->Prop),Pl g/\Slot g name id/\RA (.builtin id)=pure (.type "method_descriptor")/\(∀X:Cx,MtR X id (d X.K))/\(∀K,vC K g (d K) f)/\∀K (H:Hp) (x:V) (h:T) i t,Rpx K H h x->f h i*>t->tyV K g x H
abbrev jS(g:String)(name:Str)(f:T->!T->↑(T×I)):Prop:=∃(id:String) (d:yF->V->!V->Hp->VK->Prop),Pl g/\Slot g name id/\RA (.builtin id)=pure (.type "method_descriptor")/\(∀X:Cx,MtR X id (d X.K))/\(∀K,cA K (d K) f)/\∀K (H:Hp) (x:V) (h:T) i r,Rpx K H h x->f h i*>r->tyV K g x H
def Em(l:CK C P W K mg base k)(w:vA T0 name f)(ho:QE C K o mo)(p:QA C K (e::es) ms)(h:decide ((e::es).length<30)=TK:=by rfl)
  (d:∀i,Oh o name (C i).env (eval o (C i).env)=eval o (C i).env:=by intro _;rfl) (g:(apos.endLine==pos.line)=TK:=by rfl):QE C K (.Call (.Attribute o name apos) (e::es) [] pos) (mM f mo ms):=by
 have(id,j,t,x,u,z,s,v):=w;have(B,q,r):=ho;have(E,A,n,y):=p;show{_,λi=>Cz (r:=j K) (l.kk i) t x u (by have:=z (C i);rw[l.kk i]at this;show this) (q i) (A i) n h (d i) g,GK (s K) (v K) r y}
def xv(l:Nat)(mv:!Nat)(p:CK C P W K mg base k)(x:jS T0 name f)(ho:QE C K o mo)(s:QA C K (e::es) ms)(h:decide ((e::es).length<30)=TK:=by rfl)
  (d:∀i,Oh o name (C i).env (eval o (C i).env)=eval o (C i).env:=by intro _;rfl) (g:(apos.endLine==pos.line)=TK:=by rfl):QE C K (.Call (.Attribute o name apos) (e::es) [] pos) (cf l mv f mo ms):=by
 have(id,j,u,y,v,A,t,w):=x;have(E,q,r):=ho;have(G,B,n,z):=s;show{_,λi=>Cz (r:=j K) (p.kk i) u y v (by have:=A (C i);rw[p.kk i]at this;show this) (q i) (B i) n h (d i) g,tz (t K) (w K) r z}
def rE(l:Nat)(j:CK C P W K mg base k)(v:jS T0 name f)(ho:QE C K o mo)
  (d:∀i,Oh o name (C i).env (eval o (C i).env)=eval o (C i).env:=by intro _;rfl) (g:(apos.endLine==pos.line)=TK:=by rfl):QE C K (.Call (.Attribute o name apos) [] [] pos) (jX l f mo):=by
 have(id,h,s,w,t,x,p,u):=v;have(y,q,r):=ho;show{_,λi=>Hw (r:=h K) (j.kk i) s w t (by have:=x (C i);rw[j.kk i]at this;show this) (q i) (d i) g,xX (p K) (u K) r}
def Da:vA "str" "join" kX:={_,B7,PySem.F.plainAttrs_str,PySem.F.slot_str_join,PySem.F.type_str_join,λ_=>zN,λ_=>uP,λK H x d f t r e=>by
 unfold kX at e;split at e;rw[dE r];rfl;cases e}
def pi:jS "list" "append" apT:={_,λ_=>n9,PySem.F.plainAttrs_list,PySem.F.slot_list_append,PySem.F.type_list_append,λ_=>ux,λ_=>pC,λK=>vn}
def pj:jS "list" "extend" j4:={_,xH,PySem.F.plainAttrs_list,PySem.F.slot_list_extend,PySem.F.type_list_extend,λ_=>zM,λ_=>pD,λK=>vo}
def BL:jS "list" "pop" nX:={_,λ_=>Ex,PySem.F.plainAttrs_list,PySem.F.slot_list_pop,PySem.F.type_list_pop,λ_=>Db,λ_=>xg,λK=>ET}
def wp:jS "list" "insert" nL:={_,λ_=>oe,PySem.F.plainAttrs_list,PySem.F.slot_list_insert,PySem.F.type_list_insert,λ_=>uy,λ_=>pE,λK=>vp}
def zI:jS "list" "clear" qD:={_,λ_=>rK,PySem.F.plainAttrs_list,PySem.F.slot_list_clear,PySem.F.type_list_clear,λ_=>wt,λ_=>rm,λK=>yz}
end
end
section
variable {ι : Type}{C:ι->Cx}{P:Nv}{W:NB}{K:yF}{mg:Str->↑Nk}{base:Heap}{k:Nat}
section
variable {a b c e o tg iter:Expr}{es:!Expr}{ma mb mc m mo mi:ME}{ms:MA}{pos:Pos}{mt mt':MT}{s1 s2:MS}{g g':MG}{gs:MGs}{it it2:MI}{fr:Option ! ↑Nat}
def bu(n:Nat)(q:∀i,(C i).N.Nodup)(r:∀i,(C i).N[n]?*>x:=by intro _;rfl)(p:∀i,Loc (C i).env.scope x:=by first|show λ_=>PV rfl|show λ_=>OT rfl)(l:∀i,(C i).fn x=TK\/(C i).env.scope.names.lookup x*>.local:=by first|show λ_=>.inl rfl|show λ_=>.inr rfl)
  (j:∀f,fr*>f->f[n]?*>TF:=by first|(intro f h;cases h;done)|(intro f h;cases h;rfl)):QG C K fr (.Name x pos) (ae n):=
 {_,λi=>Ak (q i) (r i) (p i) (l i),jf,λf d=>zk (j f d)}
def n8:QGs C K fr 0 [] mGNil:=by unhygienic show{_,λ_=>Al,xU,λ_ _=>CQ,λd O f h=>by cases d<;>first|rfl|cases h}
def eB(p:QG C K fr e g)(u:QGs C K fr n es gs)(hs:∀i,(Og (e::es) (C i).env).map (·.2)=OJ e (C i).env::(Og es (C i).env).map (·.2):=by intro _;rfl):QGs C K fr (n+1) (e::es) (aH g gs):=by unhygienic
 have(z,w,v,l):=p;have(x,s,q,t,l2):=u;show{_,λi=>wT (w i) (s i) (hs i),u7 v q,λf j=>zj (l f j) (t f j),λd O y h=>?_};cases d with
 | nil=>cases h
 | cons r d=>
  dsimp[aH]at h;ext h;split at h;rw[Iv,l2 _ _ _ h];cases h
def rG(j:CK C P W K mg base k)(h:QGs C K fr n es gs)(t:∀i,(Og es (C i).env).length=n:=by intro _;rfl)(d:∀i,(Og es (C i).env).findIdx? (·.1)=TF:=by intro _;rfl):QG C K fr (.Tuple es k0 pos) (cx gs):=by
 have(g,p,r,q,l):=h;show{_,λi=>tgK (j.kk i) (j.calm i) (p i) (t i) (d i),xV r l,λf s=>CS (q f s)}
def Ep(j:Nat)(ho:QE C K o mo)(s:QE C K e mi)
  (q:∀i v,OJ (.Subscript o e pos) (C i).env v=(do
   let d <-N8 [v] (eval o (C i).env)
   let l <-N8 [v,d] (eval e (C i).env)
   OX pos
   N8 [v,d,l] (P5 d l v)
   Sq [v,d,l] []):=by intro _ _;rfl):QG C K TF (.Subscript o e pos) (qT j mo mi):=by
 have(w,p,r):=ho;have(x,u,t):=s;show{_,λi=>wR (p i) (u i) ym (q i),A5 r t,λf h=>by cases h}
def rH:QSs C K [] mNext:={_,λ_=>AB,xY}
def cN{st:Stmt}(d:QS C K st s1):QSs C K [st] s1:=by
 have(t,p,r):=d;show{_,λi=>AC (p i),r}
def ba{st:Stmt}{rest:!Stmt}(j:QS C K st s1)(f:QSs C K rest s2):QSs C K (st::rest) (aq s1 s2):=by
 have(t,p,r):=j;have(u,h,d):=f;show{_,λi=>xm (p i) (h i),A4 r d}
def xA(j:QT C K c mt)(s:QSs C K b1 s1)(h:QSs C K b2 s2):QS C K (.If c b1 b2 pos) (mIf mt s1 s2):=by
 have(v,l,d):=j;have(t,p,r):=s;have(u,q,f):=h;show{_,λi=>Gj (l i) (p i) (q i),AU d r f}
def jE(h:QE C K e m):QS C K (.Return (TH e) pos) (bv m):=by
 have(t,p,r):=h;show{_,λi=>Ee (p i),A2 r}
def jc(h:QE C K e m)(hs:∀i,Pi e TF pos.line (C i).env=pure TJ:=by intro _;rfl):QS C K (.Expr e pos) (bt m):=by
 have(t,p,r):=h;show{_,λi=>Az (p i) (hs i),xT r}
def xz(h:QE C K e m)(d:QG C K TF tg g)(hs:∀i,Qb [tg] e pos.line (C i).env=pure TJ:=by intro _;rfl)(l:∀i,Qc [tg] e (C i).env=pure TF:=by intro _;rfl)
  (q:∀i,(Og [tg] (C i).env).map (·.2)=[OJ tg (C i).env]:=by intro _;rfl):QS C K (.Assign [tg] e pos) (ay m g):=by
 have(t,p,r):=h;have(u,j,f,_):=d;show{_,λi=>Eb (p i) (j i) (hs i) (l i) (q i),kw r f}
def cg(n:Nat)(j:∀i,(C i).N.Nodup)(h:QE C K e m)(l:∀i,(C i).N[n]?*>x:=by intro _;rfl)(f:∀i,Loc (C i).env.scope x:=by first|show λ_=>PV rfl|show λ_=>OT rfl)(hs:∀i,Pi e (TH (.Name x pos')) pos.line (C i).env=pure TJ:=by intro _;rfl)(d:∀i,(C i).fn x=TK\/(C i).env.scope.names.lookup x*>.local:=by first|show λ_=>.inl rfl|show λ_=>.inr rfl) :
  QS C K (.Assign [.Name x pos'] e pos) (ay m (ae n)):=by
 have(t,p,r):=h;show{_,λi=>Ef (j i) (l i) (f i) (p i) (hs i) (d i),kw r jf}
abbrev zH(i j:Nat) (a:MA):MS:={λO=>match a.run O with
 | some ([h,f],d)=>if(gG d i&&aC [i] h&&aC [i] f&&gG d j&&aC [j] f)=TK then TH (.nx,(ar [j] ((ar [i] d).set i (TH h))).set j (TH f))else TF
 | _=>TF,a.mu++[i,j]}
def uA(h:gG O j=TK)(l:∀n,r.k ≠ .io n):gG ((ar [i] O).set i (TH r)) j=TK:=by
 unfold gG at h|-;by_cases e:j=i
 .subst e;have d:j < O.length:=by
   cases q : O[j]? with
   | none=>rw[q]at h;cases h
   | some o=>show(Ii.mp q).1
  rw[Jp (by rw[aP];show d)];have(k,t):=r;cases k with
  | io n=>show absurd rfl (l n)
  | _=>rfl
 .rw[ID (NA e)];unfold ar;rw[Iw];cases q : O[j]? with
  | none=>rw[q]at h;cases h
  | some o=>
   rw[q]at h;cases o with
   | none=>rfl
   | some x=>
    change(match TH (bA [i] (TH x))with|some (TH ⟨.io _,_⟩)=>TJ|some _=>TK|none=>TJ)=TK;cases hk:bA [i] (TH x)with
    | none=>rfl
    | some y=>
     have(f,_):=killO_iff.mp hk;cases f;show h
abbrev lf(r:R):Bool:=match r.k with
 | .io _=>TJ
 | _=>TK
def A1{i j:Nat}{J:TA}{a:MA}(Y:gq K J a)(hio:∀O rs M,a.run O*>(rs,M)->True):ff K (GZ i j J) (zH i j {λO=>match a.run O with
  | some (rs,x)=>if rs.all lf=TK then TH (rs,x)else TF
  | none=>TF,a.mu}):=by
 intro B H O Z E D f M U hE h S q;dsimp[zH]at h q;ext h t r2 x p;ext p rs O2 e2;ext p d;cases p;ext h y;cases h;dsimp[Il]at y;obtain⟨⟨⟨⟨b1,N⟩,b3⟩,Q⟩,X⟩:=y;show Y B H O Z E _ _ _ U e2 S λvs G l u=>?_;obtain⟨v,w,rfl⟩:∃v w,vs=[v,w]:=by
  cases vs with
  | nil=>cases l
  | cons v r=>cases r with
   | nil=>cases l
   | cons w r=>cases r with
    | nil=>show⟨v,w,Xr⟩
    | cons _ _=>cases l
 have u:Sim B G x Z (⟨TF,v,t⟩::⟨TF,w,r2⟩::ah a.mu E):=u;show{v,w,Xr,q _ G ?_};have L:=u.put b1 (il N);rw[ax (bO b3)]at L;have s:∀n,t.k ≠ .io n:=λn z=>by
  have:=JE.mp d t ymS;unfold lf at this;rw[z]at this;cases this
 have A:=L.put (uA Q s) (il X);rw[ag,ag]at A;have:a.mu++([i]++[j])=a.mu++[i,j]:=rfl;rw[<-IC]at this;show A
private def mL(i j:Nat)(a:MA):MS:=zH i j {λO=>match a.run O with
  | some (d,f)=>if d.all lf=TK then TH (d,f)else TF
  | none=>TF,a.mu}
def Es(i j:Nat){x y:Str}{h d pt:Pos}{kt k2 pt2}(w:CK C P W K mg base k)(s:∀i,(C i).N.Nodup)(l:QA C K [a,b] ms)(z:∀n,(C n).N[i]?*>x:=by intro _;rfl)(v:∀n,(C n).N[j]?*>y:=by intro _;rfl)(f:i≠j:=by decide)
  (u:∀n,(C n).env.scope.names.lookup x*>.local:=by intro _;rfl) (t:∀n,(C n).env.scope.names.lookup y*>.local:=by intro _;rfl)
  (q:∀n,Qc [.Tuple [.Name x h,.Name y d] kt pt] (.Tuple [a,b] k2 pt2) (C n).env=pure (TH [x,y]):=by intro _;rfl)
  (hs:∀n,Qb [.Tuple [.Name x h,.Name y d] kt pt] (.Tuple [a,b] k2 pt2) pos.line (C n).env=pure TJ:=by intro _;rfl) :
  QS C K (.Assign [.Tuple [.Name x h,.Name y d] kt pt] (.Tuple [a,b] k2 pt2) pos) (mL i j ms):=by unhygienic
 have(A,p,_,r):=l;show{_,λn=>Ed (w.calm n) (s n) (z n) (v n) f (u n) (t n) (p n) (q n) (hs n),A1 r (λ_ _ _ _=>trivial)}
def ly(j:∀i,Oo (Nu (C i).prog (C i).w) (C i).A (C i).env (C i).xe)(h:QT C K c mt)(d:QSs C K body s1):QS C K (.While c body [] pos) (dz mt s1):=by
 have(q,p,r):=h;have(s,l,f):=d;show{_,λi=>xl (j i) (p i) (l i),vb r f}
def jD(t:CK C P W K mg base k)(q:∀i,Oo (Nu (C i).prog (C i).w) (C i).A (C i).env (C i).xe)(v:QI C K tg iter it)(f:QG C K TF tg g)(d:QSs C K body s1)(hs:∀i x,NY iter (C i).env x=pure x:=by intro _ _;rfl):QS C K (.For tg iter body [] pos) (bY it g s1):=by
 have(y,p,r):=v;have(l,u,j,_):=f;have(z,s,h):=d;show{_,λi=>Ec (q i) (t.calm i) (p i) (u i) (s i) (hs i),AR r j h}
def jC(h:CK C P W K mg base k)(T:Bi mg)(d:QA C K [a] ms)(f:∀i,Gl (C i) "range" :=by intro _;rfl)(hs:ce a=TJ:=by rfl):QI C K tg (.Call (.Name "range" p) [a] [] pos) (bi ms):=by
 have(j,q,_,r):=d;show{_,λi=>uI (f i) (by rw[h.mg i];show T.b_range) (q i) (by rw[bp hs];rfl),x8 r}
def uX(j:CK C P W K mg base k)(T:Bi mg)(f:QA C K [a,b] ms)(h:∀i,Gl (C i) "range" :=by intro _;rfl)(hs:ce a=TJ:=by rfl)(d:ce b=TJ:=by rfl):QI C K tg (.Call (.Name "range" p) [a,b] [] pos) (gl ms):=by
 have(l,q,_,r):=f;show{_,λi=>uJ (h i) (by rw[j.mg i];show T.b_range) (q i) (by rw[bp hs,bp d];rfl) (by rw[bp d];rfl),x9 r}
def PI.or(i:PI X tg iter w1)(f:PI X tg iter w2):PI X tg iter (λZ H R=>w1 Z H R\/w2 Z H R):=by
 intro d s Z H R I h;rcases h with h|h;show i d s Z H R I h;show f d s Z H R I h
abbrev ef:R->Option !R
 | ⟨_,.li d⟩=>TH (d.map λi=>{.ow,.im i})
 | ⟨.vw f _,.lst h⟩=>TH (h.map (partV f))
 | ⟨_,.im (.tup d)⟩=>TH (d.map λi=>{.ow,.im i})
 | ⟨_,.im (.str z)⟩=>TH ((sL z).map λc=>{.ow,.im (.str {#[c]})})
 | ⟨_,.im (.ls d)⟩=>TH (d.map λi=>{.ow,.im i})
 | _=>TF
private def mIt(a:ME):MI:={λO=>match a.run O with
 | some (r,d)=>(match ef r with
  | some f=>TH (([r],f),d)
  | none=>TF)
 | none=>TF,a.mu}
def Br:fN Γ (Its z) [v] [src] ((sL z).map λc=>{.ow,.im (.str {#[c]})}):=λH O Z E S=>by
 show{λi l=>?_,λi r j=>?_}
 .change z.cps.size<=i;simpa[sL]using l
 .have(c,h,rfl):=aA j;have d:z.cps[i]?*>c:=by simpa[sL]using h
  show{?_,λx q y=>?_}
  .change i<z.cps.size;show(Array.getElem?_eq_some_iff.mp d).1
  .have(rfl,p,f,rfl):=y;rw[d]at f;cases f;show S.imm (lJ rfl)
def EC(i:be K ta m):kF K (λZ H R=>sI K ta Z H R\/(zm K ta Z H R\/Fy ta Z H R)) (mIt m):=by unhygienic
 intro h H O Z E p w d t l s S q;dsimp[mIt]at s;ext s r B j;ext s G f;cases s;unfold ef at f;split at f
 .delta v A;show .inl (oq i h H O Z E p _ d t l (by dsimp[wo,j,iw];cases f;rfl) S q)
 .show .inl (oq i h H O Z E p _ d t l (by dsimp[wo,j,iw];cases f;rfl) S q)
 .show .inr (.inl (AV i h H O Z E p _ d t l (by dsimp[C9,j,kW];cases f;rfl) S q))
 .delta v z;cases f;right;right;show i h H O Z E _ _ _ l j S λx y u=>?_;show{z,dE (u.rd ymS),q h rfl (λ_ _ _ _ S=>S) _ [x] y rfl u Br}
 .show .inl (oq i h H O Z E p _ d t l (by dsimp[wo,j,iw];cases f;rfl) S q)
 .cases f
def cM(d:CK C P W K mg base k)(f:QE C K iter m):QI C K tg iter (mIt m):=by
 have(h,q,r):=f;show{_,λi=>PI.or (ilK (d.kk i) (q i)) (PI.or (itK (d.kk i) (q i)) (Ao (q i))),EC r}
private def mYes:MT:={λO=>TH (TK,O),[]}
def A8:fg K G7 mYes:=by unhygienic
 intro f H O Z E Q b i h d S q;cases d;show q H (by rw[show mYes.mu=[]from rfl,bX];show S)
def eY:QTs C K [] mYes:={_,λ_=>AE,A8}
def jd(h:QT C K c mt):QTs C K [c] mt:=by
 have(t,p,r):=h;show{_,λi=>AF (p i),r}
section
variable {elt tg2 iter2:Expr}{ifs:!Expr}{scope:O8}
def bz(v:CK C P W K mg base k)(s:∀i,Blk (C i).env.scope scope (C i).N N' f)(A:QI C K tg iter it)(j:QG (ip C scope N') K (TH f) tg g)(q:QTs (ip C scope N') K ifs mt)(l:QE (ip C scope N') K elt m)(hs:∀i x,NY iter (C i).env x=pure x:=by intro _ _;rfl) :
  QE C K (.ListComp elt [{tg,iter,ifs,0}] scope pos) (aM f it g mt m):=by
 have(E,u,h):=A;have(G,z,t,d):=j;have(B,p,w):=q;have(H,y,r):=l;show{_,λi=>Af (v.calm i) (s i) (u i) (λb=>z (i,b)) (d f rfl) (λb=>p (i,b)) (λb=>y (i,b)) (hs i),pP h (d f rfl) t w r}
def br(n:Nat)(A:CK C P W K mg base k)(q:∀i,(C i).N.Nodup)(u:∀i,Blk (C i).env.scope scope (C i).N N' f)(H:QI C K tg iter it)(l:QG (ip C scope N') K (TH f) tg g)(t:QTs (ip C scope N') K ifs mt)(p:QE (ip C scope N') K elt m)(z:∀i,(C i).N[n]?*>x:=by intro _;rfl)(y:∀i,(C i).env.scope.names.lookup x*>.local:=by intro _;rfl)
  (d:∀i,Pi (.ListComp elt [{tg,iter,ifs,0}] scope pos) (TH (.Name x pos')) spos.line (C i).env=pure TK:=by intro _;rfl) (hs:∀i x,NY iter (C i).env x=pure x:=by intro _ _;rfl) :
  QS C K (.Assign [.Name x pos'] (.ListComp elt [{tg,iter,ifs,0}] scope pos) spos) (ay (aM f it g mt m) (ae n)):=by
 have(L,w,j):=H;have(M,G,v,h):=l;have(J,r,B):=t;have(O,E,s):=p;show{_,λi=>rC (A.calm i) (q i) (z i) (y i) (u i) (w i) (λb=>G (i,b)) (h f rfl) (λb=>r (i,b)) (λb=>E (i,b)) (d i) (hs i),kw (pP j (h f rfl) v B s) jf}
end
end
structure DI(k:Nat)(name:Str)(st:Stmt) where
 f:Addr
 cdv:Nk
 A:NM
 outer:!Env
 s:Nm
 H:Hp
 E:XK
 hr:MV k (A.deeper (Pt name (ak st) s.heap.objs.size f cdv))
noncomputable abbrev dC(P:Nv) (W:NB) (K:yF) (mg:Str->↑Nk) (base:Heap) (k:Nat) (N:!Str) (name:Str) (st:Stmt):DI k name st->Cx:=λd=>(lW CX0 P W K mg base N name (ak st) d.f d.cdv d.A d.outer d.s d.H d.E).nox
def aj{N:!Str}{name:Str}{st:Stmt}:CK (dC P W K mg base k N name st) P W K mg base k:=
 {λ_=>rfl,λ_=>rfl,λ_=>rfl,λ_=>rfl,λ_=>rfl,λ_=>rfl,λd=>d.hr}
def Def.qp{name:Str}{st:Stmt}{N e:!Str}(d:Def K mg name st e)(S:p8 N e (ak st)){m:MS}(h:QSs (dC P W K mg base k N name st) K (bE st) m)
  {run:!T->↑T} (c:∀ts,run ts=if ts.length=e.length then dD m N.length ts else TF):Has P W K mg base (k+1) name e (spP K run):=by
 have(t,p,r):=h;show d.mp S (λf g A a s H E i=>{t,p ⟨f,g,A,a,s,H,E,i⟩,r}) c
def Def.qi{name:Str}{st:Stmt}{N e:!Str}{j:Nat}(d:Def K mg name st e)(S:p8 N e (ak st)){m:MS}(h:QSs (dC P W K mg base k N name st) K (bE st) m)
  {run:!T->↑(T×T)} (c:∀ts,run ts=if ts.length=e.length then fm m j N.length ts else TF):Has P W K mg base (k+1) name e (spI K j run):=by
 have(t,p,r):=h;show d.mi S (λf g A a s H E i=>{t,p ⟨f,g,A,a,s,H,E,i⟩,r}) c
end
section
variable {Γ:Gm}{H H':Hp}{L:!Hd}{O:Rho}{Z:St}{E X:!En}{v w x y:V}{t s:T}{K:yF}{Q:VK}
private def mCallT(k:Nat)(run:!T->↑(T×T))(a:MA):ME:={λO=>match a.run O with
 | some (c,d)=>(match c[k]? with
  | ⇑_=>(match run (c.map (·.t))with
   | some (t,_)=>TH ({.ow,t},d)
   | none=>TF)
  | _=>TF)
 | none=>TF,a.mu}
private def iB(j:Nat)(o:ME)(lo e:ME):MG:={λr O=>match r with
 | ⟨.ow,.li g⟩=>match o.run O with
  | some (⟨.vw (TH h) (TH p),.li d⟩,i)=>match lo.run i with
   | some (⟨_,.im (.int a)⟩,l)=>match e.run l with
    | some (⟨_,.im (.int c)⟩,f)=>if(decide (h=j) &&  ~~~(lo.mu++e.mu).contains j&&decide (0<=a/\a<=c/\c<=d.length/\d.length+g.length<=sizeLine))=TK then(match f[j]? with
     | some (TH ⟨k,t⟩)=>if k.isOw=TK then TH ((ar [j] f).set j (TH {k,t.put p (.li (d.take a.toNat++g++d.drop c.toNat))}))else TF
     | _=>TF)else TF
    | _=>TF
   | _=>TF
  | _=>TF
 | _=>TF,(o.mu++(lo.mu++e.mu))++[j]}
def u9{to tl th:TE}{o lo B:ME}{j:Nat}(ho:be K to o)(hl:be K tl lo)(hh:be K th B):jm K (vR to (tM tl) (tM th)) (iB j o lo B):=by
 intro Γ H O Z E Q v r O' l d S q;dsimp[iB]at d q;ext d ys;ext d j' p xs O1 e1;ext d k1 a O2 e2;ext d k2 c O3 e3;ext d hc;rw[Il,Il,decide_eq_true_eq,I0,decide_eq_true_eq]at hc;obtain⟨⟨rfl,u⟩,e⟩:=hc;ext d k t e4;ext d hw;cases d;show ho Γ H O Z _ _ _ _ l e1 S λx H1 S1=>?_;show hl Γ H1 O1 Z _ _ _ _ l e2 S1 λya H2 S2=>?_;show{a,aW (S2.rd ymS),?_};show hh Γ H2 O2 Z _ _ _ _ l e3 (S2.drop rfl) λyc H3 Y=>?_;show{c,aW (Y.rd ymS),?_};have S4:=Y.drop rfl;have U:aB (lo.mu++B.mu) {TF,x,{.vw (TH j') (TH p),.li xs}}=TK:=by unfold aB;dsimp[Kd.root];rw[u];rfl
 have h:∀M:!Nat,aB M {TF,v,{.ow,.li ys}}=TK:=λM=>rfl;rw[ag,ax U,ag,ax (h _)]at S4;have(G,F,h1,h2,h3,h4,h5):=Sim.mut (vs:=[v]) (ts:=[.li ys]) (S4.perm (List.Perm.swap _ _ _)) rfl e4 hw;have(p0,N,rfl,g1,f,rfl):=i6 h1 λa J=>h4 a (yaL _ J);have(z,ez,g3):=pR h2;cases ez;have(m,A,rfl,g4,g5,rfl):=i6 g3 λa J=>h4 a (yaR _ J);have g:p0≠m:=λz=>by
  have:=h3;rw[z]at this;simp at this
 show{p0,m,N,A,a,c,Xr,Xr,Xr,Xr,g1,g4,g,e.1,e.2.1,by rw[f.length];show e.2.2.1,by rw[f.length,g5.length];show e.2.2.2,?_};show gf (Q:=λ_ H'=>Q Z H') (F:=[m]) (v:=.non) (i:=.non) g1 (((f.take _).append g5).append (f.drop _)) bM λv' H' G' a1 a2 a3 a4 a5 _=>q Z H' ?_;have:=h5 H' _ G' a1 a2 a3 a4 a5;rw[ag]at this;show this
abbrev gy(k:Nat):!I->!R
 | []=>[]
 | i::a=>{.ow,.im (.tup [.int k,i])}::gy (k+1) a
def jq:∀{is:!I} {k i:Nat},(gy k is)[i]?=(is[i]?).map λx=>{.ow,.im (.tup [.int ((k+i:Nat):Int),x])}
 | [],k,i=>by simp[gy]
 | x::is,k,0=>by simp[gy]
 | x::is,k,i+1=>by
  rw[gy,Jg,Jg,jq,show k+1+i=k+(i+1) by omega]
def mz:∀{is:!I} {k:Nat},(gy k is).length=is.length
 | [],_=>rfl
 | _::is,k=>by rw[gy,Iv,mz,Iv]
abbrev nR:MS:={λ_=>TF,[]}
def u8{t:TS}:ff K t nR:=by
 intro Γ H O Z E D f e d c a S q;cases a
end
section
variable {Γ:Gm}{H H':Hp}{O:Rho}{Z:St}{E:!En}{v w x y:V}{t s:T}{K:yF}{Q:VK}
private def ac(n:Nat)(c:MA):MA:={λO=>match c.run O with
 | some (d,a)=>(match a[n]? with
  | some (TH r)=>(match O[n]? with
   | some (TH _)=>TH (rdR n r::d,a)
   | _=>TF)
  | _=>TF)
 | none=>TF,c.mu}
def u5(l:gq K ta ms):gq K (tK (vj n) ta) (ac n ms):=by unhygienic
 intro Γ H O Z E Q A G i c S q;dsimp[ac]at c;ext c d z o;ext c r p;ext c u j;cases c;have(v,e,_):=S.var j;show{v,e,?_};show l Γ H O Z E _ d _ i o S λvs g f m=>q (v::vs) g (by rw[Iv,Iv,f]) ?_;have(B,a,h):=m.var p;rw[e]at a;cases a;show h
end
section
variable {ι : Type}{C:ι->Cx}{P:Nv}{W:NB}{K:yF}{mg:Str->↑Nk}{base:Heap}{k:Nat}
section
variable {a b c e o tg iter:Expr}{es:!Expr}{ma mb mc m mo mi ml mh:ME}{ms:MA}{pos:Pos}{mt mt':MT}{s1 s2:MS}{g g':MG}{gs:MGs}{it it2:MI}{fr:Option ! ↑Nat}
def az(n:Nat)(j:QA C K es ms)(q:∀i,(C i).N[n]?*>x:=by intro _;rfl)(l:∀i,Vis (C i).env.scope x:=by first|show λ_=>PV rfl|show λ_=>OT (PV rfl)|show λ_=>OT (OT rfl))(h:(x==("__debug__" : Str))=TJ:=by decide)(f:(x==("__classdict__" : Str))=TJ:=by decide):QA C K (.Name x p::es) (ac n ms):=by
 have(s,c,r,d):=j;show{_,λi=>jb (lq (q i) (l i) h f) (c i) rfl,by rw[bo,r];rfl,u5 d}
def xx(j:Nat){lo l:Expr}{q:Pos}(ho:QE C K o mo)(w:QE C K lo ml)(z:QE C K l mh)
  (x:∀i v,OJ (.Subscript o (.Slice (TH lo) (TH l) TF q) pos) (C i).env v=(do
   let d <-N8 [v] (eval o (C i).env)
   let s <-N8 [v,d] (eval (.Slice (TH lo) (TH l) TF q) (C i).env)
   OX pos
   N8 [v,d,s] (P5 d s v)
   Sq [s,v,d] []):=by intro _ _;rfl):QG C K TF (.Subscript o (.Slice (TH lo) (TH l) TF q) pos) (iB j mo ml mh):=by
 have(E,p,r):=ho;have(B,A,y):=w;have(G,u,t):=z;show{_,λi=>wS (p i) (nW (A i)) (nW (u i)) (x i),u9 r y t,λf h=>by cases h}
def mV{st:!Stmt}:QSs C K st nR:={λ_ _ _=>False,λ_ _ _ _ _ _ _ h=>h.elim,u8}
end
end
section
variable {ι : Type}{C:ι->Cx}{P:Nv}{W:NB}{K:yF}{mg:Str->↑Nk}{base:Heap}{k:Nat}
section
variable {Γ:Gm}{H:Hp}{O:Rho}{Z:St}{E:!En}
abbrev fgt(i:Nat) (O:Rho):Rho:=(ar [i] O).set i TF
def Sim.fgt(S:Sim Γ H O Z E)(i:Nat):Sim Γ H (L2.fgt i O) Z (ah [i] E):=by
 have a:=S.kill [i];unfold L2.fgt;cases h:(ar [i] O)[i]? with
 | none=>rw[List.set_eq_of_length_le (by exists h)];show a
 | some o=>
  cases o with
  | none=>
   have:(ar [i] O).set i TF=ar [i] O:=by
    apply JW;intro j;by_cases e:i=j
    .subst e;have t:=(Ii.mp h).1;rw[Jp t,h]
    .rw[ID e]
   rw[this];show a
  | some r=>
   have(v,z):=a.al i r h;have p:=bF (k:=0) z h;have SL:HE Γ H ({TH (0+i),v,r}::(ah [i] E++aD 0 Z ((ar [i] O).set i TF))):=a.sl.perm ((List.Perm.append_left _ p).trans IU);have(L,g,e):=SL;have(x,s,rfl,w,q):=aN e;have f:∀y∈ah [i] E++aD 0 Z (ar [i] O),y.r.k.root≠TH i:=by
    rw[fB,<-aK];show le ∅
   show{{s,g.dropK λy l j d A=>?_,q},λm u c=>?_,by rw[Kn];show a.len,λy l j d=>by rw[Kn];show a.hi y l j d}
   .rw[w]at d;have:j=i:=by exists d.symm
    subst this;have:y.e∈s.map (·.e):=Is.mpr ⟨y,l,Xr⟩;rw[q]at this;have B:=(List.Perm.append_left (ah [j] E) p).trans IU;show f y.e (B.mem_iff.mpr (ymC _ this)) A
   .by_cases e:i=m
    .subst e;rw[Jp (Ii.mp h).1]at c;cases c
    .rw[ID e]at c;show a.al m u c
abbrev fgts:!Nat->Rho->Rho
 | [],O=>O
 | i::a,O=>fgts a (fgt i O)
def Sim.fgts:∀{ks:!Nat} {O:Rho} {E:!En},Sim Γ H O Z E->Sim Γ H (L2.fgts ks O) Z (ah ks E)
 | [],O,E,S=>by rw[bX];show S
 | i::ks,O,E,S=>by
  have:=Sim.fgts (ks:=ks) (S.fgt i);rw[ag]at this;show this
private def bQ(ks:!Nat)(s:MS):MS:={λO=>match s.run O with
 | some (.nx,a)=>TH (.nx,fgts ks a)
 | some (.ct,a)=>TH (.ct,fgts ks a)
 | some (.rt t,a)=>TH (.rt t,a)
 | some (.bk,a)=>TH (.bk,a)
 | none=>TF,s.mu++ks}
def AQ(h:ff K ts s):ff K ts (bQ ks s):=by
 intro Γ H O Z E D f m e d c S q;dsimp[bQ]at c q;split at c
 .delta g a;cases c;show h Γ H O Z E D _ _ e d a S λi j l=>q i j (by rw[<-ag];show l.fgts)
 .delta g a;cases c;show h Γ H O Z E D _ _ e d a S λi j l=>q i j (by rw[<-ag];show l.fgts)
 .delta t g a;cases c;show h Γ H O Z E D _ _ e d a S q.weak
 .delta g a;cases c;show h Γ H O Z E D _ _ e d a S q.weak
 .cases c
def eX(ks:!Nat){st:!Stmt}{s:MS}(h:QSs C K st s):QSs C K st (bQ ks s):=by
 have(t,p,r):=h;show{t,p,AQ r}
end
end
structure W1{α:Type}(o:↑α)(Q : α->Prop):Prop where
 ex:∃x,o*>x/\Q x
structure W2{α β:Type}(o:↑(α × β))(Q : α->β->Prop):Prop where
 ex:∃x y,o*>(x,y)/\Q x y
structure WE(m:ME)(O:Rho)(Q:R->Rho->Prop):Prop where
 ex:∃x y,m.run O*>(x,y)/\Q x y
structure WT(m:MT)(O:Rho)(Q:Bool->Rho->Prop):Prop where
 ex:∃x y,m.run O*>(x,y)/\Q x y
structure WA(m:MA)(O:Rho)(Q:!R->Rho->Prop):Prop where
 ex:∃x y,m.run O*>(x,y)/\Q x y
structure WS(m:MS)(O:Rho)(Q:Fl->Rho->Prop):Prop where
 ex:∃x y,m.run O*>(x,y)/\Q x y
structure WG(m:MG)(r:R)(O:Rho)(Q:Rho->Prop):Prop where
 ex:∃x,m.run r O*>x/\Q x
structure WGs(m:MGs)(rs:!R)(O:Rho)(Q:Rho->Prop):Prop where
 ex:∃x,m.run rs O*>x/\Q x
structure WI(m:MI)(O:Rho)(Q:!R->!R->Rho->Prop):Prop where
 ex:∃r rs O',m.run O*>((r,rs),O')/\Q r rs O'
structure WO(m:MO)(O:Rho)(Q:↑Int->Rho->Prop):Prop where
 ex:∃x y,m.run O*>(x,y)/\Q x y
structure Gu(b:Bool)(P:Prop):Prop where
 ex:b=TK/\P
structure IsB(t:T)(Q:Bool->Prop):Prop where
 ex:∃b,t=.im (.bl b)/\Q b
structure IsN(t:T)(Q:Int->Prop):Prop where
 ex:∃n,t=.im (.int n)/\Q n
structure AtV(n:Nat)(O:Rho)(Q:R->Prop):Prop where
 ex:∃r,O[n]?*>(TH r)/\Q r
structure AtC(k j:Nat)(rs:!R)(O:Rho)(Q:!Ac->Kd->T->Prop):Prop where
 ex:∃p t1 kd t0,rs[k]?*>{.vw (TH j) (TH p),t1}/\((I8 rs.length).all λm=>decide (m=k)||aC [j] (rs.getD m ⟨.ow,.im .non⟩))=TK/\O[j]?*>(TH ⟨kd,t0⟩)/\kd.isOw=TK/\Q p kd t0
structure AtT(k:Nat)(rs:!R)(P:Prop):Prop where
 ex:∃t1,rs[k]?=⇑t1/\P
structure AtM(l:Nat)(O:Rho)(Q:Kd->T->Prop):Prop where
 ex:∃k t,O[l]?*>(TH ⟨k,t⟩)/\k.isOw=TK/\Q k t
structure AtS(j:Nat)(r:R)(Q:!Ac->T->Prop):Prop where
 ex:∃p s,r={.vw (TH j) (TH p),s}/\Q p s
structure Two(rs:!R)(Q:R->R->Prop):Prop where
 ex:∃r1 r2,rs=[r1,r2]/\Q r1 r2
structure Three(rs:!R)(Q:R->R->R->Prop):Prop where
 ex:∃r1 r2 r3,rs=[r1,r2,r3]/\Q r1 r2 r3
structure Ng(rs:!R)(Q:Int->Prop):Prop where
 ex:∃n,rs.map (·.t)=[.im (.int n)]/\Q n
structure Ni(rs:!R)(Q:Int->Int->Prop):Prop where
 ex:∃m n,rs.map (·.t)=[.im (.int m),.im (.int n)]/\Q m n
def HK(q:Q b):IsB (.im (.bl b)) Q:=⟨b,Xr,q⟩
def HL(q:Q n):IsN (.im (.int n)) Q:=⟨n,Xr,q⟩
def qu(h : O[n]?*>(TH r))(q:Q r):AtV n O Q:=⟨r,h,q⟩
def Cu(a:rs[k]?*>{.vw (TH j) (TH p),t1})(d:((I8 rs.length).all λm=>decide (m=k)||aC [j] (rs.getD m ⟨.ow,.im .non⟩))=TK)(c : O[j]?*>(TH ⟨kd,t0⟩))(e:kd.isOw=TK)(q:Q p kd t0):AtC k j rs O Q:=⟨p,t1,kd,t0,a,d,c,e,q⟩
def Cv(h : O[l]?*>(TH ⟨k,t⟩))(ho:k.isOw=TK)(q:Q k t):AtM l O Q:=⟨k,t,h,ho,q⟩
def Hv(q:Q p s):AtS j {.vw (TH j) (TH p),s} Q:=⟨p,s,Xr,q⟩
def EQ(q:Q r1 r2):Two [r1,r2] Q:=⟨r1,r2,Xr,q⟩
def sK(h:rs.map (·.t)=[.im (.int n)])(q:Q n):Ng rs Q:=⟨n,h,q⟩
def zq(h:rs.map (·.t)=[.im (.int m),.im (.int n)])(q:Q m n):Ni rs Q:=⟨m,n,h,q⟩
section
variable {α β:Type}{O:Rho}{a b c m:ME}{ms:MA}{ct ct':MT}{s1 s2:MS}{g:MG}{gs:MGs}{it:MI}{QE':R->Rho->Prop}{QT':Bool->Rho->Prop}{QA':!R->Rho->Prop}{Q:Fl->Rho->Prop}{QG':Rho->Prop}{P:Prop}{o:↑α}{x : α}{Q1 : α->Prop}
def W2.mono{o:↑(α × β)}{Q1 d : α->β->Prop}(h:W2 o Q1)(k:∀x y,Q1 x y->d x y):W2 o d:=by have(x,y,e,q):=h;show{x,y,e,k x y q}
def w1(h:o*>x)(q:Q1 x):W1 o Q1:=⟨x,h,q⟩
def gu{b:Bool}(h:b=TK)(p:P):Gu b P:=⟨h,p⟩
def WS.mono(h:WS s1 O Q)(k:∀f O,Q f O->Q2 f O):WS s1 O Q2:=by have(x,y,e,q):=h;show{x,y,e,k x y q}
def WG.mono{r:R}{Q1 d:Rho->Prop}(h:WG g r O Q1)(k:∀O,Q1 O->d O):WG g r O d:=by have(x,e,q):=h;show{x,e,k x q}
def WA.mono{Q1 d:!R->Rho->Prop}(h:WA ms O Q1)(k:∀rs O,Q1 rs O->d rs O):WA ms O d:=by have(x,y,e,q):=h;show{x,y,e,k x y q}
def WT.mono{Q1 d:Bool->Rho->Prop}(h:WT ct O Q1)(k:∀b O,Q1 b O->d b O):WT ct O d:=by have(x,y,e,q):=h;show{x,y,e,k x y q}
def WE.mono(h:WE m O QE')(k:∀f O,QE' f O->Q2 f O):WE m O Q2:=by have(x,y,e,q):=h;show{x,y,e,k x y q}
def w_C(q:QE' {.ow,.im i} O):WE (mC i) O QE':=by unhygienic show{_,_,Xr,q}
def fM(h : O[n]?*>(TH r))(q:QE' (rdR n r) O):WE (af n) O QE':={rdR n r,O,by dsimp[af,h],q}
def sf(h:WE a O λe i=>WE b i λj d=>Gu (aC b.mu e) (W1 (f e.t j.t) λt=>QE' {.ow,t} d)):WE (mOp f a b) O QE':=by
 obtain⟨e,i,l,j,d,p,r,t,s,q⟩:=h;show{{.ow,t},d,by dsimp[mOp,l,p,r,if_true,s],q}
def Ie(h:WE a O λe d=>W1 (f e.t) λt=>QE' {.ow,t} d):WE (mUn f a) O QE':=by
 have(e,d,i,t,j,q):=h;show{{.ow,t},d,by dsimp[mUn,i,j],q}
def w_B(h:WA ms O λrs d=>W1 (f (rs.map (·.t))) λt=>QE' {.ow,t} d):WE (mB f ms) O QE':=by
 have(j,d,e,t,i,q):=h;show{{.ow,t},d,by dsimp[mB,e,i],q}
def w_M(h:WE a O λe i=>WA ms i λrs d=>Gu (aC ms.mu e) (W1 (f e.t (rs.map (·.t))) λt=>QE' {.ow,t} d)):WE (mM f a ms) O QE':=by
 obtain⟨e,i,j,s,d,l,p,t,r,q⟩:=h;show{{.ow,t},d,by dsimp[mM,j,l,p,if_true,r],q}
def yH(h:WE a O λe f=>WE b f λi d=>Gu (aC b.mu e) (W1 (ixR e i.t) λr=>QE' r d)):WE (mIx a b) O QE':=by
 obtain⟨e,f,j,i,d,l,p,r,s,q⟩:=h;show{r,d,by dsimp[mIx,j,l,p,if_true,s],q}
def Bz(q:QO' TF O):WO mNoPart O QO':=by unhygienic show{_,_,Xr,q}
def BA(h:WE a O λr d=>IsN r.t λn=>QO' (TH n) d):WO (fJ a) O QO':=by
 obtain⟨⟨k,t⟩,d,e,n,f,q⟩:=h;cases f;show{TH n,d,by dsimp[fJ,e],q}
def Ib{lo d:MO}(h:WE a O λf i=>WO lo i λl j=>WO d j λu e=>Gu (aC (lo.mu++d.mu) f) (W1 (slR f l u) λr=>QE' r e)):WE (mSl a lo d) O QE':=by
 obtain⟨f,i,s,l,j,t,u,e,w,v,r,p,q⟩:=h;show{r,e,by dsimp[mSl,s,t,w,v,if_true,p],q}
def Hg(h:WE a O λr f=>IsB r.t λd=>(d=TK->QE' {.ow,.im (.bl TK)} f)/\(d=TJ->WE b f QE')):WE (qS a b) O QE':=by
 obtain⟨⟨k,t⟩,f,i,d,u,j,l⟩:=h;cases u;cases d with
 | false=>have(p,s,e,q):=l rfl;show{p,s,by dsimp[qS,i,e],q}
 | true=>show{_,_,by dsimp[qS,i],j rfl}
def yJ(h:WA ms O λrs e=>Gu (decide (rs.length<=1000)) (W2 (consL mv rs e) λts d=>QE' {.ow,cc ts} d)):WE (aQ mv ms) O QE':=by
 have(rs,e,i,f,ts,d,j,q):=h;show{{.ow,cc ts},d,by dsimp[aQ,i,if_pos (of_decide_eq_true f),j],q}
def yL(h:WA ms O λrs e=>Gu (decide (rs.length<=1000)) (W2 (consL mv rs e) λts d=>QE' {.ow,mO ts} d)):WE (av mv ms) O QE':=by
 have(rs,e,i,f,ts,d,j,q):=h;show{{.ow,mO ts},d,by dsimp[av,i,if_pos (of_decide_eq_true f),j],q}
def oJ{k j:Nat}{run:!T->↑(T×T)}(h:WA ms O λrs d=>AtC k j rs d λp kd e=>W2 (run (rs.map (·.t))) λt f=>QE' {.ow,t} ((ar [j] d).set j (TH {kd,e.put p f}))):WE (am k j run ms) O QE':=by
 obtain⟨rs,d,i,p,w,kd,e,u,l,v,r,t,f,s,q⟩:=h;show{{.ow,t},(ar [j] d).set j (TH {kd,e.put p f}),?_,q};dsimp[am,i];dsimp[u];rw[if_pos (by rw[Il];show⟨Xr,l⟩)];dsimp[s,v,r,if_true]
def yK(h:WE a O λd e=>WA ms e λrs i=>Gu (aC ms.mu d) (W2 (mutR l mv f d rs i) QE')):WE (cf l mv f a ms) O QE':=by
 obtain⟨d,e,r,rs,i,s,t,p,j,u,q⟩:=h;show{p,j,by dsimp[cf,r,s,t,if_true,u],q}
def E4(h:WE a O λe d=>W2 (mutR l [] f e [] d) QE'):WE (jX l f a) O QE':=by
 have(e,d,j,p,i,r,q):=h;show{p,i,by dsimp[jX,j,r],q}
def se(v:mv.contains l=TJ)(h:W2 (consL mv rs O) λts i=>AtM l i λk t=>W2 (f s ts) λj d=>QQ {.ow,.im d} ((ar [l] i).set l (TH {k,t.put p j}))):W2 (mutR l mv f {.vw (TH l) (TH p),s} rs O) QQ:=by
 obtain⟨ts,i,u,k,t,r,w,j,d,e,q⟩:=h;show{_,_,?_,q};unfold mutR;dsimp[decide_true,v,u,e,r,w,LD,Kl,if_true]
def lS(q:QA' [] O):WA mNil O QA':=by unhygienic show{_,_,Xr,q}
def oM(h:WE m O λr e=>WA ms e λrs d=>Gu (aC ms.mu r) (QA' (r::rs) d)):WA (aa m ms) O QA':=by
 have(f,e,i,p,d,j,l,q):=h;show⟨f::p,d,by dsimp[aa,i,j,l,if_true],q⟩
def eP(f : O[n]?*>(TH r0))(h:WA ms O λrs d=>AtV n d λr=>QA' (rdR n r::rs) d):WA (ac n ms) O QA':=by
 have(rs,d,i,r,e,q):=h;show{rdR n r::rs,d,by dsimp[ac,i,e,f],q}
def BB(h:WE a O λr d=>IsB r.t λe=>QT' e d):WT (aT a) O QT':=by
 obtain⟨⟨k,t⟩,d,f,e,i,q⟩:=h;cases i;show{e,d,by dsimp[aT,f],q}
def Fi(h:WE a O λr d=>W1 (tru r.t) λe=>QT' e d):WT (qU a) O QT':=by
 have(r,d,i,e,f,q):=h;show{e,d,by dsimp[qU,i,f],q}
def Fh(h:WT ct O λe d=>QT' (~~~e) d):WT (uw ct) O QT':=by
 have(r,d,f,q):=h;show{_,_,by dsimp[uw,f],q}
def Fg(h:WT ct O λd f=>(d=TK->WT ct' f QT')/\(d=TJ->QT' TJ f)):WT (lZ ct ct') O QT':=by
 have(d,f,i,j,l):=h;cases d with
 | true=>have(p,r,e,q):=j rfl;show{p,r,by dsimp[lZ,i,e],q}
 | false=>show{_,_,by dsimp[lZ,i],l rfl}
def Hn(h:WT ct O λd f=>(d=TK->QT' TK f)/\(d=TJ->WT ct' f QT')):WT (mOr ct ct') O QT':=by
 have(d,f,i,j,l):=h;cases d with
 | false=>have(p,r,e,q):=l rfl;show{p,r,by dsimp[mOr,i,e],q}
 | true=>show{_,_,by dsimp[mOr,i],j rfl}
def jR(q:QT' TK O):WT mYes O QT':=by unhygienic show{_,_,Xr,q}
def Bu(h:(gG O i&&aC [i] r)=TK)(q:QG' ((ar [i] O).set i (TH r))):WG (ae i) r O QG':={(ar [i] O).set i (TH r),by dsimp[ae,h,if_true],q}
def Bw(q:QG' O):WGs mGNil [] O QG':=by unhygienic show{_,Xr,q}
def yQ(f:rs.all (aC g.mu)=TK)(h:WG g r O λd=>WGs gs rs d QG'):WGs (aH g gs) (r::rs) O QG':=by
 have(d,j,i,e,q):=h;show{i,by dsimp[aH,f,if_true,j,e],q}
def Ff(e:parts r*>rs)(h:WGs gs rs O QG'):WG (cx gs) r O QG':=by
 have(f,d,q):=h;show{f,by dsimp[cx,e,d],q}
def Fe(h:WE a O λf e=>WE b e λi d=>AtS j f λp s=>Gu (~~~b.mu.contains j) (AtM j d λk t=>W1 (yl s i.t tv) λl=>QG' ((ar [j] d).set j (TH {k,t.put p l})))):WG (qT j a b) {.ow,tv} O QG':=by
 obtain⟨f,e,r,i,d,y,p,s,rfl,u,k,t,z,v,l,w,q⟩:=h;show{_,?_,q};dsimp[qT,r,y,u,decide_true,Kl,if_true,w,z,v]
def yP(h:WE a O λl f=>WE b f λA e=>WE c e λw d=>∃p xs k t i n,l={.vw (TH j) (TH p),.li xs}/\A.t=.im (.int i)/\w.t=.im (.int n)/\(b.mu++c.mu).contains j=TJ/\(0<=i/\i<=n/\n<=xs.length/\xs.length+ys.length<=sizeLine)/\d[j]?*>(TH ⟨k,t⟩)/\k.isOw=TK/\QG' ((ar [j] d).set j (TH {k,t.put p (.li (xs.take i.toNat++ys++xs.drop n.toNat))}))):WG (iB j a b c) {.ow,.li ys} O QG':=by
 obtain⟨l,f,s,⟨_,_⟩,e,z,⟨_,_⟩,d,B,p,xs,k,t,i,n,rfl,rfl,rfl,u,r,y,v,q⟩:=h;show{_,?_,q};dsimp[iB,s,z,B,u,decide_true,LD,LQ];rw[if_pos (decide_eq_true r)];dsimp[y,v,if_true]
def E5(q:Q .nx O):WS mNext O Q:=by unhygienic show{_,_,Xr,q}
@[irreducible] def CJ(b:MS)(Q:Fl->Rho->Prop):Fl->Rho->Prop
 | .nx,O=>WS b O Q
 | .rt t,O=>Q (.rt t) O
 | .bk,O=>Q .bk O
 | .ct,O=>Q .ct O
def Cn(h:WS s1 O (CJ s2 Q)):WS (aq s1 s2) O Q:=by unhygienic
 have(f,d,i,q):=h;cases f with
 | nx=>have q:WS s2 d Q:=q;have(p,j,e,q):=q;show{p,j,by dsimp[aq,i,e],q}
 | rt t=>show{.rt t,d,by dsimp[aq,i],q}
 | bk=>show{.bk,d,by dsimp[aq,i],q}
 | ct=>show{.ct,d,by dsimp[aq,i],q}
def bZ(h:WT ct O λd f=>(d=TK->WS s1 f Q)/\(d=TJ->WS s2 f Q)):WS (mIf ct s1 s2) O Q:=by
 have(d,f,j,l,r):=h;cases d with
 | true=>have(p,i,e,q):=l rfl;show{p,i,by dsimp[mIf,j,e],q}
 | false=>have(p,i,e,q):=r rfl;show{p,i,by dsimp[mIf,j,e],q}
def sd(h:WE m O λ_ d=>Q .nx d):WS (bt m) O Q:=by
 have(r,d,e,q):=h;show{.nx,d,by dsimp[bt,e],q}
def G8(h:WE m O λr e=>WG g r e λd=>Q .nx d):WS (ay m g) O Q:=by
 have(r,e,i,d,f,q):=h;show{.nx,d,by dsimp[ay,i,f],q}
def Hi(h:WE m O λr e=>W2 (vc r e) λt d=>Q (.rt t) d):WS (bv m) O Q:=by
 have(r,e,i,t,d,f,q):=h;show{.rt t,d,by dsimp[bv,i,f],q}
def Hh(h:WA ms O λrs e=>Two rs λf d=>Gu (lf f&&lf d) (Gu (gG e i&&aC [i] f&&aC [i] d&&gG e j&&aC [j] d) (Q .nx ((ar [j] ((ar [i] e).set i (TH f))).set j (TH d))))):WS (mL i j ms) O Q:=by
 have(rs,e,p,f,d,rfl,l,r,q):=h;show{.nx,(ar [j] ((ar [i] e).set i (TH f))).set j (TH d),?_,q};rw[Il]at l;dsimp[mL,zH,p,JY,LY,l.1,l.2,Ml,Kl,if_true,r]
@[irreducible] def Ft(ks:!Nat)(Q:Fl->Rho->Prop):Fl->Rho->Prop
 | .nx,O=>Q .nx (fgts ks O)
 | .ct,O=>Q .ct (fgts ks O)
 | .rt t,O=>Q (.rt t) O
 | .bk,O=>Q .bk O
def G9(h:WS s1 O (Ft ks Q)):WS (bQ ks s1) O Q:=by unhygienic
 have(f,e,d,q):=h;cases f with
 | nx=>show{_,_,by dsimp[bQ,d],q}
 | ct=>show{_,_,by dsimp[bQ,d],q}
 | rt t=>show{_,_,by dsimp[bQ,d],q}
 | bk=>show{_,_,by dsimp[bQ,d],q}
abbrev ud(Inv:Nat->Rho->Prop)(i:Nat)(Q:Fl->Rho->Prop):Fl->Rho->Prop
 | .nx,O=>Inv (i+1) O
 | .ct,O=>Inv (i+1) O
 | .bk,O=>Q .nx O
 | .rt t,O=>Q (.rt t) O
def sF{items:!R}(Inv:Nat->Rho->Prop)(hs:∀i r O,items[i]?*>r->Inv i O->WG g r O λp=>WS s1 p (ud Inv i Q))(s:∀O,Inv items.length O->Q .nx O):∀(l:!R) (i:Nat) (O:Rho),items.drop i=l->i<=items.length->Inv i O->W2 (fQ g.run s1.run l O) Q
 | [],i,O,d,z,j=>by
  have:i=items.length:=by have:=congrArg JL d;simp at this;omega
  subst this;show{_,_,Xr,s O j}
 | r::l,i,O,d,z,j=>by
  have u:items[i]?*>r:=by rw[<-Lq,d];rfl
  have h:=(Ii.mp u).1;have e:items.drop (i+1)=l:=by rw[<-LF,d];rfl
  have(p,v,f,w,y,q):=hs i r O u j;have k:=sF Inv hs s l (i+1) w e h;dsimp[fQ,v,y];cases f with
  | nx=>show k q
  | ct=>show k q
  | bk=>show{_,_,Xr,q}
  | rt t=>show{_,_,Xr,q}
def tU(h:WI it O λf items d=>Gu (f.all (aC (g.mu++s1.mu))&&items.all (aC (g.mu++s1.mu))) (∃Inv:Nat->Rho->Prop,Inv 0 d/\(∀i r O,items[i]?*>r->Inv i O->WG g r O λd=>WS s1 d (ud Inv i Q))/\∀O,Inv items.length O->Q .nx O)):WS (bY it g s1) O Q:=by
 have(f,items,d,l,t,Inv,v,j,u):=h;have(p,s,e,q):=sF (Q:=Q) Inv j u items 0 d rfl (Jm _) v;show{p,s,by dsimp[bY,l];rw[if_pos t];show e,q}
def j9{M:!Nat}{items:!R}(h:∀r∈items,r.k=.ow):items.all (aC M)=TK:=JE.mpr λr d=>by unfold aC dJ;rw[h r d];rfl
def EW{i:Nat}(h:WA ms O λrs d=>∃n:Int,rs.map (·.t)=[.im (.int n)]/\-(2^62)<=n/\n<2^62/\(∃Inv:Nat->Rho->Prop,Inv 0 d/\(∀(j:Nat) O,(j:Int)<n->Inv j O->WG (ae i) (lA j) O λd=>WS s1 d (ud Inv j Q))/\∀O,Inv n.toNat O->Q .nx O)):WS (bY (bi ms) (ae i) s1) O Q:=by
 obtain⟨rs,d,q,n,A,u,v,Inv,y,p,s⟩:=h;show tU {[rO],iH 0 n.toNat,d,by dsimp[bi,q,A,l1,isI];rw[if_pos ⟨u,v⟩],?_,Inv,y,λj r O f e=>?_,λO e=>s O (by simpa[iH]using e)}
 .rw[Il];show{Xr,j9 λr f=>by have(x,_,rfl):=Is.mp f;rfl}
 .have(x,z,rfl):=aA f;have(w,l):=Ii.mp z;simp at w l;subst l;have:=p j O ⋯ e;rw[Mv];show this
def Bm{i:Nat}(h:WA ms O λrs d=>∃m n:Int,rs.map (·.t)=[.im (.int m),.im (.int n)]/\(-(2^62)<=m/\m<2^62/\-(2^62)<=n/\n<2^62)/\(∃Inv:Nat->Rho->Prop,Inv 0 d/\(∀(j:Nat) O,m+(j:Int)<n->Inv j O->WG (ae i) (lA (m+j)) O λd=>WS s1 d (ud Inv j Q))/\∀O,Inv (n-m).toNat O->Q .nx O)):WS (bY (gl ms) (ae i) s1) O Q:=by
 obtain⟨rs,d,q,m,n,z,u,Inv,w,p,s⟩:=h;show tU {[rO],iH m (n-m).toNat,d,by dsimp[gl,q,z,l2,l1,ii2,isI];rw[if_pos u],?_,Inv,w,λj r O f e=>?_,λO e=>s O (by simpa[iH]using e)}
 .rw[Il];show{Xr,j9 λr f=>by have(x,_,rfl):=Is.mp f;rfl}
 .have(x,y,rfl):=aA f;have(v,l):=Ii.mp y;simp at v l;subst l;show p j O ⋯ e
def EV(h:WE m O λr d=>∃is:!I,ef r*>(is.map λi=>{.ow,.im i})/\aC (g.mu++s1.mu) r=TK/\(∃Inv:Nat->Rho->Prop,Inv 0 d/\(∀j x O,is[j]?*>x->Inv j O->WG g {.ow,.im x} O λd=>WS s1 d (ud Inv j Q))/\∀O,Inv is.length O->Q .nx O)):WS (bY (mIt m) g s1) O Q:=by
 obtain⟨r,d,p,is,v,q,Inv,t,l,s⟩:=h;show tU {[r],is.map (λi=>{.ow,.im i}),d,by dsimp[mIt,p,v],?_,Inv,t,λj r O f e=>?_,λO e=>s O (by exists e)}
 .rw[Il];show{by rw[JY,LY,q];rfl,j9 λr f=>by have(x,_,rfl):=Is.mp f;rfl}
 .have(x,u,rfl):=aA f;show l j x O u e
def Bp(Inv:Nat->Rho->Prop)(n:Nat)(A:Inv n O) (hs:∀n O,Inv n O->WT ct O λr l=>(r=TJ->Q .nx l)/\(r=TK->WS s1 l λf d=>match f with
  | .nx=>∃m,m<n/\Inv m d
  | .ct=>∃m,m<n/\Inv m d
  | .bk=>Q .nx d
  | .rt t=>Q (.rt t) d)):WS (dz ct s1) O Q:=by
 have v:∀n O,Inv n O->W2 (itW ct s1 (n+1) O) Q:=by
  intro n
  induction n using Nat.strongRecOn with
  | _ n w=>
   intro O y;have(r,l,i,z,B):=hs n O y;cases r with
   | false=>show{.nx,l,by dsimp[itW,i],z rfl}
   | true=>
    have(f,d,s,q):=B rfl;cases f with
    | nx=>
     have(m,u,h):=q;have(p,j,e,q):=w m u d h;show{p,j,by dsimp[itW,i,s];show fH e _ ⋯,q}
    | ct=>
     have(m,u,h):=q;have(p,j,e,q):=w m u d h;show{p,j,by dsimp[itW,i,s];show fH e _ ⋯,q}
    | bk=>show{.nx,d,by dsimp[itW,i,s],q}
    | rt t=>show{.rt t,d,by dsimp[itW,i,s],q}
 have(p,j,e,q):=v n O A;show{p,j,vt e,q}
def kM{fr:! ↑Nat}{M:!Nat}{items:!R}{QC:!T->Rho->Prop}(Inv:Nat->!T->Rho->Prop)
  (hs:∀i r d O,items[i]?*>r->Inv i d O->WG g (jM (piF fr) r) (inR fr O) λw=>WT ct w λj p=>(j=TK->WE m p λr z=>∃t,r={.ow,t}/\Inv (i+1) (d++[t]) (ci fr M z O))/\(j=TJ->Inv (i+1) d (ci fr M p O)))
  (s:∀d O,Inv items.length d O->QC d O):∀(l:!R) (i:Nat) (d:!T) (O:Rho),items.drop i=l->i<=items.length->Inv i d O->W2 (cC fr M g ct m l O d) QC
 | [],i,d,O,h,H,u=>by
  have:i=items.length:=by have:=congrArg JL h;simp at this;omega
  subst this;show{_,_,Xr,s d O u}
 | r::l,i,d,O,h,H,u=>by
  have y:items[i]?*>r:=by rw[<-Lq,h];rfl
  have f:=(Ii.mp y).1;have e:items.drop (i+1)=l:=by rw[<-LF,h];rfl
  have(w,v,j,p,A,E,G):=hs i r d O y u;cases j with
  | true=>
   have(J,z,B,t,rfl,q):=E rfl;dsimp[cC,v,A,B];show kM Inv hs s l (i+1) _ _ e f q
  | false=>
   dsimp[cC,v,A];show kM Inv hs s l (i+1) _ _ e f (G rfl)
def lP{fr:! ↑Nat} (h:WI it O λj items f=>Gu (dO fr f.length&&dM (g.mu++(ct.mu++m.mu)) fr.length&&j.all (aC (muF fr (g.mu++(ct.mu++m.mu))))) (items.length<sizeLine/\∃Inv:Nat->!T->Rho->Prop,Inv 0 [] f /\
  (∀i r d O,items[i]?*>r->Inv i d O->WG g (jM (piF fr) r) (inR fr O) λf=>WT ct f λp l=>(p=TK->WE m l λr z=>∃t,r={.ow,t}/\Inv (i+1) (d++[t]) (ci fr (g.mu++(ct.mu++m.mu)) z O))/\(p=TJ->Inv (i+1) d (ci fr (g.mu++(ct.mu++m.mu)) l O))) /\
  ∀d O,Inv items.length d O->QE' {.ow,cc d} O)):WE (aM fr it g ct m) O QE':=by
 obtain⟨j,items,f,v,w,s,Inv,A,u,y⟩:=h;have(B,l,e,q):=kM (QC:=λd O=>QE' {.ow,cc d} O) Inv u y items 0 [] f rfl (Jm _) A;show{{.ow,cc B},l,?_,q};dsimp[aM,v];rw[if_pos (by rw[Il];show{w,decide_eq_true s})];dsimp[e]
def Bx(h:WA ms O λrs d=>∃n:Int,rs.map (·.t)=[.im (.int n)]/\(-(2^62)<=n/\n<2^62)/\QI' [rO] (iH 0 n.toNat) d):WI (bi ms) O QI':=by
 have(rs,d,i,n,e,f,q):=h;show{_,_,_,by dsimp[bi,i,e,l1,isI];rw[if_pos f],q}
def By(h:WA ms O λrs d=>∃m n:Int,rs.map (·.t)=[.im (.int m),.im (.int n)]/\(-(2^62)<=m/\m<2^62/\-(2^62)<=n/\n<2^62)/\QI' [rO] (iH m (n-m).toNat) d):WI (gl ms) O QI':=by
 have(rs,d,e,m,n,f,i,q):=h;show{_,_,_,by dsimp[gl,e,f,l2,l1,ii2,isI];rw[if_pos i],q}
def yT(h:WE m O λr d=>W1 (ef r) λrs=>QI' [r] rs d):WI (mIt m) O QI':=by
 have(r,d,f,rs,e,q):=h;show{[r],rs,d,by dsimp[mIt,f,e],q}
end
section
variable {α β:Type}{O:Rho}{QT1:T->Prop}{QR:R->Prop}{QI1:T->I->Prop}{m:MS}{n k:Nat}{ts:!T}
@[irreducible] def fP(R:T->Prop):Fl->Rho->Prop
 | .rt t,_=>R t
 | .nx,_=>R (.im .non)
 | _,_=>False
@[irreducible] def fI(k:Nat)(R:T->T->Prop):Fl->Rho->Prop
 | .rt t,O=>∃s',O[k]?*>(TH {.io 0,s'})/\R t s'
 | .nx,O=>∃s',O[k]?*>(TH {.io 0,s'})/\R (.im .non) s'
 | _,_=>False
def tE{run:!T->↑T}{l:Nat}(a:run ts=if ts.length=l then dD m n ts else TF)(c:ts.length=l)(h:WS m (de ts n) (fP QT1)):W1 (run ts) QT1:=by unhygienic
 rw[a,if_pos c];have(f,O,e,q):=h;cases f with
 | nx=>show{_,by dsimp[dD,e],q}
 | rt t=>show{_,by dsimp[dD,e],q}
 | bk=>cases q
 | ct=>cases q
def ig{run:!T->↑(T×T)}{l:Nat}{d:T->T->Prop}(c:run ts=if ts.length=l then fm m k n ts else TF)(i:ts.length=l)(h:WS m (fX k ts n) (fI k d)):W2 (run ts) d:=by unhygienic
 rw[c,if_pos i];have(f,O,e,q):=h;cases f with
 | nx=>have q:∃a,O[k]?*>(TH {.io 0,a})/\d (.im .non) a:=q;obtain⟨a,g,q⟩:=q;show{_,_,by dsimp[fm,e,g],q}
 | rt t=>have q:∃a,O[k]?*>(TH {.io 0,a})/\d t a:=q;obtain⟨a,g,q⟩:=q;show{_,_,by dsimp[fm,e,g],q}
 | bk=>cases q
 | ct=>cases q
variable {a b:Int}{s z:Str}{is js:!I}{i j:I}
def Dw(q:QT1 (.im (.int (a+b)))):W1 (bh (.im (.int a)) (.im (.int b))) QT1:=by unhygienic show{_,Xr,q}
def nV(h:s.length+z.length<=sizeLine)(q:QT1 (.im (.str (s++z)))):W1 (bh (.im (.str s)) (.im (.str z))) QT1:=by unhygienic show{_,if_pos h,q}
def Dx(h:is.length+js.length<=sizeLine)(q:QT1 (.im (.tup (is++js)))):W1 (bh (.im (.tup is)) (.im (.tup js))) QT1:=by unhygienic show{_,if_pos h,q}
def jB(h:is.length+js.length<=sizeLine)(q:QT1 (.li (is++js))):W1 (bh (.li is) (.li js)) QT1:=by unhygienic show{_,if_pos h,q}
def Ga(q:QT1 (.im (.int (a-b)))):W1 (cv (.im (.int a)) (.im (.int b))) QT1:=by unhygienic show{_,Xr,q}
def zP(c : -(2^64)<a)(d:a<2^64):jY a b=TK:=by unfold jY;dsimp[c,d,decide_true,Kl,Mr]
def zR(c : -(2^64)<b)(d:b<2^64):jY a b=TK:=by unfold jY;dsimp[c,d,decide_true,Kl,Bool.or_true]
def j1(h:jY a b=TK)(q:QT1 (.im (.int (a*b)))):W1 (cJ (.im (.int a)) (.im (.int b))) QT1:=by unhygienic show{_,if_pos h,q}
def wG(h:is≠[]/\is.length<=1000/\1<=b/\b<=1000)(q:QT1 (.im (.tup (Ik b.toNat is).flatten))):W1 (cJ (.im (.tup is)) (.im (.int b))) QT1:=by unhygienic show{_,if_pos h,q}
def rh(h : -(2^63)<=b/\b<2^63/\is.length*b.toNat<=sizeLine)(q:QT1 (.li (Ik b.toNat is).flatten)):W1 (cJ (.li is) (.im (.int b))) QT1:=by unhygienic show{_,if_pos h,q}
def DB(h:0<b/\b<2^64)(q:QT1 (.im (.int (a / b)))):W1 (jU (.im (.int a)) (.im (.int b))) QT1:=by unhygienic show{_,if_pos h,q}
def wF(h:0<b)(q:QT1 (.im (.int (a % b)))):W1 (fV (.im (.int a)) (.im (.int b))) QT1:=by unhygienic show{_,if_pos h,q}
def BU(h:0<=b/\b<=1000000/\a.natAbs<2^64)(q:QT1 (.im (.int (a^b.toNat)))):W1 (uL (.im (.int a)) (.im (.int b))) QT1:=by unhygienic show{_,if_pos h,q}
def FS(q:QT1 (.im (.bl (p a b)))):W1 (fA p (.im (.int a)) (.im (.int b))) QT1:=by unhygienic show{_,Xr,q}
def FU(q:QT1 (.im (.bl (decide (a=b))))):W1 (eqT (.im (.int a)) (.im (.int b))) QT1:=by unhygienic show{_,Xr,by simpa using q}
def F7(q:QT1 (.im (.bl (~~~decide (a=b))))):W1 (neT (.im (.int a)) (.im (.int b))) QT1:=by unhygienic show{_,Xr,by simpa using q}
def FX(q:QT1 (.im (.bl (decide (s=z))))):W1 (eqT (.im (.str s)) (.im (.str z))) QT1:=by unhygienic show{_,Xr,by simpa using q}
def FV(h:I.doks is=TK/\I.doks js=TK/\I.deps is<=50)(q:QT1 (.im (.bl (decide (is=js))))):W1 (eqT (.li is) (.li js)) QT1:={_,by dsimp[eqT,eqB,eqL];rw[if_pos h];rfl,q}
def FB(h:i.dok=TK/\I.doks is=TK/\I.deps is<=50):inB (.im i) (.im (.tup is))*>(decide (i∈is)):=by cases i<;>show if_pos h
def FY(h:i.dok=TK/\I.doks is=TK/\I.deps is<=50)(q:QT1 (.im (.bl (decide (i∈is))))):W1 (inT (.im i) (.im (.tup is))) QT1:={_,by unfold inT;rw[FB h];rfl,q}
def FA(h:i.dok=TK/\I.doks is=TK/\I.deps is<=50):inB (.im i) (.li is)*>(decide (i∈is)):=by cases i<;>show if_pos h
def DR(h:i.dok=TK/\I.doks is=TK/\I.deps is<=50)(q:QT1 (.im (.bl (~~~decide (i∈is))))):W1 (uz (.im i) (.li is)) QT1:={_,by unfold uz;rw[FA h];rfl,q}
def DK(h:s.length<=sizeLine)(q:QT1 (.im (.int s.length))):W1 (cY [.im (.str s)]) QT1:=by unhygienic show{_,if_pos h,q}
def DL(q:QT1 (.im (.int is.length))):W1 (cY [.im (.tup is)]) QT1:=by unhygienic show{_,Xr,q}
def DJ(q:QT1 (.im (.int is.length))):W1 (cY [.li is]) QT1:=by unhygienic show{_,Xr,q}
def z7(q:QT1 (.im (.int us.length))):W1 (cY [.lst us]) QT1:=by unhygienic show{_,Xr,q}
def F6(q:QT1 (.im (.int (if b<a then b else a)))):W1 (pk [.im (.int a),.im (.int b)]) QT1:=by unhygienic show{_,Xr,q}
def F5(q:QT1 (.im (.int (if b>a then b else a)))):W1 (nT [.im (.int a),.im (.int b)]) QT1:=by unhygienic show{_,Xr,q}
def DD(q:QT1 (.im (.int (if c then 1 else 0)))):W1 (j6 [.im (.bl c)]) QT1:=by unhygienic show{_,Xr,q}
def DU(q:QT1 (.im (.tup is))):W1 (jl [.li is]) QT1:=by unhygienic show{_,Xr,q}
def DN(q:QT1 (.li is)):W1 (pf [.li is]) QT1:=by unhygienic show{_,Xr,q}
def F8(q:QT1 (.im (.tup is.reverse))):W1 (yd (.im (.tup is))) QT1:=by unhygienic show{_,Xr,q}
def Ct{xs:!α}{x : α}{n:Nat}{i:Int}(c:i=n)(h:xs[n]?*>x):atI xs i*>x:=by
 subst c;have:=(Ii.mp h).1;unfold atI ixN;rw[if_pos ⋯,if_pos ⋯];exists h
def qm{xs:!α}{i:Int}(c:0<=i)(d:i<xs.length):∃x,atI xs i*>x/\xs[i.toNat]?*>x:=by
 have:i.toNat<xs.length:=by omega
 show{xs[i.toNat],Ct (n:=i.toNat) ⋯ (II this),II this}
def BQ(h:atI is a*>x)(q:QR {.ow,.im x}):W1 (ixR {kd,.im (.tup is)} (.im (.int a))) QR:={_,by dsimp[ixR,isI,ixX,ixI,h,JU],q}
def BP(h:atI is a*>x)(q:QR {.ow,.im x}):W1 (ixR {kd,.li is} (.im (.int a))) QR:={_,by dsimp[ixR,isI,ixX,ixI,h,JU],q}
def DF{kd:Kd}(d:0<=a)(c:a<is.length)(q:∀x,is[a.toNat]?*>x->QR {.ow,.im x}):W1 (ixR {kd,.im (.tup is)} (.im (.int a))) QR:=by
 have(x,h,e):=qm d c;show BQ h (q x e)
def rf{kd:Kd}(d:0<=a)(c:a<is.length)(q:∀x,is[a.toNat]?*>x->QR {.ow,.im x}):W1 (ixR {kd,.li is} (.im (.int a))) QR:=by
 have(x,h,e):=qm d c;show BP h (q x e)
def wE{kd:Kd}(hz:s.length<=sizeLine)(d:0<=a)(f:a<(sL s).length)(q:∀c,(sL s)[a.toNat]?*>c->QR {.ow,.im (.str {#[c]})}):W1 (ixR {kd,.im (.str s)} (.im (.int a))) QR:=by
 have(x,h,e):=qm d f;show{_,by dsimp[ixR,isI,ixX,ixI,if_pos hz,h,JU],q x e}
def re(e:0<=a)(c:us[a.toNat]?*>u)(d:∀i,u ≠ .im i)(f:ixK (.vw ro p) (TH (.ix a.toNat))*>kd)(q:QR ⟨kd,u⟩):W1 (ixR {.vw ro p,.lst us} (.im (.int a))) QR:=by
 have g:=(Ii.mp c).1;show{⟨kd,u⟩,?_,q};unfold ixR;have:ixN us.length a*>a.toNat:=by unfold ixN;rw[if_pos e,if_pos ⋯]
 dsimp[isI,ixX,this,c,Jh];cases u with
 | im i=>show absurd rfl (d i)
 | _=>dsimp[ixP,f]
def wI(c:a=n)(h:n<is.length)(q:QT1 (.li (is.set n i))):W1 (yl (.li is) (.im (.int a)) (.im i)) QT1:=by
 subst c;show{_,?_,q};unfold yl;have:ixN is.length (n:Int)*>n:=by unfold ixN;rw[if_pos ⋯,if_pos ⋯];simp
 dsimp[this]
def cj(h:is.length<sizeLine)(q:QI1 (.li (is++[i])) .non):W2 (apT (.li is) [.im i]) QI1:=by unhygienic show{_,_,if_pos h,q}
def lm(h:is.length+js.length<=sizeLine)(q:QI1 (.li (is++js)) .non):W2 (j4 (.li is) [.li js]) QI1:=by unhygienic show{_,_,if_pos h,q}
def DA(h:is.length+js.length<=sizeLine)(q:QI1 (.li (is++js)) .non):W2 (j4 (.li is) [.im (.tup js)]) QI1:=by unhygienic show{_,_,if_pos h,q}
def BS(q:QI1 (.li is) i):W2 (nX (.li (is++[i])) []) QI1:={_,_,by simp[nX],q}
def BO(h:0<=a/\a<=is.length/\is.length<sizeLine)(q:QI1 (.li (is.take a.toNat++i::is.drop a.toNat)) .non):W2 (nL (.li is) [.im (.int a),.im i]) QI1:=by unhygienic show{_,_,if_pos h,q}
def F9{kd:Kd}{lo c:↑Int}(q:QR {.ow,.li (dv is lo c)}):W1 (slR {kd,.li is} lo c) QR:={_,by dsimp[slR,slX,slI,slX],q}
def sW{kd:Kd}{lo c:↑Int}(h:¬(HT.sIx is.length 0 lo=0/\HT.sIx is.length is.length c=is.length))(q:QR {.ow,.im (.tup (dv is lo c))}):W1 (slR {kd,.im (.tup is)} lo c) QR:={_,by dsimp[slR,slX,slI,slX];rw[if_neg h],q}
def BV{kd:Kd}{lo c:↑Int}(h:s.length<=sizeLine)(q:QR {.ow,.im (.str (oL (dv (sL s) lo c)))}):W1 (slR {kd,.im (.str s)} lo c) QR:={_,by dsimp[slR,slX,slI,slX];rw[if_pos h],q}
def DS(q:Q2 t O):W2 (vc {.ow,t} O) Q2:=by unhygienic show{_,_,Xr,q}
def DT(h : O[n]?*>(⇑t'))(q:Q2 t ((ar [n] O).set n TF)):W2 (vc {.vw (TH n) (TH []),t} O) Q2:={_,_,by dsimp[vc,h],q}
def qC(q:Q2 [] O):W2 (consL mv [] O) Q2:={_,_,Xr,q}
def su(h:W2 (consL mv rs O) λts c=>Q2 (t::ts) c):W2 (consL mv ({.ow,t}::rs) O) Q2:=by
 have(ts,c,e,q):=h;show⟨t::ts,c,by dsimp[consL,e],q⟩
def wq:cc (is.map T.im)=.li is:=by
 have:ims (is.map T.im)*>is:=by induction is with
  | nil=>rfl
  | cons i is c=>dsimp[Io,ims,c,JU]
 unfold cc;rw[this]
end
def dsp{p:Prop}[Decidable p]{A B:Prop}(a:p->A)(c:¬p->B):(decide p=TK->A)/\(decide p=TJ->B):={λh=>a (of_decide_eq_true h),λh=>c (of_decide_eq_false h)}
def HF{p:Prop}[Decidable p]{A B:Prop}(a:¬p->A)(c:p->B):((~~~decide p)=TK->A)/\((~~~decide p)=TJ->B):={λh=>a (by exists h),λh=>c (by exists h)}
def bsp{A B:Prop}(a:b=TK->A)(c:b=TJ->B):(b=TK->A)/\(b=TJ->B):=⟨a,c⟩
def spT{A B:Prop}(h:A):(TK=TK->A)/\(TK=TJ->B):={λ_=>h,λz=>absurd z (by decide)}
def spF{A B:Prop}(h:B):(TJ=TK->A)/\(TJ=TJ->B):={λz=>absurd z (by decide),λ_=>h}
section
variable {O:Rho}{m:ME}{ms:MA}{g:MG}{ct:MT}{QE':R->Rho->Prop}
def tT{i:Nat}{fr:! ↑Nat} (h:WA ms O λrs c=>∃n:Int,rs.map (·.t)=[.im (.int n)]/\(-(2^62)<=n/\n<16000000)/\Gu (dO fr c.length&&dM ([i]++([]++m.mu)) fr.length) (∃Inv:Nat->!T->Rho->Prop,Inv 0 [] c /\
  (∀(j:Nat) a O,(j:Int)<n->Inv j a O->WG (ae i) (lA j) (inR fr O) λc=>WE m c λr w=>∃t,r={.ow,t}/\Inv (j+1) (a++[t]) (ci fr ([i]++([]++m.mu)) w O)) /\
  ∀a O,Inv n.toNat a O->QE' {.ow,cc a} O)):WE (aM fr (bi ms) (ae i) mYes m) O QE':=by unhygienic
 obtain⟨rs,c,o,n,B,s,d,Inv,y,l,p⟩:=h;show lP (Bx {rs,c,o,n,B,{s.1,by omega},?_,?_,Inv,y,λj r a O u e=>?_,λa O e=>p a O (by simpa[iH]using e)})
 .rw[Il]at d|-;rw[Il];show{⟨d.1,d.2⟩,Xr}
 .rw[No];simp[iH];omega
 .have(x,A,rfl):=aA u;have(v,f):=Ii.mp A;simp at v f;subst f;have:=l j a O ⋯ e;rw[Mv];show WG.mono this λc q=>jR {λ_=>q,λz=>by cases z}
def yE{i:Nat}{fr:! ↑Nat} (h:WA ms O λrs d=>∃a n:Int,rs.map (·.t)=[.im (.int a),.im (.int n)]/\(-(2^62)<=a/\a<2^62/\-(2^62)<=n/\n<2^62/\n-a<16000000)/\Gu (dO fr d.length&&dM ([i]++([]++m.mu)) fr.length) (∃Inv:Nat->!T->Rho->Prop,Inv 0 [] d /\
  (∀(j:Nat) c O,a+(j:Int)<n->Inv j c O->WG (ae i) (lA (a+j)) (inR fr O) λd=>WE m d λr y=>∃t,r={.ow,t}/\Inv (j+1) (c++[t]) (ci fr ([i]++([]++m.mu)) y O)) /\
  ∀c O,Inv (n-a).toNat c O->QE' {.ow,cc c} O)):WE (aM fr (gl ms) (ae i) mYes m) O QE':=by unhygienic
 obtain⟨rs,d,s,a,n,E,e,f,Inv,A,p,u⟩:=h;show lP (By {rs,d,s,a,n,E,⟨e.1,e.2.1,e.2.2.1,e.2.2.2.1⟩,?_,?_,Inv,A,λj r c O v l=>?_,λc O l=>u c O (by simpa[iH]using l)})
 .rw[Il]at f|-;rw[Il];show{⟨f.1,f.2⟩,Xr}
 .rw[No];simp[iH];omega
 .have(x,B,rfl):=aA v;have(w,o):=Ii.mp B;simp at w o;subst o;have:=p j c O ⋯ l;show WG.mono this λd q=>jR {λ_=>q,λz=>by cases z}
def tR{fr:! ↑Nat}{l:ME} (h:WE l O λr c=>∃is:!I,ef r*>(is.map λi=>{.ow,.im i})/\is.length<sizeLine/\Gu (dO fr c.length&&dM (g.mu++(ct.mu++m.mu)) fr.length&&aC (muF fr (g.mu++(ct.mu++m.mu))) r) (∃Inv:Nat->!T->Rho->Prop,Inv 0 [] c /\
  (∀(j:Nat) x a O,is[j]?*>x->Inv j a O->WG g {.ow,.im x} (inR fr O) λc=>WT ct c λf e=>(f=TK->WE m e λr w=>∃t,r={.ow,t}/\Inv (j+1) (a++[t]) (ci fr (g.mu++(ct.mu++m.mu)) w O))/\(f=TJ->Inv (j+1) a (ci fr (g.mu++(ct.mu++m.mu)) e O))) /\
  ∀a O,Inv is.length a O->QE' {.ow,cc a} O)):WE (aM fr (mIt l) g ct m) O QE':=by
 obtain⟨r,c,q,is,A,o,s,Inv,y,p,u⟩:=h;show lP (yT {r,c,q,_,A,(by rw[JY,LY,Ml];show s),by simpa using o,Inv,y,λj r a O v d=>?_,λa O d=>u a O (by exists d)});have(x,z,rfl):=aA v;show p j x a O z d
end
def dZ{a:Type}{f : a->I}{l:!a}:cc (l.map λx=>T.im (f x))=.li (l.map f):=by
 have:=wq (is:=l.map f);rwa [IN]at this
section
variable {S α:Type}{O:Rho}{m:ME}{ms:MA}{g:MG}{ct:MT}{s1:MS}{QE':R->Rho->Prop}{Q:Fl->Rho->Prop}{fr:! ↑Nat}{i:Nat}
def bD(st:S->Rho)(emb : α->I)(P:Nat->S->!α->Prop) (h:WA ms O λrs c=>Ng rs λn=>(-(2^62)<=n/\n<16000000)/\(dO fr c.length&&dM ([i]++([]++m.mu)) fr.length)=TK/\∃d,c=st d/\P 0 d [] /\
  (∀(j:Nat) s l,(j:Int)<n->P j s l->WG (ae i) (lA j) (inR fr (st s)) λc=>WE m c λr t=>∃x f,r={.ow,.im (emb x)}/\ci fr ([i]++([]++m.mu)) t (st s)=st f/\P (j+1) f (l++[x])) /\
  ∀s l,P n.toNat s l->QE' {.ow,.li (l.map emb)} (st s)):WE (aM fr (bi ms) (ae i) mYes m) O QE':=by
 obtain⟨rs,c,v,n,E,A,y,d,rfl,B,u,z⟩:=h;show tT {rs,_,v,n,E,A,y,λj a O=>∃s l,a=l.map (λx=>T.im (emb x))/\O=st s/\P j s l,{d,[],Xr,Xr,B},?_,?_}
 .rintro j a O G ⟨s,l,rfl,rfl,o⟩;show(u j s l G o).mono λc q=>q.mono λr t ⟨x,f,e,w,p⟩=>{_,e,f,l++[x],by simp,w,p}
 .rintro a O ⟨s,l,rfl,rfl,o⟩;rw[dZ];show z s l o
def vq(st:S->Rho)(emb : α->I)(P:Nat->S->!α->Prop) (h:WA ms O λrs d=>Ni rs λa n=>(-(2^62)<=a/\a<2^62/\-(2^62)<=n/\n<2^62/\n-a<16000000)/\(dO fr d.length&&dM ([i]++([]++m.mu)) fr.length)=TK/\∃f,d=st f/\P 0 f [] /\
  (∀(j:Nat) s l,a+(j:Int)<n->P j s l->WG (ae i) (lA (a+j)) (inR fr (st s)) λd=>WE m d λr u=>∃x o,r={.ow,.im (emb x)}/\ci fr ([i]++([]++m.mu)) u (st s)=st o/\P (j+1) o (l++[x])) /\
  ∀s l,P (n-a).toNat s l->QE' {.ow,.li (l.map emb)} (st s)):WE (aM fr (gl ms) (ae i) mYes m) O QE':=by
 obtain⟨rs,d,w,a,n,G,B,z,f,rfl,E,v,A⟩:=h;show yE {rs,_,w,a,n,G,B,z,λj c O=>∃s l,c=l.map (λx=>T.im (emb x))/\O=st s/\P j s l,{f,[],Xr,Xr,E},?_,?_}
 .rintro j c O H ⟨s,l,rfl,rfl,p⟩;show(v j s l H p).mono λd q=>q.mono λr u ⟨x,o,e,y,t⟩=>{_,e,o,l++[x],by simp,y,t}
 .rintro c O ⟨s,l,rfl,rfl,p⟩;rw[dZ];show A s l p
def gS(st:S->Rho)(emb : α->I)(P:Nat->S->!α->Prop){t:ME} (h:WE t O λr c=>∃is:!I,ef r*>(is.map λi=>{.ow,.im i})/\is.length<sizeLine/\(dO fr c.length&&dM (g.mu++([]++m.mu)) fr.length&&aC (muF fr (g.mu++([]++m.mu))) r)=TK/\∃d,c=st d/\P 0 d [] /\
  (∀(j:Nat) x s l,is[j]?*>x->P j s l->WG g {.ow,.im x} (inR fr (st s)) λc=>WE m c λr u=>∃x f,r={.ow,.im (emb x)}/\ci fr (g.mu++([]++m.mu)) u (st s)=st f/\P (j+1) f (l++[x])) /\
  ∀s l,P is.length s l->QE' {.ow,.li (l.map emb)} (st s)):WE (aM fr (mIt t) g mYes m) O QE':=by unhygienic
 obtain⟨r,c,y,is,H,v,B,d,rfl,G,w,E⟩:=h;show tR {r,_,y,is,H,v,B,λj a O=>∃s l,a=l.map (λx=>T.im (emb x))/\O=st s/\P j s l,{d,[],Xr,Xr,G},?_,?_}
 .rintro j x a O J ⟨s,l,rfl,rfl,o⟩;show(w j x s l J o).mono λc q=>jR {λ_=>q.mono λr u ⟨x,f,e,A,p⟩=>{_,e,f,l++[x],by simp,A,p},λz=>by cases z}
 .rintro a O ⟨s,l,rfl,rfl,o⟩;rw[dZ];show E s l o
def eN(st:S->Rho)(emb : α->I)(P:Nat->S->!α->Prop){y:ME} (h:WE y O λr f=>∃is:!I,ef r*>(is.map λi=>{.ow,.im i})/\is.length<sizeLine/\(dO fr f.length&&dM (g.mu++(ct.mu++m.mu)) fr.length&&aC (muF fr (g.mu++(ct.mu++m.mu))) r)=TK/\∃o,f=st o/\P 0 o [] /\
  (∀(j:Nat) x s l,is[j]?*>x->P j s l->WG g {.ow,.im x} (inR fr (st s)) λf=>WT ct f λv p=>(v=TK->WE m p λr z=>∃x a,r={.ow,.im (emb x)}/\ci fr (g.mu++(ct.mu++m.mu)) z (st s)=st a/\P (j+1) a (l++[x]))/\(v=TJ->∃a,ci fr (g.mu++(ct.mu++m.mu)) p (st s)=st a/\P (j+1) a l)) /\
  ∀s l,P is.length s l->QE' {.ow,.li (l.map emb)} (st s)):WE (aM fr (mIt y) g ct m) O QE':=by
 obtain⟨r,f,E,is,N,A,J,o,rfl,M,B,L⟩:=h;show tR {r,_,E,is,N,A,J,λj d O=>∃s l,d=l.map (λx=>T.im (emb x))/\O=st s/\P j s l,{o,[],Xr,Xr,M},?_,?_}
 .rintro j x d O U ⟨s,l,rfl,rfl,t⟩;show(B j x s l U t).mono λf q=>q.mono λv p ⟨G,H⟩=>{λw=>(G w).mono λr z ⟨x,a,e,u,c⟩=>{_,e,a,l++[x],by simp,u,c},λw=>?_};have(a,u,c):=H w;show⟨a,l,Xr,u,c⟩
 .rintro d O ⟨s,l,rfl,rfl,t⟩;rw[dZ];show L s l t
@[irreducible] def fFs(st:S->Rho)(P:S->Prop)(Q:Fl->Rho->Prop):Fl->Rho->Prop
 | .nx,O=>∃s,O=st s/\P s
 | .ct,O=>∃s,O=st s/\P s
 | .bk,O=>Q .nx O
 | .rt t,O=>Q (.rt t) O
def kf{st:S->Rho}{P:Nat->S->Prop}{j:Nat}{f:Fl}{O:Rho}(h:fFs st (P (j+1)) Q f O):ud (λj O=>∃s,O=st s/\P j s) j Q f O:=by unhygienic cases f<;>show h
def dn(st:S->Rho)(P:Nat->S->Prop) (h:WA ms O λrs a=>Ng rs λn=>(-(2^62)<=n/\n<2^62)/\∃c,a=st c/\P 0 c /\
  (∀(j:Nat) s,(j:Int)<n->P j s->WG (ae i) (lA j) (st s) λa=>WS s1 a (fFs st (P (j+1)) Q))/\∀s,P n.toNat s->Q .nx (st s)):WS (bY (bi ms) (ae i) s1) O Q:=by
 obtain⟨rs,a,o,n,t,e,c,rfl,r,l,p⟩:=h;show EW {rs,_,o,n,t,e.1,e.2,λj O=>∃s,O=st s/\P j s,⟨c,Xr,r⟩,?_,?_}
 .rintro j O u ⟨s,rfl,d⟩;show(l j s u d).mono λa q=>q.mono λf v q=>kf q
 .rintro O ⟨s,rfl,d⟩;show p s d
def yG(st:S->Rho)(P:Nat->S->Prop) (h:WA ms O λrs c=>Ni rs λa n=>(-(2^62)<=a/\a<2^62/\-(2^62)<=n/\n<2^62)/\∃d,c=st d/\P 0 d /\
  (∀(j:Nat) s,a+(j:Int)<n->P j s->WG (ae i) (lA (a+j)) (st s) λc=>WS s1 c (fFs st (P (j+1)) Q))/\∀s,P (n-a).toNat s->Q .nx (st s)):WS (bY (gl ms) (ae i) s1) O Q:=by
 obtain⟨rs,c,o,a,n,u,r,d,rfl,t,l,p⟩:=h;show Bm {rs,_,o,a,n,u,r,λj O=>∃s,O=st s/\P j s,⟨d,Xr,t⟩,?_,?_}
 .rintro j O v ⟨s,rfl,e⟩;show(l j s v e).mono λc q=>q.mono λf w q=>kf q
 .rintro O ⟨s,rfl,e⟩;show p s e
def cX(st:S->Rho)(P:Nat->S->Prop) (h:WE m O λr a=>∃is:!I,ef r*>(is.map λi=>{.ow,.im i})/\aC (g.mu++s1.mu) r=TK/\∃c,a=st c/\P 0 c /\
  (∀(j:Nat) x s,is[j]?*>x->P j s->WG g {.ow,.im x} (st s) λa=>WS s1 a (fFs st (P (j+1)) Q))/\∀s,P is.length s->Q .nx (st s)):WS (bY (mIt m) g s1) O Q:=by
 obtain⟨r,a,l,is,u,o,c,rfl,t,e,p⟩:=h;show EV {r,_,l,is,u,o,λj O=>∃s,O=st s/\P j s,⟨c,Xr,t⟩,?_,?_}
 .rintro j x O v ⟨s,rfl,d⟩;show(e j x s v d).mono λa q=>q.mono λf w q=>kf q
 .rintro O ⟨s,rfl,d⟩;show p s d
def gT(st:S->Rho)(P:S->Prop)(c : S->Nat)(h:S)(r : O=st h)(w:P h)(hs:∀s,P s->WT ct (st s) λo l=>(o=TK->WS s1 l (fFs st (λa=>c a < c s/\P a) Q))/\(o=TJ->Q .nx l)):WS (dz ct s1) O Q:=by unhygienic
 subst r;show Bp (λn O=>∃s,O=st s/\P s/\c s=n) (c h) ⟨h,Xr,w,Xr⟩ ?_;rintro n O ⟨s,rfl,u,rfl⟩;show(hs s u).mono λo l ⟨v,x⟩=>{x,λy=>(v y).mono λf p q=>?_};cases f with
 | nx=>have q:∃a,p=st a/\c a < c s/\P a:=q;have(a,e,j,d):=q;show{c a,j,a,e,d,Xr}
 | ct=>have q:∃a,p=st a/\c a < c s/\P a:=q;have(a,e,j,d):=q;show{c a,j,a,e,d,Xr}
 | bk=>show q
 | rt t=>show q
end
section
variable {S α:Type}{O:Rho}{m:ME}{ms:MA}{QE':R->Rho->Prop}{fr:! ↑Nat}{i:Nat}
def wr(a:∀x i,emb x ≠ .im i):∀{l:!α},l≠[]->cc (l.map emb)=.lst (l.map emb)
 | [],h=>absurd rfl h
 | x::l,_=>by
  unfold cc;have:ims ((x::l).map emb)=TF:=by
   rw[Io];cases h:emb x with
   | im i=>show absurd h (a x i)
   | _=>rfl
  rw[this]
def lQ(st:S->Rho)(emb : α->T)(p:∀x i,emb x ≠ .im i)(P:Nat->S->!α->Prop) (h:WA ms O λrs c=>Ng rs λn=>(1<=n/\n<16000000)/\(dO fr c.length&&dM ([i]++([]++m.mu)) fr.length)=TK/\∃f,c=st f/\P 0 f [] /\
  (∀(j:Nat) s l,(j:Int)<n->P j s l->WG (ae i) (lA j) (inR fr (st s)) λc=>WE m c λr u=>∃x g,r={.ow,emb x}/\ci fr ([i]++([]++m.mu)) u (st s)=st g/\P (j+1) g (l++[x])) /\
  ∀s l,P n.toNat s l->l.length=n.toNat->QE' {.ow,.lst (l.map emb)} (st s)):WE (aM fr (bi ms) (ae i) mYes m) O QE':=by
 obtain⟨rs,c,w,n,H,E,A,f,rfl,G,v,B⟩:=h;show tT {rs,_,w,n,H,{by omega,E.2},A,λj a O=>∃s l,a=l.map emb/\l.length=j/\O=st s/\P j s l,{f,[],Xr,Xr,Xr,G},?_,?_}
 .rintro j a O J ⟨s,l,rfl,d,rfl,o⟩;show(v j s l J o).mono λc q=>q.mono λr u ⟨x,g,e,y,t⟩=>{_,e,g,l++[x],by simp,by simp[d],y,t}
 .rintro a O ⟨s,l,rfl,d,rfl,o⟩;rw[wr p (by intro z;rw[z]at d;simp at d;omega)];show B s l o d
def xp(h:ts[n]?*>u):T.put (.lst ts) [.ix n] s=.lst (ts.set n s):=by dsimp[T.put,jQ,h,Ei]
end
section
variable {O:Rho}{b:MS}{Q:Fl->Rho->Prop}{t s':T}{k:Nat}{ks:!Nat}
def Fu{R:T->T->Prop}(h : O[k]?*>(TH {.io 0,s'}))(q:R t s'):fI k R (.rt t) O:=by unhygienic show⟨s',h,q⟩
def Fw{R:T->Prop}(q:R t):fP R (.rt t) O:=by unhygienic show q
def sG(h:WS b O Q):CJ b Q .nx O:=by unhygienic show h
def zh(h:Q (.rt t) O):CJ b Q (.rt t) O:=by unhygienic show h
def ze(h:Q .nx (fgts ks O)):Ft ks Q .nx O:=by unhygienic show h
variable {S:Type}{st:S->Rho}{P:S->Prop}
def CL(h:∃s,O=st s/\P s):fFs st P Q .nx O:=by unhygienic show h
end
section
variable {M:!Nat}{O:Rho}{t s:T}{n i:Nat}{p:Option !Ac}{k:Nat}{x:I}
def CZ:ar M []=[]:=rfl
def FF:ar M (⇑t::O)=⇑t::ar M O:=rfl
def FE:ar M (TH {.io n,t}::O)=TH {.io n,t}::ar M O:=rfl
def zz:ar M (TF::O)=TF::ar M O:=rfl
def FG:ar M (TH {.vw TF p,t}::O)=TH {.vw TF p,t}::ar M O:=rfl
def nZ:T.put t [] s=s:=by cases t<;>rfl
def AM:lA j={.ow,.im (.int j)}:=rfl
def Ey:rdR i {.ow,.im x}={.ow,.im x}:=rfl
def EA:rdR i {.vw a p,t}={.vw a p,t}:=rfl
def Ez:rdR i {.ow,.li l}={.vw (TH i) (TH []),.li l}:=rfl
def AN:rdR i {.ow,.lst l}={.vw (TH i) (TH []),.lst l}:=rfl
def vP:fgts [] O=O:=rfl
def ue:fgts (i::ks) O=fgts ks ((ar [i] O).set i TF):=rfl
def MK{run:!T->↑T}{l:Nat}{m:MS}{ts:!T}{c:T->Prop}(O:Rho)(a:run ts=if ts.length=l then dD m n ts else TF)(d:ts.length=l)(e:de ts n=O)(h:WS m O (fP c)):W1 (run ts) c:=tE a d (e▸h)
def MR{run:!T->↑(T×T)}{l:Nat}{m:MS}{ts:!T}{c:T->T->Prop}(O:Rho)(a:run ts=if ts.length=l then fm m k n ts else TF)(d:ts.length=l)(e:fX k ts n=O)(h:WS m O (fI k c)):W2 (run ts) c:=ig a d (e▸h)
end
end L2
namespace L2
open PySem PySem.Spec PyProof.Rows
abbrev less(K:yF) (a:Addr):yF:=K.filter λp=> ~~~(p.1==a)
def iX:∀{K:yF} {a b:Addr},b≠a->(less K a).lookup b=K.lookup b
 | [],_,_,_=>rfl
 | (c,o)::K,a,b,h=>by
  have d:=iX (K:=K) h;by_cases e:c=a
  .subst e;have:less ((c,o)::K) c=less K c:=by simp[less]
   rw[this,d];change _=match b==c with|true=>TH o|false=>KI b K
   rw[beq_eq_false_iff_ne.mpr h]
  .have:less ((c,o)::K) a=(c,o)::less K a:=by simp[less,e]
   rw[this];change(match b==c with|true=>TH o|false=>KI b (less K a))=match b==c with|true=>TH o|false=>KI b K
   rw[d]
def jv:∀{K:yF} {a:Addr},(less K a).lookup a=TF
 | [],_=>rfl
 | (c,o)::K,a=>by
  have d:=jv (K:=K) (a:=a);by_cases e:c=a
  .subst e;have:less ((c,o)::K) c=less K c:=by simp[less]
   rw[this,d]
  .have:less ((c,o)::K) a=(c,o)::less K a:=by simp[less,e]
   rw[this];change(match a==c with|true=>TH o|false=>KI a (less K a))=TF;rw[beq_eq_false_iff_ne.mpr (NA e)];show d
def zF{K:yF}{a:Addr}{h:Heap}(X:K.In h):(less K a).In h:=λb o e=>by
 by_cases q:b=a;subst q;rw[jv]at e;cases e;rw[iX q]at e;show X b o e
abbrev Lst(o:Obj):Prop:=∃vs:Array Nk,o={cls:=.type "list",data:=.seq vs}
abbrev Nd(K:yF)(a:Addr):Prop:=∀o,K.lookup a*>o->Lst o
def Nd.get{K:yF}{a b:Addr}{o:Obj}(h:Nd K a)(e:K.lookup b*>o)(n:¬ Lst o):(less K a).lookup b*>o:=by
 rw[iX (a:=a) λq:b=a=>n (h o (by rw[<-q];show e))];show e
abbrev p9(K:yF)(mg:Str->↑Nk)(name:Str)(st:Stmt)(c:!Str):Prop:=
 ∃(f:Addr) (d:Ox),mg name*>(.ref f)/\Fun K name name st f d/\(∀a:!Nk,a.length=c.length->SC d {a,[]}=pure (c.zip a))
def p9.to{K:yF}{mg:Str->↑Nk}{name:Str}{st:Stmt}{a:!Str}(d:p9 K mg name st a):Def K mg name st a:=by
 have(f,h,e,c,g):=d;show{f,h,e,c,.all g}
def p9.less{K:yF}{mg:Str->↑Nk}{name:Str}{st:Stmt}{p:!Str}{a:Addr}(d:p9 K mg name st p)(h:Nd K a):p9 (less K a) mg name st p:=by
 have(f,x,t,F,u):=d;obtain⟨oc,y,kV,m,r,A,i,v,l,e,s,g⟩:=F.ex;have j:=h.get s (by rintro⟨vs,z⟩;cases z);show{f,x,t,{{oc,y,kV,m,r,A,i,v,l,e,j,?_},?_},u}
 .unfold Kj at g|-;cases i with
  | ref c=>
   dsimp only at g|-;cases q:KI c K with
   | none=>rw[q]at g;cases g
   | some o=>
    by_cases w:c=a
    .subst w;have(vs,rfl):=h o q;rw[q]at g;cases g
    .rw[iX w];show g
  | _=>cases g
 .unfold JK;dsimp only;rw[j]
def p9.mk'{K:yF}{h:Heap}{mg:Str->↑Nk}{name:Str}{st:Stmt}{o:!Str}(X:K.In h)(G:h.Ns NZ mg){f:Addr}{oc:Nk}{q j:↑Addr}{p:Array ↑Nk}{kV e g d i:Nk}
  (a:Lj K NZ name*>(TH (.ref f))) (l:K.lookup f*>{oc,q,.func (JI name name (dN st) (bE st) (ak st) .none kV e g j d i),p}) (c:Kj K d name=TK) (k:JK K (.ref f)=TK)
  (r:∀(kV e g:Nk) (j:↑Addr) (d i:Nk) (m:!Nk),m.length=o.length->SC (JI name name (dN st) (bE st) (ak st) .none kV e g j d i) {m,[]}=pure (o.zip m)):p9 K mg name st o:=
 {f,_,PySem.W.mg_of X G a,CN l c k,r kV e g j d i}
def walkP{l:PySem.W.OpenLaw}{k:Nat}{q:Nv}{loose:!Str}{XP:(Str->↑Nk)->Heap->Prop}{YP:NB->Heap->Prop}{d:DefRec}{K:Tb->yF}{x:Str}{st:Stmt}{run:!T->↑T}{A:(Str->↑Nk)->yF->Prop}
  (hn:l.most=TH 63) (u:d.params.defaults=[]) (hr:MV k Rc)
  (S:∀(w:NB) (h:Heap),YP w h->(K w.params).In h)
  (hA:∀(w:NB) (mg:Str->↑Nk) (h:Heap),(K w.params).In h->h.Ns NZ mg->A mg (K w.params))
  (U:∀(mg:Str->↑Nk) (K:yF) (a:Addr),A mg K->Nd K a->A mg (less K a))
  (Q:∀(mg:Str->↑Nk) (K:yF),A mg K->Def K mg d.name st [x])
  (hb:∀(kV m J:Nk) (an:↑Addr) (t ct:Nk) (s:Nm) (v:Nk),Rb s (JI d.name d.name (dN st) (bE st) (ak st) .none kV m J an t ct) {[v],[]} [(x,v)])
  (F:∀(w:NB) (mg:Str->↑Nk) (K:yF) (base:Heap),A mg K->Has l.prog w K mg base k d.name [x] (spP K run))
  (E:∀ns:!Int,ns.length<=63->run [.li (ns.map .int)]*>(.im (.bl TK))) :
  PySem.W.WalkO q loose XP YP l.row.toRowW d [] (λf vs=>PySem.call f vs):=by
 show Att.attach_call hn u λw M L mg mb fa o J cd m a vs ns G Y ho hd' X r i j c hg=>?_;have y:=S w _ Y;have a0:=hA w mg _ y G.T.g;have la:Nd (K w.params) a:=λo e=>by
  have O:=y a o e;rw[i]at O;cases O;show{_,Xr}
 have N:=U mg _ a a0 la;have(fd,p,Z):=wf r (Q mg _ N) hb λbase _ _=>F w mg (less (K w.params) a) base N;show we (zF y) G.T.g G.T.b G.T.builtins G.T.nolimit hg i j (IS c (by decide)) hr Z p (λH hO B=>?_) (λ_ _ _ z=>z);rcases B with B|⟨o,its,n,e,_⟩
 .show{[.li (ns.map .int)],_,?_,E ns c,?_}
  .show{_,_,Xr,{[a],?_},Xr};show{a,_,Xr,B,p7.ints ns,Xr}
  .intro v H' z;have(_,F,z,_):=z;rw[Rp]at z;show z.1
 .rw[jv]at e;cases e
abbrev vs(x:String) (t:Tok):Nk:=.str (ND x) t
abbrev vi(n:Int):Nk:=.int n 0
abbrev vr(a:Addr):Nk:=.ref a
abbrev eO(p:Tb) (x:String) (t:Tok) (v:Nk):Ra:={PyData.keyHash p (ND x),.str (ND x) t,v}
abbrev oC(vs:!Nk):Obj:={cls:=.type "code",data:=.fields vs.toArray}
abbrev oD(a:!Ra) (n:Nat):Obj:={cls:=.type "dict",data:=.dict a.toArray n}
abbrev oF(x:String) (st:Stmt) (a:Nk) (c:Addr):Obj:={cls:=.type "function",data:=.func (JI (ND x) (ND x) (dN st) (bE st) (ak st) .none .none .none a TF (.ref c) .none)}
abbrev oc(x:String) (t l n r:Nat) (v:↑(Nat×Nat)) (d e:Nat):Obj:=oC [vs x t,vs x (t+1),vs "/claim/cut.py" (t+2),vi l,vi n,vi 0,vi 0,vi 3,vr r,.bool TK,vi 181,vr (r+1),.none,(match v with|some p=>vr p.1|none=>.none),(match v with|some p=>vr p.2|none=>.none),vr d,vi e,vi l,vs "/claim/cut.py" (e+1)]
def p9.mkO{K:yF}{h:Heap}{mg:Str->↑Nk}{x:String}{st:Stmt}{i:!Str}(X:K.In h)(G:h.Ns NZ mg)(f:Addr)(d:Nk)(c:Addr)
  (q:∀(kV j d:Nk) (p:↑Addr) (g o:Nk) (e:!Nk),e.length=i.length->SC (JI (ND x) (ND x) (dN st) (bE st) (ak st) .none kV j d p g o) {e,[]}=pure (i.zip e))
  (a:Lj K NZ (ND x)*>(TH (.ref f)):=by rfl') (l:K.lookup f*>(oF x st d c):=by rfl') (m:Kj K (.ref c) (ND x)=TK:=by rfl'):p9 K mg (ND x) st i:=
 p9.mk' X G a l m (by unfold JK;dsimp only;rw[l];rfl) q
def bN{K:yF}{h:Heap}{mg:Str->↑Nk}(X:K.In h)(G:h.Ns NZ mg){n:Str}(e:Lj K NZ n*>TF:=by rfl'):mg n=TF:=PySem.W.mg_none_of X G e
section
variable {α A B C D E F:Type}{f g:A->B->C->D->E->F->!Nk->α}
def M8{α:Type}{n:Nat}{l:!α}(h:l.length=n+1):∃a r,l=a::r/\r.length=n:=by
 cases l with
 | nil=>cases h
 | cons a r=>show{a,r,Xr,JS.inj h}
def by1(h:∀a j i d c l a0,f a j i d c l [a0]=g a j i d c l [a0]):∀a j i d c l (m:!Nk),m.length=1->f a j i d c l m=g a j i d c l m:=λa j i d c l m e=>by
 have(a0,p,rfl,o):=M8 e;obtain rfl:=Jw.mp o;show h a j i d c l a0
def by2(h:∀a j i d c l a0 o,f a j i d c l [a0,o]=g a j i d c l [a0,o]):∀a j i d c l (m:!Nk),m.length=2->f a j i d c l m=g a j i d c l m:=λa j i d c l m e=>by
 have(a0,s,rfl,p):=M8 e;have(o,r,rfl,q):=M8 p;obtain rfl:=Jw.mp q;show h a j i d c l a0 o
def by3(h:∀d j c a i l a0 p o,f d j c a i l [a0,p,o]=g d j c a i l [a0,p,o]):∀d j c a i l (m:!Nk),m.length=3->f d j c a i l m=g d j c a i l m:=λd j c a i l m e=>by
 have(a0,u,rfl,q):=M8 e;have(p,v,rfl,r):=M8 q;have(o,t,rfl,s):=M8 r;obtain rfl:=Jw.mp s;show h d j c a i l a0 p o
end
end L2
namespace L2
open PySem
noncomputable section
abbrev cu:MS:=(aq (mIf (aT (mOp eqT (mIx (af 0) (mC (.int 0))) (mC (.str "op")))) (bv (mSl (af 0) (fJ (mC (.int 2))) mNoPart)) mNext)
  (aq (mIf (aT (mOp eqT (mIx (af 0) (mC (.int 0))) (mC (.str "if")))) (bv (mSl (af 0) (fJ (mC (.int 1))) mNoPart)) mNext)
  (bv (av [] mNil))))
abbrev dB(ts:!T):↑T:=if ts.length=1 then dD cu 1 ts else TF
abbrev dS:MS:=(aq (ay (aQ [] mNil) (ae 1))
  (aq (ay (aQ [0] (ac 0 mNil)) (ae 2))
  (aq (dz (qU (af 2))
  (bQ [3] (aq (ay (jX 2 nX (af 2)) (ae 3))
  (aq (bt (cf 1 [3] apT (af 1) (ac 3 mNil)))
  (bt (cf 2 [] j4 (af 2) (aa (mUn yd (mB dB (ac 3 mNil))) mNil)))))))
  (bv (af 1)))))
abbrev fZ(ts:!T):↑T:=if ts.length=1 then dD dS 4 ts else TF
abbrev ib:MS:=(bv (mB jl (aa (aM [TF,TF] (mIt (mB fZ (ac 0 mNil))) (ae 1) (aT (mOp eqT (mIx (af 1) (mC (.int 0))) (mC (.str "at")))) (av [] (aa (mIx (af 1) (mC (.int 1))) (aa (mIx (af 1) (mC (.int 2))) mNil)))) mNil)))
abbrev jK(ts:!T):↑T:=if ts.length=1 then dD ib 1 ts else TF
abbrev cI:MS:=(aq (ay (aQ [] mNil) (ae 2))
  (aq (bY (mIt (mB jK (ac 1 mNil))) (cx (aH (ae 3) (aH (ae 4) mGNil)))
  (bQ [3,4,5] (aq (ay (av [0,3,4] (ac 0 (ac 3 (ac 4 mNil)))) (ae 5))
  (mIf (aT (mOp uz (af 5) (af 2))) (bt (cf 2 [5] apT (af 2) (ac 5 mNil))) mNext))))
  (bv (af 2))))
abbrev eI(ts:!T):↑T:=if ts.length=2 then dD cI 6 ts else TF
abbrev iZ:MS:=(aq (ay (mOp bh (mOp cJ (mC (.int 7901)) (af 1)) (mC (.int 24697))) (ae 2))
  (aq (mIf (aT (mOp (fA λi j=>decide (i<j)) (af 1) (mB cY (ac 0 mNil)))) (ay (mIx (af 0) (af 1)) (ae 2)) (mIf (aT (mOp (fA λi j=>decide (j<i)) (mB cY (ac 0 mNil)) (mC (.int 0)))) (ay (mOp bh (mOp cJ (mOp fV (mIx (af 0) (mOp fV (af 1) (mB cY (ac 0 mNil)))) (mC (.int 2147483629))) (mC (.int 31))) (mOp cJ (mC (.int 7901)) (af 1))) (ae 2)) mNext))
  (aq (ay (mC (.int 0)) (ae 3))
  (aq (mIf (aT (mOp (fA λi j=>decide (j<=i)) (af 2) (mOp uL (mC (.int 10)) (mC (.int 18))))) (ay (af 2) (ae 3)) mNext)
  (bv (aQ [3] (ac 3 (aa (mOp bh (mOp fV (mOp uL (mOp bh (mOp cJ (mOp fV (af 2) (mC (.int 2147483629))) (mC (.int 48271))) (mOp cJ (mC (.int 40692)) (af 1))) (mC (.int 5))) (mC (.int 2147483629))) (mC (.int 1))) mNil))))))))
abbrev je(ts:!T):↑T:=if ts.length=2 then dD iZ 4 ts else TF
abbrev i4:MS:=(aq (mIf (aT (mOp (fA λi j=>decide (j<i)) (mIx (af 0) (mC (.int 0))) (mC (.int 0)))) (aq (ay (mOp fV (mIx (af 0) (mC (.int 0))) (af 1)) (ae 2))
  (aq (ay (mOp jU (mIx (af 0) (mC (.int 0))) (af 1)) (qT 0 (af 0) (mC (.int 0))))
  (bv (af 2)))) mNext)
  (aq (ay (mOp fV (mOp cJ (mIx (af 0) (mC (.int 1))) (mC (.int 48271))) (mC (.int 2147483647))) (ae 3))
  (aq (ay (mOp bh (mOp fV (mOp bh (mOp cJ (af 3) (mC (.int 40692))) (mC (.int 30103))) (mC (.int 2147483399))) (mC (.int 1))) (qT 0 (af 0) (mC (.int 1))))
  (bv (mOp fV (mOp jU (mOp bh (mOp cJ (af 3) (mC (.int 2147483647))) (mIx (af 0) (mC (.int 1)))) (mC (.int 8191))) (af 1))))))
abbrev ai(ts:!T):↑(T×T):=if ts.length=2 then fm i4 0 4 ts else TF
abbrev hJ:MS:=(aq (ay (mC (.str "abcdefghijklmnopqrstuvwxyz")) (ae 2))
  (aq (ay (mM kX (mC (.str "")) (aa (aM [TH 0,TF,TH 2,TF,TF,TF,TF,TF,TF] (bi (aa (am 0 0 ai (ac 0 (aa (mC (.int 6)) mNil))) mNil)) (ae 7) mYes (mIx (af 2) (am 0 0 ai (ac 0 (aa (mC (.int 26)) mNil))))) mNil)) (ae 3))
  (aq (mL 4 5 (aa (am 0 0 ai (ac 0 (aa (mC (.int 26)) mNil))) (aa (am 0 0 ai (ac 0 (aa (mOp bh (mB cY (ac 3 mNil)) (mC (.int 1))) mNil))) mNil)))
  (aq (ay (aQ [] mNil) (ae 6))
  (aq (bY (bi (ac 1 mNil)) (ae 7)
  (bQ [7,8] (aq (ay (mOp bh (mOp bh (mSl (af 3) mNoPart (fJ (af 5))) (mIx (af 2) (mOp fV (mOp bh (af 4) (mOp cJ (mC (.int 5)) (af 7))) (mC (.int 26))))) (mSl (af 3) (fJ (af 5)) mNoPart)) (ae 8))
  (aq (mIf (aT (mOp eqT (mOp fV (af 7) (mC (.int 2))) (mC (.int 1)))) (ay (mOp bh (af 8) (mC (.str "q"))) (ae 8)) mNext)
  (aq (mIf (aT (mOp inT (af 8) (av [] (aa (mC (.str "min")) (aa (mC (.str "max")) (aa (mC (.str "rest")) (aa (mC (.str "less")) (aa (mC (.str "if")) mNil)))))))) (ay (mOp bh (af 8) (mC (.str "w"))) (ae 8)) mNext)
  (bt (cf 6 [8] apT (af 6) (ac 8 mNil))))))))
  (bv (af 6)))))))
abbrev jH(ts:!T):↑(T×T):=if ts.length=2 then fm hJ 0 9 ts else TF
abbrev kn:MS:=(aq (mIf (aT (mOp eqT (am 0 0 ai (ac 0 (aa (mC (.int 4)) mNil))) (mC (.int 0)))) (bv (mOp cJ (av [] (aa (mC (.int 0)) mNil)) (af 1))) mNext)
  (bv (mB jl (aa (aM [TH 0,TF,TF] (bi (ac 1 mNil)) (ae 2) mYes (mIx (aQ [] (aa (mC (.int 0)) (aa (mC (.int 1)) (aa (mOp cv (mC (.int 0)) (mC (.int 1))) (aa (mC (.int 2)) (aa (mOp cv (mC (.int 0)) (mC (.int 2))) mNil)))))) (am 0 0 ai (ac 0 (aa (mC (.int 5)) mNil))))) mNil))))
abbrev ku(ts:!T):↑(T×T):=if ts.length=2 then fm kn 0 2 ts else TF
abbrev dQ:MS:=(aq (ay (am 0 0 ai (ac 0 (ac 1 mNil))) (ae 2))
  (aq (ay (aM [TH 0,TF,TF,TF,TF] (gl (aa (mOp bh (af 2) (mC (.int 1))) (ac 1 mNil))) (ae 4) mYes (mIx (aQ [] (aa (mC (.int 0)) (aa (mC (.int 1)) (aa (mOp cv (mC (.int 0)) (mC (.int 1))) (aa (mC (.int 2)) (aa (mOp cv (mC (.int 0)) (mC (.int 2))) mNil)))))) (am 0 0 ai (ac 0 (aa (mC (.int 5)) mNil))))) (ae 3))
  (bv (mB jl (aa (mOp bh (mOp bh (mOp cJ (aQ [] (aa (mC (.int 0)) mNil)) (af 2)) (aQ [] (aa (mOp cv (mOp cv (mC (.int 0)) (mC (.int 1))) (am 0 0 ai (ac 0 (aa (mC (.int 2)) mNil)))) mNil))) (af 3)) mNil)))))
abbrev dW(ts:!T):↑(T×T):=if ts.length=2 then fm dQ 0 4 ts else TF
abbrev cD:MS:=(aq (ay (aM [TF,TF,TF,TF,TF,TF] (bi (ac 2 mNil)) (ae 4) mYes (aQ [] mNil)) (ae 3))
  (aq (bY (bi (ac 2 mNil)) (ae 4)
  (bQ [4,5] (bY (bi (aa (am 0 0 ai (ac 0 (aa (mC (.int 4)) mNil))) mNil)) (ae 5)
  (bQ [5] (bt (cf 3 [] apT (mIx (af 3) (af 4)) (aa (av [] (aa (am 0 0 ai (ac 0 (ac 2 mNil))) (aa (am 0 0 ku (ac 0 (ac 1 mNil))) mNil))) mNil)))))))
  (bv (af 3))))
abbrev eD(ts:!T):↑(T×T):=if ts.length=3 then fm cD 0 6 ts else TF
abbrev cE:MS:=(aq (ay (aM [TF,TF,TF,TF,TF,TF] (bi (ac 2 mNil)) (ae 4) mYes (aQ [] mNil)) (ae 3))
  (aq (bY (bi (ac 2 mNil)) (ae 4)
  (bQ [4,5] (bY (bi (aa (mOp bh (mC (.int 1)) (am 0 0 ai (ac 0 (aa (mC (.int 3)) mNil)))) mNil)) (ae 5)
  (bQ [5] (mIf (lZ (aT (mOp (fA λi j=>decide (j<i)) (af 4) (mC (.int 0)))) (aT (mOp eqT (am 0 0 ai (ac 0 (aa (mC (.int 4)) mNil))) (mC (.int 0))))) (bt (cf 3 [] apT (mIx (af 3) (af 4)) (aa (av [] (aa (am 0 0 ai (ac 0 (ac 4 mNil))) (aa (mOp cJ (av [] (aa (mC (.int 0)) mNil)) (af 1)) mNil))) mNil))) (bt (cf 3 [] apT (mIx (af 3) (af 4)) (aa (av [] (aa (am 0 0 ai (ac 0 (ac 2 mNil))) (aa (am 0 0 dW (ac 0 (ac 1 mNil))) mNil))) mNil))))))))
  (bv (af 3))))
abbrev cO(ts:!T):↑(T×T):=if ts.length=3 then fm cE 0 6 ts else TF
abbrev cH:MS:=(aq (ay (aQ [] mNil) (ae 3))
  (aq (bY (bi (aa (mB cY (ac 0 mNil)) mNil)) (ae 4)
  (bQ [4] (bt (cf 3 [] apT (af 3) (aa (mOp cJ (mIx (af 0) (mOp fV (mOp bh (af 4) (af 1)) (mB cY (ac 0 mNil)))) (mIx (af 2) (af 4))) mNil)))))
  (bv (mB jl (ac 3 mNil)))))
abbrev cR(ts:!T):↑T:=if ts.length=3 then dD cH 5 ts else TF
abbrev bL:MS:=(aq (ay (mOp bh (mC (.int 1)) (am 0 0 ai (ac 0 (aa (mC (.int 2)) mNil)))) (ae 3))
  (aq (ay (aQ [] (aa (av [] (aa (mC (.int 0)) (aa (mC (.int 0)) (aa (av [3] (aa (mC (.int 0)) (ac 3 mNil))) mNil)))) (aa (av [] (aa (mC (.int 1)) (aa (mC (.int 1)) (aa (av [] (aa (mC (.int 0)) (aa (mOp cv (mOp cv (mC (.int 0)) (mC (.int 1))) (am 0 0 ai (ac 0 (aa (mC (.int 2)) mNil)))) mNil))) mNil)))) (aa (av [] (aa (mC (.int 0)) (aa (mC (.int 1)) (aa (av [] (aa (mOp cv (mC (.int 0)) (mC (.int 1))) (aa (mOp cv (am 0 0 ai (ac 0 (aa (mC (.int 3)) mNil))) (mC (.int 1))) mNil))) mNil)))) mNil)))) (ae 4))
  (aq (bt (cf 4 [] apT (af 4) (aa (av [] (aa (mC (.int 1)) (aa (mC (.int 0)) (aa (av [] (aa (mOp cv (mC (.int 0)) (am 0 0 ai (ac 0 (aa (mC (.int 2)) mNil)))) (aa (mC (.int 0)) mNil))) mNil)))) mNil)))
  (aq (mIf (aT (mOp eqT (af 1) (mC (.int 3)))) (aq (ay (aQ [] (aa (av [] (aa (mC (.int 0)) (aa (mC (.int 0)) (aa (av [3] (aa (mC (.int 0)) (aa (mC (.int 0)) (ac 3 mNil)))) mNil)))) (aa (av [] (aa (mC (.int 1)) (aa (mC (.int 1)) (aa (av [] (aa (mC (.int 0)) (aa (mC (.int 0)) (aa (mOp cv (mC (.int 0)) (mC (.int 1))) mNil)))) mNil)))) (aa (av [] (aa (mC (.int 0)) (aa (mC (.int 1)) (aa (av [] (aa (mC (.int 0)) (aa (mOp cv (mC (.int 0)) (mC (.int 1))) (aa (mC (.int 0)) mNil)))) mNil)))) (aa (av [] (aa (mC (.int 1)) (aa (mC (.int 0)) (aa (av [] (aa (mC (.int 0)) (aa (mC (.int 0)) (aa (am 0 0 ai (ac 0 (aa (mC (.int 2)) mNil))) mNil)))) mNil)))) mNil))))) (ae 4))
  (ay (mOp bh (af 4) (aQ [] (aa (av [] (aa (mC (.int 2)) (aa (mC (.int 2)) (aa (av [] (aa (mC (.int 0)) (aa (mOp bh (mC (.int 1)) (am 0 0 ai (ac 0 (aa (mC (.int 2)) mNil)))) (aa (mC (.int 0)) mNil)))) mNil)))) (aa (av [] (aa (mC (.int 0)) (aa (mC (.int 2)) (aa (av [] (aa (mOp cv (mC (.int 0)) (mC (.int 1))) (aa (mC (.int 0)) (aa (mC (.int 1)) mNil)))) mNil)))) (aa (av [] (aa (mC (.int 2)) (aa (mC (.int 0)) (aa (av [] (aa (mC (.int 0)) (aa (mC (.int 0)) (aa (mC (.int 0)) mNil)))) mNil)))) mNil))))) (ae 4))) mNext)
  (aq (mL 5 6 (aa (am 0 0 ai (ac 0 (ac 1 mNil))) (aa (aM [TH 0,TF,TF,TF,TF,TF,TF,TF,TF,TF,TF,TF] (bi (ac 1 mNil)) (ae 11) mYes (mOp cv (mC (.int 1)) (mOp cJ (mC (.int 2)) (am 0 0 ai (ac 0 (aa (mC (.int 2)) mNil)))))) mNil)))
  (aq (ay (aM [TF,TF,TF,TF,TF,TF,TF,TF,TF,TF,TF] (bi (ac 2 mNil)) (ae 8) mYes (aQ [] mNil)) (ae 7))
  (aq (bY (mIt (af 4)) (cx (aH (ae 8) (aH (ae 9) (aH (ae 10) mGNil))))
  (bQ [8,9,10] (bt (cf 7 [] apT (mIx (af 7) (af 8)) (aa (av [9] (ac 9 (aa (mB cR (ac 10 (ac 5 (ac 6 mNil)))) mNil))) mNil)))))
  (aq (bY (gl (aa (mC (.int 3)) (ac 2 mNil))) (ae 8)
  (bQ [8] (bt (cf 7 [] apT (mIx (af 7) (af 8)) (aa (av [] (aa (am 0 0 ai (ac 0 (ac 8 mNil))) (aa (am 0 0 ku (ac 0 (ac 1 mNil))) mNil))) mNil)))))
  (bv (af 7))))))))))
abbrev cP(ts:!T):↑(T×T):=if ts.length=3 then fm bL 0 11 ts else TF
abbrev cG:MS:=(aq (ay (am 0 0 cO (ac 0 (ac 1 (ac 2 mNil)))) (ae 3))
  (aq (ay (mOp bh (mC (.int 1)) (am 0 0 ai (ac 0 (ac 2 mNil)))) (ae 4))
  (aq (ay (mOp cJ (aQ [] (aa (mC (.int 0)) mNil)) (af 1)) (ae 5))
  (aq (bY (bi (ac 4 mNil)) (ae 6)
  (bQ [6,7] (aq (ay (aM [TH 0,TF,TF,TF,TF,TF,TF,TF,TF] (bi (ac 1 mNil)) (ae 8) mYes (mOp cv (am 0 0 ai (ac 0 (aa (mC (.int 3)) mNil))) (mC (.int 1)))) (ae 7))
  (aq (ay (aM [TF,TF,TF,TF,TF,TH 5,TF,TH 7,TF] (bi (ac 1 mNil)) (ae 8) mYes (mOp cv (mB nT (aa (mOp cv (mC (.int 0)) (mC (.int 2))) (aa (mB pk (aa (mC (.int 2)) (aa (mOp bh (mIx (af 5) (af 8)) (mIx (af 7) (af 8))) mNil))) mNil))) (mIx (af 5) (af 8)))) (ae 7))
  (aq (mIf (aT (mOp eqT (mOp bh (af 6) (mC (.int 1))) (af 4))) (ay (aM [TF,TF,TF,TF,TF,TF,TF,TF,TF] (mIt (af 5)) (ae 8) mYes (mOp cv (mC (.int 0)) (af 8))) (ae 7)) mNext)
  (aq (ay (aM [TF,TF,TF,TF,TF,TH 5,TF,TH 7,TF] (bi (ac 1 mNil)) (ae 8) mYes (mOp bh (mIx (af 5) (af 8)) (mIx (af 7) (af 8)))) (ae 5))
  (bt (cf 3 [] nL (mIx (af 3) (af 6)) (aa (mC (.int 0)) (aa (av [] (aa (mOp fV (mOp bh (af 6) (mC (.int 1))) (af 4)) (aa (mB jl (ac 7 mNil)) mNil))) mNil))))))))))
  (bv (af 3))))))
abbrev eH(ts:!T):↑(T×T):=if ts.length=3 then fm cG 0 8 ts else TF
abbrev hV:MS:=(aq (mL 1 2 (aa (am 0 0 ai (ac 0 (aa (mC (.int 8)) mNil))) (aa (am 0 0 ai (ac 0 (aa (mC (.int 16)) mNil))) mNil)))
  (aq (ay (mIx (aQ [] (aa (mC (.int 1)) (aa (mC (.int 2)) (aa (mC (.int 2)) (aa (mC (.int 2)) (aa (mC (.int 2)) (aa (mC (.int 1)) (aa (mC (.int 2)) (aa (mC (.int 3)) mNil))))))))) (mOp fV (af 2) (mC (.int 8)))) (ae 3))
  (aq (ay (mOp bh (mC (.int 1)) (am 0 0 ai (ac 0 (aa (mIx (aQ [] (aa (mC (.int 3)) (aa (mC (.int 6)) mNil))) (mOp jU (af 2) (mC (.int 8)))) mNil)))) (ae 4))
  (aq (mIf (aT (mOp (fA λi j=>decide (i<j)) (af 1) (mC (.int 3)))) (bv (av [3] (ac 3 (aa (am 0 0 eD (ac 0 (ac 3 (ac 4 mNil)))) mNil)))) mNext)
  (aq (mIf (aT (mOp (fA λi j=>decide (i<j)) (af 1) (mC (.int 5)))) (bv (av [3] (ac 3 (aa (am 0 0 cO (ac 0 (ac 3 (ac 4 mNil)))) mNil)))) mNext)
  (aq (mIf (aT (mOp eqT (af 1) (mC (.int 5)))) (bv (av [3] (ac 3 (aa (am 0 0 eH (ac 0 (ac 3 (ac 4 mNil)))) mNil)))) mNext)
  (aq (ay (mB nT (aa (mC (.int 2)) (ac 3 mNil))) (ae 3))
  (bv (av [3] (ac 3 (aa (am 0 0 cP (ac 0 (ac 3 (aa (mB nT (ac 3 (aa (mB pk (ac 4 (aa (mC (.int 5)) mNil))) mNil))) mNil)))) mNil)))))))))))
abbrev jI(ts:!T):↑(T×T):=if ts.length=1 then fm hV 0 5 ts else TF
abbrev g9:MS:=(aq (ay (mB pf (ac 1 mNil)) (ae 2))
  (aq (dz (aT (mOp (fA λi j=>decide (j<i)) (mB cY (ac 2 mNil)) (mC (.int 1))))
  (bQ [3,4] (aq (ay (am 0 0 ai (ac 0 (aa (mOp cv (mB cY (ac 2 mNil)) (mC (.int 1))) mNil))) (ae 3))
  (bQ [3,4] (mIf (lZ (aT (mOp (fA λi j=>decide (j<i)) (mB cY (ac 2 mNil)) (mC (.int 2)))) (aT (mOp eqT (am 0 0 ai (ac 0 (aa (mC (.int 5)) mNil))) (mC (.int 0))))) (aq (ay (mB pk (ac 3 (aa (mOp cv (mB cY (ac 2 mNil)) (mC (.int 3))) mNil))) (ae 3))
  (ay (aQ [] (aa (av [] (aa (mC (.str "if")) (aa (mIx (af 2) (af 3)) (aa (mIx (af 2) (mOp bh (af 3) (mC (.int 1)))) (aa (mIx (af 2) (mOp bh (af 3) (mC (.int 2)))) mNil))))) mNil)) (iB 2 (af 2) (af 3) (mOp bh (af 3) (mC (.int 3)))))) (aq (ay (mIx (aQ [] (aa (mC (.str "+")) (aa (mC (.str "-")) (aa (mC (.str "*")) (aa (mC (.str "min")) (aa (mC (.str "max")) (aa (mC (.str "rest")) (aa (mC (.str "less")) mNil)))))))) (am 0 0 ai (ac 0 (aa (mC (.int 7)) mNil)))) (ae 4))
  (ay (aQ [] (aa (av [4] (aa (mC (.str "op")) (ac 4 (aa (mIx (af 2) (af 3)) (aa (mIx (af 2) (mOp bh (af 3) (mC (.int 1)))) mNil))))) mNil)) (iB 2 (af 2) (af 3) (mOp bh (af 3) (mC (.int 2)))))))))))
  (bv (mIx (af 2) (mC (.int 0))))))
abbrev jF(ts:!T):↑(T×T):=if ts.length=2 then fm g9 0 5 ts else TF
abbrev hC:MS:=(aq (ay (am 0 0 jI (ac 0 mNil)) (cx (aH (ae 1) (aH (ae 2) mGNil))))
  (aq (ay (mIx (aQ [] (aa (mOp bh (mC (.int 2)) (am 0 0 ai (ac 0 (aa (mC (.int 9)) mNil)))) (aa (mOp bh (mC (.int 2)) (am 0 0 ai (ac 0 (aa (mC (.int 998)) mNil)))) (aa (mOp cv (mC (.int 1000000000)) (am 0 0 ai (ac 0 (aa (mC (.int 9)) mNil)))) mNil)))) (am 0 0 ai (ac 0 (aa (mC (.int 3)) mNil)))) (ae 3))
  (aq (ay (am 0 0 jH (ac 0 (aa (mB cY (ac 2 mNil)) mNil))) (ae 4))
  (aq (ay (aQ [] mNil) (ae 5))
  (aq (bY (bi (aa (mB cY (ac 2 mNil)) mNil)) (ae 6)
  (bQ [6,7,8,9] (aq (ay (aM [TF,TF,TF,TF,TH 4,TF,TF,TF,TF,TF,TF,TF] (mIt (mSl (mIx (af 2) (af 6)) mNoPart (fJ (mOp jU (mC (.int 16)) (mB cY (ac 2 mNil)))))) (cx (aH (ae 10) (aH (ae 11) mGNil))) mYes (av [11] (aa (mC (.str "at")) (aa (mIx (af 4) (af 10)) (ac 11 mNil))))) (ae 7))
  (aq (bY (bi (aa (mOp bh (am 0 0 ai (ac 0 (aa (mC (.int 2)) mNil))) (mB j6 (aa (mOp eqT (af 7) (aQ [] mNil)) mNil))) mNil)) (ae 8)
  (bQ [8,9] (aq (ay (am 0 0 ai (ac 0 (aa (mIx (aQ [] (aa (mC (.int 9)) (aa (mC (.int 1000000001)) mNil))) (am 0 0 ai (ac 0 (aa (mC (.int 2)) mNil)))) mNil))) (ae 9))
  (bt (cf 7 [] nL (af 7) (aa (am 0 0 ai (ac 0 (aa (mOp bh (mB cY (ac 7 mNil)) (mC (.int 1))) mNil))) (aa (av [9] (aa (mC (.str "num")) (ac 9 mNil))) mNil)))))))
  (bt (cf 5 [] apT (af 5) (aa (av [] (aa (mIx (af 4) (af 6)) (aa (am 0 0 jF (ac 0 (ac 7 mNil))) mNil))) mNil)))))))
  (bv (av [1,3] (ac 1 (ac 3 (aa (mB jl (ac 5 mNil)) mNil))))))))))
abbrev jG(ts:!T):↑(T×T):=if ts.length=1 then fm hC 0 10 ts else TF
end
end L2
namespace L2
open PySem PySem.Spec PyProof.Rows
inductive TyB(K:yF) (H:Hp):V->String->Prop where
 | non:TyB K H .non "NoneType"
 | bl (x:Bool):TyB K H (.bl x) "bool"
 | int (i:Int):TyB K H (.int i) "int"
 | str (x:Str):TyB K H (.str x) "str"
 | tup {a:Addr} {xs:!V}:SqT K H a xs->TyB K H (.ref a) "tuple"
 | lst {a:Addr} {xs:!V}:SqL K H a xs->TyB K H (.ref a) "list"
 | dK {a:Addr} {kvs:!(Key×V)}:Rd H a (.dK kvs)->TyB K H (.ref a) "dict"
def TyB.kit(I:Inv X OK Z H s)(r:RelV x u)(t:TyB X.K H x n):∃j,PySem.W.KitX X.K u (.type n) j/\j s.heap/\u≠Po "__main__.__loader__#opaque" :=by
 cases t with
 | non=>cases (show u=N5 from r);show{_,PySem.W.kitx_none,ON,λz=>nomatch z}
 | bl y=>cases (show u=PF y from r);show{_,PySem.W.kitx_bool,ON,λz=>nomatch z}
 | int i=>have(t,q):=(show∃t,u=RW i t from r);cases q;show{_,PySem.W.kitx_int,ON,λz=>nomatch z}
 | str y=>have(t,q):=(show∃t,u=RX y t from r);cases q;show{_,PySem.W.kitx_str,ON,λz=>nomatch z}
 | @tup a l h=>
  cases r;have(g,r,p,_):=I.tuple h;have(o,c,f,_):=p;show{_,PySem.W.kitx_tuple,⟨o,c,f⟩,λz=>nomatch z}
 | @lst a l h=>
  cases r;have(g,r,p,_):=I.list h;have(o,n,c,f,_):=p;show{_,PySem.W.kitx_list,⟨o,c,f⟩,λz=>nomatch z}
 | @dK a d e=>
  cases r;have:=(show ML X.prog X.w H s.heap a (.dK d)from by
   rcases e with e|⟨o,e⟩;show I.hok a _ e;show(show ML X.prog X.w H s.heap a (.frz o (.dK d))from I.hok a _ e).2)
  have(_,_,vs,_,p):=this;have(o,m,v,c,f,_):=p;show{_,PySem.W.kitx_dict,⟨o,c,f.1⟩,λz=>nomatch z}
abbrev Ev(K:yF)(n:String):!V->Hp->VK->Prop:=λa H Q=>∃x t b,a=[x,.ty n]/\TyB K H x t/\LG K (.type t) (.type n)*>b/\Q (.bl b) H
def vF(n:String):MQ X (.builtin "isinstance") (Ev X.K n):=by
 intro o s Z H r m Q I a h;have(x,t,b,rfl,f,e,q):=h;have(u,p,rfl,i,j):=qc a;cases j;have(v,c,g,d):=f.kit I i;show PySem.W.kia_one c I.kIn g e d λl=>{.bl b,H,I.tok l,Xr,q}
abbrev tyN:T->↑String
 | .im .non=>TH "NoneType"
 | .im (.bl _)=>TH "bool"
 | .im (.int _)=>TH "int"
 | .im (.str _)=>TH "str"
 | .im (.tup _)=>TH "tuple"
 | .im (.ls _)=>TH "list"
 | .im (.fd _ _)=>TH "dict"
 | .im (.exn _ _ _)=>TF
 | .tup _=>TH "tuple"
 | .li _=>TH "list"
 | .lst _=>TH "list"
 | .di _=>TH "dict"
 | .dc _=>TH "dict"
 | .ins _ _=>TF
 | .dq _=>TF
abbrev o8(n m:String):Bool:=n==m||(n == "bool" && m == "int")
private def qL(ns:!String)(t:T):↑T:=(tyN t).map λn=>.im (.bl (ns.any (o8 n)))
def ER{K:yF}{H:Hp}{x:V}{n:String}:∀{t:T},Rpx K H t x->tyN t*>n->TyB K H x n
 | .im i,r,e=>by
  have h:=cr r;cases i<;>rw[RpI]at h<;>cases e;rw[h];show .non;rw[h];show .bl _;rw[h];show .int _;rw[h];show .str _;have(a,c,rfl,h,_):=h;show .tup h;obtain⟨a,c,rfl,h,_⟩:=lF r;show .lst (aI h);have(a,o,f,rfl,h,_):=h;show .dK (.inr ⟨o,h⟩)
 | .tup d,r,e=>by cases e;have(a,c,F,rfl,h,_):=oy r;show .tup h
 | .li d,r,e=>by cases e;have(a,c,rfl,h,_):=bS r;show .lst (.inl h)
 | .lst d,r,e=>by cases e;have(a,c,F,rfl,h,_):=gL r;show .lst (.inl h)
 | .di d,r,e=>by cases e;obtain⟨F,r⟩:=r;rw[Rp]at r;obtain⟨a,c,rfl,⟨f,h,_⟩,_⟩:=r;show .dK (.inl h)
 | .dc d,r,e=>by cases e;obtain⟨F,r⟩:=r;rw[Rp]at r;obtain⟨a,c,g,rfl,⟨f,h,_⟩,_⟩:=r;show .dK (.inl h)
 | .ins C d,r,e=>by cases e
 | .dq d,r,e=>by cases e
abbrev r9:!String:=["int","bool","str","tuple","list","dict"]
def uo{K:yF}{n m:String}{t:T}(e:tyN t*>n)(c:m∈r9):LG K (.type n) (.type m)*>(o8 n m):=by
 have d:n = "NoneType" \/ n∈r9:=by
  unfold tyN at e;split at e<;>cases e<;>first|show .inl rfl|show .inr (by decide)
 rcases d with rfl|d
 .rcases ycM c with rfl|c;rfl;rcases ycM c with rfl|c;rfl;rcases ycM c with rfl|c;rfl;rcases ycM c with rfl|c;rfl;rcases ycM c with rfl|c;rfl;rcases ycM c with rfl|c;rfl;cases c
 .have f:∀a∈r9,∀b∈r9,LG K (.type a) (.type b)*>(o8 a b):=by
   intro a g b h;dsimp[r9,IP,IV,or_false]at g h;rcases g with rfl|rfl|rfl|rfl|rfl|rfl<;>rcases h with rfl|rfl|rfl|rfl|rfl|rfl<;>rfl
  show f n d m c
section
variable {ι : Type}{C:ι->Cx}{P:Nv}{W:NB}{K:yF}{mg:Str->↑Nk}{base:Heap}{k:Nat}{e:Expr}{m:ME}{pos:Pos}
def wZ(d:n∈r9):BD K (λx H Q=>Ev K n [x,.ty n] H Q) (qL [n]):=by
 intro H x c t Q r e q;unfold qL at e;cases e1:tyN c with
 | none=>rw[e1]at e;cases e
 | some f=>
  rw[e1]at e;cases e;show{x,f,_,Xr,ER r e1,uo e1 d,?_};show q _ H {MU.refl H,[],?_,Jn,λa h=>by cases h};rw[Rp,RpI];show{by simp,Xr}
def B1(d:CK C P W K mg base k)(h:mg "isinstance" = TF)(o:mg x=TF)(l:Oc x*>(.type n))(s:n∈r9)(g:QE C K e m)(j:∀i,Gl (C i) "isinstance" :=by intro _;rfl)(c:∀i,Gl (C i) x:=by intro _;rfl)
  (hs:ce e=TJ:=by rfl) (a:x≠("__name__" : Str):=by decide) (f:(x==("__debug__" : Str))=TJ:=by decide):QE C K (.Call (.Name "isinstance" p) [e,.Name x p1] [] pos) (mUn (qL [n]) m):=by
 have(t,q,r):=g;show{_,λi=>mS (r:=Ev K n) (by have:=vF (X:=C i) n;rw[d.kk i]at this;show this) (j i) (by rw[d.mg i];show h) boot_isinstance (jb (hs:=hs) (q i) (jb (Ab (c i) (by rw[d.mg i];show o) l (GL n) a f) wK)) (by change(~~~ce e&&TK)=TK;rw[hs];rfl),?_};show EI (wZ s) r
end
def FZ(h:tyN t*>n)(q:QT1 (.im (.bl (ns.any (o8 n))))):W1 (qL ns t) QT1:={_,by unfold qL;rw[h];rfl,q}
def yV{prog:Nv}{w:NB}{A:NM}{E:Nk->Nm->Prop}{s:Nm}{z TI TO t i2:Addr}{G B:!Addr}{n1 Z i:Nat}{P1 P2:Nat->Nk->Prop}{N S:Nat->Heap->Prop}{a b:Nk}{Q:Nk->Nm->Prop}
  (D1:QD prog w A t G n1 P1 N) (D2:QD prog w A i2 B Z P2 S)
  (hz:SK s.heap z TI TO .none) (hTI:Oy s.heap TI (.ref t) (.ref i2)) (hTO:Oy s.heap TO a b) (s1:N i s.heap) (s2:S i s.heap) (l1:i<n1) (l2:i<Z)
  (ap:TI≠z/\TO≠z/\TI≠TO/\TI≠t/\TI≠i2/\t≠z/\i2≠z/\t≠TO/\i2≠TO/\t≠i2) (f1:z∉G/\TO∉G/\i2∉G) (f2:z∉B/\TO∉B/\t∉B)
  (k:∀x y h' tk,P1 i x->P2 i y->SK h' z TI TO (OS s.heap.objs.size)->Oy h' TO x y->N (i+1) h'->S (i+1) h'->Oy h' s.heap.objs.size x y->h'.objs.size=s.heap.objs.size+1 ->
   (∀c o,c≠z->c≠TO->c≠t->c≠i2->s.heap.get? c*>o->h'.get? c*>o)->Q (.ref s.heap.objs.size) {s with heap:=h',toks:=tk}) :
  Np (Nu prog w) A (Nq.«zip.__next__» {[.ref z],[]}) (λfin s'=>∃v,fin=Fin.done (Flow.ret v)/\Q v s') E s:=by
 change Np _ _ (Sd (.ref z) 2 >>= _) _ _ _;show Nj (NL hz rfl (x:=.bool TJ) rfl ?_);show Nj (NL hz rfl (x:=.ref TI) rfl ?_);show Nj (NX hTI rfl ?_);change Np _ _ (OU (.ref z) >>= _) _ _ _;show Nj ?_;change Np _ _ (Sd (.ref z) 0 >>= _) _ _ _;show Nj (NL hz rfl (x:=.none) rfl ?_);show Nl ?_;change Np _ _ (rule _ >>= _) _ _ _;show Nj (Ou ?_);show Nj (NL hz rfl (x:=.ref TO) rfl ?_);show Nj (Oe hz rfl (JZ _) ?_);have hz1:=NV (NW λd=>d.setIfInBounds 0 OO) hz rfl;have U:=NC s.heap z (NW λd=>d.setIfInBounds 0 OO);generalize s.heap.update z (NW λd=>d.setIfInBounds 0 OO)=h1 at hz1 U|-;obtain⟨a1,a2,a3,a4,a5,a6,a7,a8,a9,a10⟩:=ap;show Nj ?_;change Np _ _ (forIn [(Nx t,0),(Nx i2,1)] ((TF:↑PySem.Fin),()) _) _ _ _;rw[Ke];show Nj (Nj (Qi ?_));change Np _ _ (NJ (.ref t) >>= _) _ _ _;show Nj (D1.item i _ _ _ l1 (D1.frame i _ _ s1 λc h o e=>(U.2 c λq=>f1.1 (q▸h)).trans e) λx h2 t2 px s1' b2=>?_);show Nl ?_;have u:Nw t h1 h2:=b2;have J:Oy h2 TO a b:=((u.2 TO (NA a8)).trans (U.2 TO a2)).trans hTO;change Np _ _ (Qp (.ref TO) >>= _) _ _ _;show Nj (NX J rfl ?_);show Nj (Pq J λh3 X b3=>?_);have l:Nw TO h2 h3:=b3;show Nj (QZ (Nl ?_));change Np _ _ (forIn [(Nx i2,1)] ((TF:↑PySem.Fin),()) _) _ _ _;rw[Ke];show Nj (Nj (Qi ?_));change Np _ _ (NJ (.ref i2) >>= _) _ _ _;have L:Oy h3 TO x b:=X;show Nj (D2.item i _ _ _ l2 (D2.frame i _ _ s2 λc h o e=>(l.2 c λq=>f2.2.1 (q▸h)).trans ((u.2 c λq=>f2.2.2 (q▸h)).trans ((U.2 c λq=>f2.1 (q▸h)).trans e))) λy h4 t4 py s2' b4=>?_);show Nl ?_;have r:Nw i2 h3 h4:=b4;have H:Oy h4 TO x b:=(r.2 TO (NA a9)).trans L;change Np _ _ (Qp (.ref TO) >>= _) _ _ _;show Nj (NX H rfl ?_);show Nj (Pq H λf hTO5 b5=>?_);have j:Nw TO h4 f:=b5;show Nj (QZ (Nl ?_));have m:Oy f TO x y:=hTO5;change Np _ _ (forIn ([]:!(Nk×Nat)) ((TF:↑PySem.Fin),()) _) _ _ _;rw[LA];show Nl ?_;change Np _ _ (Qp (.ref TO) >>= _) _ _ _;show Nj (NX m rfl ?_);show Nj (wpAny_newTuple (items:=[x,y]) ?_ (by change 2<=sizeLine;decide));have hz5:f.get? z=_:=(j.2 z (NA a2)).trans ((r.2 z (NA a7)).trans ((l.2 z (NA a2)).trans ((u.2 z (NA a6)).trans hz1)));have sz:f.objs.size=s.heap.objs.size:=j.1.trans (r.1.trans (l.1.trans (u.1.trans U.1)));have Y:=Nn {cls:=.type "tuple",data:=.seq [x,y].toArray} hz5;have hn6:=Nt f (o:={cls:=.type "tuple",data:=.seq [x,y].toArray}) rfl;change Np _ _ (Ri (.ref z) (.ref f.objs.size) >>= _) _ _ _;show Nj ?_;change Np _ _ (SM (.ref z) 0 (OS f.objs.size) >>= _) _ _ _;show Nj (Oe Y rfl (JZ _) ?_);have O:=NV (NW λd=>d.setIfInBounds 0 (OS f.objs.size)) Y rfl;have b7:=NC (f.push {cls:=.type "tuple",data:=.seq [x,y].toArray}) z (NW λd=>d.setIfInBounds 0 (OS f.objs.size));generalize (f.push {cls:=.type "tuple",data:=.seq [x,y].toArray}).update z (NW λd=>d.setIfInBounds 0 (OS f.objs.size))=h7 at O b7|-;show Oe O rfl (Nat.succ_lt_succ (JZ _)) ?_;have hz8:=NV (NW λd=>d.setIfInBounds 1 (PF TJ)) O rfl;have b8:=NC h7 z (NW λd=>d.setIfInBounds 1 (PF TJ));generalize h7.update z (NW λd=>d.setIfInBounds 1 (PF TJ))=h8 at hz8 b8|-;have zl:z<s.heap.objs.size:=Nr hz;have nz:f.objs.size≠z:=by rw[sz];show J3 zl
 have g:∀c o,c≠z->f.get? c*>o->h8.get? c*>o:=λc o n e=>(b8.2 c n).trans ((b7.2 c n).trans (Nn _ e));show Nl {_,Xr,?_};have e9:(s.heap.objs.size)=f.objs.size:=sz.symm;rw[<-e9];show k x y h8 t4 px py ?_ ?_ ?_ ?_ ?_ ?_ ?_;rw[e9];show hz8;show g TO _ a2 m;show D1.frame _ _ _ s1' λc h o e=>g c o (λq=>f1.1 (q▸h)) ((j.2 c λq=>f1.2.1 (q▸h)).trans ((r.2 c λq=>f1.2.2 (q▸h)).trans ((l.2 c λq=>f1.2.1 (q▸h)).trans e)));show D2.frame _ _ _ s2' λc h o e=>g c o (λq=>f2.1 (q▸h)) ((j.2 c λq=>f2.2.1 (q▸h)).trans e);rw[e9];show(b8.2 _ nz).trans ((b7.2 _ nz).trans hn6);rw[b8.1,b7.1,N9,e9]
 .intro c o n1 Z n3 n4 e;show g c o n1 ((j.2 c Z).trans ((r.2 c n4).trans ((l.2 c Z).trans ((u.2 c n3).trans ((U.2 c n1).trans e)))))
def BC{prog:Nv}{w:NB}{A:NM}{E:Nk->Nm->Prop}{s:Nm}{z TI TO g i2:Addr}{p m:!Addr}{j v i:Nat}{P1 P2:Nat->Nk->Prop}{G U:Nat->Heap->Prop}{a b:Nk}{Q:PySem.Fin->Nm->Prop}
  (D1:QD prog w A g p j P1 G) (D2:QD prog w A i2 m v P2 U)
  (hz:SK s.heap z TI TO .none) (Z:Oy s.heap TI (.ref g) (.ref i2)) (hTO:Oy s.heap TO a b) (s1:G i s.heap) (s2:U i s.heap) (l:i=j\/(i<j/\i=v))
  (ap:TI≠z/\TO≠z/\TI≠TO/\TI≠g/\TI≠i2/\g≠z/\i2≠z/\g≠TO/\i2≠TO/\g≠i2) (f1:z∉p/\TO∉p/\i2∉p) (f2:z∉m/\TO∉m/\g∉m)
  (k:∀h' e M,(∀c o,c≠z->c≠TO->c≠g->c≠i2->s.heap.get? c*>o->h'.get? c*>o)->(∃o,h'.get? e*>o/\o.cls=.type "StopIteration")->E (.ref e) {s with heap:=h',toks:=M}) :
  Np (Nu prog w) A (Nq.«zip.__next__» {[.ref z],[]}) Q E s:=by
 change Np _ _ (Sd (.ref z) 2 >>= _) _ _ _;show Nj (NL hz rfl (x:=.bool TJ) rfl ?_);show Nj (NL hz rfl (x:=.ref TI) rfl ?_);show Nj (NX Z rfl ?_);change Np _ _ (OU (.ref z) >>= _) _ _ _;show Nj ?_;change Np _ _ (Sd (.ref z) 0 >>= _) _ _ _;show Nj (NL hz rfl (x:=.none) rfl ?_);show Nl ?_;change Np _ _ (rule _ >>= _) _ _ _;show Nj (Ou ?_);show Nj (NL hz rfl (x:=.ref TO) rfl ?_);show Nj (Oe hz rfl (JZ _) ?_);have B:=NV (NW λf=>f.setIfInBounds 0 OO) hz rfl;have H:=NC s.heap z (NW λf=>f.setIfInBounds 0 OO);generalize s.heap.update z (NW λf=>f.setIfInBounds 0 OO)=h1 at B H|-;obtain⟨a1,a2,a3,a4,a5,a6,a7,a8,a9,a10⟩:=ap;show Nj ?_;change Np _ _ (forIn [(Nx g,0),(Nx i2,1)] ((TF:↑PySem.Fin),()) _) _ _ _;rw[Ke];show Nj (Nj (Qi ?_));change Np _ _ (NJ (.ref g) >>= _) _ _ _;have q1:G i h1:=D1.frame i _ _ s1 λc S o e=>(H.2 c λq=>f1.1 (q▸S)).trans e;have t:∀(J:Heap) (e:Addr) (M:Nat) (Y:Obj),J.get? z*>Y->(∃vs,Y.data=.fields vs/\0<vs.size)->Y.cls=.type "zip" -> (∀c o,c≠z->c≠TO->c≠g->c≠i2->s.heap.get? c*>o->J.get? c*>o)->(∃o,J.get? e*>o/\o.cls=.type "StopIteration") ->
   Np (Nu prog w) A (SM (.ref z) 0 N5) (λ_ s''=>E (.ref e) s'') E {s with heap:=J,toks:=M}:=by
  intro J e M Y g1 g2 g3 g4 g5;have(vs,d,lz):=g2;show Oe g1 d lz ?_;have b9:=NC J z (NW λf=>f.setIfInBounds 0 N5);have(o,g6,g7):=g5;have nez:e≠z:=λq=>by
   subst q;rw[g1]at g6;cases g6;rw[g3]at g7;show absurd g7 (by decide +kernel)
  show k _ e M (λc o j v N X h=>(b9.2 c j).trans (g4 c o j v N X h)) {o,(b9.2 e nez).trans g6,g7}
 rcases l with rfl|⟨l1,rfl⟩
 .show Nj (D1.done _ _ _ q1 λO e x2 st=>?_);show t O e _ _ (x2 z _ (NA a6) B) {_,Xr,JZ _} rfl (λc o j v N X h=>x2 c o N ((H.2 c j).trans h)) st
 .show Nj (D1.item i _ _ _ l1 q1 λx O t2 px s1' b2=>?_);show Nl ?_;have r:Nw g h1 O:=b2;have u:Oy O TO a b:=((r.2 TO (NA a8)).trans (H.2 TO a2)).trans hTO;change Np _ _ (Qp (.ref TO) >>= _) _ _ _;show Nj (NX u rfl ?_);show Nj (Pq u λh3 hTO3 b3=>?_);have y:Nw TO O h3:=b3;show Nj (QZ (Nl ?_));change Np _ _ (forIn [(Nx i2,1)] ((TF:↑PySem.Fin),()) _) _ _ _;rw[Ke];show Nj (Nj (Qi ?_));change Np _ _ (NJ (.ref i2) >>= _) _ _ _;show Nj (D2.done _ _ _ (D2.frame i _ _ s2 λc S o e=>(y.2 c λq=>f2.2.1 (q▸S)).trans ((r.2 c λq=>f2.2.2 (q▸S)).trans ((H.2 c λq=>f2.1 (q▸S)).trans e))) λh4 e x4 st=>?_);show t h4 e _ _ (x4 z _ (NA a7) ((y.2 z (NA a2)).trans ((r.2 z (NA a6)).trans B))) {_,Xr,JZ _} rfl (λc o j v N X h=>x4 c o X ((y.2 c v).trans ((r.2 c N).trans ((H.2 c j).trans h)))) st
def l4{prog:Nv}{w:NB}{A:NM}{E:Nk->Nm->Prop}{s:Nm}{z TI TO f i2:Addr}{e d:!Addr}{r t i:Nat}{p q:Nat->Nk->Prop}{g h:Nat->Heap->Prop}{a b:Nk}{Q:↑Nk->Nm->Prop}
  (G:QD prog w A.in1 f e r p g) (B:QD prog w A.in1 i2 d t q h)
  (hz:SK s.heap z TI TO .none) (j:Oy s.heap TI (.ref f) (.ref i2)) (l:Oy s.heap TO a b) (J:g i s.heap) (M:h i s.heap) (l1:i<r) (l2:i<t)
  (L:TI≠z/\TO≠z/\TI≠TO/\TI≠f/\TI≠i2/\f≠z/\i2≠z/\f≠TO/\i2≠TO/\f≠i2) (H:z∉e/\TO∉e/\i2∉e) (N:z∉d/\TO∉d/\f∉d)
  (k:∀x y h' m,p i x->q i y->SK h' z TI TO (OS s.heap.objs.size)->Oy h' TO x y->g (i+1) h'->h (i+1) h'->Oy h' s.heap.objs.size x y->h'.objs.size=s.heap.objs.size+1 ->
   (∀c o,c≠z->c≠TO->c≠f->c≠i2->s.heap.get? c*>o->h'.get? c*>o)->Q (TH (.ref s.heap.objs.size)) {s with heap:=h',toks:=m}) :
  Np (Nu prog w) A (Pa (.ref z)) Q E s:=by
 have u:s.TypeIs (.ref z) "zip" :={_,hz,Xr};unfold Pa;show Nj (Qh (NO (name:=ND "__next__") u Pv (NH Pv u R7 ?_ (RS _))));show yV G B hz j l J M l1 l2 L H N λx y h' m c1 c2 c3 c4 c5 c6 c7 c8 c9=>?_;show Nl (k x y h' m c1 c2 c3 c4 c5 c6 c7 c8 c9)
def i7{prog:Nv}{w:NB}{A:NM}{E:Nk->Nm->Prop}{s:Nm}{z TI TO g i2:Addr}{f d:!Addr}{p r i:Nat}{x y:Nat->Nk->Prop}{h j:Nat->Heap->Prop}{a b:Nk}{Q:↑Nk->Nm->Prop}
  (H:QD prog w A.in1 g f p x h) (G:QD prog w A.in1 i2 d r y j)
  (hz:SK s.heap z TI TO .none) (m:Oy s.heap TI (.ref g) (.ref i2)) (q:Oy s.heap TO a b) (L:h i s.heap) (S:j i s.heap) (l:i=p\/(i<p/\i=r))
  (M:TI≠z/\TO≠z/\TI≠TO/\TI≠g/\TI≠i2/\g≠z/\i2≠z/\g≠TO/\i2≠TO/\g≠i2) (J:z∉f/\TO∉f/\i2∉f) (U:z∉d/\TO∉d/\g∉d)
  (k:∀h' v,(∀c o,c≠z->c≠TO->c≠g->c≠i2->s.heap.get? c*>o->h'.get? c*>o)->Q TF {s with heap:=h',toks:=v}) :
  Np (Nu prog w) A (Pa (.ref z)) Q E s:=by
 have t:s.TypeIs (.ref z) "zip" :={_,hz,Xr};unfold Pa;show Nj (Qh (NO (name:=ND "__next__") t Pv (NH Pv t R7 ?_ (RS _))));show BC H G hz m q L S l M J U λh' e v B st=>?_;have(o,O,N):=st;show Nj (Ol (T:="StopIteration") (b:=TK) ⟨o,O,N⟩ Q0 ?_);show Nl (k _ _ B)
abbrev M1(kd:Bool)(h:Heap)(l:Addr)(els:Array Nk):Prop:=match kd with|true=>h.IsList l els|false=>h.IsTuple l els
abbrev MY(kd:Bool)(h:Heap)(it l:Addr)(k:Nat):Prop:=match kd with|true=>h.IsListIter it l k|false=>h.IsTupleIter it l k
abbrev itC(kd:Bool):String:=match kd with|true=>"list_iterator" | false=>"tuple_iterator"
noncomputable abbrev itO(kd:Bool) (l:Addr):Obj:={cls:=.type (itC kd),data:=.fields #[.ref l,.int 0 0]}
def tj(kd:Bool)(h:M1 kd s.heap l els)(q:Q (.ref s.heap.objs.size) {s with heap:=s.heap.push (itO kd l)}):Np (Nu prog w) A (RZ (.ref l)) Q E s:=by
 cases kd with
 | true=>show P7 h q
 | false=>show OY h q
def M1.keep(x:M1 kd h l els)(k:∀o,h.get? l*>o->h'.get? l*>o):M1 kd h' l els:=by
 cases kd with
 | true=>have(o,e,r):=x;show{o,k o e,r}
 | false=>have(o,e,r):=x;show{o,k o e,r}
def M1.get(x:M1 kd h l els):∃o,h.get? l*>o:=by
 cases kd with
 | true=>have(o,e,r):=x;show⟨o,e⟩
 | false=>have(o,e,r):=x;show⟨o,e⟩
noncomputable abbrev zK2(h:Heap) (k1 k2:Bool) (la1 la2:Addr):Heap:=(h.push (itO k1 la1)).push (itO k2 la2)
noncomputable abbrev zK3(h:Heap) (k1 k2:Bool) (la1 la2:Addr):Heap:=(zK2 h k1 k2 la1 la2).push {cls:=.type "tuple",data:=.seq #[.ref h.objs.size,.ref (h.push (itO k1 la1)).objs.size]}
noncomputable abbrev zK4(h:Heap) (k1 k2:Bool) (la1 la2:Addr):Heap:=(zK3 h k1 k2 la1 la2).push {cls:=.type "tuple",data:=.seq #[.none,.none]}
noncomputable abbrev zK5(h:Heap) (k1 k2:Bool) (la1 la2:Addr):Heap:=(zK4 h k1 k2 la1 la2).push {cls:=.type "zip",data:=.fields #[.none,.bool TJ,.bool TJ,.ref (zK2 h k1 k2 la1 la2).objs.size,.ref (zK3 h k1 k2 la1 la2).objs.size]}
def qW(h i:Bool)(a c:Addr)(xs ys:Array Nk) :
  Meets (Nq.«zip.__new__» {[.type "zip",.ref a,.ref c],[]}) (λ_ R s=>M1 h s.heap a xs/\M1 i s.heap c ys/\R (.ok (.ret (.ref (zK4 s.heap h i a c).objs.size))) {s with heap:=zK5 s.heap h i a c}):=
 .of_wp λu v w RR p f=>by
  obtain⟨t,g,d,x,os⟩:=p;obtain⟨q,r,f⟩:=f;have j:=sub_zip;have l:M1 i (t.push (itO h a)) c ys:=r.keep λo e=>Nn _ e;wp_walk using tj h q,tj i l
  show{_,Xr,f}
def t7(x:M1 k1 s.heap la1 xs)(z:M1 k2 s.heap la2 ys)
  (y:∀h',SK h' (s.heap.objs.size+4) (s.heap.objs.size+2) (s.heap.objs.size+3) .none->Oy h' (s.heap.objs.size+2) (.ref s.heap.objs.size) (.ref (s.heap.objs.size+1))->Oy h' (s.heap.objs.size+3) .none .none ->
   MY k1 h' s.heap.objs.size la1 0->MY k2 h' (s.heap.objs.size+1) la2 0->h'.objs.size=s.heap.objs.size+5->(∀c o,s.heap.get? c*>o->h'.get? c*>o)->Q (.ref (s.heap.objs.size+4)) {s with heap:=h'}) :
  Np (Nu prog w) A (call (.type "zip") [.ref la1,.ref la2]) Q E s:=by
 show callType_new F.called_zip (by decide) (F.typeCall_zip_2 _ _) (F.newCall_zip_2 _ _) (λj=>F.args_object_init_3 j _ _) F.entry_zip_new (qW k1 k2 la1 la2 xs ys) {x,z,?_};have d:(s.heap.push (itO k1 la1)).objs.size=s.heap.objs.size+1:=N9 ..;have f:(zK2 s.heap k1 k2 la1 la2).objs.size=s.heap.objs.size+2:=by rw[zK2,N9,d]
 have i:(zK3 s.heap k1 k2 la1 la2).objs.size=s.heap.objs.size+3:=by rw[zK3,N9,f]
 have p:(zK4 s.heap k1 k2 la1 la2).objs.size=s.heap.objs.size+4:=by rw[zK4,N9,i]
 have B:(s.heap.push (itO k1 la1)).get? s.heap.objs.size*>(itO k1 la1):=Nt _ rfl;have G:(zK2 s.heap k1 k2 la1 la2).get? (s.heap.objs.size+1)*>(itO k2 la2):=by have:=Nt (s.heap.push (itO k1 la1)) (o:=itO k2 la2) rfl;rw[d]at this;show this
 have v:=Nt (zK2 s.heap k1 k2 la1 la2) (o:={cls:=.type "tuple",data:=.seq #[.ref s.heap.objs.size,.ref (s.heap.push (itO k1 la1)).objs.size]}) rfl;have r:=Nt (zK3 s.heap k1 k2 la1 la2) (o:={cls:=.type "tuple",data:=.seq #[.none,.none]}) rfl;have t:=Nt (zK4 s.heap k1 k2 la1 la2) (o:={cls:=.type "zip",data:=.fields #[.none,.bool TJ,.bool TJ,.ref (zK2 s.heap k1 k2 la1 la2).objs.size,.ref (zK3 s.heap k1 k2 la1 la2).objs.size]}) rfl;rw[f,d]at v;rw[i]at r;rw[p,f,i]at t;have m:∀c o,(zK2 s.heap k1 k2 la1 la2).get? c*>o->(zK5 s.heap k1 k2 la1 la2).get? c*>o:=λc o e=>Nn _ (Nn _ (Nn _ e));have it:∀(g:Bool) (h:Heap) (a l:Addr),h.get? a*>(itO g l)->MY g h a l 0:=λg h a l e=>by
  cases g;show{_,e,Xr,Xr};show{_,e,Xr,Xr}
 change _/\_;rw[p];have u:(zK5 s.heap k1 k2 la1 la2).get? (s.heap.objs.size+4)=TH {cls:=.type "zip",data:=.fields #[.none,.bool TJ,.bool TJ,.ref (s.heap.objs.size+2),.ref (s.heap.objs.size+3)]}:=by
  change(TC _ _).get? _=_;rw[f,i];show t
 show{{_,u,Xr},y _ u ?_ ?_ (it _ _ _ _ (m _ _ (Nn _ B))) (it _ _ _ _ (m _ _ G)) ?_ λc o e=>m c o (Nn _ (Nn _ e))}
 .show Nn _ (Nn _ ?_);change(TC _ _).get? _=_;rw[d];show v
 .show Nn _ r
 .rw[zK5,N9,p]
def nE(a:A.handled=TF)(kd:Bool)(it l:Addr)(c:l≠it)(els:Array Nk):QD prog w A it [it,l] els.size (λk v=>els[k]?*>v) (λk h=>MY kd h it l k/\M1 kd h l els):=by
 cases kd with
 | true=>show Tu a it l c els
 | false=>show oW a it l c els
def vL(hh:A.handled=TF)(kd:Bool)(it l:Addr)(els:Array Nk)(i:Nat)(hi:els[i]?=TF):QD prog w A it [it,l] i (λk v=>els[k]?*>v) (λk h=>k=i/\MY kd h it l k/\M1 kd h l els) where
 live:=λk h st=>by
  obtain⟨_,st,_⟩:=st;cases kd;obtain⟨o,e,_⟩:=st;show⟨o,e⟩;obtain⟨o,e,_⟩:=st;show⟨o,e⟩
 frame:=λk h h' st hk=>by
  obtain⟨e,st,sq⟩:=st;show{e,?_,sq.keep λo e=>hk l ∅ o e};cases kd;obtain⟨o,e,r⟩:=st;show{o,hk it ∅ o e,r};obtain⟨o,e,r⟩:=st;show{o,hk it ∅ o e,r}
 item:=λk s Q E hlt st _=>by
  have:=st.1;omega
 done:=λs Q E st kk=>by
  obtain⟨_,st,sq⟩:=st;cases kd with
  | true=>show QU hh st sq hi kk
  | false=>show i8 hh st sq hi kk
abbrev SqK(K:yF)(H:Hp)(kd:Bool)(a:Addr)(xs:!V):Prop:=match kd with|true=>SqL K H a xs|false=>SqT K H a xs
def Inv.seqK(I:Inv X OK Z H s)(h:SqK X.K H kd a xs):∃c:!Nk,Vals xs c/\M1 kd s.heap a c.toArray:=by
 cases kd with
 | true=>
  have(c,d,p,_):=I.list h;have(o,n,g,e,i,f):=p;show⟨c,d,o,g,e,n,f⟩
 | false=>
  have(c,d,p,_):=I.tuple h;show⟨c,d,p⟩
def Inv.seqK_inj(I:Inv X OK Z H s)(h:SqK X.K H kd a xs)(h':SqK X.K H kd a ys):xs=ys:=by
 cases kd with
 | true=>show I.list_inj h h'
 | false=>show I.tuple_inj h h'
abbrev Itz(K:yF) (e g:Bool) (d f:Addr):It:=
 {λi H=>∃c a x y,SqK K H e d c/\SqK K H g f a/\c[i]?*>x/\a[i]?*>y,
   λi H v h=>∃p x y,H p=TF/\v=.ref p/\h=upd H p (.tup [x,y])/\(∀c,SqK K H e d c->c[i]?*>x)/\∀a,SqK K H g f a->a[i]?*>y,
   λi H=>∃c a,SqK K H e d c/\SqK K H g f a/\(c.length<=i\/a.length<=i)}
def Inv.turnedL{X:Cx}{g:!(Addr×Obj)}{Z:St}{H:Hp}{s:Nm}{h':Heap}{t':Nat}{fs:!Addr}(I:Inv X g Z H s)(k:∀b o,b∉fs->s.heap.get? b*>o->h'.get? b*>o)(f:∀b∈fs,eQ X g H b):Inv X g Z H {s with heap:=h',toks:=t'}:=by
 have d:∀b u,H b*>u->b∉fs:=λb u e z=>by rw[(f b z).1]at e;cases e
 have i:X.env.locals∉fs:=λz=>(f _ z).2.1 rfl;show I.step (g':=s.gens) (d':=s.drawn) (ch:=fs) (λb B=>?_) (λb o _ _ a e _=>k b o a e) (λb o _ _ a e _=>{o.slots,k b o a e}) (λ_ _ _ _ n=>n)
  (λb o a e=>{o,k b o a e}) (λ_ _ e=>e) (λ_ _ _ e=>e) (λb E e=>{#[],by rw[e];simp}) (λm t=>?_) (λb u e=>?_) I.bare
 .have(_,j,_,l,w,p):=f b B;show⟨l,j,w,p⟩
 .have(o,x,A,y,r):=t;show{o,x,A,k _ o i y,r}
 .show(I.hok b u e).stay (λc v a q=>k c v ?_ q) (λ_ q=>q) λ_ _ q=>q;rcases a with z|z;rw[z];show d b u e;show d c _ z
def MY.get(x:MY kd h it l k):∃o,h.get? it*>o/\∀v,o.data ≠ .cell v:=by
 cases kd with
 | true=>have(o,e,c,d):=x;show{o,e,λv z=>by rw[d]at z;cases z}
 | false=>have(o,e,c,d):=x;show{o,e,λv z=>by rw[d]at z;cases z}
def MY.keep(x:MY kd h it l k)(a:∀o,h.get? it*>o->h'.get? it*>o):MY kd h' it l k:=by
 cases kd with
 | true=>have(o,e,r):=x;show{o,a o e,r}
 | false=>have(o,e,r):=x;show{o,a o e,r}
structure ZAp(z TI TO i1 i2 l1 l2:Addr):Prop where
 ap:TI≠z/\TO≠z/\TI≠TO/\TI≠i1/\TI≠i2/\i1≠z/\i2≠z/\i1≠TO/\i2≠TO/\i1≠i2
 f1:z∉[i1,l1]/\TO∉[i1,l1]/\i2∉[i1,l1]
 f2:z∉[i2,l2]/\TO∉[i2,l2]/\i1∉[i2,l2]
 n1:l1≠i1
 n2:l2≠i2
def yx{P:Nv}{w:NB}{K:yF}{elts:!Expr}{k0:Nat}{pos:Pos}(k1 k2:Bool){z TI TO i1 i2 l1 l2:Addr}(A:ZAp z TI TO i1 i2 l1 l2) :
  Nb P w K (.Tuple elts k0 pos) (Itz K k1 k2 l1 l2) [z,TI,TO,i1,i2] z (λi h=>SK h z TI TO .none/\Oy h TI (.ref i1) (.ref i2)/\(∃a b,Oy h TO a b)/\MY k1 h i1 l1 i/\MY k2 h i2 l2 i) where
 mem:=by simp
 obj:=λi h st b hb=>by
  obtain⟨s1,s2,⟨a,c,s3⟩,s4,s5⟩:=st;dsimp[IP,IV,or_false]at hb;rcases hb with rfl|rfl|rfl|rfl|rfl;show{_,s1,λv z=>by cases z};show{_,s2,λv z=>by cases z};show{_,s3,λv z=>by cases z};show s4.get;show s5.get
 keep:=λi h h' st k=>by
  obtain⟨s1,s2,⟨a,c,s3⟩,s4,s5⟩:=st;show{k z ∅ _ s1,k TI ∅ _ s2,{a,c,k TO ∅ _ s3},s4.keep λo e=>k i1 ∅ o e,s5.keep λo e=>k i2 ∅ o e}
 item:=by
  intro X hP hw hK hc i OK s Z H E I hf st hg;subst hP hw hK;have(xs,ys,x,y,hq1,hq2,hx,hy):=hg;have(its1,rv1,p1):=I.seqK hq1;have(its2,rv2,p2):=I.seqK hq2;have(u1,hu1,ru1):=rv1.get hx;have(u2,hu2,ru2):=rv2.get hy;obtain⟨s1,s2,⟨a,c,s3⟩,s4,s5⟩:=st;have hn1:i<its1.toArray.size:=by rw[Ij];show(Ii.mp hu1).1
  have hn2:i<its2.toArray.size:=by rw[Ij];show(Ii.mp hu2).1
  have hh:X.A.in1.handled=TF:=I.ok.hd hc;show l4 (nE (A:=X.A.in1) hh k1 i1 l1 A.n1 its1.toArray) (nE (A:=X.A.in1) hh k2 i2 l2 A.n2 its2.toArray) s1 s2 s3 ⟨s4,p1⟩ ⟨s5,p2⟩ hn1 hn2 A.ap A.f1 A.f2 λx' y' h1 tk px py hz1 hTO1 st1 st2 hpr hsz kk=>?_;have ex:x'=u1:=by
   have e1:its1.toArray[i]?*>x':=px;have e2:its1.toArray[i]?*>u1:=by exists hu1
   rw[e1]at e2;show IG.inj e2
  have ey:y'=u2:=by
   have e1:its2.toArray[i]?*>y':=py;have e2:its2.toArray[i]?*>u2:=by exists hu2
   rw[e1]at e2;show IG.inj e2
  subst ex ey;show{_,Xr,wpAny_letOwnedTupleGo_zip hz1 λh2 hz2 sb=>?_};have sb':Nw z h1 h2:=sb;have hzl:z<s.heap.objs.size:=Nr s1;obtain⟨a1,a2,a3,a4,a5,a6,a7,a8,a9,a10⟩:=A.ap;have k2':∀b o,b∉[z,TO,i1,i2]->s.heap.get? b*>o->h2.get? b*>o:=λb o n q=>by
   dsimp[IP,IV,or_false,not_or]at n;show(sb'.2 b n.1).trans (kk b o n.1 n.2.1 n.2.2.1 n.2.2.2 q)
  have I1:Inv X OK Z H {s with heap:=h2,toks:=tk}:=I.turnedL k2' λb hb=>hf b (by
   dsimp[IP,IV,or_false]at hb|-;rcases hb with h|h|h|h<;>simp[h])
  have fz:eQ X OK H s.heap.objs.size:=I.fpOk (Iq _) (I.hok.fresh (Iq _));have hT2:h2.get? s.heap.objs.size=TH {cls:=.type "tuple",data:=.seq #[x',y']}:=(sb'.2 _ (J3 hzl)).trans hpr;have I2:Inv X OK Z (upd H s.heap.objs.size (.tup [x,y])) {s with heap:=h2,toks:=tk}:=I1.track fz (.inr I.sz) I.sz {by change 2<=sizeLine;decide,[x',y'],.cons ru1 (.cons ru2 .nil),{_,hT2,⟨Xr,Xr⟩,_,Xr}};show{.ref s.heap.objs.size,_,I2,Xr,{_,x,y,fz.1,Xr,Xr,λys' hy'=>by rw[I.seqK_inj hy' hq1];show hx,λys' hy'=>by rw[I.seqK_inj hy' hq2];show hy},{hz2,?_,{_,_,(sb'.2 TO a2).trans hTO1},st1.1.keep λo e=>(sb'.2 i1 a6).trans e,st2.1.keep λo e=>(sb'.2 i2 a7).trans e},λb hb=>?_};show(sb'.2 TI a1).trans (kk TI _ a1 a3 a4 a5 s2)
  .have hbo:∃o,s.heap.get? b*>o:=by
    dsimp[IP,IV,or_false]at hb;rcases hb with rfl|rfl|rfl|rfl|rfl;show{_,s1};show{_,s2};show{_,s3};have(o,e,_):=s4.get;show⟨o,e⟩;have(o,e,_):=s5.get;show⟨o,e⟩
   have(o,q):=hbo;rw[aZ (IA (Nr q))];show(hf b hb).1
 done:=by
  intro X hP hw hK hc i OK s Z H E I hf st hg;subst hP hw hK;have(xs,ys,hq1,hq2,hl):=hg;have(its1,rv1,p1):=I.seqK hq1;have(its2,rv2,p2):=I.seqK hq2;obtain⟨s1,s2,⟨a,c,s3⟩,s4,s5⟩:=st;have hh:X.A.in1.handled=TF:=I.ok.hd hc;have fin:∀h' tk,(∀c o,c≠z->c≠TO->c≠i1->c≠i2->s.heap.get? c*>o->h'.get? c*>o)->(TF:↑Nk)=TF/\Inv X OK Z H {s with heap:=h',toks:=tk}:=λh' tk kk=>
   {Xr,I.turnedL (fs:=[z,TO,i1,i2]) (λb o n q=>by
    dsimp[IP,IV,or_false,not_or]at n;show kk b o n.1 n.2.1 n.2.2.1 n.2.2.2 q) λb hb=>hf b (by
    dsimp[IP,IV,or_false]at hb|-;rcases hb with h|h|h|h<;>simp[h])}
  have l1':=rv1.length;have l2':=rv2.length;by_cases h1:xs.length<=i
  .have e1:its1.toArray[i]?=TF:=by simp;omega
   show i7 (vL (A:=X.A.in1) hh k1 i1 l1 its1.toArray i e1) (nE (A:=X.A.in1) hh k2 i2 l2 A.n2 its2.toArray) s1 s2 s3 ⟨Xr,s4,p1⟩ ⟨s5,p2⟩ (.inl rfl) A.ap A.f1 A.f2 fin
  .have h2:ys.length<=i:=by omega
   have e2:its2.toArray[i]?=TF:=by simp;omega
   have hn1:i<its1.toArray.size:=by rw[Ij];omega
   show i7 (nE (A:=X.A.in1) hh k1 i1 l1 A.n1 its1.toArray) (vL (A:=X.A.in1) hh k2 i2 l2 its2.toArray i e2) s1 s2 s3 ⟨s4,p1⟩ ⟨Xr,s5,p2⟩ (.inr ⟨hn1,Xr⟩) A.ap A.f1 A.f2 fin
 self:=λ_ _ _ _ _ st h=>R8 st.1 h
abbrev Fz(K:yF)(g:TA):TI:=λZ H R=>g Z H λvs c=>∃e f a d i h,vs=[.ref a,.ref d]/\SqK K c e a i/\SqK K c f d h/\R (Itz K e f a d) c
def D7{X:Cx}{a b:Expr}{U:TA}{elts:!Expr}{k0:Nat}{p pos pt:Pos}(hg:Gl X "zip")(hm:X.mg "zip" = TF)(ha:PA X [a,b] U)(v:bo [a,b]=TK):PI X (.Tuple elts k0 pt) (.Call (.Name "zip" p) [a,b] [] pos) (Fz X.K U):=by
 intro OK s Z H R I h;have t:ce a=TJ:=by
  cases q:ce a with
  | true=>rw[bo,q]at v;cases v
  | false=>rfl
 have A:ce b=TJ:=by
  cases q:ce b with
  | true=>rw[bo,t,bo,q]at v;cases v
  | false=>rfl
 show Call_ (iz I hg hm boot_zip (Jz (thn (ha pos OK s Z H _ I h) λus f ⟨vs,H1,m,r1,q1⟩=>?_) (bp t) (by rw[bp A];rfl)));obtain⟨k1,k2,l1,l2,xs,ys,e,E,w,q⟩:=q1;subst e;have(u,u',rfl,ru,J):=qc r1;cases ru;cases J;have(S,rv1,O):=m.seqK E;have(Q,rv2,M):=m.seqK w;have j:l1<f.heap.objs.size:=by have(o,e):=O.get;show Nr e
 have l:l2<f.heap.objs.size:=by have(o,e):=M.get;show Nr e
 show t7 O M λh1 L y G B x hsz kk=>?_;show R8 L ?_;have i:∀c:Nat,f.heap.objs.size+c≠l1:=λc=>J3 (IB j (Jt _ c));have g:∀c:Nat,f.heap.objs.size+c≠l2:=λc=>J3 (IB l (Jt _ c));have N:∀{c d:Nat},c≠d->f.heap.objs.size+c≠f.heap.objs.size+d:=λh z=>h (Nat.add_left_cancel z);show{f.heap.objs.size+4,[f.heap.objs.size+4,f.heap.objs.size+2,f.heap.objs.size+3,f.heap.objs.size,f.heap.objs.size+1],_,_,H1,Xr,m.kept (t':=f.toks) λb o e=>kk b o e,yx k1 k2 {?_,?_,?_,?_,?_},{L,y,{_,_,G},B,x},λb Y=>?_,q};show{?_,?_,?_,?_,?_,?_,?_,?_,?_,?_}<;>first|show i _|show g _|show i 0|show g 0|show IA j|show IA l|show λz=>absurd (show(_:Nat)=_ from z) ⋯
 .dsimp[IP,IV,or_false,not_or];show{{?_,?_},{?_,?_},?_,?_}<;>first|show i _|show g _|show i 0|show g 0|show IA j|show IA l|show λz=>absurd (show(_:Nat)=_ from z) ⋯
 .dsimp[IP,IV,or_false,not_or];show{{?_,?_},{?_,?_},?_,?_}<;>first|show i _|show g _|show i 0|show g 0|show IA j|show IA l|show λz=>absurd (show(_:Nat)=_ from z) ⋯
 .first|show i _|show g _|show i 0|show g 0|show IA j|show IA l|show λz=>absurd (show(_:Nat)=_ from z) ⋯
 .first|show NA (g 1)|show i _|show g _|show i 0|show g 0|show IA j|show IA l|show λz=>absurd (show(_:Nat)=_ from z) ⋯
 .have r:f.heap.objs.size<=b:=by
   dsimp[IP,IV,or_false]at Y;rcases Y with rfl|rfl|rfl|rfl|rfl<;>first|show Iq _|show Jt _ _
  show m.fpOk r (m.hok.fresh r)
abbrev lK:T->↑(Bool×!I)
 | .im (.tup a)=>TH (TJ,a)
 | .li a=>TH (TK,a)
 | _=>TF
abbrev oN(is js:!I):!R:=(is.zip js).map λp=>{.ow,.im (.tup [p.1,p.2])}
private def l0(a:MA):MI:={λO=>match a.run O with
 | some ([c,d],f)=>(match lK c.t,lK d.t with
  | some (_,g),TH (_,e)=>TH (([c,d],oN g e),f)
  | _,_=>TF)
 | _=>TF,a.mu}
def kz{K:yF}{H:Hp}{kd:Bool}{is:!I}{v:V}:∀{t:T},Rpx K H t v->lK t*>(kd,is)->∃a xs,v=.ref a/\SqK K H kd a xs/\p7 K H is xs
 | .im (.tup _),r,e=>by cases e;show bT r
 | .li _,r,e=>by cases e;have(a,xs,d,c,f):=bS r;show{a,xs,d,.inl c,f}
 | .im .non,_,e=>by cases e
 | .im (.bl _),_,e=>by cases e
 | .im (.int _),_,e=>by cases e
 | .im (.str _),_,e=>by cases e
 | .im (.ls _),_,e=>by cases e
 | .im (.fd _ _),_,e=>by cases e
 | .im (.exn _ _ _),_,e=>by cases e
 | .tup _,_,e=>by cases e
 | .lst _,_,e=>by cases e
 | .di _,_,e=>by cases e
 | .dc _,_,e=>by cases e
 | .dq _,_,e=>by cases e
 | .ins _ _,_,e=>by cases e
def Fd{f:Gm}{M N:Bool}{h c:Addr}{d j:R}{is js:!I}(U:lK d.t*>(M,is))(e2:lK j.t*>(N,js)):fN f (Itz f.K M N h c) [.ref h,.ref c] [d,j] (oN is js):=λH O Z E S=>by
 replace S:Sim f H O Z ({TF,.ref h,d}::{TF,.ref c,j}::E):=S;have X:Rpx f.K H d.t (.ref h):=S.rd (e:={TF,.ref h,d}) ymS;have R2:Rpx f.K H j.t (.ref c):=S.rd (e:={TF,.ref c,j}) (ymC _ ymS);have(b1,l,z,s,Q):=kz X U;cases z;have(b2,o,z,v,G):=kz R2 e2;cases z;show{λi L=>{l,o,s,v,?_},λi r hr=>?_}
 .rw[Q.length,G.length];unfold oN at L;rw[Ih,KO]at L;omega
 .have(p,hp,rfl):=aA hr;have(A,u):=JT.mp hp;have(w1,a,m):=Q.get A;have(Y,g,q):=G.get u;show{⟨l,o,w1,Y,s,v,a,g⟩,λx H' y=>?_};have(pp,x',y',w,rfl,rfl,hx,hy):=y;have B:=hx l s;rw[a]at B;cases B;have J:=hy o v;rw[g]at J;cases J;show S.fresh (New.tup w (.cons m (.cons q (by rw[p7]))))
def A9{K:yF}{x:TA}{a:MA}(M:gq K x a):kF K (Fz K x) (l0 a):=by
 intro c H O Z E Rr s h X m f S q;dsimp[l0]at f q;ext f i j O1 A;ext f N Y U js z p;cases f;show M c H O Z E _ _ _ m A S λvs d g o=>?_;obtain⟨v1,v2,rfl⟩:∃v1 v2,vs=[v1,v2]:=by
  cases vs with
  | nil=>cases g
  | cons v r=>cases r with
   | nil=>cases g
   | cons w r=>cases r with
    | nil=>show⟨v,w,Xr⟩
    | cons _ _=>cases g
 have y:Sim c d X Z (⟨TF,v1,i⟩::⟨TF,v2,j⟩::ah a.mu E):=o;have G:Rpx c.K d i.t v1:=y.rd (e:=⟨TF,v1,i⟩) ymS;have R2:Rpx c.K d j.t v2:=y.rd (e:=⟨TF,v2,j⟩) (ymC _ ymS);have(u,B,rfl,L,g2):=kz G z;have(l,J,rfl,Q,h2):=kz R2 p;subst m;show{N,U,u,l,B,J,Xr,L,Q,q c rfl (λ_ _ _ _ S=>S) _ [.ref u,.ref l] d rfl o (Fd z p)}
section
variable {ι : Type}{C:ι->Cx}{P:Nv}{W:NB}{K:yF}{mg:Str->↑Nk}{base:Heap}{k:Nat}{a b:Expr}{ms:MA}{pos:Pos}
def Er(c:CK C P W K mg base k)(T:Bi mg)(d:QA C K [a,b] ms)(e:∀i,Gl (C i) "zip" :=by intro _;rfl):QI C K (.Tuple elts k0 pt) (.Call (.Name "zip" p) [a,b] [] pos) (l0 ms):=by
 have(f,q,n,r):=d;show{_,λi=>by have:=D7 (X:=C i) (elts:=elts) (k0:=k0) (p:=p) (pos:=pos) (pt:=pt) (e i) (by rw[c.mg i];show T.b_zip) (q i) n;rw[c.kk i]at this;show this,A9 r}
end
def yU(h:WA ms O λrs e=>∃a c d f is js,rs=[a,c]/\lK a.t*>(d,is)/\lK c.t*>(f,js)/\QI' [a,c] (oN is js) e):WI (l0 ms) O QI':=by
 obtain⟨rs,e,g,a,c,d,f,is,js,rfl,i,j,q⟩:=h;show{_,_,_,by dsimp[l0,g,i,j],q}
private def uv(n:Nat):ME:={λO=>match O[n]? with
 | some (⇑t)=>TH ({.ow,t},(ar [n] O).set n TF)
 | _=>TF,[n]}
def AW{K:yF}{n:Nat}:be K (vj n) (uv n):=by
 intro g H O Z E Q r j h a S q;dsimp[uv]at a q;ext a t c;cases a;have(v,f,e):=S.var c;show{v,f,q v H ?_};cases t with
 | im i=>
  have d:=e.fgt n;rw[ax (show aB [n] {TF,v,rdR n {.ow,.im i}}=TK from rfl)]at d;show d
 | _=>show e.move c
def Gp(n:Nat){ι : Type}{C:ι->Cx}{K:yF}{x:Str}{pos:Pos}(e:∀i,(C i).N[n]?*>x:=by intro _;rfl)(d:∀i,Vis (C i).env.scope x:=by first|show λ_=>PV rfl|show λ_=>OT (PV rfl)|show λ_=>OT (OT rfl))(c:(x==("__debug__" : Str))=TJ:=by decide)(a:(x==("__classdict__" : Str))=TJ:=by decide):QE C K (.Name x pos) (uv n):={_,λi=>lq (e i) (d i) c a,AW}
def Hc(h : O[n]?*>(⇑t))(q:QE' {.ow,t} ((ar [n] O).set n TF)):WE (uv n) O QE':={{.ow,t},_,by dsimp[uv,h],q}
section
variable {S α:Type}{O:Rho}{m:ME}{ms:MA}{g:MG}{s1:MS}{QE':R->Rho->Prop}{Q:Fl->Rho->Prop}{fr:! ↑Nat}
def qd(st:S->Rho)(emb : α->I)(P:Nat->S->!α->Prop) (h:WA ms O λrs c=>∃d f w B is js,rs=[d,f]/\lK d.t*>(w,is)/\lK f.t*>(B,js)/\min is.length js.length<sizeLine/\(dO fr c.length&&dM (g.mu++([]++m.mu)) fr.length&&[d,f].all (aC (muF fr (g.mu++([]++m.mu)))))=TK/\∃i,c=st i/\P 0 i [] /\
  (∀(j:Nat) x y s l,is[j]?*>x->js[j]?*>y->P j s l->WG g {.ow,.im (.tup [x,y])} (inR fr (st s)) λc=>WE m c λr G=>∃x o,r={.ow,.im (emb x)}/\ci fr (g.mu++([]++m.mu)) G (st s)=st o/\P (j+1) o (l++[x])) /\
  ∀s l,P (min is.length js.length) s l->QE' {.ow,.li (l.map emb)} (st s)):WE (aM fr (l0 ms) g mYes m) O QE':=by unhygienic
 obtain⟨rs,c,L,d,f,w,B,is,js,rfl,Z,M,H,U,i,rfl,Y,J,X⟩:=h;show lP (yU {_,_,L,d,f,w,B,is,js,Xr,Z,M,U,by unfold oN;rw[Ih,KO];show H,λj a O=>∃s l,a=l.map (λx=>T.im (emb x))/\O=st s/\P j s l,{i,[],Xr,Xr,Y},?_,?_})
 .rintro j r a O hj ⟨s,l,rfl,rfl,A⟩;have(p,hp,rfl):=aA hj;have(E,v):=JT.mp hp;show WG.mono (J j p.1 p.2 s l E v A) λc q=>jR {λ_=>q.mono λr G ⟨x,o,e,N,u⟩=>{_,e,o,l++[x],by simp,N,u},λz=>by cases z}
 .rintro a O ⟨s,l,rfl,rfl,A⟩;rw[dZ];show X s l ?_;have:(oN is js).length=min is.length js.length:=by unfold oN;rw[Ih,KO]
  rw[<-this];show A
def Bn(st:S->Rho)(P:Nat->S->Prop) (h:WA ms O λrs c=>∃a d o u is js,rs=[a,d]/\lK a.t*>(o,is)/\lK d.t*>(u,js)/\[a,d].all (aC (g.mu++s1.mu))=TK/\∃e,c=st e/\P 0 e /\
  (∀(j:Nat) x y s,is[j]?*>x->js[j]?*>y->P j s->WG g {.ow,.im (.tup [x,y])} (st s) λc=>WS s1 c (fFs st (P (j+1)) Q)) /\
  ∀s,P (min is.length js.length) s->Q .nx (st s)):WS (bY (l0 ms) g s1) O Q:=by
 obtain⟨rs,c,A,a,d,o,u,is,js,rfl,L,B,E,e,rfl,J,w,G⟩:=h;have z:(oN is js).length=min is.length js.length:=by unfold oN;rw[Ih,KO]
 show tU (yU {_,_,A,a,d,o,u,is,js,Xr,L,B,?_,λj O=>∃s,O=st s/\P j s,⟨e,Xr,J⟩,?_,?_})
 .rw[Il];show{E,j9 λr H=>by have(x,_,rfl):=Is.mp H;rfl}
 .rintro j r O M ⟨s,rfl,i⟩;have(p,N,rfl):=aA M;have(v,l):=JT.mp N;show(w j p.1 p.2 s v l i).mono λc q=>q.mono λf U q=>kf q
 .rintro O ⟨s,rfl,i⟩;rw[z]at i;show G s i
end
def wD(h:tyN t*>n)(a:ns.any (o8 n)=b)(q:QT1 (.im (.bl b))):W1 (qL ns t) QT1:=FZ h (by rw[a];show q)
end L2
namespace L2
open PySem
noncomputable section
end
end L2
namespace L2
open PySem PySem.Spec PyProof.Rows
section
variable {κ : Type}[DecidableEq κ]
abbrev oI(kvs:!(κ×V)) (k : κ):↑V:=(kvs.find? λa=>decide (a.1=k)).map (·.2)
def qb{p : κ×V}{r:!(κ×V)}{k : κ}(e:p.1=k):oI (p::r) k*>p.2:=by simp[oI,Kq,e]
def qa{p : κ×V}{r:!(κ×V)}{k : κ}(e:¬ p.1=k):oI (p::r) k=oI r k:=by simp[oI,Kq,e]
def KV.val{kvs:!(κ×V)}{vs:!(κ×Nk)}(r:KV kvs vs)(k : κ):RelO (oI kvs k) (Re vs k):=by
 unfold KV at r
 induction r with
 | nil=>show ON
 | @cons p q i c h t f=>
  have(d,g):=h;by_cases e:p.1=k
  .have a:q.1=k:=d.symm.trans e;have b:Re (q::c) k*>q.2:=by simp[Re,Kq,a]
   rw[qb e,b];show g
  .have a:¬ q.1=k:=λz=>e (d.trans z);have b:Re (q::c) k=Re c k:=by simp[Re,Kq,a]
   rw[qa e,b];show f
end
def sN{P:Nv}{w:NB}{k:Key}{u:Nk}(r:RelV (kV k) u):(bf P w).is k u=TK:=by
 cases k with
 | inl i=>have(t,e):=(show∃t,u=RW i t from r);subst e;show pv P w i t
 | inr x=>have(t,e):=(show∃t,u=RX x t from r);subst e;show pw P w x t
section
variable {P:Nv}{w:NB}{H:Hp}{h:Heap}{a:Addr}
def GJ{u:HO}(c:HOk P w H h)(e:Rd H a u):ML P w H h a u:=e.ok c
def BE{kvs:!(Key×V)}(c:HOk P w H h)(e:Rd H a (.dK kvs)):kvs.length<=sizeLine/\(a==N6)=TJ/\∃vs,KV kvs vs/\h.DictOf (bf P w) a vs:=
 show ML P w H h a (.dK kvs)from GJ c e
end
abbrev Na(H:Hp)(a:Addr)(y:V)(r:↑V):Prop:=∃c k,Rd H a (.dK c)/\y=kV k/\r=oI c k
def Na.k{H:Hp}{a:Addr}{kvs:!(Key×V)}{k:Key}(e:H a*>(.dK kvs)):Na H a (kV k) (oI kvs k):={kvs,k,.inl e,Xr,Xr}
section
variable {X:Cx}{OK:!(Addr×Obj)}{Z:St}{H:Hp}{s:Nm}{a:Addr}{y v:V}{u r:Nk}{o:↑V}{A:NM}{E:Nk->Nm->Prop}
def Inv.big(I:Inv X OK Z H s):N6<s.heap.objs.size:=by
 have h:NZ<s.heap.objs.size:=(I.mod.glob.keeps I.bk).lt;show Li (by decide) h
def ua{Q:Nk->Nm->Prop}(B:A.units+1<NN)(I:Inv X OK Z H s)(g:Na H a y (TH v))(p:RelV y u)(h:∀c i,Inv X OK Z H i->RelV v c->Q c i) :
  Np (Nu X.prog X.w) A (Pz (.ref a) u) Q E s:=by
 have(q,k,e,m,l):=g;subst m;have(z,x,vs,d,t):=BE I.hok e;have(c,j,f):=RelO.some_of (v:=v) (o:=Re vs k) (by rw[l];show d.val k);show wpAny_getItem_of (sN p) t.mapOf j (h c _ (I.tok _) f)
end
abbrev vB(i:Expr):Prop:=∀c a,QX i TJ c a=operate [c,a] (Pz c a)
def tI{prog:Nv}{w:NB}{A:NM}{E:Nk->Nm->Prop}{s:Nm}{env:Env}{a slice:Expr}{pos:Pos}{T id:String}{Q:Nk->Nm->Prop}
  (p:Rx (.type T) "__getitem__" = pure (TH (.builtin id))) (hs:vB slice)
  (h:Np (Nu prog w) A (eval a env) (λo e=>Np (Nu prog w) A (eval slice env) (λi c=>c.TypeIs o T/\Np (Nu prog w) A (Pz o i) Q E c) E e) E s) :
  Np (Nu prog w) A (eval (.Subscript a slice pos) env) Q E s:=by
 show Ry (NR h (λo e j=>NR j (λi c d=>?_) λ_ _ x=>x) λ_ _ x=>x);obtain⟨m,d⟩:=d;unfold Qf;show Nj ?_;rw[getitemInPython_of_ne m.not_modules];show Nj (Oq m p ?_);have g:Np (Nu prog w) A (QX slice TJ o i) (λr f=>Np (Nu prog w) A (letTemporaryGo a o r >>= λ_=>pure r) Q E f) E c:=by
  rw[hs o i];show wpAny_operating (NR d (λr f l=>Nj (wpAny_letTemporaryGo (Nl l))) λ_ _ x=>x)
 first
  | show Nl (Nj g)
  | show Nj (Nl (Nj g))
  | show Nj g
def oT{X:Cx}{c:!(Addr×Obj)}{Z:St}{H:Hp}{s:Nm}{a:Addr}{y:V}{o:↑V}(I:Inv X c Z H s)(g:Na H a y o):s.TypeIs (.ref a) "dict" :=by
 have(d,k,e,_,_):=g;have(_,_,vs,_,f):=BE I.hok e;show f.typeIs
abbrev GP(d f:TE):TE:=λZ H Q=>d Z H λx e=>f Z e λy c=>∃a v,x=.ref a/\Na c a y (TH v)/\Q v c
section
variable {X:Cx}{o i e value:Expr}{pos pos' tpos:Pos}{td ty tv:TE}
def Ag(t:X.A.units+1<NN)(ho:PE X o td)(J:PE X i ty)(hs:vB i):PE X (.Subscript o i pos) (GP td ty):=by
 intro f s Z H Q I h;show tI PySem.F.slot_dict_getitem.lookup hs (thn (ho f s Z H _ I h) λu G c=>?_);have(x,p,w,m,r):=c;show thn (J f G Z p _ w r) λN O c=>?_;have(y,l,j,q,a,v,E,g,z):=c;subst E;obtain rfl:u=Nx a:=m;show{oT j g,ua t j g q λM L B d=>⟨v,l,B,d,z⟩}
end
def lX:Rx (.type "tuple") "keys" = pure TF:=Sm (by decide +kernel)
def nQ:Rx (.type "list") "keys" = pure TF:=Sm (by decide +kernel)
section
variable {prog:Nv}{w:NB}{A:NM}{E:Nk->Nm->Prop}{s:Nm}
def j7(r:s.heap.get? a*>o)(l:o.cls=.type "tuple" /\ o.dict=TF)(f:o.data=.seq xs k)(y:A.handled=TF)
  (h:∀h' u,(∀b q,s.heap.get? b*>q->h'.get? b*>q)->Q TF {s with heap:=h',toks:=u}):Np (Nu prog w) A (SN (.ref a) "keys") Q E s:=by
 have(c,x,B,v):=o;obtain⟨l,m⟩:=l;simp only at l f m;subst l f m;have(z,g,d,u,os):=s;have t:∀i,(⟨z,g,d,i,os⟩:Nm).TypeIs (.ref a) "tuple" :=λ_=>{_,r,Xr};have O:=RC;have L:=OR.lookup;have G:=OR.bind (.ref a);have H:=am_tuple_getattr_none;unfold SN getAttrBy? getAttrBy;repeat (any_goals (first|assumption|show t _|((with_reducible change Np _ _ (call (Po "tuple.__getattribute__") _ _) _ _ _);show N4 OR (t _) am_entry_tuple_getattribute (F.args_tuple_getattribute_2 _ _) (meets_getattribute_miss_tuple a xs k v (ND "keys") _ lX (by decide +kernel)) ⟨r,y,λh' i e j=>?_⟩)|wp_step))
 have(N,M,J):=j.there;change Np _ _ (O6 _ _ _ _ _ _ _) _ _ _;unfold O6;repeat (any_goals (first|assumption|wp_step))
 all_goals (try show h _ _ j.keeps)
def k6(r:s.heap.get? a*>o)(l:o.cls=.type "list" /\ o.dict=TF)(f:o.data=.seq xs k)(y:A.handled=TF)
  (h:∀h' u,(∀b q,s.heap.get? b*>q->h'.get? b*>q)->Q TF {s with heap:=h',toks:=u}):Np (Nu prog w) A (SN (.ref a) "keys") Q E s:=by
 have(c,x,B,v):=o;obtain⟨l,m⟩:=l;simp only at l f m;subst l f m;have(z,g,d,u,os):=s;have t:∀i,(⟨z,g,d,i,os⟩:Nm).TypeIs (.ref a) "list" :=λ_=>{_,r,Xr};have O:=RC;have L:=OV.lookup;have G:=OV.bind (.ref a);have H:=am_list_getattr_none;unfold SN getAttrBy? getAttrBy;repeat (any_goals (first|assumption|show t _|((with_reducible change Np _ _ (call (Po "list.__getattribute__") _ _) _ _ _);show N4 OV (t _) am_entry_list_getattribute (F.args_list_getattribute_2 _ _) (meets_getattribute_miss_list a xs k v (ND "keys") _ nQ (by decide +kernel)) ⟨r,y,λh' i e j=>?_⟩)|wp_step))
 have(N,M,J):=j.there;change Np _ _ (O6 _ _ _ _ _ _ _) _ _ _;unfold O6;repeat (any_goals (first|assumption|wp_step))
 all_goals (try show h _ _ j.keeps)
end
def eS:entryFor table "dict.update.loop" = TH Nq.«dict.update.loop»:=entryFor_of_tree (by rfl')
def eW:plainId "dict.update.loop" = TK:=by decide +kernel
abbrev ItK(kd:Bool)(h:Heap)(it l:Addr)(k:Nat):Prop:=match kd with|true=>h.IsListIter it l k|false=>h.IsTupleIter it l k
abbrev SeK(kd:Bool)(h:Heap)(l:Addr)(els:Array Nk):Prop:=match kd with|true=>h.IsList l els|false=>h.IsTuple l els
abbrev sto(a:!(Key×Nk)) (kvs:!(Key×Nk)):!(Key×Nk):=a.foldl (λd p=>RD d p.1 p.2) kvs
def rT{kvs:!(Key×Nk)}{k:Key}{v:Nk}:(RD kvs k v).length<=kvs.length+1:=by
 unfold RD;split;rw[Ih];omega;simp
section
variable {prog:Nv}{w:NB}
protected def KpG(G:Heap)(d it:Addr)(h:Heap):Prop:=∀b o,b≠d->b≠it->G.get? b*>o->h.get? b*>o
structure DUp(prog:Nv)(w:NB)(U:Prop)(G:Heap)(d it:Addr)(Ob : β->Obj->Prop)(len : β->Nat)(stp : β->γ->β)(Pr : γ->Nk->Nk->Prop):Prop where
 set:∀{A:NM} {E:Nk->Nm->Prop} {Q:Unit->Nm->Prop} {s:Nm} {st o p key val},(U->A.units+1<NN)->KpG G d it s.heap->Pr p key val->s.heap.get? d*>o->Ob st o->len st<sizeLine->(∀h' o' tk,Nw d s.heap h'->h'.get? d*>o'->Ob (stp st p) o'->Q () {s with heap:=h',toks:=tk})->Np (Nu prog w) A (RT d key val) Q E s
 len:∀st p,len (stp st p)<=len st+1
abbrev PrG(Pr : γ->Nk->Nk->Prop)(G:Heap)(d it:Addr)(x:Nk)(p : γ):Prop:=∃q c a,x=.ref q/\q≠d/\q≠it/\Pr p c a/\∃o n,G.get? q*>o/\o.cls=.type "tuple" /\ o.data=.seq #[c,a] n
def yC{Ob : β->Obj->Prop}{len : β->Nat}{stp : β->γ->β}{Pr : γ->Nk->Nk->Prop}{kd:Bool}{d it l:Addr}{els:!Nk}{G:Heap}{R:R3->Nm->Prop}{Rm:Prop}(U:DUp prog w Rm G d it Ob len stp Pr)(n1:d≠it)(n2:d≠l)(n3:it≠l)(hl:SeK kd G l els.toArray) :
  ∀(m:Nat) {A:NM} (i:Nat) (ps:!γ) (st : β) (o:Obj) (s:Nm),A.handled=TF->(Rm->A.in1.units+1<NN)->m+i=els.length->Paired (PrG Pr G d it) (els.drop i) ps->ItK kd s.heap it l i->s.heap.get? d*>o->Ob st o->len st+m<=sizeLine->KpG G d it s.heap ->
   (∀h' o' Z,KpG G d it h'->h'.get? d*>o'->Ob (ps.foldl stp st) o'->R (.ok (.ret .none)) {s with heap:=h',toks:=Z}) ->
   OD (Nu prog w) A (.builtin "dict.update.loop" {[.ref d,.ref it,OS i,.none],[]}) R s:=by
 intro m
 induction m with
 | zero=>
  intro A i ps st o s hA hu hm X t hd ho hz z q;rw[IZ]at hm;subst hm;rw[KB]at X;cases X;show Sn eS ?_;rw[Q3 eW _];change Np _ _ (Pa (.ref it) >>= _) _ _ _;have y:∀h',Qa it s.heap h'->R (.ok (.ret .none)) {s with heap:=h'}:=λh' J=>
   q h' o s.toks (λb o j g e=>J b o g (z b o j g e)) (J d o n1 hd) ho
  cases kd with
  | true=>
   have(H,r,u):=hl;show Nj (QK hA t {H,z _ _ (NA n2) (NA n3) r,u} ∅ λh' J=>Nj (Nl (Nl (y h' J))))
  | false=>
   have(H,r,u):=hl;show Nj (Qr hA t {H,z _ _ (NA n2) (NA n3) r,u} ∅ λh' J=>Nj (Nl (Nl (y h' J))))
 | succ m ih=>
  intro A i ps st od s hA hu hm X t hd hob hz z q;have hi:i<els.length:=by omega
  rw[JC hi]at X;cases X with
  | @cons x p _ ps' hx hp'=>
  obtain⟨a,S,val,ex,na1,na2,Q,o,n,ho,hc,hdat⟩:=hx;have Y:els[i]?*>(.ref a):=by rw[II hi,ex]
  show Sn eS ?_;rw[Q3 eW _];change Np _ _ (Pa (.ref it) >>= _) _ _ _;have go:∀h',ItK kd h' it l (i+1)->Nw it s.heap h'->Np (Nu prog w) A.in1 (N8 [Nx a] (do
    let L <-(Qw (.ref a)).tryCatch λe=>do
     if  ~~~(<-RE e (.type "TypeError"))then throw e
     rule "dict.update.element-no-sequence"
     raiseError "TypeError" s!"cannot convert dictionary update sequence element #{(i : Int)} to a sequence"
    match L with
    | [k,v]=>N8 [k,v] (RT d k v)
    | l=>
     rule "dict.update.element-length"
     raiseError "ValueError" s!"dictionary update sequence element #{(i : Int)} has length {l.length}; 2 is required") >>= λ_=>again (.builtin "dict.update.loop" {[.ref d,.ref it,OS ((i:Int)+1),.none],[]}))
    (λy s'=>match y with|.done f=>R (.ok f) s'|.again c'=>c'.quiet=TK/\OD (Nu prog w) A c' R s') (λe s'=>R (.error e) s') {s with heap:=h'}:=λh' c B=>by
   have M:h'.get? a*>o:=(B.2 a na2).trans (z a o na1 na2 ho);show Nj (NI (Nj (wpAny_tryCatch ?_)));unfold Qw;show Nj (OE (T:="tuple") ⟨o,M,hc⟩ ?_);rw[if_pos (by rfl)];show Nj (NX M hdat (Nl ?_));change Np _ _ (N8 [S,val] (RT d S val)) _ _ _;show NI (U.set (A:=A.in1) (s:={s with heap:=h'}) hu (λb o j g e=>(B.2 b g).trans (z b o j g e)) Q ((B.2 d n1).trans hd) hob ⋯ λh2 o2 Z E hd2 O=>?_);show Nl {PX _ (by decide +kernel),?_};have N:ItK kd h2 it l (i+1):=by
    cases kd with
    | true=>have(oi,r,u):=c;show{oi,(E.2 it (NA n1)).trans r,u}
    | false=>have(oi,r,u):=c;show{oi,(E.2 it (NA n1)).trans r,u}
   have:=ih (A:=A) (i+1) ps' _ o2 {s with heap:=h2,toks:=Z} hA hu ⋯ hp' N hd2 O (by have:=U.len st p;omega) (λb ob j g e=>(E.2 b j).trans ((B.2 b g).trans (z b ob j g e))) λh3 o3 Z k3 d3 e3=>q h3 o3 Z k3 d3 e3;show this
  cases kd with
  | true=>
   have(H,r,u):=hl;show Nj (Qq t {H,z _ _ (NA n2) (NA n3) r,u} (x:=.ref a) (by exists Y) λh' c B=>go h' c B)
  | false=>
   have(H,r,u):=hl;show Nj (Qk t {H,z _ _ (NA n2) (NA n3) r,u} (x:=.ref a) (by exists Y) λh' c B=>go h' c B)
end
def mY:∀(a kvs:!(Key×Nk)),((kvs++a).map (·.1)).Nodup->sto a kvs=kvs++a
 | [],kvs,_=>by simp[sto]
 | p::a,kvs,h=>by
  have f:kvs.any (λc=>decide (c.1=p.1))=TJ:=by
   rw[List.any_eq_false];intro c d;rw[Iu,Im]at h;have:=h.2.2 c.1 (Is.mpr ⟨c,d,Xr⟩) p.1 ∅;exists this
  have e:RD kvs p.1 p.2=kvs++[p]:=by unfold RD;rw[f];rfl
  have:=mY a (kvs++[p]) (by rw[IC];show h);rw[show sto (p::a) kvs=sto a (RD kvs p.1 p.2)from rfl,e,this,IC];rfl
section
variable {X:Cx}{OK:!(Addr×Obj)}{Z:St}{H:Hp}{s:Nm}{a:Addr}{xs:!V}
def Inv.tupleN(I:Inv X OK Z H s)(h:SqT X.K H a xs):∃c:!Nk,Vals xs c/\MX s.heap a c.toArray/\xs.length<=sizeLine:=by
 rcases h with h|⟨o,c,n,g,f,d,i,r⟩
 .have(z,c,r,p):=h.ok I.hok;show⟨c,r,p,z⟩
 .show{c.toList,r,{o,I.kIn a o g,f,n,by simpa using d},?_};have e:=r.length;dsimp[Jf]at e;omega
end
abbrev PrV(K:yF)(H:Hp)(y:V)(q:Key×V):Prop:=∃t,y=.ref t/\SqT K H t [kV q.1,q.2]
abbrev tu(K:yF):!V->Hp->VK->Prop:=λd H Q=>∃p a c,d=[.ref p]/\(SqL K H p a\/SqT K H p a)/\Paired (PrV K H) a c/\(c.map (·.1)).Nodup/\∀l,H l=TF->Q (.ref l) (upd H l (.dK c))
abbrev obK(prog:Nv)(w:NB)(kvs:!(Key×Nk))(o:Obj):Prop:=∀(h:Heap) d,h.get? d*>o->h.DictOf (bf prog w) d kvs
abbrev prK(prog:Nv)(w:NB)(p:Key×Nk)(key a:Nk):Prop:=(bf prog w).is p.1 key=TK/\a=p.2
def HG{prog:Nv}{w:NB}{G:Heap}{d it:Addr}:DUp prog w False G d it (obK prog w) JL (λkvs p=>RD kvs p.1 p.2) (prK prog w):=by
 show{λ{A E Q s st o p m l} L _ y f u h q=>?_,λ_ _=>rT};have(j,a):=y;subst a;show wpAny_dictSet_pairs (hsz:=JH h) j (u _ _ f) λx t B=>?_;have(c,r,v,H,z,i,g):=t;show q x c _ B H λa J e=>⟨c,r,v,e,z,i,g⟩
section
variable {X:Cx}{OK:!(Addr×Obj)}{Z:St}{H:Hp}{s:Nm}
def Ea(I:Inv X OK Z H s):∀{ys:!V} {i:!(Key×V)} {f:!Nk},Paired (PrV X.K H) ys i->Vals ys f ->
  ∃c:!(Key×Nk),(∀{G:Heap} {d it:Addr},(∀b o,s.heap.get? b*>o->G.get? b*>o)->s.heap.objs.size<=d->s.heap.objs.size<=it->Paired (PrG (prK X.prog X.w) G d it) f c)/\KV i c
 :=by
 intro ys i f x a
 induction x generalizing f with
 | nil=>cases a;show{[],λ_ _ _=>.nil,.nil}
 | @cons y p _ _ h x z=>
   cases a with
   | @cons _ u _ _ r a=>
  have(c,L,A):=z a;have(t,e,h):=h;subst e;have E:u=Nx t:=r;obtain⟨B,g,⟨o,m,N,n,J⟩,_⟩:=I.tupleN h;cases g with
  | cons g j=>cases j with
   | cons j M=>
    cases M;have lt:=Nr m;show{(p.1,_)::c,λq l v=>.cons {t,_,_,E,IA (IB lt l),IA (IB lt v),{sN g,Xr},o,n,q _ _ m,N.1,J} (L q l v),.cons ⟨Xr,j⟩ A}
def C6{c:!(Key×V)}{a:!(Key×Nk)}(h:KV c a):c.map (·.1)=a.map (·.1):=by
 induction h with
 | nil=>rfl
 | cons h _ d=>rw[Io,Io,h.1,d]
def mw{Rm:Prop}{Ob:Heap->Addr->Addr->β->Obj->Prop}{N : β->Nat}{S : β->γ->β}{Pr:Heap->Addr->Addr->γ->Nk->Nk->Prop}{st0 : β}{ho:HO}{OK:!(Addr×Obj)}{s:Nm}{Z:St}{H:Hp}{p:Addr}{ys:!V}{Q:VK}(hc:X.calm=TK)(hu:Rm->X.A.units+64<NN)(I:Inv X OK Z H s)(M:SqL X.K H p ys\/SqT X.K H p ys)
  (U:∀{G:Heap} {d it:Addr},DUp X.prog X.w Rm G d it (Ob G d it) N S (Pr G d it)) (h0:∀G d it,Ob G d it st0 {cls:=.type "dict",data:=.dict #[]}) (hl0:N st0=0)
  (hps:∀{els:!Nk},Vals ys els->∃ps:!γ,(∀{G:Heap} {d it:Addr},(∀b o,s.heap.get? b*>o->G.get? b*>o)->s.heap.objs.size<=d->s.heap.objs.size<=it->Paired (PrG (Pr G d it) G d it) els ps)/\∀{Hx:Hp} {G h:Heap} {d it:Addr} {o:Obj},(d==N6)=TJ->h.get? d*>o->Ob G d it (ps.foldl S st0) o->ML X.prog X.w Hx h d ho)
  (q:∀l,H l=TF->Q (.ref l) (upd H l ho)):Np (Nu X.prog X.w) X.A (call (.type "dict") [.ref p]) (EP X OK Z Q) X.xe s:=by
 have hA:=I.ok.hd hc;have src:∃(v:Bool) (els:!Nk) (o:Obj) (n:Nat),s.heap.get? p*>o/\(o.cls=.type (if v then "list" else "tuple")/\o.dict=TF)/\o.data=.seq els.toArray n/\Vals ys els/\ys.length<=sizeLine:=by
  rcases M with M|M
  .obtain⟨B,r',⟨o,n,f,i,m,e4⟩,hz⟩:=I.list M;show{TK,B,o,n,f,⟨i,m⟩,e4,r',hz}
  .obtain⟨B,r',⟨o,f,i,n,m⟩,hz⟩:=I.tupleN M;show⟨TJ,B,o,n,f,i,m,r',hz⟩
 have(v,els,o,n,f,i,m,rv,hz):=src;have hlen:ys.length=els.length:=rv.length;have(ps,hp,J):=hps rv;show callType_codes (Q₁:=λY x=>Y=.ref s.heap.objs.size/\x={s with heap:=s.heap.push {cls:=.type "dict",data:=.dict #[]}}) F.kt_called_dict (F.kt_typeCall_dict_1 _) F.entry_dict_init (kt_code_dict_new _ ⟨Xr,Xr⟩) ?_;rintro Y x ⟨rfl,rfl⟩;have hT:∀s':Nm,s'.heap.get? s.heap.objs.size=TH {cls:=.type "dict",data:=.dict #[]}->s'.TypeIs (.ref s.heap.objs.size) "dict" :=λs' e=>{_,e,Xr};have a:(s.heap.push {cls:=.type "dict",data:=.dict #[]}).get? s.heap.objs.size=TH {cls:=.type "dict",data:=.dict #[]}:=Nt _ rfl;have j:∀b c,s.heap.get? b*>c->(s.heap.push {cls:=.type "dict",data:=.dict #[]}).get? b*>c:=λb c e=>Nn _ e;generalize s.heap.push {cls:=.type "dict",data:=.dict #[]}=h1 at a j|-;show{hT _ a,F.args_dict_init_2 _ _,?_};unfold Nq.«dict.__init__»;show Nj ?_;unfold Qj;show Nj (Pf (hT _ a) ?_);change Np _ _ (pure (s.heap.objs.size,[Nx p])) _ _ _;show Nl ?_;change Np _ _ (Oz "dict.__init__" s.heap.objs.size (.ref p) [] .none) _ _ _;unfold Oz;have hh:X.A.in1.in1.handled=TF:=hA;have y:∀(u:Heap) (E:Nat) (it:Addr),(∀b c,h1.get? b*>c->u.get? b*>c)->s.heap.objs.size<it->ItK v u it p 0 ->
   OD (Nu X.prog X.w) X.A.in1 (.builtin "dict.update.loop" {[.ref s.heap.objs.size,.ref it,OS 0,.none],[]}) (wants (λr O=>r=.none/\EP X OK Z Q (.ref s.heap.objs.size) O) X.xe) {s with heap:=u,toks:=E}:=by
  intro u E it g t hI;have p1:=hp (G:=u) (λb c e=>g b c (j b c e)) (d:=s.heap.objs.size) (it:=it) (Iq _) (JH t);have lp:=Nr f;have sl:SeK v u p els.toArray:=by
   cases v with
   | true=>show{o,g _ _ (j _ _ f),i.1,n,m}
   | false=>show{o,g _ _ (j _ _ f),i.1,n,m}
  show yC (G:=u) (kd:=v) (els:=els) (l:=p) U (IA t) (J3 lp) (J3 (Li lp t)) sl els.length 0 ps st0 _ _ hh (λz=>show X.A.units+1+1+1<NN by have:=hu z;omega) ⋯ (by exists p1) hI (g _ _ a) (h0 _ _ _) ⋯ (λ_ _ _ _ e=>e) λh3 o3 tk3 k3 d3 b3=>?_;show{Xr,.ref s.heap.objs.size,_,I.laid (t':=tk3) (λb c e=>?_) (Iq _) (J (beq_eq_false_iff_ne.mpr (NA (IA I.big))) d3 b3),Xr,q _ (I.hok.fresh (Iq _))};have lb:=Nr e;show k3 b c (IA lb) (IA (Li lb t)) (g b c (j b c e))
 cases v with
 | true=>
  show Nj (OE (T:="list") {o,j _ _ f,i.1} ?_);rw[if_pos (by decide)];show Nj (k6 (j _ _ f) i m hh λu E g=>?_);rw[if_pos (by rfl)];show Nj (Ou (Nj (P7 {o,g _ _ (j _ _ f),i.1,n,m} ?_)));show Nl {PX _ (by decide +kernel),?_};show y _ E _ (λb c e=>Nn _ (g b c e)) (Nr (g _ _ a)) {_,Nt _ rfl,Xr,Xr}
 | false=>
  show Nj (OE (T:="tuple") {o,j _ _ f,i.1} ?_);rw[if_pos (by decide)];show Nj (j7 (j _ _ f) i m hh λu E g=>?_);rw[if_pos (by rfl)];show Nj (Ou (Nj (OY {o,g _ _ (j _ _ f),i.1,n,m} ?_)));show Nl {PX _ (by decide +kernel),?_};show y _ E _ (λb c e=>Nn _ (g b c e)) (Nr (g _ _ a)) {_,Nt _ rfl,Xr,Xr}
def ny(L:X.calm=TK):MQ X (.type "dict") (tu X.K):=by
 intro OK s Z H xs us Q I r h;have(p,ys,M,rfl,a,j,O,q):=h;have(u,rfl,v):=gp r;cases v;show mw (Ob:=λ_ _ _=>obK X.prog X.w) (Pr:=λ_ _ _=>prK X.prog X.w) (st0:=[]) (ho:=.dK M) L (λz=>z.elim) I a HG (λ_ _ _ h d e=>?_) rfl (λ{x} J=>?_) q
 .have(o,A,B,i,S,y,m):=TD (knd:=bf X.prog X.w) h;rw[Nt _ rfl]at i;cases i;show{_,A,B,e,S,y,m}
 .have(c,E,g):=Ea I j J;show{c,E,λ{Hx G h d it o} U e N=>?_};have l:=N h d e;rw[show c.foldl (λf p=>RD f p.1 p.2) []=sto c []from rfl,mY _ _ (by rw[Jr,<-C6 g];show O),Jr]at l;show{?_,U,c,g,l};have Y:=j.length;rcases a with a|a;have(_,_,_,t):=I.list a;omega;have(_,_,_,t):=I.tupleN a;omega
end
abbrev nO(i:I):↑Key:=match i with
 | .int n=>TH (.inl n)
 | .str x=>TH (.inr x)
 | _=>TF
abbrev pr1(i:I):↑(Key×I):=match i with
 | .tup c=>(match c with
  | []=>TF
  | k::r=>(match r with
   | []=>TF
   | v::a=>(match a with
    | []=>(nO k).map λq=>(q,v)
    | _::_=>TF)))
 | _=>TF
abbrev uT:!I->Option !(Key×I)
 | []=>TH []
 | i::a=>match pr1 i with
  | some p=>(uT a).map (p :: ·)
  | none=>TF
abbrev vJ(is:!I):↑T:=match uT is with
 | some l=>if(l.map (·.1)).Nodup then TH (.di (l.map λp=>(fR p.1,p.2)))else TF
 | none=>TF
abbrev GM(g:!I->↑T) (t:T):↑T:=match t with
 | .im i=>(match i with
  | .tup a=>g a
  | _=>TF)
 | .li a=>g a
 | _=>TF
private def mr:!T->↑T:=l1 (GM vJ)
section
variable {K:yF}{H:Hp}
def nP(e:nO i*>q):i=fR q:=by
 unfold nO at e;split at e<;>cases e<;>rfl
def sO(e:nO i*>q)(r:RpI K H i x):x=kV q:=by
 rw[nP e]at r;cases q<;>(rw[fR,RpI]at r;show r)
def D8(e:pr1 i*>p)(r:RpI K H i x):∃w,PrV K H x (p.1,w)/\RpI K H p.2 w:=by
 unfold pr1 at e;ext e;split at e;cases e
 .split at e;cases e
  .ext e;rename_i k _ v _ _;have(q,f,g):=IE.mp e;cases g;rw[RpI]at r;have(a,l,rfl,d,c):=r;rw[p7]at c;have(y,o,rfl,j,c):=c;rw[p7]at c;have(z,m,rfl,h,c):=c;rw[p7]at c;subst c;rw[sO f j]at d;show{z,⟨a,Xr,d⟩,h}
def sZ:∀{is:!I} {l:!(Key×I)} {xs:!V},uT is*>l->p7 K H is xs->∃a:!(Key×V),Paired (PrV K H) xs a/\a.map (·.1)=l.map (·.1)/\p7 K H (l.map (·.2)) (a.map (·.2))
 | [],_,_,e,r=>by
  cases e;rw[p7]at r;subst r;show{[],.nil,Xr,by rw[KS,p7];rfl}
 | i::is,l,xs,e,r=>by
  rw[p7]at r;have(x,xs,rfl,m,h):=r;rw[uT]at e;ext e p c;have(s,q,rfl):=IE.mp e;have(w,f,j):=D8 c m;have(a,g,o,d):=sZ q h;show{(p.1,w)::a,.cons f g,by rw[Io,Io,o],?_};rw[Io,Io,p7];show{w,_,Xr,j,d}
def New.di(c:H p=TF)(e:ps.map (λq=>fR q.1)=kvs.map (·.1))(h:p7 K H (kvs.map (·.2)) (ps.map (·.2))):New K H (upd H p (.dK ps)) (.di kvs) (.ref p):=by
 show{MU.laid c,[p],?_,by simp,λa d=>?_}
 .rw[Rp];show{p,ps.map (λq=>(fR q.1,q.2)),Xr,⟨ps,au,Xr⟩,?_,?_,Xr}
  .have:(ps.map (λq=>(fR q.1,q.2))).map (·.2)=ps.map (·.2):=by rw[IN];rfl
   rw[this];show h.same (MU.laid c)
  .rw[IN,<-e];rfl
 .cases ysM d;show{c,_,au,Xr}
def sB(e:vJ is*>t)(r:p7 K H is xs)(hs:SqL K H p xs\/SqT K H p xs)(q:∀v H',New K H H' t v->Q v H'):tu K [.ref p] H Q:=by
 unfold vJ at e;ext e l d;ext e g;cases e;have(f,h,a,i):=sZ d r;show{p,xs,f,Xr,hs,h,by rw[a];show g,λj c=>q _ _ (.di c ?_ ?_)}
 .rw[IN];have:=congrArg (List.map fR) a;rw[IN,IN]at this;show this
 .rw[IN];show i
def uN:fv K (tu K) mr:=by
 intro H vs h t Q r e q;unfold mr at e;have f:=bP e;clear e;have(x,rfl,e):=f;have(v,rfl,d):=lG r;unfold GM at e;split at e
 .ext e;have(p,g,rfl,a,c):=bT d;show sB e c (.inr a) q
 .have(p,g,rfl,a,c):=bS d;show sB e c (.inl (aI a)) q
 .cases e
def b_dict:tV "dict" mr:={_,tu,Lm,λ_ h=>ny h,λ_=>uN}
abbrev kO:!(I×I)->I->↑I
 | [],_=>TF
 | p::r,k=>if p.1=k then TH p.2 else kO r k
abbrev dg1(kvs:!(I×I)) (k:I):↑T:=match nO k with
 | some _=>(kO kvs k).map T.im
 | none=>TF
private def dgT(t u:T):↑T:=match t with
 | .di a=>(match u with
  | .im k=>dg1 a k
  | _=>TF)
 | _=>TF
abbrev dgR:R2:=λx y H Q=>∃a v,x=.ref a/\Na H a y (TH v)/\Q v H
def kY(h:fR a=fR b):a=b:=by cases a<;>cases b<;>(unfold fR at h;cases h)<;>rfl
def oU:∀{kvs:!(I×I)} {zs:!(Key×V)},kO kvs (fR q)*>v->zs.map (λz=>fR z.1)=kvs.map (·.1)->p7 K H (kvs.map (·.2)) (zs.map (·.2))->∃w,oI zs q*>w/\RpI K H v w
 | [],_,e,_,_=>by cases e
 | p::r,zs,e,a,f=>by
  cases zs with
  | nil=>cases a
  | cons z zs=>
   rw[Io,Io,JN.injEq]at a;rw[Io,Io,p7]at f;have(x,l,d,j,i):=f;rw[JN.injEq]at d;have(rfl,rfl):=d;rw[kO]at e;split at e
   .delta c;cases e;show{z.2,qb (kY (a.1.trans c)),j}
   .delta c;have(w,g,h):=oU e a.2 i;show{w,by rw[qa λe=>c (by rw[<-a.1,e])];show g,h}
def Ar:cZ K dgR dgT:=by
 intro H x y u r t Q c m e q;unfold dgT at e;ext e;ext e;unfold dg1 at e;ext e;rename_i j k _ p d;have(v,h,rfl):=IE.mp e;obtain⟨F,c⟩:=c;rw[Rp]at c;obtain⟨a,z,rfl,⟨s,i,rfl⟩,f,g,_⟩:=c;rw[IN]at f g;rw[sO d (cr m)];rw[nP d]at h;have(w,o,l):=oU h g f;show{a,w,Xr,?_,q _ _ (.im l)};rw[<-o];show Na.k i
end
section
variable {ι : Type}{C:ι->Cx}{P:Nv}{W:NB}{K:yF}{mg:Str->↑Nk}{base:Heap}{k:Nat}{a b:Expr}{ma mb:ME}{pos:Pos}
def Gn(g:CK C P W K mg base k)(c:QE C K a ma)(d:QE C K b mb)(hs:vB b:=by intro _ _;rfl):QE C K (.Subscript a b pos) (mOp dgT ma mb):=by
 have(h,p,r):=c;have(j,f,e):=d;show{_,λi=>Ag (Fx (g.room i)) (p i) (f i) hs,lD (red:=dgR) Ar r e}
end
section
variable {X:Cx}{OK:!(Addr×Obj)}{Z:St}{H:Hp}{s:Nm}
def Inv.frz(I:Inv X OK Z H s)(h:H a*>(.lst xs)):∃o,Inv X OK Z (upd H a (.frz o (.lst xs))) s:=by
 have(z,c,n,r,e):=(show ML X.prog X.w H s.heap a (.lst xs)from I.hok a _ h);show{_,I.write (t':=s.toks) (h':=s.heap) (by rw[h];show ON) (.inl rfl) (λb u _ q=>q) {_,e} ⟨e,z,c,n,r,e⟩}
abbrev GR(t:TE):TE:=λZ H Q=>t Z H λv c=>∃a d,v=.ref a/\c a*>(.lst d)/\∀o,Q v (upd c a (.frz o (.lst d)))
def DX(h:PE X e t):PE X e (GR t):=by
 intro OK s Z H Q I q;show thn (h OK s Z H _ I q) λu r f=>?_;have(v,l,j,d,a,m,p,c,g):=f;have(o,i):=j.frz c;show{v,_,i,d,g o}
abbrev Ck(i:Nat):TE:=λZ H Q=>∃v,Z[i]?*>(TH v)/\((∃a c,v=.ref a/\H a*>(.lst c)/\∀o,Q v (upd H a (.frz o (.lst c))))\/Q v H)
def Aj(h:PE X e (vj i)):PE X e (Ck i):=by
 intro OK s Z H Q I q;obtain⟨v,l,q⟩:=q;show thn (h OK s Z H (λw d=>w=v/\d=H) I ⟨v,l,Xr,Xr⟩) λu y m=>?_;obtain⟨w,d,f,c,j,r⟩:=m;subst j r;rcases q with⟨a,t,x,g,q⟩|q
 .obtain⟨o,p⟩:=f.frz g;show{w,_,p,c,q o}
 .show{w,_,f,c,q}
end
abbrev zg(r:R):↑I:=match r.k with
 | .ow=>(match r.t with
  | .li a=>TH (.ls a)
  | _=>TF)
 | _=>TF
def oY(h:zg r*>i):∃is,r={.ow,.li is}/\i=.ls is:=by
 have(k,t):=r;unfold zg at h;dsimp only at h;ext h;split at h;cases h;show{_,Xr,Xr};cases h
private def qR(a:ME):ME:={λO=>match a.run O with
 | some (r,c)=>(match zg r with
  | some i=>TH ({.ow,.im i},c)
  | none=>TF)
 | none=>TF,a.mu}
section
variable {K:yF}
def BM(h:Rd H a (.lst xs))(m:Mu H a):H a*>(.lst xs):=by
 rcases h with h|⟨o,h⟩;show h
 .have(u,e,z):=m;rw[h]at e;cases e;cases z
def AS(w:be K ta a):be K (GR ta) (qR a):=by unhygienic
 intro z H O Z E Q r O' s d S q;dsimp[qR]at d;ext d L X m;ext d i A;cases d;have(p,rfl,rfl):=oY A;show w z H O Z E _ _ _ s m S λx Y t=>?_;have(F,j,N,f,k):=Sim.use (vs:=[x]) (ts:=[.li p]) t rfl;rw[Rps]at j;have(y,r,J,U,v,l,h,rfl):=j;cases v;rw[Rps]at h;have(_,rfl):=h;rw[Rp]at l;have(b,g,rfl,u,B,rfl):=l;have G:=BM u (f b ∅);show{b,g,Xr,G,λo=>q _ _ (k _ _ _ [] ?_ ?_ Jn ∅ (gK ?_))};show MJ.upd.mono ∅
 .intro c e;have:c=b:=by exists e
  subst this;show{_,au}
 .rw[RpI];show{b,o,g,Xr,au,?_};show p7.off (M:=[b]) MJ.upd (λc e=>by rw[ysM e];show f _ ∅) B
private def uu(i:Nat):ME:={λO=>match O[i]? with
 | some (TH r)=>(match zg r with
  | some j=>TH ({.ow,.im j},(ar [i] O).set i (↥j))
  | none=>(match r.t with
   | .im j=>TH ({.ow,.im j},O)
   | _=>TF))
 | _=>TF,[i]}
def AT:be K (Ck i) (uu i):=by unhygienic
 intro y H O Z E Q r O' hK a S q;dsimp[uu]at a;ext a J l;split at a
 .delta j U;cases a;have(s,rfl,rfl):=oY U;have(v,h,m):=S.var l;have(G,F,w,X,nd,t,k):=Sim.mut (vs:=[]) (ts:=[]) (p:=[]) m rfl l rfl;have:=X.nil_inv.2;subst this;rw[Rp]at w;have(b,d,rfl,z,B,rfl):=w;have Y:=BM z (t b ∅);show{_,h,.inl {b,d,Xr,Y,λo=>?_}};have x:RpI y.K (upd H b (.frz o (.lst d))) (.ls s) (.ref b):=by
   rw[RpI];show{b,o,d,Xr,au,?_};show p7.off (M:=[b]) MJ.upd (λc g=>by rw[ysM g];show t _ ∅) B
  have A:=k (upd H b (.frz o (.lst d))) (.im (.ls s)) [] MJ.upd (λc g=>by
   have:c=b:=by exists g
   subst this;show{_,au}) Jn ∅ (gK x)
  show q _ _ (A.imm x)
 .ext a j f;cases a;have(v,h,m):=S.var l;have(u,L):=J;replace f:L=.im j:=f;subst f;have N:Rpx y.K H (.im j) v:=by
   have:=m.rd (e:={TF,v,rdR i {u,.im j}}) ymS;cases u<;>show this
  show{v,h,.inr (q _ _ ((S.weak [i]).imm (cr N)))}
end
section
variable {ι : Type}{C:ι->Cx}{P:Nv}{W:NB}{K:yF}{mg:Str->↑Nk}{base:Heap}{k:Nat}{a b:Expr}{ma mb:ME}{pos:Pos}
def xt(c:QE C K a ma):QE C K a (qR ma):=by
 have(d,p,r):=c;show{_,λi=>DX (p i),AS r}
def BZ(i:Nat)(e:∀j,(C j).N[i]?*>x:=by intro _;rfl)(f:∀j,Vis (C j).env.scope x:=by intro _;first|show PV rfl|show OT (PV rfl)|show OT (OT rfl))(d:(x==("__debug__" : Str))=TJ:=by decide)(c:(x==("__classdict__" : Str))=TJ:=by decide):QE C K (.Name x pos) (uu i):=
 {_,λj=>Aj (lq (e j) (f j) d c),AT}
end
abbrev kT:!I->Option !Int
 | []=>TH []
 | i::a=>match i with
  | .int n=>(kT a).map (n :: ·)
  | _=>TF
def o7{K:yF}{H:Hp}:∀{is:!I} {ns:!Int} {xs:!V},kT is*>ns->p7 K H is xs->xs=ns.map V.int
 | [],_,_,e,r=>by cases e;rw[p7]at r;show r
 | i::is,ns,xs,e,r=>by
  rw[p7]at r;have(x,xs,rfl,a,d):=r;cases i with
  | int n=>
   have(f,c,rfl):=IE.mp (show(kT is).map (n :: ·)*>ns from e);rw[RpI]at a;rw[a,o7 c d];rfl
  | _=>cases e
end L2
namespace L2
open PySem
noncomputable section
abbrev eT:MS:=(bv (mOp dgT (mB mr (aa (mIx (af 0) (mC (.int 2))) mNil)) (af 1)))
abbrev gJ(ts:!T):↑T:=if ts.length=2 then dD eT 2 ts else TF
abbrev ko:MS:=(bv (mB jl (aa (aM [TF,TF,TF,TF] (l0 (ac 0 (ac 1 mNil))) (cx (aH (ae 2) (aH (ae 3) mGNil))) mYes (mOp bh (af 2) (af 3))) mNil)))
abbrev om(ts:!T):↑T:=if ts.length=2 then dD ko 2 ts else TF
abbrev dk:MS:=(aq (ay (af 1) (cx (aH (ae 2) (aH (ae 3) mGNil))))
  (bv (aM [TF,TF,TF,TH 3,TF,TF,TF] (mIt (mB eI (ac 2 (aa (mB gJ (ac 0 (ac 2 mNil))) mNil)))) (cx (aH (ae 4) (aH (ae 5) (aH (ae 6) mGNil)))) mYes (av [5] (ac 5 (aa (mB om (ac 3 (ac 6 mNil))) mNil))))))
abbrev fk(ts:!T):↑T:=if ts.length=2 then dD dk 4 ts else TF
abbrev dR(rec:!T->↑T):MS:=(aq (mIf (aT (mOp eqT (mIx (af 0) (mC (.int 0))) (mC (.str "num")))) (bv (aQ [] mNil)) mNext)
  (aq (mIf (aT (mOp eqT (mIx (af 0) (mC (.int 0))) (mC (.str "at")))) (bv (aQ [] (aa (av [] (aa (mIx (af 0) (mC (.int 1))) (aa (mIx (af 0) (mC (.int 2))) mNil))) mNil))) mNext)
  (aq (ay (aQ [] mNil) (ae 1))
  (aq (bY (mIt (mSl (af 0) (fJ (mOp bh (mC (.int 1)) (mB j6 (aa (mOp eqT (mIx (af 0) (mC (.int 0))) (mC (.str "op"))) mNil)))) mNoPart)) (ae 2)
  (bQ [2] (bt (cf 1 [] j4 (af 1) (aa (mB rec (ac 2 mNil)) mNil)))))
  (bv (af 1))))))
abbrev cQ:Nat->!T->↑T
 | 0=>λa=>if a.length=1 then dD nR 3 a else TF
 | n+1=>λa=>if a.length=1 then dD (dR (cQ n)) 3 a else TF
end
end L2
namespace L2
open PySem PySem.Spec PyProof.Rows
section
variable {m:ME}{O:Rho}{QF:R->Rho->Prop}{i:Nat}{is:!I}{j:I}{k:Kd}
def Cm(h:WE m O λr a=>∃is,r={.ow,.li is}/\QF {.ow,.im (.ls is)} a):WE (qR m) O QF:=by unhygienic
 have(r,a,e,is,rfl,q):=h;show{_,_,by dsimp[qR,e];rfl,q}
def EX(h : O[i]?*>(⇑(.li is)))(q:QF {.ow,.im (.ls is)} ((ar [i] O).set i (↥(.ls is)))):WE (uu i) O QF:=by unhygienic
 show{_,_,by dsimp[uu,h];rfl,q}
end
def j2(ns:!Int):∀k,k<=ns.length->preSum (λi=>ns.getD i 0) k=(ns.take k).sum
 | 0,_=>by simp[preSum]
 | k+1,h=>by
  have a:k<ns.length:=h;rw[preSum,j2 ns k (JH a),List.take_add_one,II a,Lr];simp[List.getD,II a]
def tQ:∀{ns:!Int} {a:!Nk} {i:Nat} {v:Nk},Vals (ns.map V.int) a->a[i]?*>v->∃t,v=.int (ns.getD i 0) t
 | [],_,_,_,.nil,e=>by simp at e
 | n::ns,_,0,_,.cons r _,e=>by simp at e;subst e;show r
 | n::ns,_,i+1,v,.cons _ t,e=>by simpa using tQ (ns:=ns) (i:=i) t (by exists e)
section
variable (P:Nv)(w:NB)
abbrev It1(h:Heap):K1->Nk->Prop
 | .inl k,v=>(bf P w).is k v=TK
 | .inr a,v=>∃b,v=.ref b/\SO (bf P w) h a b
abbrev MW(h:Heap)(ks:!K1)(a:Addr):Prop:=∃o c n,h.get? a*>o/\o.cls=.type "tuple" /\ o.data=.seq c n/\Paired (It1 P w h) ks c.toList
abbrev dr1:K1->Nat
 | .inl _=>1
 | .inr a=>a.length+1
end
abbrev dr2(ks:!K1):Nat:=(ks.map dr1).sum
section
variable {P:Nv}{w:NB}{h h':Heap}{a b:Addr}{k x y:K1}{v u:Nk}{A:NM}{E:Nk->Nm->Prop}{s:Nm}
def It1.inj(d:It1 P w h x v)(f:It1 P w h y v):x=y:=by
 cases x with
 | inl i=>
  cases y with
  | inl j=>rw[(bf P w).inj _ _ _ d f]
  | inr j=>have(b,rfl,_):=f;show absurd ((bf P w).byValue _ _ d) (by simp[Q4])
 | inr i=>
  cases y with
  | inl j=>have(b,rfl,_):=d;show absurd ((bf P w).byValue _ _ f) (by simp[Q4])
  | inr j=>have(b,rfl,q):=d;have(c,e,g):=f;cases e;rw[q.inj g]
def It1.keeps{d:Addr}{o:Obj}{es ep}(z:It1 P w h k v)(ho:h.get? d*>o)(c:o.data=.dict es ep)(hs:Nw d h h'):It1 P w h' k v:=by
 cases k with
 | inl i=>show z
 | inr i=>have(b,rfl,q):=z;show{b,Xr,q.keeps ho c hs}
def It1.hash{Q:Int->Nm->Prop}(d:A.units<NN)(z:It1 P w s.heap k v)(q:Q (hk1 P w k) {s with toks:=s.toks+dr1 k}):Np (Nu P w) A (PySem.pyHash v) Q E s:=by
 cases k with
 | inl i=>show(bf P w).pyHash z q
 | inr i=>have(b,rfl,z):=z;show wpAny_pyHash_tuple d z q
def pb{ks:!Key}(q:SO (bf P w) s.heap ks b):∃c:Array Nk,s.heap.IsTuple b c:=by
 have(o,c,n,e,d,f,_):=q;show⟨c,o,e,d,n,f⟩
def It1.eq{Q:Bool->Nm->Prop}(f:A.units<NN)(l:It1 P w s.heap x u)(g:It1 P w s.heap y v)(q:Q (decide (x=y)) s):Np (Nu P w) A (eqBool u v) Q E s:=by
 cases x with
 | inl i=>
  cases y with
  | inl j=>show(bf P w).eqBool l g (by exists q)
  | inr j=>
   have(b,rfl,z):=g;have(m,t):=pb z;rw[decide_eq_false (λe=>nomatch e)]at q;rcases bj l with⟨i,d,rfl,rfl⟩|⟨x,d,rfl,rfl⟩;show NK.int_tuple i d t f _ _ _ _ q;show NK.str_tuple x d t f _ _ _ _ q
 | inr i=>
  cases y with
  | inl j=>
   have(b,rfl,z):=l;have(m,t):=pb z;rw[decide_eq_false (λe=>nomatch e)]at q;rcases bj g with⟨i,d,rfl,rfl⟩|⟨x,d,rfl,rfl⟩;show NK.tuple_int i d t f _ _ _ _ q;show NK.tuple_str x d t f _ _ _ _ q
  | inr j=>
   have(b,rfl,z):=l;have(c,rfl,o):=g;show wpAny_eqBool_tuple f z o (by exists q)
def Paired.injK:∀{xs ys:!K1} {vs:!Nk},Paired (It1 P w h) xs vs->Paired (It1 P w h) ys vs->xs=ys
 | _,_,_,.nil,.nil=>rfl
 | _,_,_,.cons r t,.cons c d=>by rw[r.inj c,Paired.injK t d]
def MW.typeIs{ks:!K1}(z:MW P w s.heap ks a):s.TypeIs (.ref a) "tuple" :=let ⟨o,_,_,c,d,_⟩:=z;⟨o,c,d⟩
def MW.inj{xs ys:!K1}(q:MW P w h xs a)(j:MW P w h ys a):xs=ys:=by
 have(o,f,n,m,_,i,r):=q;have(p,d,t,e,_,c,g):=j;obtain rfl:o=p:=IG.inj (m.symm.trans e);rw[i]at c;injection c with l _;subst l;show Paired.injK r g
def Paired.keepsK{d:Addr}{o:Obj}{es ep}(ho:h.get? d*>o)(c:o.data=.dict es ep)(hs:Nw d h h'):∀{xs:!K1} {vs:!Nk},Paired (It1 P w h) xs vs->Paired (It1 P w h') xs vs
 | _,_,.nil=>.nil
 | _,_,.cons r t=>.cons (r.keeps ho c hs) (Paired.keepsK ho c hs t)
def MW.keeps{ks:!K1}{d:Addr}{o:Obj}{es ep}(z:MW P w h ks a)(ho:h.get? d*>o)(i:o.data=.dict es ep)(hs:Nw d h h'):MW P w h' ks a:=by
 have(j,e,n,f,l,c,m):=z;have g:a≠d:=by
  rintro rfl;obtain rfl:j=o:=IG.inj (f.symm.trans ho);rw[i]at c;show nomatch c
 show{j,e,n,(hs.2 a g).trans f,l,c,Paired.keepsK ho i hs m}
def zv{ks:!K1}{Q:Int->Nm->Prop}(q:A.units+1<NN)(z:MW P w s.heap ks a)(h:Q (hk2 P w ks) {s with toks:=s.toks+(dr2 ks+1)}) :
  Np (Nu P w) A (pyHash (.ref a)) Q E s:=by
 have f:=z.typeIs;have(o,j,n,B,_,r,G):=z;unfold pyHash;first|unfold pyHashByItsType|skip
 first|refine Nj (wpAny_cRoomFor_or (.inr (LZ q)) ?_)|skip
 show Nj (Oq f Pe.lookup ?_);change Np _ _ (if(TH (Po "tuple.__hash__")==TH N5)=TK then _ else _) Q E s;rw[if_neg (by rw[beq_builtin_none];show Ir)];show Nj (Oq f Pe.lookup ?_);change Np _ _ (callSpecialIfBoundUnlessNone? (.ref a) "__hash__" _ >>= _) Q E s;show Nj (wpAny_callSpecialIfBoundUnlessNone?_slot f Pe (NH Pe f F.entry_tuple_hash ?_ (F.args_tuple_hash_1 _)));change Np _ _ (OM (.ref a) >>= _) _ _ s;show Nj (PY B r ?_);show Nj ?_;rw[<-KZ];show OP _
  (λrest (b:Array Int) m=>∃done left,ks=done++left/\Paired (It1 P w s.heap) left rest/\b.toList=done.map (hk1 P w)/\m={s with toks:=s.toks+dr2 done})
  _ ?_ ?_ _ _ {[],ks,Xr,G,Xr,Xr}
 .rintro x rest b m ⟨done,left,rfl,g,p,rfl⟩;cases g with
  | @cons k _ l _ t i=>
   show Nj (t.hash (s:={s with toks:=s.toks+dr2 done}) q ?_);have e:dr2 (done++[k])=dr2 done+dr1 k:=by simp[dr2]
   show Nl {done++[k],l,by simp,i,by simp[p],by rw[e];simp[LR]}
 .rintro b m ⟨done,left,rfl,g,p,rfl⟩;cases g;rw[IM]at h;change Np _ _ (retInt (N0 b.toList)) _ _ _;rw[p];show wpAny_ret_mkInt ?_;change Np _ _ (if(decide (-(2:Int)^63<=N0 (done.map (hk1 P w)))&&decide (N0 (done.map (hk1 P w))<2^63))=TK then _ else _) Q E _;unfold hk2 reduceHash at h;by_cases d:(decide (-(2:Int)^63<=N0 (done.map (hk1 P w)))&&decide (N0 (done.map (hk1 P w))<2^63))=TK
  .rw[if_pos d];rw[if_pos d]at h;show Nl (by simpa[LR]using h)
  .rw[if_neg d];rw[if_neg d]at h;show Nj (Ou (Nl (by simpa[LR]using h)))
def zw{x y:!K1}{R:Fin->Nm->Prop}(hu:A.units<NN)(hx:MW P w s.heap x a)(hy:MW P w s.heap y b)(h:R (.done (.ret (.bool (decide (x=y))))) s) :
  Np (Nu P w) A (Nq.«tuple.__eq__» {[.ref a,.ref b],[]}) R E s:=by
 have Q:=hy.typeIs;have(oa,G,na,N,_,hda,Y):=hx;have(ob,H,nb,O,_,U,S):=hy;change Np _ _ (RE (.ref b) (.type "tuple") >>= _) _ _ s;show Nj (Ol Q Pg ?_);dsimp[Kf,IQ,if_false];show Nj (PY N hda ?_);show Nj (PY O U ?_);show Nj ?_;show OP _
  (λrest r M=>r.1=TF/\M=s/\∃L J f e,rest=List.zip f e/\Paired (It1 P w s.heap) L f/\Paired (It1 P w s.heap) J e/\decide (L=J)=decide (x=y)/\(f.length==e.length)=(G.size==H.size))
  _ ?_ ?_ _ _ {Xr,Xr,x,y,G.toList,H.toList,Xr,Y,S,Xr,by simp}
 .rintro⟨u,v⟩ rest r M ⟨Z,rfl,L,J,f,e,j,i,g,c,d⟩;cases i with
  | nil=>simp at j
  | @cons k1 u' B m h1 l=>
   cases g with
   | nil=>simp at j
   | @cons k2 v' z o h2 p=>
    dsimp[List.zip_cons_cons,JN.injEq,Prod.mk.injEq]at j;obtain⟨⟨rfl,rfl⟩,rfl⟩:=j;show Nj (h1.eq hu h2 ?_);by_cases X:k1=k2
    .subst X;rw[decide_eq_true rfl];dsimp[Kf,IQ,if_false];show Nl {Xr,Xr,B,z,m,o,Xr,l,p,?_,by simpa using d};rw[<-c];by_cases t:B=z;simp[t];simp[t]
    .rw[decide_eq_false X];dsimp[LD,if_true];have hf:decide (x=y)=TJ:=by rw[<-c];simp[X]
     rw[hf]at h;show Nj (Nl (Nl (Nl h)))
 .rintro⟨r1,r2⟩ M ⟨Z,rfl,L,J,f,e,j,i,g,c,d⟩;simp only at Z;subst Z;show Nl ?_;have q:(G.size==H.size)=decide (x=y):=by
   rw[<-c,<-d];cases i with
   | nil=>
    cases g with
    | nil=>simp
    | cons _ _=>simp
   | cons _ _=>
    cases g with
    | nil=>simp
    | cons _ _=>simp at j
  change R (.done (.ret (.bool (G.size==H.size)))) M;rw[q];show h
def FD{x y:!K1}{Q:Bool->Nm->Prop}(g:A.units+1<NN)(d:MW P w s.heap x a)(f:MW P w s.heap y b)(h:Q (decide (x=y)) s) :
  Np (Nu P w) A (eqBool (.ref a) (.ref b)) Q E s:=by
 unfold eqBool;try with_reducible refine NI ?_
 change Np _ _ (if(Nx a==Nx b)=TK then _ else _) Q E s;by_cases c:(Nx a==Nx b)=TK
 .rw[if_pos c];have e:a=b:=by have:=eq_of_beq c;injection this
  subst e;obtain rfl:=d.inj f;show Nj (Ou (Nl (by exists h)))
 .rw[if_neg c];show Nj (wpAny_richCompare_same_room (op:=.Eq) d.typeIs f.typeIs Pw
   (NH Pw d.typeIs F.entry_tuple_eq (zw g d f {_,Xr,(λe=>nomatch e),N7 h}) (F.args_tuple_eq_2 _ _)) (LZ g))
def uY{n:Nat}{ks:!Key}{Q:Bool->Nm->Prop}(i:SO (bf P w) s.heap ks a)(h:Q TK s):Np (Nu P w) A (Rf (n+1) (.ref a)) Q E s:=by
 have j:=i.typeIs;have(o,d,q,m,_,l,p):=i;unfold Rf;show Nj (Oq j Pw.lookup ?_);change Np _ _ (RE (.ref a) (.type "tuple") >>= _) _ _ s;show Nj (Ol j Pg ?_);dsimp[Kf,IQ,if_false];show Nj (NX m l ?_);show Nj ?_;change Np _ _ (forIn d _ _) _ _ s;rw[<-KZ];show OP _ (λrest r g=>r.1=TF/\g=s/\∀v∈rest,Q4 v=TK) _ ?_ ?_ _ _ ⟨Xr,Xr,p.byValue⟩
 .rintro v rest r g ⟨e,rfl,c⟩;rw[RU _ (c v ymS)];show Nj (Nl ?_);dsimp[Kf,IQ,if_false];show Nl {Xr,Xr,λu f=>c u (ymC _ f)}
 .rintro⟨t,z⟩ g ⟨e,rfl,_⟩;simp only at e;subst e;show Nl h
def wa{ks:!K1}{Q:Bool->Nm->Prop}(p:MW P w s.heap ks a)(h:Q TK s):Np (Nu P w) A (Rf 8 (.ref a)) Q E s:=by
 have m:=p.typeIs;have(o,c,n,L,_,G,J):=p;unfold Rf;show Nj (Oq m Pw.lookup ?_);change Np _ _ (RE (.ref a) (.type "tuple") >>= _) _ _ s;show Nj (Ol m Pg ?_);dsimp[Kf,IQ,if_false];show Nj (NX L G ?_);show Nj ?_;change Np _ _ (forIn c _ _) _ _ s;rw[<-KZ];show OP _ (λrest r g=>r.1=TF/\g=s/\∃f,Paired (It1 P w s.heap) f rest) _ ?_ ?_ _ _ {Xr,Xr,_,J}
 .rintro v rest r g ⟨l,rfl,f,j⟩;cases j with
  | @cons k _ B _ t H=>
   show Nj ?_;have M:Np (Nu P w) A (Rf 7 v) (λq d=>q=TK/\d=g) E g:=by
    cases k with
    | inl i=>rw[RU _ ((bf P w).byValue _ _ t)];show Nl ⟨Xr,Xr⟩
    | inr i=>have(b,rfl,z):=t;show uY z ⟨Xr,Xr⟩
   show NR M (λq d z=>?_) λ_ _ e=>e;have(rfl,rfl):=z;dsimp[Kf,IQ,if_false];show Nl {Xr,Xr,_,H}
 .rintro⟨N,O⟩ g ⟨l,rfl,_⟩;simp only at l;subst l;show Nl h
end
abbrev aY(P:Nv) (w:NB):HeapKind P w !K1 where
 is:=MW P w
 hash:=hk2 P w
 draws:=λks=>dr2 ks+1
 room:=λA=>A.units+1<NN
 inj:=λhx hy=>hx.inj hy
 keeps:=λx ho hd hs=>x.keeps ho hd hs
 pyHash:=λhu hk h=>zv hu hk h
 eqBool:=λhu hx hy h=>FD hu hx hy h
 quiet:=λhk h=>wa hk h
abbrev kQ(K:yF)(H:Hp):K1->V->Prop
 | .inl k,v=>v=kV k
 | .inr a,v=>∃b,v=.ref b/\SqT K H b (a.map kV)
abbrev KQ(K:yF)(H:Hp)(ks:!K1)(b:Addr):Prop:=∃a,SqT K H b a/\Paired (kQ K H) ks a
protected def Eq3:=!K1×Addr×V
abbrev DQ(K:yF)(H:Hp)(a:Addr)(ys:!Eq3):Prop:=Rd H a (.dT ys)/\∀y∈ys,KQ K H y.1 y.2.1
abbrev lkQ:!Eq3->!K1->↑V
 | [],_=>TF
 | y::a,k=>if y.1=k then TH y.2.2 else lkQ a k
abbrev putQ(ys:!Eq3) (k:!K1) (b:Addr) (v:V):!Eq3:=if(lkQ ys k).isSome=TK then ys.map (λy=>if y.1=k then(y.1,y.2.1,v)else y)else ys++[(k,b,v)]
protected def PQ(p:Eq3)(q:!K1×Addr×Nk):Prop:=p.1=q.1/\p.2.1=q.2.1/\RelV p.2.2 q.2.2
section
variable {ys:!Eq3}{xs:!(!K1×Addr×Nk)}{k ks:!K1}{a b:Addr}{v:V}{u:Nk}
def kH(x:!K1×Addr×Nk)(xs:!(!K1×Addr×Nk)):Q5 (x::xs) k=if x.1=k then TH x.2 else Q5 xs k:=by
 unfold Q5;rw[Kq];by_cases e:x.1=k;rw[if_pos e,decide_eq_true e];rfl;rw[if_neg e,decide_eq_false e]
def BK(h:Paired PQ ys xs):RelO (lkQ ys k) ((Q5 xs k).map (·.2)):=by
 induction h with
 | nil=>trivial
 | @cons y x _ _ r t c=>
  rw[kH,lkQ,r.1];split;show r.2.2;show c
def kj(h:Paired PQ ys xs):(Q5 xs k).isSome=(lkQ ys k).isSome:=by
 have:=BK (k:=k) h;cases e:lkQ ys k<;>cases e':Q5 xs k<;>rw[e,e']at this;rfl;show this.elim;show this.elim;rfl
def rD(h:Paired PQ ys xs)(d:RelV v u):Paired PQ (putQ ys k b v) (Tf xs k b u):=by
 have e:=kj (k:=k) h;unfold putQ;cases e':Q5 xs k with
 | none=>
  rw[Q6 e',if_neg (by rw[<-e,e'];decide)]
  induction h with
  | nil=>show .cons ⟨Xr,Xr,d⟩ .nil
  | @cons y x _ _ r t c=>
   rw[kH]at e';split at e';cases e';show .cons r (c (kj t) e')
 | some p=>
  rw[Q7 e',if_pos (by rw[<-e,e'];rfl)];clear e e'
  induction h with
  | nil=>show .nil
  | @cons y x _ _ r t c=>
   show .cons ?_ c;change PQ (if y.1=k then(y.1,y.2.1,v)else y) (if x.1=k then(x.1,x.2.1,u)else x);by_cases e:y.1=k;rw[if_pos e,if_pos (r.1.symm.trans e)];show⟨r.1,r.2.1,d⟩;rw[if_neg e,if_neg λz=>e (r.1.trans z)];show r
end
section
variable {X:Cx}{OK:!(Addr×Obj)}{Z:St}{H:Hp}{s:Nm}{a b:Addr}{ks:!K1}{ys:!Eq3}
def pc{P:Nv}{w:NB}:∀{ks:!Key} {c:!Nk},Vals (ks.map kV) c->ItemsAre (bf P w) ks c
 | [],_,h=>by cases h;show .nil
 | k::ks,_,h=>by
  cases h with
  | cons r t=>show .cons (sN r) (pc t)
def KQ.is(I:Inv X OK Z H s)(h:KQ X.K H ks b):MW X.prog X.w s.heap ks b:=by
 have(O,j,z):=h;obtain⟨d,r,⟨o,p,M,n,i⟩,m⟩:=I.tupleN j;show{o,d.toArray,n,p,M.1,i,?_};change Paired _ ks d;clear j i m
 induction z generalizing d with
 | nil=>cases r;show .nil
 | @cons k x _ _ q t v=>
  cases r with
  | @cons _ u _ _ g G=>
   show .cons ?_ (v _ G);cases k with
   | inl k=>
    have e:x=kV k:=q;subst e;show sN g
   | inr y=>
    have(c,e,J):=(show∃c,x=V.ref c/\SqT X.K H c (y.map kV)from q);subst e;obtain rfl:u=Nx c:=g;obtain⟨f,A,⟨E,l,L,B,N⟩,_⟩:=I.tupleN J;show{c,Xr,E,f.toArray,B,l,L.1,N,pc A}
def DQ.at(I:Inv X OK Z H s)(h:DQ X.K H a ys):ys.length<=sizeLine/\(a==N6)=TJ/\∃xs,Paired PQ ys xs/\s.heap.DictOfH (aY X.prog X.w) a xs:=by
 have(f,i):=h;obtain⟨z,y,xs,r,o,A,B,m,E,l,g,j⟩:=(show ML X.prog X.w H s.heap a (.dT ys)from f.ok I.hok);show{z,y,xs,r,o,A,B,m,E,l,g,?_,j};clear g j f z l;intro x c
 induction r with
 | nil=>cases c
 | @cons p q _ _ d t u=>
  rcases ycM c with e|c
  .subst e;have:=(i p ymS).is I;rw[d.1,d.2.1]at this;show this
  .show u (λy v=>i y (ymC _ v)) c
abbrev rM(n:Bool)(K:yF):R2:=λx y H Q=>∃a ys b ks,x=.ref b/\y=.ref a/\DQ K H a ys/\KQ K H ks b/\Q (.bl (n != (lkQ ys ks).isSome)) H
def BH{A:NM}{E:Nk->Nm->Prop}{xs:!(!K1×Addr×Nk)}{Q:Bool->Nm->Prop}(i:A.units+64<NN)(g:MW X.prog X.w s.heap ks b)(f:(a==N6)=TJ)(c:s.heap.DictOfH (aY X.prog X.w) a xs)
  (h:Q (Q5 xs ks).isSome {s with toks:=s.toks+(aY X.prog X.w).draws ks}):Np (Nu X.prog X.w) A (contains (.ref a) (.ref b)) Q E s:=by
 show wpAny_contains_slot c.typeIs PySem.F.slot_dict_contains (NH PySem.F.slot_dict_contains c.typeIs PySem.F.entry_dict_contains ?_ (PySem.args_dict_contains _ _));change Np _ A.in1 (dictGet a (.ref b) >>= _) _ _ s;show Nj (wpAny_dictGet_heap (A:=A.in1) (knd:=aY X.prog X.w) (show A.units+1+1<NN by omega) g c ?_);cases e:Q5 xs ks with
 | some p=>rw[e]at h;show Nl {_,Xr,N7 h}
 | none=>rw[e]at h;show Nj (wpAny_pendingKey_other f (Nl {_,Xr,N7 h}))
def Dn(i:X.A.units+64<NN):OpR X (NT .In) (rM TJ X.K):=by
 intro OK s Z H x y v u Q I e g h;have(a,ys,b,ks,l,f,c,m,q):=h;subst l;subst f;obtain rfl:v=Nx b:=e;obtain rfl:u=Nx a:=g;have(z,d,o,r,j):=c.at I;show Nj (BH i (m.is I) d j (Nl {_,H,I.tok _,?_,q}));rw[kj r,Mj];show rfl
def uE(i:X.A.units+64<NN):OpR X (NT .NotIn) (rM TK X.K):=by
 intro OK s Z H x y v u Q I e g h;have(a,ys,b,ks,l,f,c,m,q):=h;subst l;subst f;obtain rfl:v=Nx b:=e;obtain rfl:u=Nx a:=g;have(z,d,o,r,j):=c.at I;show Nj (BH i (m.is I) d j (Nl {_,H,I.tok _,?_,q}));rw[kj r,Mm];show rfl
abbrev xI(K:yF):R2:=λx y H Q=>∃a ys b ks v,x=.ref a/\y=.ref b/\DQ K H a ys/\KQ K H ks b/\lkQ ys ks*>v/\Q v H
def Ah{o i:Expr}{pos:Pos}{j f:TE}(hu:X.A.units+64<NN)(ho:PE X o j)(U:PE X i f)(hs:vB i):PE X (.Subscript o i pos) (tOp (xI X.K) j f):=by
 intro OK s Z H Q I h;show tI PySem.F.slot_dict_getitem.lookup hs (thn (ho OK s Z H _ I h) λu N c=>?_);have(x,Y,J,q,G):=c;show thn (U OK N Z Y _ J G) λiv s2 c=>?_;obtain⟨y,S,d,B,a,ys,b,ks,v,M,t,m,O,l,L⟩:=c;subst M;subst t;obtain rfl:u=Nx a:=q;obtain rfl:iv=Nx b:=B;have(z,hs,E,r,g):=m.at d;show{g.typeIs,?_};have:=BK (k:=ks) r;rw[l]at this;cases e:Q5 E ks with
 | none=>rw[e]at this;show this.elim
 | some p=>
  rw[e]at this;show wpAny_getItem_heap (knd:=aY X.prog X.w) (show X.A.units+1+1<NN by omega) (O.is d) g e {v,S,d.tok _,this,L}
abbrev Cc(K:yF):yZ:=λo i v H Q=>∃a ys b ks,o=.ref a/\i=.ref b/\H a*>(.dT ys)/\(∀y∈ys,KQ K H y.1 y.2.1)/\KQ K H ks b/\(putQ ys ks b v).length<=sizeLine/\Q (upd H a (.dT (putQ ys ks b v)))
def vf(hu:X.A.units+64<NN):Cr X (Cc X.K):=by
 intro OK s Z H o i v J iv u Q I E j Y h;obtain⟨a,ys,b,ks,O,y,e,l,U,m,q⟩:=h;subst O;subst y;obtain rfl:J=Nx a:=E;obtain rfl:iv=Nx b:=j;have(z,p,B,r,M):=DQ.at I {.inl e,l};have t:B.length<=sizeLine:=by rw[<-r.length];show z
 show wpAny_setItem_heap (knd:=aY X.prog X.w) (hsz:=t) (show X.A.units+1+1<NN by omega) (U.is I) M λh' d sb=>{_,?_,q};have(g,L,N,f,d2,d3,S,d5,G):=d;show I.write (x:=a) (e:=a) (t':=s.toks+(aY X.prog X.w).draws ks) (by rw[e];show ON) (.inl rfl) (λc o hc z=>(sb.2 c hc).trans z) ⟨g,f⟩ (show ML X.prog X.w _ h' a (.dT (putQ ys ks b v))from{m,p,_,rD r Y,g,L,N,f,d2,d3,S,G})
end
def ut{prog:Nv}{w:NB}{A:NM}{R:R3->Nm->Prop}{s:Nm}{L J a iter:Expr}{q:!Expr}{d:O8}{pos:Pos}{it:Nk}{D:Addr}{env:Env}(I:Nat->Nm->Prop)
  (y:∀n s,I n s->Np (Nu prog w) A (Pa it) (λr e=>match r with
   | none=>R (.ok .next) e
   | some v=>Np (Nu prog w) A (OG a it v) (λ_ c=>Np (Nu prog w) A (OJ a env v) (λ_ i=>
     Np (Nu prog w) A (ji q env) (λH f=>
      if H=TK then Np (Nu prog w) A (eval L env) (λN o=>Np (Nu prog w) A (eval J env) (λM j=>
       Np (Nu prog w) A (RT D N M) (λ_ g=>∃m,m<n/\I m g) (λ_ _=>False) j) (λ_ _=>False) o) (λ_ _=>False) f
      else∃m,m<n/\I m f) (λ_ _=>False) i) (λ_ _=>False) c) (λ_ _=>False) e) (λ_ _=>False) s)
  (n:Nat) (h:I n s):OD (Nu prog w) A (.compLoop (.DictComp L J [{a,iter,q,0}] d pos) 0 it (.ref D) env) R s:=by
 show codeAny_loop rfl I (λn s O=>?_) n h;change Np _ A ((compTurn (.DictComp L J [{a,iter,q,0}] d pos) 0 it (.ref D) env).onRaise (λx=>do noteFrame x env;Sk x)) _ _ s;show wpAny_noted ?_;rw[compTurn_dict];show Nj (Od (Nj (NR (y n s O) (λr e l=>?_) λ_ _ z=>z.elim)));cases r with
 | none=>show Nl l
 | some v=>
  show Nj (NR l (λ_ c t=>?_) λ_ _ z=>z.elim);show Nj (NR t (λ_ i B=>Nj (NR B (λH f p=>?_) λ_ _ z=>z.elim)) λ_ _ z=>z.elim);cases H with
  | false=>show Nl ⟨Xr,p⟩
  | true=>
   show Nj (Nj (NR p (λN o G=>Nj (NI (NR G (λM j u=>Nj (Od (NI (NR u (λ_ g E=>Nl ⟨Xr,E⟩) λ_ _ z=>z.elim)))) λ_ _ z=>z.elim))) λ_ _ z=>z.elim))
abbrev obQ(P:Nv)(w:NB)(a:!Eq3)(o:Obj):Prop:=∃c d e,Paired PQ a c/\o.ExactDict/\o.data=.dict d e/\d.toList=c.map (enK P w)/\(c.map (·.1)).Nodup
abbrev szQ(a:!Eq3):Prop:=a.length<sizeLine
def Dg(a:!Eq3)(o:Obj)(h:obQ P w a o):∀v,o.data ≠ .cell v:=by
 have(f,c,d,_,_,e,_):=h;show λv z=>by rw[e]at z;cases z
def Dh{h:Heap}{ys:!Eq3}{xs:!(!K1×Addr×Nk)}(r:Paired PQ ys xs)(f:h.DictOfH (aY P w) d xs):∃o,h.get? d*>o/\obQ P w ys o:=by
 have(o,e,g,a,l,i,j,m,c):=f;show⟨o,a,xs,e,g,r,l,i,j,c⟩
abbrev rpQ(K:yF)(a:!Eq3)(y v:V)(H:Hp)(N:!Eq3->Hp->Prop):Prop:=∃b c,y=.ref b/\KQ K H c b/\(∀z∈a,KQ K H z.1 z.2.1)/\N (putQ a c b v) H
def xo{Y:Cx}{E:Nk->Nm->Prop}{Q:Nm->Prop}(hu:Y.A.units+64<NN)(I:Inv Y pp Z H s)(e:s.heap.get? d*>o)(ho:obQ Y.prog Y.w acc o)(hz:szQ acc)(U:RelV v u)(S:KQ Y.K H ks b)(a:∀z∈acc,KQ Y.K H z.1 z.2.1)
  (q:∀h' c,Nw d s.heap h'->h'.get? d*>c->obQ Y.prog Y.w (putQ acc ks b v) c->Q {s with heap:=h',toks:=s.toks+(aY Y.prog Y.w).draws ks}):Np (Nu Y.prog Y.w) Y.A (RT d (.ref b) u) (λ_ s'=>Q s') E s:=by
 have(J,L,O,r,h1,M,l,m):=ho;have N:s.heap.DictOfH (aY Y.prog Y.w) d J:=by
  show{o,L,O,e,h1,M,l,?_,m};clear l m hz q;intro x f
  induction r with
  | nil=>cases f
  | @cons p q _ _ j t G=>
   rcases ycM f with e|f
   .subst e;have:=(a p ymS).is I;rw[j.1,j.2.1]at this;show this
   .show G (λy hy=>a y (ymC _ hy)) f
 show RF (knd:=aY Y.prog Y.w) (hsz:=by rw[<-r.length];show JH hz) (show Y.A.units+1<NN by omega) (S.is I) N λh' h B=>?_;have(c,X,g):=Dh (rD r U) h;show q h' c B X g
def Wa.putQ{N:!Eq3->Hp->Prop}(hu:Y.A.units+64<NN)(A:Wa Y pp tg J fp it tn d)(ht:PTs Y ifs tc)(x:PE Y kx tk)(G:PE Y vx tv)
  (J8:Inv Y (((d,o)::pp)++dA fp h7) Z8 H8 s8) (e:tn (i+1) h7) (j:Kp fr Z0 Z8) (g:obQ Y.prog Y.w acc o) (hz:szQ acc) (Z:∀acc' H',N acc' H'->∃U,U<n/\W (i+1) U acc' H')
  (q8:tc Z8 H8 λb H3=>if b=TK then tk Z8 H3 λy H4=>tv Z8 H4 λv H5=>rpQ Y.K acc y v H5 N else N acc H3) :
  Np (Nu Y.prog Y.w) Y.A (ji ifs Y.env) (λH c=>
   if H=TK then Np (Nu Y.prog Y.w) Y.A (eval kx Y.env) (λL p=>Np (Nu Y.prog Y.w) Y.A (eval vx Y.env) (λX h=>
    Np (Nu Y.prog Y.w) Y.A (RT d L X) (λ_ a=>∃m,m<n/\Wk (obQ Y.prog Y.w) Y pp fr Z0 fp tn d W m a) Y.xe h) Y.xe p) Y.xe c
   else∃m,m<n/\Wk (obQ Y.prog Y.w) Y pp fr Z0 fp tn d W m c) Y.xe s8:=by
 show thn (ht _ s8 Z8 H8 _ J8 q8) λH s9 l=>?_;have(H9,J9,r):=l;cases H with
 | false=>
  rw[if_neg (by decide)]at r|-;show A.stays e j J9 Z r g
 | true=>
  rw[if_pos rfl]at r|-;show thn (x _ s9 Z8 H9 _ J9 r) λL z l=>?_;have(y,S,B,O,M):=l;show thn (G _ z Z8 S _ B M) λX s11 l=>?_;have(v,H11,f,E,u):=l;have(b,ks,ey,hk,s,q):=u;subst ey;obtain rfl:L=Nx b:=O;show xo (Q:=λa=>∃m,m<n/\Wk (obQ Y.prog Y.w) Y pp fr Z0 fp tn d W m a) hu f (A.kept e f).2.2.1 g hz E hk s λh' o' sb e' t=>A.grown e j f Z q sb e' t
abbrev rW(K:yF)(t:TI)(fr:! ↑Nat)(g:TG)(q:TT)(u r:TE):TE:=λZ H Q=>
 t Z H λJ o=>∃W:Nat->Nat->!Eq3->Hp->Prop,(∃m,W 0 m [] o)/\∀i m a H,W i m a H->szQ a /\
  ((J.stop i H/\∀d,H d=TF->Q (.ref d) (upd H d (.dT a))) \/
  (J.go i H/\∃N:!Eq3->Hp->Prop,(∀c e,N c e->∃h,h<m/\W (i+1) h c e) /\
   ∀x e,J.yld i H x e->g x (bG fr Z) e λf l=>q f l λb j=>if b=TK then u f j λy s=>r f s λv p=>rpQ K a y v p N else N a j))
section
variable {X:Cx}{kx vx tg iter:Expr}{ifs:!Expr}{scope:O8}{pos:Pos}{N':!Str}{fr:! ↑Nat}{wi:TI}{g:TG}{tc:TT}{tk tv:TE}
def Fs{acc o H h d}(l:obQ X.prog X.w acc o)(f:szQ acc)(p:(d==N6)=TJ)(e:h.get? d*>o):ML X.prog X.w H h d (.dT acc):=by
 have(m,c,j,r,i,s,q,a):=l;show{JH f,p,m,r,o,c,j,e,i,s,q,a}
def j3(hu:X.A.units+64<NN)(hc:X.calm=TK)(B:Blk X.env.scope scope X.N N' fr)
  (hg:∀b,PG (cxB X scope N' b) tg g) (M:ee fr g) (ht:∀b,PTs (cxB X scope N' b) ifs tc) (u:∀b,PE (cxB X scope N' b) kx tk) (S:∀b,PE (cxB X scope N' b) vx tv)
  {z:!(Addr×Obj)} {Z:St} {Q:VK} {h:Nk} {s2:Nm} {E:Nk->Nm->Prop} {RR:Nk->Addr->R3->Nm->Prop}
  (h2:PIE X z Z tg (λJ H1=>∃W:Nat->Nat->!Eq3->Hp->Prop,(∃m,W 0 m [] H1)/\∀i m c H,W i m c H->szQ c /\
   ((J.stop i H/\∀d,H d=TF->Q (.ref d) (upd H d (.dT c))) \/
   (J.go i H/\∃N:!Eq3->Hp->Prop,(∀acc' H',N acc' H'->∃r,r<m/\W (i+1) r acc' H') /\
    ∀x H',J.yld i H x H'->g x (bG fr Z) H' λZ2 H2=>tc Z2 H2 λb H3=>if b=TK then tk Z2 H3 λy H4=>tv Z2 H4 λv H5=>rpQ X.K c y v H5 N else N c H3))) h s2)
  (U:∀(d C:Addr) (v:V) (H':Hp) (t:Nm) r,Inv X z Z H' t->v=.ref d->Q v H'->t.heap.Ns C r->eQ X z H' C->C≠d->RR (.ref d) C (.ok .next) t) :
  Np (Nu X.prog X.w) X.A newDict (λc l=>Np (Nu X.prog X.w) X.A (Pc scope X.env.globals (bK X.env scope.names []) [] X.env.qual TF .none (TH X.env)) (λe p=>
   OD (Nu X.prog X.w) X.A (.compStart (.DictComp kx vx [{tg,iter,ifs,0}] scope pos) 0 h c {e with scope:=Qv scope X.env}) (RR c e.locals) p) E l) E s2:=
 kK (Ob:=obQ X.prog X.w) (Sz:=szQ) (ho:=.dT) (a0:=[]) (o0:={cls:=.type "dict",data:=.dict #[]}) hc B (λq=>Nz q) (λa b=>codeAny_compStart_dict a b) {[],#[],0,.nil,⟨Xr,Xr,Xr⟩,Xr,Xr,Jn} (Nt _ rfl) Fs h2 U λf it fp tn J H2 d s4 A w0 wk L=>by
  obtain⟨W,⟨m0,w0⟩,j⟩:=w0;show ut (Wk (obQ X.prog X.w) (cxB X scope N' f) [] fr (bG fr Z) fp tn d W) (λn s hw=>A.turn Dg (hg f) M j hw L λi c o N h7 Z' H t J8 O G va hz hN q8=>A.putQ (Y:=cxB X scope N' f) hu (ht f) (u f) (S f) J8 O G va hz hN q8) m0 (wk W m0 w0)
def wP(z:X.A.units+64<NN)(L:X.calm=TK)(B:Blk X.env.scope scope X.N N' fr)(G:PI X tg iter wi)
  (E:∀b,PG (cxB X scope N' b) tg g) (c:ee fr g) (S:∀b,PTs (cxB X scope N' b) ifs tc) (a:∀b,PE (cxB X scope N' b) kx tk) (f:∀b,PE (cxB X scope N' b) vx tv)
  (hs:∀x,NY iter X.env x=pure x:=by intro _;rfl):PE X (.DictComp kx vx [{tg,iter,ifs,0}] scope pos) (rW X.K wi fr g tc tk tv):=by
 intro j s Z H Q I h;rw[arm_eval_DictComp];show Ov (use:=TF) rfl hs (dh (I.freeCells B)) B.kind B.locl (thn (G j s Z H _ I h) λv s1 O=>thn O λr s2 y=>?_);show j3 (RR:=λi C=>SH (Nu X.prog X.w) X.A X.xe TF (EP X j Z Q) i C) z L B E c S a f y ?_;intro d C v U s' m p M q Y J u;show{m,Y,λt l=>?_};have(c0,c1,c2,c3,c4,c5):=J;show{v,U,p.turned (it:=C) (t':=s'.toks) (λb o hb e=>(l.2 b hb).trans e) c0 c1 c3 c4 c5,by rw[M];rfl,q}
def pF(Y:X.A.units+64<NN)(hc:X.calm=TK)(M:X.N.Nodup)(t:X.N[i]?*>x)(y:X.env.scope.names.lookup x*>.local)(B:Blk X.env.scope scope X.N N' fr)(hi:PI X tg iter wi)
  (hg:∀b,PG (cxB X scope N' b) tg g) (l:ee fr g) (ht:∀b,PTs (cxB X scope N' b) ifs tc) (f:∀b,PE (cxB X scope N' b) kx tk) (m:∀b,PE (cxB X scope N' b) vx tv)
  (u:Pi (.DictComp kx vx [{tg,iter,ifs,0}] scope pos) (TH (.Name x pos')) spos.line X.env=pure TK:=by rfl)
  (hs:∀x,NY iter X.env x=pure x:=by intro _;rfl):PS X (.Assign [.Name x pos'] (.DictComp kx vx [{tg,iter,ifs,0}] scope pos) spos) (yr (rW X.K wi fr g tc tk tv) (jW i)):=by
 intro j s Z H D I h;rw[QM _ _ _ _ u];show Nj (Od (Nj ?_));change Np _ _ (do let _ <-comprehension (.DictComp kx vx [{tg,iter,ifs,0}] scope pos) scope X.env _ newDict TJ (eval iter X.env) (TH (OJ (.Name x pos') X.env))) _ _ s;show Nj (NR (Ov (use:=TH (OJ (.Name x pos') X.env)) (Q:=λ_ c=>SP X j D .next c) rfl hs (dh (I.freeCells B)) B.kind B.locl (thn (hi j s Z H _ I h) λv s1 h1=>thn h1 λL s2 U=>?_)) (λ_ c hq=>Nl (Nl hq)) λ_ _ e=>e);show j3 (Q:=λv H1=>jW i v Z H1 D.nx) (RR:=λr C=>SH (Nu X.prog X.w) X.A X.xe (TH (OJ (.Name x pos') X.env)) (λ_ c=>SP X j D .next c) r C) Y hc B hg l ht f m U ?_;intro d C v H' c G J hv q hn fC S;have(c0,c1,c2,c3,c4,c5):=fC;subst hv;show P6 (jP J M t (.inl y) (show RelV (.ref d) (.ref d)from rfl) (λs6 I6 ⟨a,sa,ha⟩=>?_) (.inr y));have p:C≠a:=by
  rcases ha with z|z;rw[z];show c1;show λz'=>c4 x a z z'.symm
 show{G,hn.sameBut sa p,λO E=>?_};show{_,H',I6.turned (it:=C) (t':=s6.toks) (λb o hb e=>(E.2 b hb).trans e) c0 c1 c3 c4 c5,q}
end
protected def Ev3:=!K1×Addr×Nk
abbrev prQ(P:Nv)(w:NB)(G:Heap)(d it:Addr)(p:Ev3)(key a:Nk):Prop:=key=.ref p.2.1/\a=p.2.2/\∀h,KpG G d it h->MW P w h p.1 p.2.1
abbrev obG(P:Nv)(w:NB)(G:Heap)(d it:Addr)(xs:!Ev3)(o:Obj):Prop:=(∃a c,o.ExactDict/\o.data=.dict a c/\a.toList=xs.map (enK P w)/\(xs.map (·.1)).Nodup)/\∀y∈xs,∀h,KpG G d it h->MW P w h y.1 y.2.1
abbrev l8(xs:!Ev3) (p:Ev3):!Ev3:=Tf xs p.1 p.2.1 p.2.2
def pW{xs:!Ev3}{k:!K1}{y:Ev3}(h:y∈Tf xs k a v):(∃z∈xs,y.1=z.1/\y.2.1=z.2.1)\/y.1=k/\y.2.1=a:=by
 cases e:Q5 xs k with
 | none=>
  rw[Q6 e]at h;rcases yaM h with h|h;show .inl ⟨y,h,Xr,Xr⟩;rw[ysM h];show .inr ⟨Xr,Xr⟩
 | some p=>
  rw[Q7 e]at h;have(z,c,rfl):=Is.mp h;show .inl {z,c,?_};unfold putAt;split<;>show⟨Xr,Xr⟩
def pX(xs:!Ev3)(p:Ev3):(l8 xs p).length<=xs.length+1:=by
 unfold l8;cases e:Q5 xs p.1 with
 | none=>rw[Q6 e,Ip];show Iq _
 | some q=>rw[Q7 e,Ih];show KG _
def HH{P:Nv}{w:NB}{G:Heap}{d it:Addr}:DUp P w True G d it (obG P w G d it) JL l8 (prQ P w G d it):=by
 show{λ{A E Q s st o p B v} H l e r Z f q=>?_,pX};obtain⟨a,c,e⟩:=e;subst a;subst c;obtain⟨⟨J,O,U,L,X,h4⟩,j⟩:=Z;show RF (knd:=aY P w) (hsz:=JH f) (H trivial) (e _ l) {o,J,O,r,U,L,X,λx hx=>j x hx _ l,h4} λh' N sb=>?_;obtain⟨o',g,i,S,f2,u,t,f5,M⟩:=N;show q h' o' _ sb S {⟨g,i,f2,u,t,M⟩,λy Y h m=>?_};rcases pW Y with⟨z,f,a,c⟩|⟨a,c⟩;rw[a,c];show j z f h m;rw[a,c];show e h m
abbrev oE(c:!Eq3):!Eq3:=c.foldl (λa p=>putQ a p.1 p.2.1 p.2.2) []
def yp:∀{a:!Eq3} {c:!Ev3} {ys:!Eq3} {xs:!Ev3},Paired PQ a c->Paired PQ ys xs->Paired PQ (a.foldl (λys p=>putQ ys p.1 p.2.1 p.2.2) ys) (c.foldl l8 xs):=by
 intro a c ys xs h
 induction h generalizing ys xs with
 | nil=>show λg=>g
 | @cons p q _ _ r t d=>
  intro g;show d ?_;unfold l8;rw[<-r.1,<-r.2.1];show rD g r.2.2
def kA:∀(a xs:!Ev3),(a.foldl l8 xs).length<=xs.length+a.length
 | [],xs=>Iq _
 | q::a,xs=>by
  have c:=kA a (l8 xs q);have d:=pX xs q;rw[Kc,Iv];omega
abbrev yY(K:yF)(H:Hp)(y:V)(q:Eq3):Prop:=∃t,y=.ref t/\SqT K H t [.ref q.2.1,q.2.2]/\KQ K H q.1 q.2.1
abbrev rL(K:yF):!V->Hp->VK->Prop:=λd H Q=>∃p a c,d=[.ref p]/\(SqL K H p a\/SqT K H p a)/\Paired (yY K H) a c/\∀l,H l=TF->Q (.ref l) (upd H l (.dT (oE c)))
section
variable {X:Cx}{OK:!(Addr×Obj)}{Z:St}{H:Hp}{s:Nm}
def MW.keptG{P:Nv}{w:NB}{h G h':Heap}{d it b:Addr}(z:MW P w h ks b)(k:∀b o,h.get? b*>o->G.get? b*>o)(j:h.objs.size<=d)(l:h.objs.size<=it)(m:KpG G d it h'):MW P w h' ks b:=by
 have i:∀b o,h.get? b*>o->h'.get? b*>o:=λb o e=>m b o (IA (IB (Nr e) j)) (IA (IB (Nr e) l)) (k b o e);have(o,a,n,f,g,q,p):=z;show{o,a,n,i _ _ f,g,q,Paired.mapP p λk v z=>?_};cases k with
 | inl k=>show z
 | inr r=>
  have(c,rfl,o,a,n,f,g):=z;show{c,Xr,o,a,n,i _ _ f,g}
def Ay(I:Inv X OK Z H s):∀{ys:!V} {m:!Eq3} {f:!Nk},Paired (yY X.K H) ys m->Vals ys f ->
  ∃c:!Ev3,(∀{G:Heap} {d it:Addr},(∀b o,s.heap.get? b*>o->G.get? b*>o)->s.heap.objs.size<=d->s.heap.objs.size<=it->Paired (PrG (prQ X.prog X.w G d it) G d it) f c)/\Paired PQ m c:=by
 intro ys m f x a
 induction x generalizing f with
 | nil=>cases a;show{[],λ_ _ _=>.nil,.nil}
 | @cons y p _ _ h x A=>
   cases a with
   | @cons _ u _ _ r a=>
  have(c,O,E):=A a;obtain⟨t,e,h,M⟩:=h;subst e;have L:u=Nx t:=r;obtain⟨J,j,⟨o,v,S,n,N⟩,_⟩:=I.tupleN h;cases j with
  | @cons _ U _ _ j q=>cases q with
   | @cons _ B _ _ q Q=>
    cases Q;obtain rfl:U=Nx p.2.1:=j;have lt:=Nr v;show{(p.1,p.2.1,B)::c,λi g l=>.cons {t,_,_,L,IA (IB lt g),IA (IB lt l),{Xr,Xr,λh z=>(M.is I).keptG i g l z},o,n,i _ _ v,S.1,N} (O i g l),.cons ⟨Xr,Xr,q⟩ E}
def qx(O:X.calm=TK)(E:X.A.units+64<NN):MQ X (.type "dict") (rL X.K):=by
 intro OK s Z H x us Q I r h;have(p,c,f,rfl,a,l,q):=h;have(u,rfl,t):=gp r;cases t;show mw (Ob:=obG X.prog X.w) (Pr:=prQ X.prog X.w) (st0:=[]) (ho:=.dT (oE f)) O (λ_=>E) I a HH (λ_ _ _=>{{#[],0,⟨Xr,Xr,Xr⟩,Xr,Xr,Jn},λy S=>nomatch S}) rfl (λ{v} N=>?_) q;have(i,L,g):=Ay I l N;show{i,L,λ{Hx G h d it o} hb e ob=>?_};obtain⟨⟨z,J,U,B,Y,h4⟩,_⟩:=ob;have j:=yp g (ys:=[]) (xs:=[]) .nil;show{?_,hb,_,j,o,z,J,e,U,B,Y,h4};have e1:=l.length;have e2:=g.length;have M:=kA i [];have e4:=j.length;have e5:(oE f).length=(f.foldl (λc p=>putQ c p.1 p.2.1 p.2.2) []).length:=rfl;dsimp[Ko,IZ]at M;rcases a with a|a;have(_,_,_,m):=I.list a;omega;have(_,_,_,m):=I.tupleN a;omega
end
section
variable {P:Nv}{w:NB}{A:NM}{E:Nk->Nm->Prop}{s:Nm}{d b:Addr}{xs:!Ev3}{ks:!K1}{v:Nk}
def vT{Q:Unit->Nm->Prop}(S:A.units+1<NN)(M:MW P w s.heap ks b)(X:s.heap.DictOfH (aY P w) d xs)(hz:xs.length<=sizeLine)
  (q:∀h',h'.DictOfH (aY P w) d (Tf xs ks b v)->Nw d s.heap h'->Q () {s with heap:=h'}):Np (Nu P w) A (Ro d (.ref b) (hk2 P w ks) v) Q E s:=by
 have(o,U,H,g,J,f,i,t,h):=X;have B:∀{h':Heap} {j:!K1} {c:Addr},Nw d s.heap h'->MW P w s.heap j c->MW P w h' j c:=λY z=>z.keeps g f Y;unfold Ro;try with_reducible refine NI ?_
 show Nj (wpAny_dictFind_heap (knd:=aY P w) S M g f i t h (λG=>?_) λj p L=>?_)
 .have N:ks∉xs.map (·.1):=not_mem_keys_of_get G;have r:=atKey_none_of_get G;show Nj (Ou (wpAny_updateDictKeys (hz:=by rw[QH i];show hz) g f (q _ ?_ (NC ..))));rw[Q6 r];show{_,_,H+1,NV _ g (Rj (Q8 f _)),J.mapDictKeys _,Q8 f _,?_,λx a=>?_,?_};simp[i,entryOfKey];rfl
  .show B (NC ..) ?_;rcases yaM a with a|a;show t x a;rw[ysM a];show M
  .rw[Iu];show Im.mpr {h,by simp,λx a y m e=>N ?_};have:y=ks:=by exists m
   rw[<-this,<-e];show a
 .have r:=atKey_of_get h L;show Nj (Ou (Nj (wpAny_updateDict g f (wpAny_point (q _ ?_ (NC ..))))));rw[Q7 r];show{_,_,H,NV _ g (Rj (R9 f _)),J.mapDict _,R9 f _,?_,λx a=>?_,by rw[keys_map_putAt];show h}
  .have:=modify_map_putAt (entryOfKey (aY P w)) (λe:Ra=>{e with val:=v}) ks v (λ_ _=>rfl) h L;rw[<-i]at this;obtain⟨l⟩:=U;exists this
  .have(y,m,rfl):=Is.mp a;show B (NC ..) ?_;unfold putAt;split<;>show t y m
def qI{c e : Type}(f : c->e->c)(a : c)(l:!e)(i:Nat)(x : e)(h:l[i]?*>x):(l.take (i+1)).foldl f a=f ((l.take i).foldl f a) x:=by
 rw[Jk,h,K6];rfl
def zL{nm:String}{o:Addr}{ys:!Ev3}{Q:Unit->Nm->Prop}(hu:A.units+1<NN)(B:d≠o)(ho:(o==N6)=TJ)(dd:s.heap.DictOfH (aY P w) d xs)(oo:s.heap.DictOfH (aY P w) o ys)(h0:xs≠[])(hz:xs.length+ys.length<=sizeLine)
  (q:∀h',h'.DictOfH (aY P w) d (ys.foldl l8 xs)->Nw d s.heap h'->Q () {s with heap:=h'}):Np (Nu P w) A (Qx nm d o) Q E s:=by
 have(od,esd,epd,Z,d2,d3,d4,d5,d6):=id dd;have(H,a,ep,N,o2,G,o4,o5,o6):=id oo;have hl:a.size=ys.length:=QH o4;unfold Qx;rw[if_neg (by exists B)];unfold Ph;rw[if_neg (by rw[ho];show Ir)];show Nj (Nl (Nj (Ot N G ?_)));have j:Np (Nu P w) A (do
   let p <-dictEpoch o
   let l <-dictEntries o
   forIn [:l.size] Qy λi (_:PUnit)=>(do
     let l' <-dictEntries o
     match l'[i]? with
      | some e=>do
       N8 [e.key,e.val] (Ro d e.key e.hash e.val)
       let O <-dictEpoch o
       if(O != p)=TK then do
         (unsupported (toString nm++toString ":source-changed-during-callback"):Sem PUnit)
         pure (Os Qy)
        else pure (Os Qy)
      | _=>do
       (unsupported "internal:dict-merge" : Sem PUnit)
       pure (Os Qy):Sem (ForInStep PUnit))
   pure ()) Q E s:=by
  show Nj (Px N G (Nj (Ot N G (Nj ?_))));rw[Q9];dsimp[Tg,Mw,Nat.add_sub_cancel,Nat.div_one];show OP _ (λrest _ Y=>∃h' i,Y={s with heap:=h'}/\rest=MF i (a.size-i)/\i<=a.size/\h'.DictOfH (aY P w) d ((ys.take i).foldl l8 xs)/\h'.get? o*>H/\Nw d s.heap h') _ ?_ ?_ _ _ {s.heap,0,Xr,by simp,Jm _,dd,N,Tx _ _}
  .rintro x rest b Y ⟨h',i,rfl,t,hi,f,m,c⟩;have J:i<a.size:=by
    rcases Mx i a.size with h|h;show h;rw[Nat.sub_eq_zero_of_le h]at t;cases t
   obtain⟨rfl,r⟩:x=i/\rest=MF (i+1) (a.size-(i+1)):=by
    rw[show a.size-i=(a.size-(i+1))+1 by omega,Ma]at t;injection t with h1 M;show⟨h1,M⟩
   show Nj (Ot m G ?_);obtain⟨y,S⟩:∃y,ys[x]?*>y:={ys[x]'(by rw[<-hl];show J),II _};rw[entry_at o4 x,S];have hm:=ymG S;have lz:=kA (ys.take x) xs;have lt:=List.length_take_le x ys;show Nj (NI (vT (s:={s with heap:=h'}) hu ((o5 y hm).keeps Z d3 c) f ⋯ λM U u=>?_));have L:M.get? o*>H:=(u.2 o (NA B)).trans m;show Nj (Px L G ?_);rw[if_neg ∅];show Nl {M,x+1,Xr,r,J,by rw[qI l8 xs ys x y S];show U,L,c.trans u}
  .rintro b Y ⟨h',i,rfl,t,hi,f,m,c⟩;have X:i=a.size:=by
    rcases Mx i a.size with h|h;rw[show a.size-i=(a.size-(i+1))+1 by omega,Ma]at t;cases t;show Md hi h
   rw[X,hl,Ji]at f;show Nl (q h' f c)
 dsimp only;split
 .show Nj (Ot Z d3 ?_);rw[if_neg (λz=>h0 ?_)];show j
  .have:=QH d4;rw[Array.isEmpty_iff.mp z]at this;show Jw.mp this.symm
 .show j
end
section
variable {X:Cx}{OK:!(Addr×Obj)}{Z:St}{H:Hp}{s:Nm}
abbrev xN(K:yF)(x:V)(vs:!V)(H:Hp)(Q:VK):Prop:=∃a b c d,x=.ref a/\vs=[.ref b]/\a≠b/\H a*>(.dT c)/\(∀y∈c,KQ K H y.1 y.2.1)/\DQ K H b d/\c≠[]/\c.length+d.length<=sizeLine/\Q .non (upd H a (.dT (d.foldl (λc p=>putQ c p.1 p.2.1 p.2.2) c)))
def zO(hu:X.A.units+64<NN):MtR X "dict.update" (xN X.K):=by
 intro OK s Z H x vs v us Q I E rv h;obtain⟨a,b,ys,zs,S,U,ne,p,i,hb,h0,B,q⟩:=h;subst S;subst U;obtain rfl:v=Nx a:=E;have(u,rfl,G):=rv.one;obtain rfl:u=Nx b:=G;have(z1,Y,L,f,g):=DQ.at I {.inl p,i};have(z2,s2,l,j,d):=hb.at I;show NH PySem.F.slot_dict_update g.typeIs PySem.F.entry_dict_update ?_ (PySem.F.args_dict_update_2 _ _);unfold Nq.«dict.update»;show Nj ?_;unfold Qj;show Nj (Pf g.typeIs ?_);change Np _ _ (pure (a,[Nx b])) _ _ s;show Nl ?_;change Np _ _ (Oz "dict.update" a (.ref b) [] .none) _ _ s;unfold Oz;show Nj (OE d.typeIs ?_);rw[if_neg (by decide)];show Nj ?_;unfold Tv;show Nj ?_;unfold SQ;show Nj (Ol d.typeIs isSubtype_dict_dict ?_);dsimp[Kf,IQ,if_false];show Nj (Oq d.typeIs PySem.F.slot_dict_iter.lookup (Nl ?_));dsimp[beq_self_eq_true,if_true];show Nj (Nl ?_);show zL (A:=X.A.in1) (show X.A.units+1+1<NN by omega) ne s2 g d (λe=>h0 ?_) (by rw[<-f.length,<-j.length];show B) λh' d' sb=>?_;subst e;cases f;rfl;change Np _ _ (SU a [] >>= _) _ _ _;show Nj (Nl (Nl {.none,Xr,.non,_,?_,Xr,q}));have(r,M,O,m,f2,J,y,f5,N):=d';have t:=yp j f;have e1:=kA l L;have e2:=t.length;have e3:=f.length;have e4:=j.length;show I.write (x:=a) (e:=a) (t':=s.toks) (by rw[p];show ON) (.inl rfl) (λc o hc z=>(sb.2 c hc).trans z) ⟨r,m⟩ (show ML X.prog X.w _ h' a (.dT _)from{IS (Ms e2) ⋯,Y,_,t,r,M,O,m,f2,J,y,N})
end
section
variable {P:Nv}{w:NB}{A:NM}{E:Nk->Nm->Prop}{s:Nm}{d it:Addr}{xs:!Ev3}{ep:Nat}
abbrev MZ(P:Nv)(w:NB)(h:Heap)(d:Addr)(xs:!Ev3)(ep:Nat):Prop:=∃o a,h.get? d*>o/\o.ExactDict/\o.data=.dict a ep/\a.toList=xs.map (enK P w)
def MZ.typeIs(h:MZ P w s.heap d xs ep):s.TypeIs (.ref d) "dict" :=by have(o,e,c,a,_):=h;show⟨o,c,a.1⟩
def MZ.at{h h':Heap}(x:MZ P w h d xs ep)(k:∀o,h.get? d*>o->h'.get? d*>o):MZ P w h' d xs ep:=by have(o,a,c,e):=x;show{o,a,k o c,e}
def MZ.lt{h:Heap}(x:MZ P w h d xs ep):d<h.objs.size:=by have(o,c,a,_):=x;show Nr a
def CV{Q:Nk->Nm->Prop}(i:(d==N6)=TJ)(f:MZ P w s.heap d xs ep)
  (q:Q (.ref s.heap.objs.size) {s with heap:=s.heap.push {cls:=.type "dict_keyiterator",data:=.fields #[.ref d,.int 0 0,.int xs.length 0,.int ep 0]}}):Np (Nu P w) A (RZ (.ref d)) Q E s:=by
 have a:=f.typeIs;have(o,j,e,m,g,h):=f;have l:j.size=xs.length:=by rw[<-Jf,h,Ih]
 show wpAny_pyIter_slot a PySem.F.slot_dict_iter (NH PySem.F.slot_dict_iter a PySem.F.entry_dict_iter ?_ (PySem.F.args_dict_iter_1 _));unfold Nq.«dict.__iter__» SR;show Nj (Nj (Pf a (Nl ?_)));change Np _ _ (Ph d >>= _) _ _ s;unfold Ph;rw[if_neg (by rw[i];show Ir)];show Nj (Nl (Nj (Ot e g (Nj (Px e g ?_)))));show Nj (Nz (Nl {_,Xr,"dict_keyiterator",_,{_,Nt _ rfl,Xr},PySem.F.slot_dict_keyiterator_next.lookup,?_}));simpa[OS,l]using q
def wx{Q:↑Nk->Nm->Prop}{i:Nat}(H:A.handled=TF)(j:s.heap.IsKeyIter it d i xs.length ep)(z:MZ P w s.heap d xs ep)
  (B:∀x h',xs[i]?*>x->h'.IsKeyIter it d (i+1) xs.length ep->Nw it s.heap h'->Q (TH (.ref x.2.1)) {s with heap:=h'})
  (G:xs[i]?=TF->∀h',Qa it s.heap h'->Q TF {s with heap:=h'}):Np (Nu P w) A (Pa (.ref it)) Q E s:=by
 have c:=j.typeIs;have(o,l,y,h):=j;have(L,t,q,J,u,r):=z;have v:t.size=xs.length:=by rw[<-Jf,r,Ih]
 have p:t[i]?=(xs[i]?).map (enK P w):=by rw[<-Kg,r,Iw]
 unfold Pa;show Nj (Qh (NO (name:=ND "__next__") c PySem.F.slot_dict_keyiterator_next (NH PySem.F.slot_dict_keyiterator_next c PySem.F.entry_dict_keyiterator_next ?_ (PySem.F.args_dict_keyiterator_next_1 _))));show Nj (Nl (Nj (Nj ?_)));first|refine Nj (OB c (Nl ?_))|refine Nj (OW c (Nl ?_))
 show Nj (wpAny_fieldsOf l h ?_);dsimp[show So "dict_keyiterator" = TJ by decide,IQ,if_false];change Np _ _ (if(Nx d==N5)=TK then _ else _) _ _ s;rw[if_neg (show ¬ ((Nx d==N5)=TK)from Ir)];show Nj (Nl (Nj (Ot q u ?_)));rw[if_neg (by rw[v];simp)];show Nj (Nl (Nj (Px q u ?_)));rw[if_neg ∅];show Nl ?_;cases e:xs[i]? with
 | some x=>
  rw[e]at p;dsimp[show ¬ ((i:Int)<0)from by omega,if_false,IJ,p,JU];show Nj ?_;first|refine Nj (OB c (Nl ?_))|refine Nj (OW c (Nl ?_))
  show Nj (QV c ?_);change Np _ _ (SM (.ref it) 1 (OS ((i:Int)+1)) >>= _) _ _ s;show Nj (Oe l h ∅ ?_);have g:(s.heap.update it (NW (·.setIfInBounds 1 (OS ((i:Int)+1))))).IsKeyIter it d (i+1) xs.length ep:=
   {_,NV _ l (QN (OZ h _)),(RQ ..).trans y,by rw[OZ h];simp[OS]}
  show Nj (NI (Nj (QV (s:={s with heap:=s.heap.update it (NW (·.setIfInBounds 1 (OS ((i:Int)+1))))}) g.typeIs ?_)));show Nl (Nl {_,Xr,Nl (B x _ e g (NC ..))})
 | none=>
  rw[e]at p;dsimp[show ¬ ((i:Int)<0)from by omega,if_false,IJ,p,Option.map_none];show Nj ?_;first|refine Nj (OB c (Nl ?_))|refine Nj (OW c (Nl ?_))
  change Np _ _ (SM (.ref it) 0 .none >>= _) _ _ s;show Nj (Oe l h ∅ ?_);change Np _ _ (Tt (.type "StopIteration") [] >>= _) _ _ _;show Nj ?_;dsimp[Tt,newTuple];show Nj (Nz ?_ (by size_fits));show Nj (m:=PU _ _) (Sc (a:=N5) (by first|rfl|(dsimp[PU];rfl)) ?_);show Nz ?_ (by size_fits);dsimp[raiseNew];show Nj (wpAny_handled ?_);rw[show A.in1.handled=TF from H];show Nj (Nl (wpAny_throw ?_));show Nj (Ol (T:="StopIteration") (b:=TK) {_,Nt _ rfl,Xr} Q0 ?_);show Nl (G e _ (((NC ..).extBut.push _).push _))
def Bs(hh:A.handled=TF)(hne:d≠it):Tj P w A it [it,d] [it] xs.length (λi v=>∃x,xs[i]?*>x/\v=.ref x.2.1) (λi h=>h.IsKeyIter it d i xs.length ep/\MZ P w h d xs ep) where
 sub:=λb hb=>by rw[ysM hb];show ymS
 frame:=λ_ _ _ st hk=>{st.1.at λo e=>hk it ymS o e,st.2.at λo e=>hk d (ymC _ ymS) o e}
 item:=λi s Q E hi st hQ=>wx hh st.1 st.2 (λx h' e hit sb=>hQ _ h' s.toks ⟨x,e,Xr⟩ {hit,st.2.at λo e=>(sb.2 d hne).trans e} λb o hb e=>(sb.2 b λz=>hb (JD.mpr z)).trans e) λe=>absurd hi (by have:=K2.mp e;omega)
 done:=λs Q E st hQ=>wx hh st.1 st.2 (λx h' e _ _=>by rw[Kz (Iq _)]at e;cases e) λ_ h' eb=>hQ h' s.toks λb o hb e=>eb b o (λz=>hb (JD.mpr z)) e
 self:=λ_ _ _ _ st hQ=>wpAny_pyIter_keyiter st.1 hQ
def GN(lo:(d==N6)=TJ):PySem.W.KdlSrc P w "dict" d d xs.length (λi v=>∃x,xs[i]?*>x/\v=.ref x.2.1) (λh=>MZ P w h d xs ep) where
 type:=λ_ hm=>hm.typeIs
 there:=λ_ hm=>⟨hm.lt,hm.lt⟩
 keep:=λ_ _ hm hk=>hm.at λo e=>hk d (.inl rfl) o e
 notList:=by decide
 notTuple:=by decide
 hint:=λ_ _ _ _ hm hq=>PySem.W.kdl_hint_dict hm.typeIs hq
 iter:=λ_ _ hh hm=>{_,_,(λ_ _ hq=>CV lo hm hq),Bs hh (IA hm.lt),{{_,Nt _ rfl,Xr,Xr},hm.at λo e=>Nn _ e}}
end
def FH:∀{ys:!Eq3} {xs:!Ev3} {a:!Nk},Paired PQ ys xs->a.length=xs.length->(∀(i:Nat) (v:Nk),a[i]?*>v->∃x,xs[i]?*>x/\v=Nx x.2.1)->Vals (ys.map λy=>V.ref y.2.1) a:=by
 intro ys xs a h
 induction h generalizing a with
 | nil=>intro c _;rw[Jw.mp c];show .nil
 | @cons y x _ _ r t d=>
  intro c g;cases a with
  | nil=>cases c
  | cons u a=>
   have(f,e,rfl):=g 0 u rfl;cases (e);show .cons (by change RelV (V.ref y.2.1) (Nx x.2.1);rw[r.2.1];show rfl) (d (by exists c) λi v e=>by simpa using g (i+1) v (by exists e))
abbrev rN:yF->!V->Hp->VK->Prop:=λ_ d H Q=>∃a c,d=[.ref a]/\Rd H a (.dT c)/\∀l,H l=TF->Q (.ref l) (upd H l (.lst (c.map λy=>V.ref y.2.1)))
def qz{X:Cx}(G:X.calm=TK):MQ X (.type "list") (rN X.K):=by
 intro U s Z H d Y Q I E h;have(a,x,rfl,j,q):=h;have(u,rfl,m):=gp E;obtain rfl:u=Nx a:=m;obtain⟨z,B,d,r,o,p,f,l,N,y,J,e5⟩:=(show ML X.prog X.w H s.heap a (.dT x)from j.ok I.hok);have S:=r.length;show PySem.W.kdl_call (GN (xs:=d) (ep:=f) B) (I.ok.hd G) ⟨o,p,l,N,y,J⟩ ⋯ λM O c t A L g=>?_;show{.ref s.heap.objs.size,_,I.laid (t':=O) A (Iq _) (show ML X.prog X.w _ M _ (.lst _)from{by rw[Ih];show z,c.toList,t,?_,by rw[Array.toArray_toList];show L}),Xr,q _ (I.hok.fresh (Iq _))};show FH r (by rw[Jf];show g.1) λi v e=>g.2 i v (by rw[<-Kg];show e)
abbrev tQ1(K:yF)(i:Nat):TE:=λZ H Q=>∃b a,Z[i]?*>(TH (.ref b))/\KQ K H a b/\∀p,H p=TF->Q (.ref p) (upd H p (.dT [(a,b,.bl TK)]))
def KQ.same{K:yF}{H H':Hp}(f:MU H H')(h:KQ K H ks b):KQ K H' ks b:=by
 have g:∀{a:Addr} {d:!V},SqT K H a d->SqT K H' a d:=λ{a d} h=>by
  rcases h with(h|⟨u,h⟩)|h;show .inl (.inl (f a _ h));show .inl (.inr {u,f a _ h});show .inr h
 have(d,i,j):=h;show{d,g i,Paired.mapP j λk v z=>?_};cases k with
 | inl k=>show z
 | inr l=>have(c,e,q):=z;show{c,e,g q}
def Gh{X:Cx}(hu:X.A.units+64<NN)(hv:PE X (.Name x p) (vj i))(ht:PE X ve (tC (.bl TK)))(J:(evalEachOpt [TH (.Name x p)] X.env).zip ((evalEach [ve] X.env).map λv=>do let x <-v;OX pos;pure x)=[(eval (.Name x p) X.env,do let y <-eval ve X.env;OX pos;pure y)].map λp=>(TH p.1,p.2):=by rfl):PE X (.Dict [TH (.Name x p)] [ve] pos) (tQ1 X.K i):=by
 intro m s Z H Q I h;obtain⟨b,O,S,hk,h⟩:=h;rw[arm_eval_Dict,J,dictDisplay_pairs [(eval (.Name x p) X.env,do let y <-eval ve X.env;OX pos;pure y)] ∅ (by change(1:Nat)<17;decide)];show Nj (Od (Nj ?_));unfold subDict;show Nj (wpAny_alloc (Nj (NI ?_)));rw[if_pos ∅];generalize g:s.heap.objs.size=d;have hH:=I.hok.fresh (a:=d) (by rw[g];show Iq _);have I1:Inv X m Z (upd H d (.dT [])) {s with heap:=s.heap.push {cls:=.type "dict",data:=.dict #[]}}:=I.laid (a:=d) (o:=.dT []) (t':=s.toks) (λ_ _ q=>Nn _ q) (by rw[g];show Iq _) {Jm _,by rw[<-g];show beq_eq_false_iff_ne.mpr (NA (IA I.big)),[],.nil,_,#[],0,by rw[<-g];show Nt _ rfl,⟨Xr,Xr,Xr⟩,Xr,Xr,Jn};have sm:MU H (upd H d (.dT [])):=λc o e=>by rw[aZ (bq e hH)];show e
 show Nj (evalPairs_cons (thn (hv m _ Z _ (λv f=>v=.ref b/\f=upd H d (.dT [])) I1 {_,S,Xr,Xr}) λu s1 L=>?_));obtain⟨v,f,I2,rv,l,N⟩:=L;subst l N;show Nj (thn (ht m s1 Z _ (λv f=>v=.bl TK/\f=upd H d (.dT [])) I2 ⟨Xr,Xr⟩) λu2 s2 L=>?_);obtain⟨v,f,E,M,l,N⟩:=L;subst l N;obtain rfl:u=Nx b:=rv;obtain⟨z,t,Y,r,o,es,ep,f1,f2⟩:=(show ML X.prog X.w _ s2.heap d (.dT [])from E.hok d _ au);cases r;show Nj (Od (Nl (evalPairs_nil ?_)));show NI (Nj ?_);rw[Ke];show Nj (Nj ?_);show xo (Q:=λs'=>_) hu E f1 {[],es,ep,.nil,f2} (by change(0:Nat)<sizeLine;rw[No];decide) M (hk.same sm) (λz hz=>nomatch hz) λh' o' sb e' j=>?_;show Nl ?_;change Np _ _ (forIn [] Qy _) _ _ _;rw[LA];show Nl (Nl (Nl (Nl ?_)));obtain⟨Y,B,G,g1,g2⟩:=j;have U:=E.write (x:=d) (e:=d) (t':=s2.toks+(aY X.prog X.w).draws O) (o:=.dT [(O,b,.bl TK)]) (by rw[au];show ON) (.inl rfl) (λb q S z=>(sb.2 b S).trans z) ⟨o',e'⟩ (show ML X.prog X.w _ h' _ (.dT [(O,b,.bl TK)])from{by rw[No];change 1<=16777216;decide,t,Y,g1,o',B,G,e',g2});rw[Bj]at U;show{.ref d,_,U,Xr,h _ hH}
abbrev iN{c d:Type} (f : c->↑d):!c->Option !d
 | []=>TH []
 | a::l=>(f a).bind λb=>(iN f l).map (b :: ·)
abbrev vZ(i:I):↑K1:=match i with
 | .int n=>TH (.inl (.inl n))
 | .str x=>TH (.inl (.inr x))
 | .tup a=>(iN nO a).map .inr
 | _=>TF
abbrev cb(i:I):Option !K1:=match i with
 | .tup a=>iN vZ a
 | _=>TF
def oQ{c d:Type}{f : c->↑d}{g : d->c}(h:∀a b,f a*>b->g b=a):∀{l:!c} {m:!d},iN f l*>m->m.map g=l:=by
 intro l
 induction l with
 | nil=>intro m e;cases e;rfl
 | cons a l j=>
  intro m e;rw[iN]at e;have(b,i,o):=IH.mp e;have(q,p,rfl):=IE.mp o;rw[Io,h a b i,j p]
def zu{i:I}{k:K1}(e:vZ i*>k):k1I k=i:=by
 unfold vZ at e;split at e;cases e;rfl;cases e;rfl
 .have(c,d,rfl):=IE.mp e;change I.tup (c.map fR)=_;rw[oQ (λa b e=>(nP e).symm) d]
 .cases e
def dX{i:I}{ks:!K1}(e:cb i*>ks):da ks=i:=by
 unfold cb at e;ext e;change I.tup (ks.map k1I)=_;rw[oQ (λa b e=>zu e) e]
def nS{c f:Type}{g : c->f}(h:∀a b,g a=g b->a=b):∀{l m:!c},l.map g=m.map g->l=m:=by
 intro l
 induction l with
 | nil=>intro m e;cases m with|nil=>rfl|cons _ _=>cases e
 | cons a l d=>
  intro m e;cases m with
  | nil=>cases e
  | cons b m=>
   rw[Io,Io,JN.injEq]at e;rw[h a b e.1,d e.2]
def zt(a b:K1)(h:k1I a=k1I b):a=b:=by
 cases a with
 | inl a=>
  cases b with
  | inl b=>rw[kY h]
  | inr b=>cases a<;>cases h
 | inr a=>
  cases b with
  | inl b=>cases b<;>cases h
  | inr b=>rw[nS (λ_ _=>kY) (I.tup.inj h)]
def mj{a b:!K1}(h:da a=da b):a=b:=nS zt (I.tup.inj h)
section
variable {K:yF}{H H':Hp}{kvs:!(I×I)}{ys:!Eq3}{ks:!K1}{b p:Addr}{v w:V}{i vi:I}
def wc{q:Key}(r:RpI K H (fR q) v):v=kV q:=by cases q<;>(rw[fR,RpI]at r;show r)
def C5:∀{js:!Key} {xs:!V},p7 K H (js.map fR) xs->xs=js.map kV:=by
 intro js
 induction js with
 | nil=>intro xs r;show r.nil_inv
 | cons j js c=>
  intro xs r;have(x,e,rfl,d,a):=r.cons_inv;rw[Io,wc d,c a]
def qP(r:RpI K H (da ks) v):∃b,v=.ref b/\KQ K H ks b:=by
 unfold da at r;rw[RpI]at r;have(a,f,rfl,e,g):=r;show{a,Xr,f,e,?_};clear e
 induction ks generalizing f with
 | nil=>rw[g.nil_inv];show .nil
 | cons k ks h=>
  have(x,q,rfl,d,l):=g.cons_inv;show .cons ?_ (h _ l);cases k with
  | inl k=>show wc d
  | inr o=>
   unfold k1I at d;rw[RpI]at d;have(c,s,rfl,m,j):=d;show{c,Xr,by rw[<-C5 j];show m}
def HP(r:RpI K H (da ks) (.ref b)):KQ K H ks b:=by have(c,e,h):=qP r;cases e;show h
def gZ(h:Paired (QA1 K H) kvs ys):∀y∈ys,KQ K H y.1 y.2.1:=by
 induction h with
 | nil=>show λy a=>nomatch a
 | cons r t c=>
  intro y a;rcases ycM a with rfl|a;show HP (by rw[r.1];show r.2.1);show c y a
def qQ(h:Paired (QA1 K H) kvs ys):(bI kvs (da ks)).isSome=(lkQ ys ks).isSome/\∀i,bI kvs (da ks)*>i->∃w,lkQ ys ks*>w/\RpI K H i w:=by
 induction h with
 | nil=>show{Xr,λi e=>by cases e}
 | @cons q y _ _ r t f=>
  have(a,c):=q;rw[bI,lkQ];by_cases e:y.1=ks
  .have d:a=da ks:=by rw[<-e];show r.1.symm
   rw[if_pos e,if_pos d];show{Xr,λi e=>by cases e;show{_,Xr,r.2.2}}
  .have d:a≠da ks:=λz=>e (mj (r.1.trans z));rw[if_neg e,if_neg d];show f
abbrev ij(kvs:!(I×I)) (k v:I):!(I×I):=if(bI kvs k).isSome=TK then kvs.map (λp=>if p.1=k then(p.1,v)else p)else kvs++[(k,v)]
def tf(h:Paired (QA1 K H) kvs ys)(f:RpI K H (da ks) (.ref b))(c:RpI K H vi w):Paired (QA1 K H) (ij kvs (da ks) vi) (putQ ys ks b w):=by
 have e:=(qQ (ks:=ks) h).1;unfold ij putQ;rw[e];split<;>rename_i d<;>clear e d
 .induction h with
  | nil=>show .nil
  | @cons q y _ _ r t a=>
   rw[Io,Io];show .cons ?_ a;by_cases e:y.1=ks
   .rw[if_pos e,if_pos (by rw[<-e];show r.1.symm)];show⟨r.1,r.2.1,c⟩
   .rw[if_neg e,if_neg λz=>e (mj (r.1.trans z))];show r
 .induction h with
  | nil=>show .cons ⟨Xr,f,c⟩ .nil
  | cons r t a=>show .cons r a
def New.dq(c:H p=TF)(h:Paired (QA1 K H) kvs ys):New K H (upd H p (.dT ys)) (.dq kvs) (.ref p):=by
 show{MU.laid c,[p],?_,by simp,λa d=>?_}
 .rw[Rp];show{p,ys,Xr,au,Paired.mapP h λq y z=>{z.1,z.2.1.same (MU.laid c),z.2.2.same (MU.laid c)},Xr}
 .cases ysM d;show{c,_,au,Xr}
def tF(r:Rpx K H (.dq kvs) v):∃a ys,v=.ref a/\H a*>(.dT ys)/\Paired (QA1 K H) kvs ys:=by
 obtain⟨F,r⟩:=r;rw[Rp]at r;have(a,ys,d,c,e,_):=r;show⟨a,ys,d,c,e⟩
abbrev zp(n:Bool) (x y:T):↑Bool:=match x with
 | .im i=>(match y with
  | .dq kvs=>(cb i).map λ_=>n != (bI kvs i).isSome
  | _=>TF)
 | _=>TF
private def oZ(x y:T):↑T:=(zp TJ x y).map λb=>.im (.bl b)
private def mQ(x y:T):↑T:=(zp TK x y).map λb=>.im (.bl b)
def sJ{n c:Bool}{x y:V}{h g:T}{Q:VK}(e:zp n h g*>c)(m:Rpx K H h x)(o:Rpx K H g y)(q:Q (.bl c) H):rM n K x y H Q:=by
 unfold zp at e;ext e;ext e;have(ks,j,rfl):=IE.mp e;have d:=cr m;rw[<-dX j]at d q;have(b,rfl,r):=qP d;have(a,ys,rfl,l,f):=tF o;show{a,ys,b,ks,Xr,Xr,{.inl l,gZ f},r,by rw[<-(qQ f).1];show q}
def wX:cZ K (rM TJ K) oZ:=by
 intro H x y g h t Q d f e q;unfold oZ at e;have(c,a,rfl):=IE.mp e;show sJ a d f (q _ _ (.sc rfl))
def uQ:cZ K (rM TK K) mQ:=by
 intro H x y g h t Q d f e q;unfold mQ at e;have(c,a,rfl):=IE.mp e;show sJ a d f (q _ _ (.sc rfl))
def sr:gi .In oZ:={rM TJ,λ_ a=>Dn a,λ_=>wX}
def qw:gi .NotIn mQ:={rM TK,λ_ a=>uE a,λ_=>uQ}
private def qgT(t u:T):↑T:=match t with
 | .dq kvs=>(match u with
  | .im i=>(cb i).bind λ_=>(bI kvs i).map T.im
  | _=>TF)
 | _=>TF
def Av:cZ K (xI K) qgT:=by
 intro H x y z u t Q l h e q;unfold qgT at e;ext e;ext e;have(ks,g,m):=IH.mp e;have(i,f,rfl):=IE.mp m;have c:=cr h;rw[<-dX g]at c f;have(b,rfl,o):=qP c;have(a,ys,rfl,j,d):=tF l;have(w,s,r):=(qQ d).2 i f;show{a,ys,b,ks,w,Xr,Xr,{.inl j,gZ d},o,s,q _ _ (.im r)}
private def kZ:!T->↑T:=l1 λt=>match t with
 | .dq kvs=>TH (.li (kvs.map (·.1)))
 | _=>TF
def zB(h:Paired (QA1 K H) kvs ys):p7 K H (kvs.map (·.1)) (ys.map λy=>V.ref y.2.1):=by
 induction h with
 | nil=>show .nil
 | cons r t a=>show .cons r.2.1 a
def rq:fv K (rN K) kZ:=by
 intro H vs j t Q r e q;unfold kZ at e;have d:=bP e;clear e;have(x,rfl,e):=d;have(v,rfl,h):=lG r;ext e;cases e;have(a,ys,rfl,g,f):=tF h;show{a,ys,Xr,.inl g,λl c=>q _ _ (.li c (zB f))}
def y8:tV "list" kZ:={_,rN,J4,λ_ h=>qz h,λ_=>rq}
abbrev rB(i:I):↑(I×I):=match i with
 | .tup a=>(match a with
  | [k,v]=>(cb k).map λ_=>(k,v)
  | _=>TF)
 | _=>TF
abbrev gR(l:!(I×I)) (kvs:!(I×I)):!(I×I):=l.foldl (λd p=>ij d p.1 p.2) kvs
abbrev Fq(is:!I):↑T:=(iN rB is).map λl=>.dq (gR l [])
private def gt:!T->↑T:=l1 λt=>match t with
 | .li a=>Fq a
 | _=>TF
def Aw{q:I×I}{x:V}(e:rB i*>q)(r:RpI K H i x):∃y:Eq3,yY K H x y/\QA1 K H q y:=by
 unfold rB at e;ext e;ext e;have(ks,g,rfl):=IE.mp e;rw[RpI]at r;have(a,m,rfl,h,c):=r;obtain⟨y,s,rfl,f,c⟩:=c.cons_inv;obtain⟨z,o,rfl,l,c⟩:=c.cons_inv;obtain rfl:=c.nil_inv;have d:=dX g;have(b,rfl,j):=qP (by rw[d];show f);show{(ks,b,z),⟨a,Xr,h,j⟩,d,f,l}
def Ax:∀{is:!I} {l:!(I×I)} {xs:!V},iN rB is*>l->p7 K H is xs->∃a:!Eq3,Paired (yY K H) xs a/\Paired (QA1 K H) l a:=by
 intro is
 induction is with
 | nil=>intro l xs e r;cases e;rw[r.nil_inv];show{[],.nil,.nil}
 | cons i is c=>
  intro l xs e r;have(x,xs,rfl,m,h):=r.cons_inv;rw[iN]at e;have(q,d,s):=IH.mp e;have(u,t,rfl):=IE.mp s;have(y,f,j):=Aw d m;have(a,g,o):=c t h;show⟨y::a,.cons f g,.cons j o⟩
def oG:∀{l:!(I×I)} {a:!Eq3} {kvs:!(I×I)} {ys:!Eq3},Paired (QA1 K H) l a->Paired (QA1 K H) kvs ys->Paired (QA1 K H) (gR l kvs) (a.foldl (λys p=>putQ ys p.1 p.2.1 p.2.2) ys):=by
 intro l a kvs ys h;unfold gR
 induction h generalizing kvs ys with
 | nil=>show λg=>g
 | @cons q y _ _ r t c=>
  intro g;show c ?_;change Paired (QA1 K H) (ij kvs q.1 q.2) (putQ ys y.1 y.2.1 y.2.2);rw[<-r.1];show tf g (by rw[r.1];show r.2.1) r.2.2
def rn:fv K (rL K) gt:=by
 intro H vs u t Q r e q;unfold gt at e;have c:=bP e;clear e;have(x,rfl,e):=c;have(v,rfl,o):=lG r;ext e;unfold Fq at e;have(l,d,rfl):=IE.mp e;have(p,j,rfl,g,m):=bS o;have(f,h,s):=Ax d m;show{p,j,f,Xr,.inl (aI g),h,λl a=>q _ _ (.dq a (oG s .nil))}
end
abbrev vK(kvs:!(I×I)) (k v:I):↑T:=(cb k).bind λ_=>if(ij kvs k v).length<=sizeLine then TH (.dq (ij kvs k v))else TF
abbrev oV(s k v:T):↑T:=match s with
 | .dq a=>(match k with
  | .im c=>(match v with
   | .im vi=>vK a c vi
   | _=>TF)
  | _=>TF)
 | _=>TF
private def mN(j:Nat)(o i:ME):MG:={λr O=>match r with
 | ⟨.ow,f⟩=>match o.run O with
  | some (⟨.vw (TH d) (TH p),s⟩,e)=>match i.run e with
   | some (c,a)=>if(decide (d=j) &&  ~~~i.mu.contains j)=TK then(match oV s c.t f with
    | some g=>(match a[j]? with
     | some (TH ⟨k,t⟩)=>if k.isOw=TK then TH ((ar [j] a).set j (TH {k,t.put p g}))else TF
     | _=>TF)
    | none=>TF)else TF
   | none=>TF
  | _=>TF
 | _=>TF,(o.mu++i.mu)++[j]}
section
variable {K:yF}{H:Hp}{Q:VK}
def ub{s k v c:T}(e:oV s k v*>c):∃kvs a vi ks,s=.dq kvs/\k=.im a/\v=.im vi/\da ks=a/\(ij kvs a vi).length<=sizeLine/\c=.dq (ij kvs a vi):=by
 unfold oV at e;ext e;ext e;ext e;unfold vK at e;have(ks,d,g):=IH.mp e;have(f,h):=aS g;cases h;show{_,_,_,ks,Xr,Xr,Xr,dX d,f,Xr}
def x0{U ti:TE}{o i:ME}{j:Nat}(ho:be K U o)(hi:be K ti i):jm K (CP U ti (Cc K)) (mN j o i):=by unhygienic
 intro u H O Z E Q v r O' l d S q;dsimp[mN]at d q;ext d tv;ext d j' p s O1 e1;ext d ri O2 e2;ext d e;rw[Il,decide_eq_true_eq,I0]at e;have(rfl,w):=e;ext d s' e3;ext d k t e4;ext d hw;cases d;show ho u H O Z _ _ _ _ l e1 S λx H1 S1=>?_;show hi u H1 O1 Z _ _ _ _ l e2 S1 λy m J=>?_;have k1:aB i.mu {TF,x,{.vw (TH j') (TH p),s}}=TK:=by unfold aB;dsimp[Kd.root];rw[w];rfl
 have k2:∀M:!Nat,aB M {TF,v,{.ow,tv}}=TK:=λM=>rfl;rw[ax k1,ag,ax (k2 _)]at J;have ry:=J.rd ymS;have S3:=J.drop rfl;have(G,F,h1,h2,h3,h4,h5):=Sim.mut (vs:=[v]) (ts:=[tv]) (S3.perm (List.Perm.swap _ _ _)) rfl e4 hw;obtain⟨B,ki,vi,A,rfl,ek,rfl,e6,hz,rfl⟩:=ub e3;rw[Rp]at h1;have(a,Y,rfl,f,L,rfl):=h1;have(z,ez,g3):=pR h2;cases ez;have(g4,rfl):=aX g3;have g:∃F,Rp u.K m ri.t y F:=ry;rw[ek]at g;have h:=cr g;subst e6;have(b,rfl,N):=qP h;have pr:=tf L h g4;rw[l]at N;have hl:=pr.length;show{a,Y,b,A,Xr,Xr,f,λy hy=>by rw[<-l];show gZ L y hy,N,by rw[<-hl];show hz,q Z _ ?_};have X:∀c∈[a],Mu m c:=λc e=>by rw[ysM e];show{_,f,Xr}
 have:=h5 (upd m a (.dT (putQ Y A b v))) (.dq (ij B (da A) vi)) [a] MJ.upd (λc e=>by rw[ysM e];show{_,au}) ∅ (λc e=>by rw[ysM e];show{.inl ∅,_,au,Xr}) (by
  rw[Rp];show{a,_,Xr,au,Paired.mapP pr λp y z=>{z.1,z.2.1.off MJ.upd X,z.2.2.off MJ.upd X},Xr})
 rw[ag]at this;show this
abbrev yB(s t:T):↑(T×I):=match s with
 | .dq c=>(match t with
  | .dq a=>if(~~~c.isEmpty&&decide (c.length+a.length<=sizeLine))=TK then TH (.dq (gR a c),.non)else TF
  | _=>TF)
 | _=>TF
private def lN(s:T)(ts:!T):↑(T×I):=l1 (yB s) ts
def ni{s t:T}{r:T×I}(e:yB s t*>r):∃kvs more,s=.dq kvs/\t=.dq more/\kvs≠[]/\kvs.length+more.length<=sizeLine/\r=(.dq (gR more kvs),.non):=by
 unfold yB at e;ext e;ext e;have(a,c):=aS e;cases c;rw[Il,decide_eq_true_eq]at a;show{_,_,Xr,Xr,?_,a.2,Xr};intro z;rw[z]at a;cases a.1
def uS:cA K (xN K) lN:=by
 intro H w vs s S U i G F Q g x v N e q;unfold lN at e;have u:=bP e;clear e;have(O,rfl,e):=u;have(y,rfl,r):=pR x;obtain⟨A,t,rfl,rfl,J,M,e⟩:=ni e;cases e;rw[Rp]at g r;have(a,B,rfl,d,h,rfl):=g;have(b,L,rfl,j,m,rfl):=r;have l:a≠b:=λz=>by subst z;simp at v
 have E:=oG m h;have l1:=h.length;have l2:=m.length;have o:∀c∈[a],Mu H c:=λc f=>by rw[ysM f];show{_,d,Xr}
 show{a,b,B,L,Xr,Xr,l,d,gZ h,{.inl j,gZ m},λz=>J ?_,by omega,q _ _ [a] MJ.upd (λc f=>by rw[ysM f];show{_,au}) ∅ (λc f=>by rw[ysM f];show{.inl ∅,_,au,Xr}) ?_ (by rw[RpI])};subst z;cases h;rfl
 .rw[Rp];show{a,_,Xr,au,Paired.mapP E λp y z=>{z.1,z.2.1.off MJ.upd o,z.2.2.off MJ.upd o},Xr}
def Bg(H:Hp)(x:V)(d:T)(ts:!T)(r:T×I)(h:Rpx K H d x)(e:lN d ts*>r):tyV K "dict" x H:=by
 unfold lN at e;have(t,_,e):=bP e;have(g,c,rfl,_):=ni e;have(a,i,rfl,f,j):=tF h;show .inr (.inr (.inl {Xr,.inr {_,f}}))
private def mQ1(i:Nat):ME:={λO=>match O[i]? with
 | some (TH r)=>(match r.t with
  | .im c=>(cb c).map λ_=>({.ow,.dq [(c,.bl TK)]},O)
  | _=>TF)
 | _=>TF,[]}
def EF{i:Nat}:be K (tQ1 K i) (mQ1 i):=by unhygienic
 intro t H O Z E Q r G l a S q;dsimp[mQ1]at a q;ext a m x;ext a c d;have(B,j,z):=IE.mp a;cases z;have(v,s,y):=S.var x;have(f,o):=m;replace d:o=.im c:=d;subst d;have w:Rpx t.K H (.im c) v:=by
  have:=y.rd (e:={TF,v,rdR i {f,.im c}}) ymS;cases f<;>show this
 have g:=cr w;have u:=dX j;subst u;have(b,rfl,h):=qP g;rw[l]at h;show{b,B,s,h,λp A=>q _ _ ?_};rw[bX];show S.fresh (.dq A (.cons {Xr,g,by rw[RpI]} .nil))
end
section
variable {ι : Type}{C:ι->Cx}{P:Nv}{W:NB}{K:yF}{mg:Str->↑Nk}{base:Heap}{k:Nat}{a b o e ve:Expr}{es:!Expr}{ma mb mo mi:ME}{ms:MA}{x:Str}{p pos apos:Pos}
def Gs(c:CK C P W K mg base k)(d:QE C K a ma)(f:QE C K b mb)(hs:vB b:=by intro _ _;rfl):QE C K (.Subscript a b pos) (mOp qgT ma mb):=by
 have(j,p,r):=d;have(l,h,g):=f;show{_,λi=>by have:=Ah (X:=C i) (pos:=pos) (c.room i).units (p i) (h i) hs;rw[c.kk i]at this;show this,lD (red:=xI K) Av r g}
def n5(c:CK C P W K mg base k)(f:mg "dict" = TF)(d:QA C K (e::es) ms)(g:∀i,Gl (C i) "dict" :=by intro _;rfl):QE C K (.Call (.Name "dict" p) (e::es) [] pos) (mB gt ms):=by
 have(h,q,n,r):=d;show{_,λi=>ln (r:=rL K) (by have:=qx (X:=C i) (c.calm i) (c.room i).units;rw[c.kk i]at this;show this) (g i) (by rw[c.mg i];show f) Lm (q i) n (by decide) (by decide),tw rn r}
def Eo(l:Nat)(mv:!Nat)(g:CK C P W K mg base k)(ho:QE C K o mo)(h:QA C K (e::es) ms)(f:decide ((e::es).length<30)=TK:=by rfl)
  (c:∀i,Oh o "update" (C i).env (eval o (C i).env)=eval o (C i).env:=by intro _;rfl) (d:(apos.endLine==pos.line)=TK:=by rfl):QE C K (.Call (.Attribute o "update" apos) (e::es) [] pos) (cf l mv lN mo ms):=by
 have(s,q,r):=ho;have(t,m,n,j):=h;show{_,λi=>Cz (r:=xN K) (g.kk i) PySem.F.plainAttrs_dict PySem.F.slot_dict_update PySem.F.type_dict_update (by have:=zO (X:=C i) (g.room i).units;rw[g.kk i]at this;show this) (q i) (m i) n f (c i) d,tz uS Bg r j}
def AH(g:CK C P W K mg base k)(j:Nat)(ho:QE C K o mo)(m:QE C K e mi)
  (l:∀i v,OJ (.Subscript o e pos) (C i).env v=(do
   let c <-N8 [v] (eval o (C i).env)
   let d <-N8 [v,c] (eval e (C i).env)
   OX pos
   N8 [v,c,d] (P5 c d v)
   Sq [v,c,d] []):=by intro _ _;rfl):QG C K TF (.Subscript o e pos) (mN j mo mi):=by
 have(u,q,r):=ho;have(w,t,s):=m;show{_,λi=>wR (q i) (t i) (by have:=vf (X:=C i) (g.room i).units;rw[g.kk i]at this;show this) (l i),x0 r s,λf h=>by cases h}
def HS(d:CK C P W K mg base k)(i:Nat)(h:∀j,(C j).N[i]?*>x:=by intro _;rfl)(g:∀j,Vis (C j).env.scope x:=by intro _;first|show PV rfl|show OT (PV rfl)|show OT (OT rfl))(f:(x==("__debug__" : Str))=TJ:=by decide)(c:(x==("__classdict__" : Str))=TJ:=by decide):QE C K (.Dict [TH (.Name x p)] [.Constant (.bool TK) l q] pos) (mQ1 i):=
 {_,λj=>by have:=Gh (X:=C j) (p:=p) (pos:=pos) (ve:=.Constant (.bool TK) l q) (d.room j).units (lq (h j) (g j) f c) BW;rw[d.kk j]at this;show this,EF}
end
abbrev imR(r:R):↑I:=match r.t with
 | .im i=>TH i
 | _=>TF
abbrev cq(fr:! ↑Nat) (M:!Nat) (g:MG) (c:MT) (d e:ME):!R->Rho->!(I×I)->↑(!(I×I)×Rho)
 | [],O,a=>TH (a,O)
 | r::h,O,a=>(g.run (jM (piF fr) r) (inR fr O)).bind λi=>(c.run i).bind λx=>if x.1=TK then(d.run x.2).bind λy=>(imR y.1).bind λf=>(cb f).bind λ_=>(e.run y.2).bind λz=>(imR z.1).bind λvi=>cq fr M g c d e h (ci fr M z.2 O) (a++[(f,vi)])
   else cq fr M g c d e h (ci fr M x.2 O) a
private def fh(fr:! ↑Nat)(it:MI)(g:MG)(c:MT)(a d:ME):ME:={λO=>(it.run O).bind λx=>if(dO fr x.2.length&&dM (g.mu++(c.mu++(a.mu++d.mu))) fr.length&&x.1.1.all (aC (muF fr (g.mu++(c.mu++(a.mu++d.mu)))))&&decide (x.1.2.length<sizeLine))=TK then
  (cq fr (g.mu++(c.mu++(a.mu++d.mu))) g c a d x.1.2 x.2 []).map λy=>({.ow,.dq (gR y.1 [])},y.2)else TF,it.mu++muF fr (g.mu++(c.mu++(a.mu++d.mu)))}
section
variable {Γ:Gm}{H H':Hp}{O:Rho}{Z:St}{E:!En}{v x y:V}{t:T}{K:yF}{Q:VK}
abbrev lgV(a:!Eq3):!V:=a.flatMap λy=>[.ref y.2.1,y.2.2]
abbrev lgT(log:!(I×I)):!T:=log.flatMap λp=>[.im p.1,.im p.2]
abbrev Lg(a:!Eq3)(log:!(I×I)):Prop:=a.map (λy=>da y.1)=log.map (·.1)
def Lg.len(h:Lg lg log):lg.length=log.length:=by have:=congrArg JL h;exists this
def wg:∀{a:!Eq3} {log:!(I×I)},a.length=log.length->(lgV a).length=(lgT log).length:=by
 intro a
 induction a with
 | nil=>intro log e;cases log with|nil=>rfl|cons _ _=>cases e
 | cons y a c=>
  intro log e;cases log with
  | nil=>cases e
  | cons p log=>
   have:=c (log:=log) (by exists e);change(lgV a).length+1+1=(lgT log).length+1+1;rw[this]
def yw:∀{a:!Eq3} {log:!(I×I)},a.length=log.length->aV (lgV (a++[(ks,b,w)])) (lgT (log++[(kk,vv)]))=aV (lgV a) (lgT log)++[{TF,.ref b,{.ow,.im kk}},{TF,w,{.ow,.im vv}}]:=by
 intro a
 induction a with
 | nil=>intro log e;cases log with|nil=>rfl|cons _ _=>cases e
 | cons y a c=>
  intro log e;cases log with
  | nil=>cases e
  | cons p log=>
   have:=c (log:=log) (by exists e);change _::_::aV (lgV (a++[(ks,b,w)])) (lgT (log++[(kk,vv)]))=_::_::(aV (lgV a) (lgT log)++_);rw[this]
def sY:∀{d:!Eq3} {log:!(I×I)} {F:!Addr},Lg d log->Rps K H (lgT log) (lgV d) F->Paired (QA1 K H) log d/\F=[]:=by
 intro d
 induction d with
 | nil=>intro log F h r;cases log with|nil=>show{.nil,r.nil_inv.2}|cons _ _=>cases h
 | cons y d j=>
  intro log F h r;cases log with
  | nil=>cases h
  | cons p log=>
   have e:da y.1=p.1/\Lg d log:=by
    unfold Lg at h;rw[Io,Io,JN.injEq]at h;show h
   have(a,A,w,J,l,u,s,rfl):=Rps.cons_inv (t:=.im p.1) (ts:=.im p.2::lgT log) r;have(c,G,z,B,q,f,o,rfl):=s.cons_inv;cases l;cases q;have(i,rfl):=aX u;have(m,rfl):=aX f;have(g,rfl):=j e.2 o;show{.cons ⟨e.1,i,m⟩ g,Xr}
def Be:∀{e ys:!Eq3} {z:Eq3},z∈e.foldl (λys p=>putQ ys p.1 p.2.1 p.2.2) ys->(∃y∈ys,z.1=y.1/\z.2.1=y.2.1) \/ ∃y∈e,z.1=y.1/\z.2.1=y.2.1:=by
 intro e
 induction e with
 | nil=>intro ys z h;show .inl ⟨z,h,Xr,Xr⟩
 | cons p e g=>
  intro ys z h;rcases g h with⟨y,a,c,d⟩|⟨y,a,c,d⟩
  .have a:y∈putQ ys p.1 p.2.1 p.2.2:=a;unfold putQ at a;split at a
   .have(u,i,rfl):=Is.mp a;show .inl {u,i,?_};by_cases f:u.1=p.1;rw[if_pos f]at c d;show⟨c,d⟩;rw[if_neg f]at c d;show⟨c,d⟩
   .rcases yaM a with a|a;show .inl ⟨y,a,c,d⟩
    .rw[ysM a]at c d;show .inr ⟨p,ymS,c,d⟩
  .show .inr {y,ymC _ a,c,d}
def yo(a:!Eq3):∀ys:!Eq3,(a.foldl (λys p=>putQ ys p.1 p.2.1 p.2.2) ys).length<=ys.length+a.length:=by
 induction a with
 | nil=>intro ys;show Iq _
 | cons p a c=>
  intro ys;have e:=c (putQ ys p.1 p.2.1 p.2.2);have d:(putQ ys p.1 p.2.1 p.2.2).length<=ys.length+1:=by
   unfold putQ;split;rw[Ih];omega;rw[Ip];show Iq _
  rw[Kc,Iv];omega
def Sim.own{r:R}(S:Sim Γ H O Z (⟨TF,v,r⟩::E))(e:imR r*>i):RpI Γ.K H i v/\Sim Γ H O Z ({TF,v,{.ow,.im i}}::E):=by
 have(F,a):=S.rd ymS;have(k,t):=r;unfold imR at e;dsimp only at e;ext e;cases e;have h:=(aX a).1;show{h,(S.drop rfl).imm h}
def rF{J:It}{fr:! ↑Nat}{g:TG}{tc:TT}{tk tv:TE}{mg:MG}{c:MT}{ek Y:ME}{M:!Nat}{vs:!V}{f:!R}{items:!R}(hK : Γ.K=K)(wk:fN Γ J vs f items)(hgk:ee fr g)(hg:jm K g mg)(hc:fg K tc c)(hek:be K tk ek)(hev:be K tv Y)(hM:M=mg.mu++(c.mu++(ek.mu++Y.mu)))
  (hmu:∀j∈M,j<fr.length) (ks:∀e∈ens vs f,aB (muF fr M) e=TK) {G:!En} (kE:ah (muF fr M) G=G) {p:!(I×I)} {OF:Rho} (hz:items.length<sizeLine)
  (hf:dO fr O.length=TK) (S:Sim Γ H O Z (ens vs f++G)) (hr:cq fr M mg c ek Y items O []*>(p,OF))
  (q:∀(o:!Eq3) H',Lg o p->Sim Γ H' OF Z (ens vs f++(aV (lgV o) (lgT p)++G))->∀d,H' d=TF->Q (.ref d) (upd H' d (.dT (oE o)))) :
  ∃W:Nat->Nat->!Eq3->Hp->Prop,(∃m,W 0 m [] H)/\∀i m a H,W i m a H->szQ a /\
   ((J.stop i H/\∀d,H d=TF->Q (.ref d) (upd H d (.dT a))) \/
   (J.go i H/\∃N:!Eq3->Hp->Prop,(∀acc' H',N acc' H'->∃m',m'<m/\W (i+1) m' acc' H') /\
    ∀x H',J.yld i H x H'->g x (bG fr Z) H' λs H2=>tc s H2 λb H3=>if b=TK then tk s H3 λy H4=>tv s H4 λv H5=>rpQ K a y v H5 N else N a H3)):=by
 have kE2:∀a ts,ah (muF fr M) (ens vs f++(aV a ts++G))=ens vs f++(aV a ts++G):=λa ts=>by rw[aK,cw ks,aK,iy,kE]
 show{λi m a H=>m=items.length-i/\i<=items.length/\∃o h r,a=oE o/\o.length<=i/\Lg o h/\cq fr M mg c ek Y (items.drop i) r h*>(p,OF)/\r.length=O.length/\Sim Γ H r Z (ens vs f++(aV (lgV o) (lgT h)++G)),{items.length,by simp,Jm _,[],[],O,Xr,Iq _,Xr,by simpa using hr,Xr,S},?_};rintro i m a H1 ⟨rfl,hil,o,h,r,rfl,hal,U,l,hO,L⟩;show{by have:=yo o [];unfold szQ oE;dsimp[Ko,IZ]at this;omega,?_};have(w1,w2):=wk H1 r Z _ L;by_cases hlt:i<items.length
 .have hx:items[i]?=TH items[i]:=by simp[hlt]
  have(w3,w4):=w2 i _ hx;rw[JC hlt,cq]at l;show .inr {w3,λa H'=>∃o h r,a=oE o/\o.length<=i+1/\Lg o h/\cq fr M mg c ek Y (items.drop (i+1)) r h*>(p,OF)/\r.length=O.length/\Sim Γ H' r Z (ens vs f++(aV (lgV o) (lgT h)++G)),λacc' H' z=>{items.length-(i+1),by omega,Xr,hlt,z},λx H2 y=>?_};have S2:=w4 x H2 y;have hf1:dO fr r.length=TK:=by rw[hO];show hf
  have S3:=S2.inn hf1;rw[fK]at S3;have(O2,e2,l):=IH.mp l;obtain⟨⟨bb,O3⟩,e3,l⟩:=IH.mp l;show hgk x (bG fr Z) H2 (λs H3=>Kp fr (bG fr Z) s->_) _ (λs H3 z kp=>z kp) ?_;show hg Γ H2 (inR fr r) (bG fr Z) _ _ x _ O2 hK e2 S3 λs H3 S4 kp=>?_;cases bb with
  | true=>
   rw[if_pos rfl]at l;obtain⟨⟨rk,O4⟩,e4,l⟩:=IH.mp l;have(ki,e5,l):=IH.mp l;have(cs,e6,l):=IH.mp l;obtain⟨⟨rv,O5⟩,e7,l⟩:=IH.mp l;have(vi,e8,l):=IH.mp l;have e6:=dX e6;show hc Γ H3 O2 s _ _ TK O3 hK e3 S4 λH4 S5=>qN ?_;show hek Γ H4 O3 s _ _ _ O4 hK e4 S5 λy0 H5 S6=>?_;have(_,S6):=S6.own e5;show hev Γ H5 O4 s _ _ _ O5 hK e7 S6 λw H6 S7=>?_;have(_,S7):=S7.own e8;rw[ax (show aB Y.mu {TF,y0,{.ow,.im ki}}=TK from rfl),ag,ag,ag,<-hM]at S7;have S8:Sim Γ H6 O5 s (ah M (lh fr Z r ({TF,w,{.ow,.im vi}}::{TF,y0,{.ow,.im ki}}::(ens vs f++(aV (lgV o) (lgT h)++G))))):=by
    rw[fK,fK,ax (show aB M (cz (piF fr) {TF,w,{.ow,.im vi}})=TK from rfl),ax (show aB M (cz (piF fr) {TF,y0,{.ow,.im ki}})=TK from rfl)];show S7
   have X : O5.length=fr.length:=by rw[<-S7.len,kp.1,fE]
   have S9:=S8.outt hf1 hmu X kp L.al L.len (λe' u j hj=>by
    rcases ycM u with rfl|u;cases hj
    .rcases ycM u with rfl|u;cases hj;show L.hi e' u j hj)
   rw[ax (show aB (muF fr M) {TF,w,{.ow,.im vi}}=TK from rfl),ax (show aB (muF fr M) {TF,y0,{.ow,.im ki}}=TK from rfl),kE2]at S9;have(_,rp):=S9.rd (ymC _ ymS);have rk:=(aX rp).1;subst e6;have(b,rfl,hk):=qP rk;have(F,rps,_):=Sim.use (((S9.drop rfl).drop rfl).drops) (wg U.len);have kq:=gZ (sY U rps).1;rw[hK]at hk kq;show{b,cs,Xr,hk,λz hz=>?_,o++[(cs,b,w)],h++[(da cs,vi)],_,?_,?_,?_,l,by rw[i9,hO],?_}
   .rcases Be hz with⟨y,hy,_⟩|⟨y,hy,e1,e2⟩;cases hy;rw[e1,e2];show kq y hy
   .unfold oE;rw[K6];rfl
   .rw[Ip];show Nat.add_le_add_right hal 1
   .unfold Lg at U|-;rw[Iu,Iu,U];rfl
   .rw[yw U.len,IC];show S9.perm ?_;have pp:∀(A B C:!En) (x y:En),(x::y::(A++(B++C))).Perm (A++(B++(y::x::C))):=λA B C x y=>by
     show(List.Perm.swap y x _).trans ?_;rw[<-IC,<-IC];show((IU (l₁:=A++B)).trans ((IU (l₁:=A++B)).cons y)).symm
    show pp _ _ _ _ _
  | false=>
   rw[if_neg Ir]at l;show hc Γ H3 O2 s _ _ TJ O3 hK e3 S4 λH4 S5=>qM ?_;have S6:=S5.weak (ek.mu++Y.mu);rw[ag,ag,<-hM]at S6;have X : O3.length=fr.length:=by rw[<-S6.len,kp.1,fE]
   have S8:=S6.outt hf1 hmu X kp L.al L.len L.hi;rw[kE2]at S8;show{o,h,_,Xr,by omega,U,l,by rw[i9,hO],S8}
 .have ei:i=items.length:=by omega
  subst ei;rw[KB,cq]at l;cases l;show .inl {w1 _ (Iq _),q o H1 U L}
def Sim.mkQ{p:Addr}(S:Sim Γ H O Z (aV (lgV lg) (lgT log)++E))(e:Lg lg log)(m:H p=TF):Sim Γ (upd H p (.dT (oE lg))) O Z ({TF,.ref p,{.ow,.dq (gR log [])}}::E):=by
 have(F,l,q,r,i):=S.use (wg e.len);have(f,rfl):=sY e l;have(g,h,j,o,d):=New.dq m (oG f .nil);show i _ _ _ h (g.offM _) (λa c=>nomatch c) o (λa c=>{.inr (d a c).1,(d a c).2}) j
def mW{U:TI}{it:MI}{fr:! ↑Nat}{g:TG}{mg:MG}{G:TT}{c:MT}{Y L:TE}{h f:ME}(hi:kF K U it)(s:ee fr g)(hg:jm K g mg)(hc:fg K G c)(o:be K Y h)(u:be K L f):be K (rW K U fr g G Y L) (fh fr it mg c h f):=by
 intro Γ H O Z E Q r O' l i S q;unfold fh at i q;dsimp only at i q;obtain⟨⟨⟨e,a⟩,B⟩,e1,i⟩:=IH.mp i;by_cases m:(dO fr B.length&&dM (mg.mu++(c.mu++(h.mu++f.mu))) fr.length&&e.all (aC (muF fr (mg.mu++(c.mu++(h.mu++f.mu)))))&&decide (a.length<sizeLine))=TK
 case neg=>rw[if_neg m]at i;cases i
 rw[if_pos m]at i;dsimp[Il,decide_eq_true_eq]at m;obtain⟨⟨⟨b1,b2⟩,b3⟩,b5⟩:=m;obtain⟨⟨log,O2⟩,e2,e3⟩:=IE.mp i;cases e3;show hi Γ H O Z E _ e a B l e1 S λΓ p bk J vs H1 hlv A wk=>?_;replace l:=p.trans l;replace q:=λv H' S=>q v H' (bk _ _ _ _ S);rw[<-ag]at q;generalize ah it.mu E=E1 at q A;have X:∀e'∈ens vs e,aB (muF fr (mg.mu++(c.mu++(h.mu++f.mu)))) e'=TK:=iS b3;have w:=A.weak (muF fr (mg.mu++(c.mu++(h.mu++f.mu))));rw[aK,cw X]at w;have z:=dY (M:=muF fr (mg.mu++(c.mu++(h.mu++f.mu)))) (N:=muF fr (mg.mu++(c.mu++(h.mu++f.mu)))) (λj hj=>hj) E1;generalize ah (muF fr (mg.mu++(c.mu++(h.mu++f.mu)))) E1=E2 at q w z;show rF l wk s hg hc o u rfl (ph b2) X z b5 b1 w e2 λlg H' hL S3 d hd=>q _ _ (S3.drops.mkQ hL hd)
end
section
variable {ι : Type}{C:ι->Cx}{P:Nv}{W:NB}{K:yF}{mg:Str->↑Nk}{base:Heap}{k:Nat}{kx vx tg iter:Expr}{ifs:!Expr}{scope:O8}{pos:Pos}{it:MI}{g:MG}{mt:MT}{mk mv:ME}
def tm(d:CK C P W K mg base k)(s:∀i,Blk (C i).env.scope scope (C i).N N' f)(z:QI C K tg iter it)(j:QG (ip C scope N') K (TH f) tg g)(q:QTs (ip C scope N') K ifs mt)(a:QE (ip C scope N') K kx mk)(c:QE (ip C scope N') K vx mv)(hs:∀i x,NY iter (C i).env x=pure x:=by intro _ _;rfl) :
  QE C K (.DictComp kx vx [{tg,iter,ifs,0}] scope pos) (fh f it g mt mk mv):=by
 have(B,u,h):=z;have(E,y,t,e):=j;have(A,o,m):=q;have(G,w,r):=a;have(p,l,v):=c;show{_,λi=>by have:=wP (X:=C i) (pos:=pos) (d.room i).units (d.calm i) (s i) (u i) (λb=>y (i,b)) (e f rfl) (λb=>o (i,b)) (λb=>w (i,b)) (λb=>l (i,b)) (hs i);rw[d.kk i]at this;show this,mW h (e f rfl) t m r v}
def pJ(n:Nat)(e:CK C P W K mg base k)(o:∀i,(C i).N.Nodup)(w:∀i,Blk (C i).env.scope scope (C i).N N' f)(G:QI C K tg iter it)(l:QG (ip C scope N') K (TH f) tg g)(t:QTs (ip C scope N') K ifs mt)(a:QE (ip C scope N') K kx mk)(c:QE (ip C scope N') K vx mv)(A:∀i,(C i).N[n]?*>x:=by intro _;rfl)(y:∀i,(C i).env.scope.names.lookup x*>.local:=by intro _;rfl)
  (d:∀i,Pi (.DictComp kx vx [{tg,iter,ifs,0}] scope pos) (TH (.Name x pos')) spos.line (C i).env=pure TK:=by intro _;rfl) (hs:∀i x,NY iter (C i).env x=pure x:=by intro _ _;rfl) :
  QS C K (.Assign [.Name x pos'] (.DictComp kx vx [{tg,iter,ifs,0}] scope pos) spos) (ay (fh f it g mt mk mv) (ae n)):=by
 have(J,v,j):=G;have(L,E,u,h):=l;have(H,q,p):=t;have(M,B,s):=a;have(r,m,z):=c;show{_,λi=>by have:=pF (X:=C i) (pos:=pos) (pos':=pos') (spos:=spos) (e.room i).units (e.calm i) (o i) (A i) (y i) (w i) (v i) (λb=>E (i,b)) (h f rfl) (λb=>q (i,b)) (λb=>B (i,b)) (λb=>m (i,b)) (d i) (hs i);rw[e.kk i]at this;show this,kw (mW j (h f rfl) u p s z) jf}
end
def t6{X:Cx}(E:X.calm=TK):MQ X (.builtin "sum") (λxs H Q=>∃(a:Addr) (ns:!Int),xs=[.ref a]/\SqT X.K H a (ns.map V.int)/\Q (.int ns.sum) H):=by
 intro t s Z H xs O Q I B h;have(a,ns,rfl,L,q):=h;have(u,rfl,m):=gp B;obtain rfl:u=Nx a:=m;have(d,r,p,N):=I.tuple L;have f:a<s.heap.objs.size:=p.lt;show call_sum_walkG (OY p ?_);show{s.heap.objs.size,_,_,_,_,_,λi=>ns.getD i 0,Xr,Tj.tuple (A:=X.A.in1) (show X.A.in1.handled=TF from I.ok.hd E) s.heap.objs.size a (IA f) d.toArray,{{_,Nt _ rfl,Xr,Xr},?_},λb j=>?_,λi v G=>tQ r (by exists G),λJ M w y=>?_}
 .have(o,e,c):=p;show{o,Nn _ e,c}
 .change b<(s.heap.push _).objs.size;rw[N9];dsimp[IP,IV,or_false]at j;rcases j with rfl|rfl;show Lc _;show K4 f
 .have x:Inv X t Z H {s with heap:=J,toks:=M}:=I.kept λb o e=>y b o (λz=>absurd (ysM z) (IA (Nr e))) (Nn _ e);show{.int _,H,x,⟨w,Xr⟩,?_};have l:d.toArray.size=ns.length:=by rw[Ij,<-r.length,Ih]
  rw[l,j2 ns _ (Iq _),Ji];show q
section
variable {a b m:ME}{O:Rho}{QF:R->Rho->Prop}{QG':Rho->Prop}{Q:T->Prop}
def mD:∀ns:!Int,kT (ns.map .int)*>ns
 | []=>rfl
 | n::ns=>by rw[Io,kT,mD ns];rfl
end
private def m7:!T->↑T:=l1 λt=>match t with
 | .im i=>(match i with
  | .tup c=>(kT c).map λa=>.im (.int a.sum)
  | _=>TF)
 | _=>TF
section
variable {K:yF}
abbrev Cd(K:yF):!V->Hp->VK->Prop:=λd H Q=>∃(a:Addr) (c:!Int),d=[.ref a]/\SqT K H a (c.map V.int)/\Q (.int c.sum) H
def uR:fv K (Cd K) m7:=by
 intro H vs j t Q r e q;unfold m7 at e;have a:=bP e;clear e;have(x,rfl,e):=a;have(v,rfl,h):=lG r;ext e;ext e;have(f,c,rfl):=IE.mp e;have(p,i,rfl,d,g):=bT h;have:=o7 c g;subst this;show{p,f,Xr,d,q _ H (.sc rfl)}
def Cw:oO "sum" m7:={_,Cd,MD,λ_ h=>t6 h,λ_=>uR}
end
section
variable {O:Rho}{g:MG}{ct:MT}{ek ev a b:ME}{it:MI}{QE':R->Rho->Prop}{fr:! ↑Nat}{Q:T->Prop}{kvs:!(I×I)}{i v:I}{ks:!K1}
def uW{M:!Nat}{items:!R}{QC:!(I×I)->Rho->Prop}(Inv:Nat->!(I×I)->Rho->Prop)
  (hs:∀i r log O,items[i]?*>r->Inv i log O->WG g (jM (piF fr) r) (inR fr O) λs=>WT ct s λh j=>(h=TK->WE ek j λw x=>∃f ks,imR w*>f/\cb f*>ks/\WE ev x λp u=>∃vi,imR p*>vi/\Inv (i+1) (log++[(f,vi)]) (ci fr M u O))/\(h=TJ->Inv (i+1) log (ci fr M j O)))
  (J:∀log O,Inv items.length log O->QC log O):∀(l:!R) (i:Nat) (log:!(I×I)) (O:Rho),items.drop i=l->i<=items.length->Inv i log O->W2 (cq fr M g ct ek ev l O log) QC:=by
 intro l
 induction l with
 | nil=>
  intro i log O e G m;have:i=items.length:=by have:=congrArg JL e;simp at this;omega
  subst this;show{_,_,Xr,J log O m}
 | cons r l o=>
  intro i log O e G m;have t:items[i]?*>r:=by rw[<-Lq,e];rfl
  have d:=(Ii.mp t).1;have c:items.drop (i+1)=l:=by rw[<-LF,e];rfl
  have(s,z,h,j,S,A,E):=hs i r log O t m;rw[cq,z,Jh,S,Jh];cases h with
  | true=>
   obtain⟨w,x,H,f,ks,L,N,p,u,y,vi,B,q⟩:=A rfl;rw[if_pos rfl,H,Jh,L,Jh,N,Jh,y,Jh,B,Jh];show o (i+1) _ _ c d q
  | false=>
   rw[if_neg Ir];show o (i+1) _ _ c d (E rfl)
def Bo(h:WI it O λd items c=>Gu (dO fr c.length&&dM (g.mu++(ct.mu++(ek.mu++ev.mu))) fr.length&&d.all (aC (muF fr (g.mu++(ct.mu++(ek.mu++ev.mu)))))) (items.length<sizeLine/\∃Inv:Nat->!(I×I)->Rho->Prop,Inv 0 [] c /\
  (∀i r log O,items[i]?*>r->Inv i log O->WG g (jM (piF fr) r) (inR fr O) λc=>WT ct c λl f=>(l=TK->WE ek f λx y=>∃j ks,imR x*>j/\cb j*>ks/\WE ev y λp w=>∃vi,imR p*>vi/\Inv (i+1) (log++[(j,vi)]) (ci fr (g.mu++(ct.mu++(ek.mu++ev.mu))) w O))/\(l=TJ->Inv (i+1) log (ci fr (g.mu++(ct.mu++(ek.mu++ev.mu))) f O))) /\
  ∀log O,Inv items.length log O->QE' {.ow,.dq (gR log [])} O)):WE (fh fr it g ct ek ev) O QE':=by unhygienic
 obtain⟨d,items,c,s,t,m,Inv,z,o,u⟩:=h;have(log,f,e,q):=uW (QC:=λlog O=>QE' {.ow,.dq (gR log [])} O) Inv o u items 0 [] c rfl (Jm _) z;show{{.ow,.dq (gR log [])},f,?_,q};unfold fh;dsimp only;rw[s,Jh,if_pos (by rw[Il];show{t,decide_eq_true m}),e];rfl
def sV(h:cb i*>ks)(q:Q (.im (.bl (bI kvs i).isSome))):W1 (oZ (.im i) (.dq kvs)) Q:=by unhygienic
 show w1 (x:=.im (.bl (bI kvs i).isSome)) ?_ q;change LU _ (LU _ (cb i))=_;rw[h];change TH (T.im (.bl (TJ != (bI kvs i).isSome)))=_;rw[Mj]
def wH(h:cb i*>ks)(q:Q (.im (.bl (~~~(bI kvs i).isSome)))):W1 (mQ (.im i) (.dq kvs)) Q:=by unhygienic
 show w1 (x:=.im (.bl (~~~(bI kvs i).isSome))) ?_ q;change LU _ (LU _ (cb i))=_;rw[h];change TH (T.im (.bl (TK != (bI kvs i).isSome)))=_;rw[Mm]
def HQ(h:cb i*>ks)(c:bI kvs i*>v)(q:Q (.im v)):W1 (qgT (.dq kvs) (.im i)) Q:=by unhygienic
 show w1 (x:=.im v) ?_ q;change(cb i).bind (λ_=>(bI kvs i).map T.im)=_;rw[h,c];rfl
def z6(q:Q (.li (kvs.map (·.1)))):W1 (kZ [.dq kvs]) Q:=by unhygienic show{_,Xr,q}
def zZ{is:!I}{l:!(I×I)}(h:iN rB is*>l)(q:Q (.dq (gR l []))):W1 (gt [.li is]) Q:=by unhygienic
 show w1 (x:=.dq (gR l [])) ?_ q;change(iN rB is).map _=_;rw[h];rfl
def sX{ns:!Int}(q:Q (.im (.int ns.sum))):W1 (m7 [.im (.tup (ns.map .int))]) Q:=by unhygienic
 show w1 (x:=.im (.int ns.sum)) ?_ q;change(kT (ns.map .int)).map _=_;rw[mD];rfl
def z0{k v:I}(h:cb k*>ks)(hz:(ij kvs k v).length<=sizeLine)(q:Q (.dq (ij kvs k v))):W1 (oV (.dq kvs) (.im k) (.im v)) Q:=by
 show w1 (x:=.dq (ij kvs k v)) ?_ q;change(cb k).bind (λ_=>if(ij kvs k v).length<=sizeLine then _ else _)=_;rw[h,Jh,if_pos hz]
def Bv{j:Nat}{l:T}{c:Rho->Prop}(h:WE a O λf e=>WE b e λm d=>AtS j f λp s=>Gu (~~~b.mu.contains j) (AtM j d λk t=>W1 (oV s m.t l) λo=>c ((ar [j] d).set j (TH {k,t.put p o})))):WG (mN j a b) {.ow,l} O c:=by
 obtain⟨f,e,r,m,d,y,p,s,rfl,u,k,t,z,w,o,x,q⟩:=h;show{_,?_,q};dsimp[mN,r,y,u,decide_true,Kl,if_true,x,z,w]
def Ia{j:Nat}{k:Kd}(h : O[j]?*>(TH {k,.im i}))(c:cb i*>ks)(q:QE' {.ow,.dq [(i,.bl TK)]} O):WE (mQ1 j) O QE':=by unhygienic
 show{_,_,?_,q};dsimp[mQ1,h,c];rfl
def DV{more:!(I×I)}{c:T->I->Prop}(d:kvs≠[])(hz:kvs.length+more.length<=sizeLine)(q:c (.dq (gR more kvs)) .non):W2 (lN (.dq kvs) [.dq more]) c:=by unhygienic
 show{_,_,if_pos ?_,q};cases kvs with
 | nil=>show absurd rfl d
 | cons _ _=>show decide_eq_true hz
end
abbrev pB(is:!I) (i:Int):↑(T×I):=if 0<=i/\i<1000000000 then(match is[i.toNat]? with
 | some x=>TH (.li (is.eraseIdx i.toNat),x)
 | none=>TF)else TF
abbrev BX(is:!I) (t:T):↑(T×I):=match isI t with
 | some i=>pB is i
 | none=>TF
private def fW(s:T)(ts:!T):↑(T×I):=match s with
 | .li a=>l1 (BX a) ts
 | _=>TF
section
variable {K:yF}{H:Hp}
def p7.erase:∀{is:!I} {xs:!V} (n:Nat),p7 K H is xs->p7 K H (is.eraseIdx n) (xs.eraseIdx n)
 | [],_,n,h=>by rw[p7]at h;subst h;rw[L0,L0,p7]
 | i::is,_,0,h=>by
  rw[p7]at h;have(x,r,rfl,_,a):=h;show a
 | i::is,_,n+1,h=>by
  rw[p7]at h;have(x,r,rfl,c,a):=h;rw[Kt,Kt,p7];show{x,_,Xr,c,p7.erase n a}
def rA:cA K rP fW:=by
 intro H w vs s O S i G F Q h v N u e q;unfold fW at e;ext e M;have o:=bP e;clear e;have(t,rfl,e):=o;unfold BX at e;ext e n c;unfold pB at e;ext e L;ext e x J;cases e;have(a,d,rfl,m,j,rfl):=i6 h λa B=>u a (yaL _ B);have(z,rfl,g):=pR v;have A:t=.im (.int n):=by
  unfold isI at c;ext c;split at c;cases c;rfl;cases c
 subst A;have p:=aW {_,g};have(_,rfl):=aX g;subst p;have(y,l,r):=j.get J;have E:n.toNat<d.length:=(Ii.mp l).1;show{a,d,n,n.toNat,y,Xr,Xr,m,by omega,by omega,?_,l,gf m (j.erase n.toNat) r q};have f:ixN d.length n*>n.toNat:=by
  unfold ixN;rw[if_pos L.1,if_pos ⋯]
 show(nN f).1
def yA(H:Hp)(x:V)(a:T)(ts:!T)(r:T×I)(h:Rpx K H a x)(e:fW a ts*>r):tyV K "list" x H:=by
 unfold fW at e;split at e;show nh h;cases e
end
def zJ:jS "list" "pop" fW:={_,λ_=>rP,PySem.F.plainAttrs_list,PySem.F.slot_list_pop,PySem.F.type_list_pop,λ_=>wu,λ_=>rA,λK=>yA}
section
variable {O:Rho}{is:!I}{n:Nat}{x:I}{QI1:T->I->Prop}
def wV(a:0<=i)(c:i<1000000000)(h:is[i.toNat]?*>x):pB is i*>(.li (is.eraseIdx i.toNat),x):=by
 unfold pB;rw[if_pos ⟨a,c⟩,h]
def uK:fW (.li is) [.im (.int i)]=pB is i:=by unfold fW;rfl
def z8(a:0<=i)(c:i<1000000000)(h:is[i.toNat]?*>x)(q:QI1 (.li (is.eraseIdx i.toNat)) x):W2 (fW (.li is) [.im (.int i)]) QI1:=by
 rw[uK,wV a c h];show{_,_,Xr,q}
end
open AutoSeq1 (wpAny_loadPart')
open MeetsSeq MeetsSeq2 MeetsSeq3 SeqRoads2
open PySem.W (KasT kas_sort)
structure Ord(f:Nat->Nat->Bool):Prop where
 as:∀{i j},f i j=TK->f j i=TJ
 tr:∀{i j k},f j i=TJ->f k j=TJ->f k i=TJ
open PySem.W (KasT kas_sort kas_ask kat_run kat_snds KatLex kat_lt kat_cons kat_nil kat_one kat_yes kat_no kat_kind KatTups)
open PySem.W (KasT kas_sort kas_ask kat_run kat_snds KatLex KatGo kat_lt kat_cons kat_nil kat_one kat_yes kat_no kat_kind KatTups)
abbrev one(z:Str):!Str:=[z]
open PySem.W (Frag)
mutual
noncomputable def I.noex:I->Bool
 | .exn _ _ _=>TJ|.tup is=>I.noexs is|.ls is=>I.noexs is|.fd _ is=>I.noexs is|.non=>TK|.bl _=>TK|.int _=>TK|.str _=>TK
noncomputable def I.noexs:!I->Bool
 | []=>TK
 | i::is=>i.noex&&I.noexs is
end
open PySem.W (Frag)
protected def Tab:=!(Str×!Str)
structure CK0{ι : Type}(C:ι->Cx)(P:Nv)(W:NB)(K:Frag)(mg:Str->↑Nk)(base:Heap):Prop where
 prog:∀i,(C i).prog=P
 w:∀i,(C i).w=W
 kk:∀i,(C i).K=K
 mg:∀i,(C i).mg=mg
 base:∀i,(C i).base=base
 un:∀i,(C i).A.units+64<NN
abbrev Cq(K:yF) (a:Addr):It:=
 {λi H=>∃c x,SqL K H a c/\c[i]?*>x,λi H y d=>∃p x,H p=TF/\y=.ref p/\d=upd H p (.tup [.int i,x])/\∀c,SqL K H a c->c[i]?*>x,λi H=>∃c,SqL K H a c/\c.length<=i}
def rY{P:Nv}{w:NB}{K:yF}{elts:!Expr}{k0:Nat}{pos:Pos}(a it e:Addr)(hei:e≠it) :
  Nb P w K (.Tuple elts k0 pos) (Cq K a) [e,it] e (λi h=>(∃old,IsEnum h e it ((i:Nat):Int) old)/\h.IsListIter it a i) where
 mem:=by simp
 obj:=λi h st b hb=>by
  rcases ycM hb with z|z
  .subst z;have(old,e1):=st.1;show{_,e1,λv z=>by cases z}
  .have z':b=it:=by exists z
   subst z';have(o,e,c,d):=st.2;show{o,e,λv z=>by rw[d]at z;cases z}
 keep:=λi h h' st k=>{let ⟨old,e1⟩:=st.1;{old,k e ∅ _ e1},st.2.at λo e=>k it ∅ o e}
 item:=by
  intro X hP hw hK hc i OK s Z H E I hf st hg;subst hP hw hK;have(xs,x,hq,hx):=hg;have(its,rv,p,hz):=I.list hq;have(u,hu,ru):=rv.get hx;have(f0,f1,f2,f3,f4,f5):=hf it ∅;have(e0,e1,e2,e3,e4,e5):=hf e ∅;obtain⟨⟨old,he⟩,hit⟩:=st;have hT:s.heap.IsList a its.toArray:=p.isList;have nai:a≠it:=λz=>by
   subst z;have(o1,q1,q2,_):=hT;have(o2,q3,q4,_):=hit;rw[q1]at q3;cases q3;rw[q2]at q4;show absurd q4 (by decide +kernel)
  have nae:e≠a:=λz=>by
   subst z;have(o1,q1,q2,_):=hT;have q3:s.heap.get? e=_:=he;rw[q1]at q3;cases q3;have q5:Su "enumerate" = Su "list" :=q2;show absurd q5 (by decide +kernel)
  have hn:i<its.toArray.size:=by
   rw[Ij];show(Ii.mp hu).1
  show wpAny_pyNext_enum_itemD (Tu (A:=X.A.in1) (I.ok.hd hc) it a nai its.toArray) he ⟨hit,hT⟩ hn hei (by simp[hei,nae]) λx' h1 tk px ho st1 ht hz1 kk=>?_;have ex:x'=u:=by
   have e1:its.toArray[i]?*>x':=px;have e2:its.toArray[i]?*>u:=by exists hu
   rw[e1]at e2;show IG.inj e2
  subst ex;show{_,Xr,wpAny_letOwnedTupleGo_enum ho λh2 he2 sb=>?_};have sb':Nw e h1 h2:=sb;have hel:e<s.heap.objs.size:=Nr he;have k2:∀b o,b≠e->b≠it->s.heap.get? b*>o->h2.get? b*>o:=λb o n1 n2 q=>(sb'.2 b n1).trans (kk b o n1 n2 q);have I1:Inv X OK Z H {s with heap:=h2,toks:=tk+1}:=I.turned2 k2 (hf e ∅) (hf it ∅);have fz:eQ X OK H s.heap.objs.size:=I.fpOk (Iq _) (I.hok.fresh (Iq _));have hT2:h2.get? s.heap.objs.size=TH {cls:=.type "tuple",data:=.seq #[.int i tk,x']}:=(sb'.2 _ (J3 hel)).trans ht;have I2:Inv X OK Z (upd H s.heap.objs.size (.tup [.int i,x])) {s with heap:=h2,toks:=tk+1}:=I1.track fz (.inr I.sz) I.sz {by change 2<=sizeLine;decide,[.int i tk,x'],.cons ⟨tk,Xr⟩ (.cons ru .nil),{_,hT2,⟨Xr,Xr⟩,_,Xr}};show{.ref s.heap.objs.size,_,I2,Xr,{_,x,fz.1,Xr,Xr,λys hy=>by rw[I.list_inj hy hq];show hx},{{x',?_},?_},λb hb=>?_}
  .have e9:((i+1:Nat):Int)=(i:Int)+1:=by push_cast;rfl
   rw[e9];show he2
  .show st1.1.extBut sb'.extBut (NA hei)
  .have hbo:∃o,s.heap.get? b*>o:=by
    rcases ycM hb with z|z;subst z;show{_,he}
    .have z':b=it:=by exists z
     subst z';have(o,q,_):=hit;show⟨o,q⟩
   have(o,q):=hbo;rw[aZ (IA (Nr q))];show(hf b hb).1
 done:=by
  intro X hP hw hK hc i OK s Z H E I hf st hg;subst hP hw hK;have(xs,hq,hx):=hg;have(its,rv,p,hz):=I.list hq;have(f0,f1,f2,f3,f4,f5):=hf it ∅;have hl:=rv.length;obtain⟨⟨old,he⟩,hit⟩:=st;have hT:s.heap.IsList a its.toArray:=p.isList;have nai:a≠it:=λz=>by
   subst z;have(o1,q1,q2,_):=hT;have(o2,q3,q4,_):=hit;rw[q1]at q3;cases q3;rw[q2]at q4;show absurd q4 (by decide +kernel)
  show CD (λQ E kk=>QU (A:=X.A.in1) (I.ok.hd hc) hit hT (by simp;omega) kk) he λh1 eb=>{Xr,I.turned (t':=s.toks) (λb o hb e=>eb b o hb e) f0 f1 f3 f4 f5}
 self:=λ_ _ _ _ _ st h=>by
  obtain⟨⟨old,he⟩,_⟩:=st;show RV he h
abbrev qJ(K:yF)(d:TA):TI:=λZ H R=>d Z H λvs c=>∃a e,vs=[.ref a]/\SqL K c a e/\R (Cq K a) c
def wU{X:Cx}{a:Expr}{j:TA}{elts:!Expr}{k0:Nat}{p pos pt:Pos}(B:Gl X "enumerate")(t:X.mg "enumerate" = TF)(E:PA X [a] j)(hs:NG [a] X.env=[(TJ,eval a X.env)]:=by rfl):PI X (.Tuple elts k0 pt) (.Call (.Name "enumerate" p) [a] [] pos) (qJ X.K j):=by
 intro r s Z H R I h;show Call_ (iz I B t boot_enumerate (Jz (thn (E pos r s Z H _ I h) λQ c ⟨vs,G,d,x,v⟩=>?_) hs rfl));have(l,O,e,L,q):=v;subst e;have(u,rfl,m):=gp x;cases m;have(f,S,y,N):=d.list L;show call_enumerate_list (show c.heap.IsList l f.toArray from y.isList) λU i g A w=>?_;show RV i ?_;show{c.heap.objs.size+1,[c.heap.objs.size+1,c.heap.objs.size],_,_,G,Xr,d.kept (t':=c.toks) λb o e=>w b o e,rY l c.heap.objs.size _ (Nat.succ_ne_self _),{{_,i},g},λb M=>?_,q};rcases ycM M with z|z
 .subst z;show d.fpOk (KG _) (d.hok.fresh (KG _))
 .have J:b=c.heap.objs.size:=by exists z
  subst J;show d.fpOk (Iq _) (d.hok.fresh (Iq _))
def HI{X:Cx}{K:yF}{a:Expr}{c:TA}{elts:!Expr}{k0:Nat}{p pos pt:Pos}(h:X.K=K)(f:Gl X "enumerate")(e:X.mg "enumerate" = TF)(d:PA X [a] c)(hs:NG [a] X.env=[(TJ,eval a X.env)]:=by rfl):PI X (.Tuple elts k0 pt) (.Call (.Name "enumerate" p) [a] [] pos) (qJ K c):=h▸wU f e d hs
open PySem.W (Frag)
abbrev wj:T->Option !I
 | .li a=>TH a
 | .im (.ls a)=>TH a
 | _=>TF
private def jx(a:MA):MI:={λO=>match a.run O with
 | some ([r],c)=>(match wj r.t with
  | some d=>TH (([r],gy 0 d),c)
  | none=>TF)
 | _=>TF,a.mu}
def sS{K:Frag}{H:Hp}{t:T}{is:!I}{v:V}(e:wj t*>is)(r:Rpx K H t v):∃a xs,v=.ref a/\Rd H a (.lst xs)/\p7 K H is xs:=by
 unfold wj at e;split at e;cases e;show bS r;cases e;show lF r;cases e
section
variable {Γ:Gm}{K:Frag}
def Bq{a:Addr}{r0:R}{is:!I}(o:wj r0.t*>is):fN Γ (Cq Γ.K a) [.ref a] [r0] (gy 0 is):=λH O Z E S=>by
 replace S:Sim Γ H O Z ({TF,.ref a,r0}::E):=S;have s:Rpx Γ.K H r0.t (.ref a):=S.rd (e:={TF,.ref a,r0}) ymS;have(B,d,q,g,l):=sS o s;cases q;show{λi m=>{d,aI g,by rw[l.length];rw[mz]at m;show m},λi r c=>?_};rw[jq]at c;cases e:is[i]? with
 | none=>rw[e]at c;cases c
 | some j=>
  rw[e]at c;cases c;have(w,h,f):=l.get e;show{{d,w,aI g,h},λx z y=>?_};have(p,A,v,rfl,rfl,u):=y;have:=u d (aI g);rw[h]at this;cases this;rw[IZ];show S.fresh (New.tup v (.cons (by rw[RpI]) (.cons f (by rw[p7]))))
def u6{l:TA}{a:MA}(w:gq K l a):kF K (qJ K l) (jx a):=by unhygienic
 intro Γ H O Z E A x f y j d S q;dsimp[jx]at d;ext d g B p;ext d z m;cases d;show w Γ H O Z E _ _ _ j p S λvs h i c=>?_;cases vs with
 | nil=>cases i
 | cons v vs=>
  cases vs with
  | cons _ _=>cases i
  | nil=>
   have c:Sim Γ h y Z (⟨TF,v,g⟩::ah a.mu E):=c;have s:Rpx Γ.K h g.t v:=c.rd (e:=⟨TF,v,g⟩) ymS;have(o,r,rfl,u,G):=sS m s;subst j;show{o,r,Xr,aI u,q Γ rfl (λ_ _ _ _ S=>S) _ [.ref o] h rfl c (Bq m)}
end
section
variable {ι : Type}{C:ι->Cx}{P:Nv}{W:NB}{K:Frag}{mg:Str->↑Nk}{base:Heap}{k:Nat}{a e:Expr}{m:ME}{ms:MA}{pos:Pos}
def xy(c:CK C P W K mg base k)(T:Bi mg)(d:QA C K [a] ms)(f:∀i,Gl (C i) "enumerate" :=by intro _;rfl)(hs:ce a=TJ:=by rfl):QI C K (.Tuple elts k0 pt) (.Call (.Name "enumerate" p) [a] [] pos) (jx ms):=by
 have(g,q,_,r):=d;show{_,λi=>HI (c.kk i) (f i) (by rw[c.mg i];show T.b_enumerate) (q i) (bp hs),u6 r}
end
end L2
namespace L2
open PySem
noncomputable section
abbrev db:MS:=(aq (ay (fh [TF,TF,TF,TF] (mIt (af 1)) (ae 3) mYes (af 3) (mC (.bl TK))) (ae 2))
  (bv (fh [TH 0,TF,TH 2,TF] (mIt (af 1)) (ae 3) mYes (af 3) (qR (aM [TF,TF,TH 2,TF,TF] (mIt (mB fk (ac 0 (ac 3 mNil)))) (ae 4) (aT (mOp oZ (af 4) (af 2))) (af 4))))))
abbrev dg(ts:!T):↑T:=if ts.length=2 then dD db 3 ts else TF
abbrev gD:MS:=(aq (ay (fh [TF,TF,TF,TF,TF,TF] (mIt (af 0)) (ae 4) mYes (af 4) (mC (.bl TK))) (ae 2))
  (aq (ay (mB pf (ac 0 mNil)) (ae 3))
  (aq (dz (qU (af 3))
  (bQ [4,5] (aq (ay (jX 3 nX (af 3)) (ae 4))
  (bY (mIt (mOp qgT (af 1) (af 4))) (ae 5)
  (bQ [5] (mIf (aT (mOp mQ (af 5) (af 2))) (aq (ay (mC (.bl TK)) (mN 2 (af 2) (af 5)))
  (bt (cf 3 [5] apT (af 3) (ac 5 mNil)))) mNext))))))
  (bv (af 2)))))
abbrev gI(ts:!T):↑T:=if ts.length=2 then dD gD 6 ts else TF
abbrev fU:MS:=(aq (ay (mB gI (aa (aQ [2] (ac 2 mNil)) (aa (mB dg (ac 0 (ac 1 mNil))) mNil))) (ae 3))
  (bv (aM [TF,TF,TF,TH 3,TF] (mIt (af 1)) (ae 4) (aT (mOp oZ (af 4) (af 3))) (af 4))))
abbrev fY(ts:!T):↑T:=if ts.length=3 then dD fU 4 ts else TF
abbrev h9:MS:=(aq (ay (aQ [] (aa (av [] mNil) mNil)) (ae 2))
  (aq (bY (l0 (ac 0 (ac 1 mNil))) (cx (aH (ae 3) (aH (ae 4) mGNil)))
  (bQ [3,4,5,6] (aq (ay (aQ [] mNil) (ae 5))
  (aq (bY (mIt (af 2)) (ae 6)
  (bQ [6] (bt (cf 5 [] j4 (af 5) (aa (aM [TF,TF,TF,TF,TH 4,TF,TH 6,TF] (bi (ac 3 mNil)) (ae 7) mYes (mOp bh (af 6) (av [] (aa (mOp bh (af 4) (af 7)) mNil)))) mNil)))))
  (ay (uv 5) (ae 2))))))
  (bv (af 2))))
abbrev jJ(ts:!T):↑T:=if ts.length=2 then dD h9 7 ts else TF
abbrev km:MS:=(aq (ay (av [] (aa (am 0 0 ai (ac 0 (aa (mC (.int 4)) mNil))) (aa (mOp cv (mIx (aQ [] (aa (mC (.int 9)) (aa (mC (.int 4)) (aa (mC (.int 3)) mNil)))) (mOp cv (mIx (af 1) (mC (.int 0))) (mC (.int 1)))) (mB j6 (aa (mOp (fA λi j=>decide (j<i)) (mB cY (aa (mIx (af 1) (mC (.int 2))) mNil)) (mC (.int 3))) mNil))) mNil))) (cx (aH (ae 2) (aH (ae 3) mGNil))))
  (aq (ay (aM [TH 0,TF,TF,TH 3,TF,TF,TF,TF,TF,TF] (bi (aa (mIx (af 1) (mC (.int 0))) mNil)) (ae 9) mYes (mOp bh (mC (.int 1)) (am 0 0 ai (ac 0 (ac 3 mNil))))) (ae 4))
  (aq (ay (aM [TH 0,TF,TH 2,TF,TF,TF,TF,TF,TF,TF] (bi (aa (mIx (af 1) (mC (.int 0))) mNil)) (ae 9) mYes (mOp cv (am 0 0 ai (ac 0 (aa (mIx (aQ [] (aa (mC (.int 5)) (aa (mC (.int 1901)) mNil))) (mB j6 (aa (mOp eqT (af 2) (mC (.int 3))) mNil))) mNil))) (mIx (aQ [] (aa (mC (.int 2)) (aa (mC (.int 950)) mNil))) (mB j6 (aa (mOp eqT (af 2) (mC (.int 3))) mNil))))) (ae 5))
  (aq (ay (aQ [] mNil) (ae 6))
  (aq (bY (mIt (mB jJ (ac 4 (ac 5 mNil)))) (ae 7)
  (bQ [7] (bt (cf 6 [] j4 (af 6) (aa (aM [TF,TF,TF,TF,TF,TF,TF,TH 7,TF,TF,TF] (mIt (mIx (af 1) (mC (.int 2)))) (cx (aH (ae 9) (aH (ae 10) mGNil))) mYes (av [9,7] (ac 9 (ac 7 mNil)))) mNil)))))
  (aq (mIf (aT (mOp eqT (af 2) (mC (.int 1)))) (ay (aM [TH 0,TF,TF,TF,TF,TF,TF,TF,TF,TF] (mIt (af 6)) (ae 9) (aT (mOp (fA λi j=>decide (j<i)) (am 0 0 ai (ac 0 (aa (mC (.int 4)) mNil))) (mC (.int 0)))) (af 9)) (ae 6)) mNext)
  (aq (ay (aQ [] mNil) (ae 8))
  (aq (dz (lZ (aT (mOp (fA λi j=>decide (j<i)) (mB cY (ac 6 mNil)) (mC (.int 0)))) (aT (mOp (fA λi j=>decide (j<i)) (af 2) (mC (.int 0)))))
  (bt (cf 8 [] apT (af 8) (aa (cf 6 [] fW (af 6) (aa (am 0 0 ai (ac 0 (aa (mB cY (ac 6 mNil)) mNil))) mNil)) mNil))))
  (bv (mOp bh (af 8) (af 6)))))))))))
abbrev oh(ts:!T):↑(T×T):=if ts.length=2 then fm km 0 9 ts else TF
abbrev iY:MS:=(aq (ay (mOp dgT (mB mr (aa (mIx (af 0) (mC (.int 2))) mNil)) (mIx (af 1) (mC (.int 0)))) (ae 2))
  (aq (ay (aQ [] mNil) (ae 3))
  (aq (bY (mIt (mB (cQ 24) (ac 2 mNil))) (cx (aH (ae 4) (aH (ae 5) mGNil)))
  (bQ [4,5] (bt (cf 3 [] apT (af 3) (aa (av [4] (ac 4 (aa (mB jl (aa (aM [TF,TF,TF,TF,TF,TF,TF,TF] (l0 (aa (mIx (af 1) (mC (.int 1))) (ac 5 mNil))) (cx (aH (ae 6) (aH (ae 7) mGNil))) mYes (mOp bh (af 6) (af 7))) mNil)) mNil))) mNil)))))
  (bv (af 3)))))
abbrev lB(ts:!T):↑T:=if ts.length=2 then dD iY 6 ts else TF
abbrev iC:MS:=(aq (ay (mB gt (aa (aM [TF,TF,TF,TF,TF,TF,TF,TF] (mIt (af 1)) (ae 7) mYes (av [7] (ac 7 (aa (mC (.bl TK)) mNil)))) mNil)) (ae 3))
  (aq (ay (mQ1 2) (ae 4))
  (aq (ay (aQ [2] (ac 2 mNil)) (ae 5))
  (aq (dz (aT (mOp neT (af 5) (aQ [] mNil)))
  (bQ [6,7] (aq (ay (aQ [] mNil) (ae 6))
  (aq (bY (mIt (af 5)) (ae 7)
  (bQ [7] (bt (cf 6 [] j4 (af 6) (aa (aM [TF,TF,TF,TH 3,TH 4,TF,TF,TF,TF] (mIt (mB lB (ac 0 (ac 7 mNil)))) (ae 8) (lZ (aT (mOp oZ (af 8) (af 3))) (aT (mOp mQ (af 8) (af 4)))) (af 8)) mNil)))))
  (aq (ay (mB kZ (aa (mB gt (aa (aM [TF,TF,TF,TF,TF,TF,TF,TF] (mIt (af 6)) (ae 7) mYes (av [7] (ac 7 (aa (mC (.bl TK)) mNil)))) mNil)) mNil)) (ae 5))
  (bt (cf 4 [] lN (af 4) (aa (mB gt (aa (aM [TF,TF,TF,TF,TF,TF,TF,TF] (mIt (af 5)) (ae 7) mYes (av [7] (ac 7 (aa (mC (.bl TK)) mNil)))) mNil)) mNil))))))))
  (bv (aM [TF,TF,TF,TF,TH 4,TF,TF,TF] (mIt (af 1)) (ae 7) (aT (mOp oZ (af 7) (af 4))) (af 7)))))))
abbrev iG(ts:!T):↑T:=if ts.length=3 then dD iC 8 ts else TF
abbrev i3:MS:=(aq (ay (av [] (aa (mOp bh (mC (.int 100)) (am 0 0 ai (ac 0 (aa (mC (.int 201)) mNil)))) (aa (am 0 0 ai (ac 0 (ac 1 mNil))) (aa (mOp cv (mC (.int 1)) (mOp cJ (mC (.int 2)) (am 0 0 ai (ac 0 (aa (mC (.int 2)) mNil))))) mNil)))) (cx (aH (ae 2) (aH (ae 3) (aH (ae 4) mGNil)))))
  (aq (ay (mOp bh (mC (.int 1)) (am 0 0 ai (ac 0 (aa (mC (.int 2)) mNil)))) (ae 5))
  (aq (ay (mB jl (aa (aM [TF,TF,TF,TH 3,TH 4,TH 5,TF,TF,TF,TF,TF] (bi (ac 1 mNil)) (ae 10) mYes (mOp cJ (mOp cJ (af 4) (af 5)) (mB j6 (aa (mOp eqT (af 10) (af 3)) mNil)))) mNil)) (ae 6))
  (aq (ay (av [1] (ac 1 (aa (mOp bh (mC (.int 2)) (am 0 0 ai (ac 0 (aa (mC (.int 99)) mNil)))) (aa (av [] (aa (av [] (aa (mC (.str "a")) (aa (av [] (aa (mC (.str "op")) (aa (mC (.str "+")) (aa (av [6] (aa (mC (.str "at")) (aa (mC (.str "a")) (ac 6 mNil)))) (aa (av [] (aa (mC (.str "num")) (aa (mC (.int 1)) mNil))) mNil))))) mNil))) mNil)) mNil)))) (ae 7))
  (aq (ay (aM [TF,TH 1,TF,TH 3,TF,TH 5,TF,TF,TF,TF,TF] (bi (ac 2 mNil)) (ae 10) mYes (av [] (aa (mC (.str "a")) (aa (mB jl (aa (aM [TF,TF,TF,TH 3,TF,TH 5,TF,TF,TF,TF,TH 10,TF] (bi (ac 1 mNil)) (ae 11) mYes (mOp cJ (mOp cJ (af 10) (af 5)) (mB j6 (aa (mOp eqT (af 11) (af 3)) mNil)))) mNil)) mNil)))) (ae 8))
  (aq (ay (am 0 0 ai (ac 0 (ac 2 mNil))) (ae 9))
  (bv (av [7,4] (ac 7 (aa (mOp bh (mSl (af 8) (fJ (af 9)) mNoPart) (mSl (af 8) mNoPart (fJ (af 9)))) (ac 4 mNil)))))))))))
abbrev lC(ts:!T):↑(T×T):=if ts.length=2 then fm i3 0 10 ts else TF
abbrev cF:MS:=(aq (ay (am 0 0 lC (ac 0 (aa (mOp bh (mC (.int 1)) (am 0 0 ai (ac 0 (aa (mC (.int 3)) mNil)))) mNil))) (cx (aH (ae 1) (aH (ae 2) (aH (ae 3) mGNil)))))
  (aq (ay (mIx (af 2) (am 0 0 ai (ac 0 (aa (mB cY (ac 2 mNil)) mNil)))) (ae 4))
  (aq (ay (aM [TF,TF,TF,TH 3,TH 4,TF,TF] (mIt (af 2)) (ae 6) (aT (mOp (fA λi j=>decide (j<=i)) (mOp cJ (af 3) (mOp cv (mB m7 (aa (mIx (af 6) (mC (.int 1))) mNil)) (mB m7 (aa (mIx (af 4) (mC (.int 1))) mNil)))) (mC (.int 0)))) (af 6)) (ae 5))
  (bv (mOp eqT (mB fY (ac 1 (ac 2 (ac 4 mNil)))) (af 5))))))
abbrev eG(ts:!T):↑(T×T):=if ts.length=1 then fm cF 0 6 ts else TF
abbrev gC:MS:=(aq (bY (bi (aa (mB nT (aa (mC (.int 2)) (aa (mB pk (aa (mB cY (ac 0 mNil)) (aa (mC (.int 4)) mNil))) mNil))) mNil)) (ae 1)
  (bQ [1,2,3,4,5,6,7,8,9,10,11] (aq (ay (mB je (ac 0 (ac 1 mNil))) (ae 2))
  (aq (ay (aM [TF,TF,TH 2,TF,TF,TF,TF,TF,TF,TF,TF,TF,TF] (bi (aa (mOp bh (mC (.int 1)) (am 0 2 ai (ac 2 (aa (mC (.int 4)) mNil)))) mNil)) (ae 12) mYes (am 0 2 ai (ac 2 (aa (mC (.int 300)) mNil)))) (ae 3))
  (aq (ay (am 0 2 jG (ac 2 mNil)) (ae 4))
  (aq (ay (qR (am 0 2 oh (ac 2 (ac 4 mNil)))) (ae 5))
  (bY (mIt (mOp cJ (af 3) (mB j6 (aa (mOp neT (af 5) (aQ [] mNil)) mNil)))) (ae 6)
  (bQ [6,7,8,9,10,11] (aq (ay (mIx (af 5) (mOp fV (af 6) (mB nT (aa (mC (.int 1)) (aa (mB cY (ac 5 mNil)) mNil))))) (ae 7))
  (aq (ay (aM [TF,TF,TF,TF,TF,TF,TF,TH 7,TF,TF,TF,TF,TF,TF] (jx (ac 5 mNil)) (cx (aH (ae 12) (aH (ae 13) mGNil))) (mOr (aT (mOp eqT (mOp fV (af 12) (mC (.int 2))) (mC (.int 0)))) (aT (mOp eqT (af 13) (af 7)))) (af 13)) (ae 8))
  (bY (mIt (av [] (ac 5 (aa (uu 8) (ac 5 mNil))))) (ae 9)
  (bQ [9,10,11] (aq (ay (mB pf (ac 9 mNil)) (ae 10))
  (aq (ay (mB fY (ac 4 (ac 10 (ac 7 mNil)))) (ae 11))
  (aq (mIf (mOr (uw (aT (mUn (qL ["list"]) (af 11)))) (mOr (aT (mOp neT (af 11) (mB iG (ac 4 (ac 9 (ac 7 mNil)))))) (aT (mOp neT (af 10) (af 9))))) (bv (mC (.bl TJ))) mNext)
  (bt (jX 11 qD (af 11))))))))))))))))))
  (aq (ay (mB je (ac 0 (aa (mC (.int 4)) mNil))) (ae 2))
  (bv (qS (mOp neT (am 0 2 ai (ac 2 (aa (mC (.int 8)) mNil))) (mC (.int 5))) (am 0 2 eG (ac 2 mNil))))))
abbrev r_l_law_v11(ts:!T):↑T:=if ts.length=1 then dD gC 12 ts else TF
end
end L2
namespace K15
open PySem PySem.Spec PyProof.Rows L2
abbrev top(i:Nat):Stmt:=PySem.Challenge.pw_clockhouse_k15_what_a_cell_needs.main.body.getD i (.Pass {0,0,0,0})
noncomputable abbrev ft:Stmt:=top 1
noncomputable abbrev iL:Stmt:=top 2
noncomputable abbrev oA:Stmt:=top 3
noncomputable abbrev ge:Stmt:=top 5
noncomputable abbrev jO:Stmt:=top 6
noncomputable abbrev yj:Stmt:=top 7
noncomputable abbrev gQ:Stmt:=top 8
noncomputable abbrev eK:Stmt:=top 10
noncomputable abbrev jN:Stmt:=top 11
noncomputable abbrev lI:Stmt:=top 12
noncomputable abbrev gN:Stmt:=top 14
noncomputable abbrev gP:Stmt:=top 15
noncomputable abbrev f9:Stmt:=top 16
noncomputable abbrev iK:Stmt:=top 17
noncomputable abbrev dF:Stmt:=top 18
noncomputable abbrev cS:Stmt:=top 19
noncomputable abbrev cT:Stmt:=top 20
noncomputable abbrev cW:Stmt:=top 21
noncomputable abbrev bU:Stmt:=top 22
noncomputable abbrev cV:Stmt:=top 23
noncomputable abbrev gb:Stmt:=top 24
noncomputable abbrev f7:Stmt:=top 25
noncomputable abbrev f8:Stmt:=top 26
noncomputable abbrev dH:Stmt:=top 27
noncomputable abbrev gc:Stmt:=top 28
noncomputable abbrev iJ:Stmt:=top 29
noncomputable abbrev gM:Stmt:=top 30
noncomputable abbrev iI:Stmt:=top 31
noncomputable abbrev gO:Stmt:=top 32
noncomputable abbrev cU:Stmt:=top 33
noncomputable abbrev s_law:Stmt:=top 34
structure GT(K:yF)(mg:Str->↑Nk):Prop where
 triv:True
end K15
namespace L2
open PySem PySem.Spec PyProof.Rows
section
variable {O:Rho}{g:MG}{ek ev a:ME}{QE':R->Rho->Prop}{fr:! ↑Nat}
def lR{S:Type}(e f:S->I) (h:WE a O λr d=>∃L:!S,ef r*>((L.map e).map λi=>{.ow,.im i})/\Gu (dO fr d.length&&dM (g.mu++(mYes.mu++(ek.mu++ev.mu))) fr.length&&[r].all (aC (muF fr (g.mu++(mYes.mu++(ek.mu++ev.mu)))))) (L.length<sizeLine /\
  (∀c∈L,(∃ks,cb (e c)*>ks)/\WG g {.ow,.im (e c)} (inR fr d) λm=>WE ek m λs t=>imR s*>(e c)/\WE ev t λl p=>imR l*>(f c)/\ci fr (g.mu++(mYes.mu++(ek.mu++ev.mu))) p d=d)/\QE' {.ow,.dq (gR (L.map λc=>(e c,f c)) [])} d)):WE (fh fr (mIt a) g mYes ek ev) O QE':=by
 have(r,d,y,L,G,A,v,u,q):=h;show Bo (yT {r,d,y,_,G,A,by rw[Ih,Ih];show v,λi j O=>O=d/\j=(L.take i).map λc=>(e c,f c),⟨Xr,Xr⟩,?_,?_})
 .rintro i r j O B ⟨rfl,rfl⟩;have(x,E,rfl):=aA B;have(c,o,rfl):=aA E;obtain⟨⟨ks,H⟩,w⟩:=u c (ymG o);show(show WG g {.ow,.im (e c)} _ _ from w.mono λm w=>jR {λ_=>w.mono λs t z=>{e c,ks,z.1,H,z.2.mono λl p z=>{f c,z.1,z.2,?_}},λz=>by cases z});rw[Jk,o];simp
 .rintro j O ⟨rfl,rfl⟩;rw[Ih,Ih,Ji];show q
end
section
variable {O:Rho}{a b m:ME}{ms:MA}{QE':R->Rho->Prop}{QA':!R->Rho->Prop}
def vE:aC M {.ow,t}=TK:=by unhygienic rfl
def bH:aC [] r=TK:=by
 have(k,t):=r;cases k with
 | vw o p=>cases o<;>unhygienic rfl
 | _=>unhygienic rfl
def Hk(h:WA ms O λrs c=>QA' ({.ow,.im i}::rs) c):WA (aa (mC i) ms) O QA':=oM (w_C (WA.mono h λ_ _ q=>gu vE q))
def Ig(h:WE m O λr c=>QA' [r] c):WA (aa m mNil) O QA':=oM (WE.mono h λ_ _ q=>lS (gu (by unhygienic show bH) q))
def He(h:WE a O λd c=>W1 (f d.t (.im i)) λt=>QE' {.ow,t} c):WE (mOp f a (mC i)) O QE':=sf (WE.mono h λ_ _ q=>w_C (gu (by unhygienic show bH) q))
def Hf(h:WE a O λe c=>WE (af n) c λg d=>W1 (f e.t g.t) λt=>QE' {.ow,t} d):WE (mOp f a (af n)) O QE':=sf (WE.mono h λ_ _ h=>WE.mono h λ_ _ q=>gu (by unhygienic show bH) q)
abbrev owL:Nat->!R->Option !T
 | _,[]=>TH []
 | n+1,⟨.ow,t⟩::d=>match owL n d with
  | some c=>TH (t::c)
  | none=>TF
 | _,_=>TF
def lj{mv:!Nat}{O:Rho}:∀{n:Nat} {rs:!R} {ts:!T},owL n rs*>ts->rs.length<=n/\consL mv rs O*>(ts,O)
 | _,[],ts,h=>by rw[owL]at h;cases h;show{Jm _,Xr}
 | 0,_::_,ts,h=>by simp[owL]at h
 | n+1,⟨k,t⟩::rs,ts,h=>by
  cases k with
  | ow=>
   rw[owL]at h;cases e:owL n rs with
   | none=>rw[e]at h;cases h
   | some f=>
    rw[e]at h;cases h;have(d,c):=lj (mv:=mv) (O:=O) e;show{KA d,by rw[consL,c]}
  | _=>simp[owL]at h
abbrev OwT(rs:!R)(Q:!T->Prop):Prop:=∃c,owL 1000 rs*>c/\Q c
def FQ(h:owL 1000 rs*>ts)(q:Q ts):OwT rs Q:=⟨ts,h,q⟩
def Fa(h:WA ms O λrs c=>OwT rs λts=>QE' {.ow,mO ts} c):WE (av [] ms) O QE':=yL (WA.mono h λ_ _ ⟨_,e,q⟩=>gu (decide_eq_true (lj (mv:=[]) (O:=O) e).1) {_,_,(lj e).2,q})
def E3(h:WA ms O λrs c=>OwT rs λts=>QE' {.ow,cc ts} c):WE (aQ [] ms) O QE':=yJ (WA.mono h λ_ _ ⟨_,e,q⟩=>gu (decide_eq_true (lj (mv:=[]) (O:=O) e).1) {_,_,(lj e).2,q})
def Ic{run:!T->↑(T×T)}{k0:Nat}{t:T}{i:I}(h:W2 (run [t,.im i]) λx s=>QE' {.ow,x} (TH {.io k0,s}::ar [0] O)):WE (am 0 0 run (ac 0 (aa (mC i) mNil))) (TH {.io k0,t}::O) QE':=
 oJ (eP rfl (Hk (lS (qu rfl (Cu rfl (by unhygienic rfl) rfl rfl (W2.mono h λx s q=>by rw[nZ];show q))))))
def Hj{run:!T->↑(T×T)}{k0 n:Nat}{t:T}{r0:R}(c : O[n]?*>(TH r0))(d:aC [0] (rdR (n+1) r0)=TK)(h:W2 (run [t,(rdR (n+1) r0).t]) λx s=>QE' {.ow,x} (TH {.io k0,s}::ar [0] O)):WE (am 0 0 run (ac 0 (ac (n+1) mNil))) (TH {.io k0,t}::O) QE':=
 oJ (eP rfl (eP (r0:=r0) c (lS (qu (r:=r0) c (qu rfl (Cu rfl (by change(TK&&_)=TK;simp[I8,I8.loop,d]) rfl rfl (W2.mono h λx s q=>by rw[nZ];show q)))))))
def yM(c : O[n]?*>(TH r0))(q:QA' [rdR n r0] O):WA (ac n mNil) O QA':=eP (r0:=r0) c (lS (qu (r:=r0) c q))
def Hm{n:Nat}{r0:R}{k:Int}{Q:Int->Rho->Prop}(c : O[n]?*>(TH r0))(e:(rdR n r0).t=.im (.int k))(q:Q k O):WA (ac n mNil) O (λrs d=>Ng rs λk=>Q k d):=yM c (sK (by rw[Io,e];rfl) q)
def EY(c : O[n]?*>(TH r0))(h:W1 (ixR (rdR n r0) (.im i)) λr=>QE' r O):WE (mIx (af n) (mC i)) O QE':=yH (fM c (w_C (gu (by unhygienic show bH) h)))
def EZ{n m:Nat}{r0 c:R}(d : O[n]?*>(TH r0))(e : O[m]?*>(TH c))(h:W1 (ixR (rdR n r0) (rdR m c).t) λr=>QE' r O):WE (mIx (af n) (af m)) O QE':=yH (fM d (fM e (gu (by unhygienic show bH) h)))
def E9{f:T->T->↑T}{n m:Nat}{r0 c:R}(d : O[n]?*>(TH r0))(e : O[m]?*>(TH c))(h:W1 (f (rdR n r0).t (rdR m c).t) λt=>QE' {.ow,t} O):WE (mOp f (af n) (af m)) O QE':=sf (fM d (fM e (gu (by unhygienic show bH) h)))
def E8(c : O[n]?*>(TH r0))(h:W1 (f (rdR n r0).t (.im i)) λt=>QE' {.ow,t} O):WE (mOp f (af n) (mC i)) O QE':=sf (fM c (w_C (gu (by unhygienic show bH) h)))
def E7(c : O[n]?*>(TH r0))(h:W1 (f (.im i) (rdR n r0).t) λt=>QE' {.ow,t} O):WE (mOp f (mC i) (af n)) O QE':=sf (w_C (fM c (gu (by unhygienic show bH) h)))
def E6(h:W1 (f (.im i) (.im j)) λt=>QE' {.ow,t} O):WE (mOp f (mC i) (mC j)) O QE':=sf (w_C (w_C (gu (by unhygienic show bH) h)))
def Co{n m:Nat}{r0 d:R}(c : O[n]?*>(TH r0))(e : O[m]?*>(TH d))(q:QA' [rdR n r0,rdR m d] O):WA (ac n (ac m mNil)) O QA':=eP (r0:=r0) c (yM e (qu (r:=r0) c q))
def Hl{n m k:Nat}{r0 d e:R}(c : O[n]?*>(TH r0))(g : O[m]?*>(TH d))(f : O[k]?*>(TH e))(q:QA' [rdR n r0,rdR m d,rdR k e] O):WA (ac n (ac m (ac k mNil))) O QA':=eP (r0:=r0) c (Co g f (qu (r:=r0) c q))
end
end L2
namespace L2
open PySem PySem.Spec
protected def Ce:=Str×!Int
abbrev ceI(c:Ce):I:=.tup [.str c.1,.tup (c.2.map .int)]
def tW:∀l:!Int,iN nO (l.map .int)*>(l.map .inl):=by
 intro l
 induction l with
 | nil=>rfl
 | cons a l c=>rw[Io,iN,c];rfl
def bC(c:Ce):cb (ceI c)=TH [.inl (.inr c.1),.inr (c.2.map .inl)]:=by
 have e:vZ (.tup (c.2.map .int))*>(.inr (c.2.map .inl)):=by
  change(iN nO (c.2.map .int)).map OL=_;rw[tW];rfl
 change(TH (P3 (OL c.1):K1)).bind (λb=>(Option.bind (vZ (.tup (c.2.map .int))) λb=>TH [b]).map (b :: ·))=_;rw[e];rfl
def ka{a b:Ce}(h:ceI a=ceI b):a=b:=by
 have(x,l):=a;have(y,m):=b;unfold ceI at h;dsimp[I.tup.injEq,JN.injEq,I.str.injEq,and_true]at h;have(rfl,h):=h;have:l=m:=nS (g:=I.int) (λa b e=>by injection e) h;rw[this]
protected def DC:=!(Ce×I)
abbrev dcI(D:DC):!(I×I):=D.map λp=>(ceI p.1,p.2)
abbrev aF(D:DC):!Ce:=D.map (·.1)
abbrev cL(D:DC) (c:Ce) (v:I):DC:=if c∈aF D then D.map (λp=>if p.1=c then(p.1,v)else p)else D++[(c,v)]
abbrev eR(L D:DC):DC:=L.foldl (λd p=>cL d p.1 p.2) D
def fS(D:DC)(c:Ce):(bI (dcI D) (ceI c)).isSome=decide (c∈aF D):=by
 induction D with
 | nil=>rfl
 | cons p D a=>
  change(if ceI p.1=ceI c then TH p.2 else bI (dcI D) (ceI c)).isSome=decide (c∈p.1::aF D);by_cases e:p.1=c;rw[if_pos (by rw[e]),e];simp
  .rw[if_neg λz=>e (ka z),a,decide_eq_decide,IP];show{.inr,λz=>z.resolve_left λz=>e z.symm}
def nY(D:DC)(c:Ce)(v:I):ij (dcI D) (ceI c) v=dcI (cL D c v):=by
 unfold ij cL;rw[fS];by_cases e:c∈aF D
 .rw[if_pos (decide_eq_true e),if_pos e];unfold dcI;rw[IN,IN];show KR λp _=>?_;change(if ceI p.1=ceI c then(ceI p.1,v)else(ceI p.1,p.2))=_;by_cases a:p.1=c;rw[if_pos (by rw[a])];simp[a];rw[if_neg λz=>a (ka z)];simp[a]
 .rw[if_neg (by rw[decide_eq_false e];decide),if_neg e];unfold dcI;rw[Iu];rfl
def tH(L:DC):∀D:DC,gR (dcI L) (dcI D)=dcI (eR L D):=by
 induction L with
 | nil=>intro D;rfl
 | cons p L a=>
  intro D;change gR (dcI L) (ij (dcI D) (ceI p.1) p.2)=dcI (eR L (cL D p.1 p.2));rw[nY,a]
def MM{D:DC}{c d:Ce}{v:I}:d∈aF (cL D c v)↔d∈aF D\/d=c:=by
 unfold cL;split
 .delta h;have:aF (D.map (λp=>if p.1=c then(p.1,v)else p))=aF D:=by
   unfold aF;rw[IN];show KR λp _=>?_;change(if p.1=c then(p.1,v)else p).1=p.1;split<;>rfl
  rw[this];show{.inl,λz=>z.elim id λz=>by rw[z];show h}
 .unfold aF;rw[Iu,Kb];simp
def sP(L:DC):∀(D:DC) (d:Ce),d∈aF (eR L D)↔d∈aF D\/d∈aF L:=by
 induction L with
 | nil=>intro D d;simp[eR,aF]
 | cons p L a=>
  intro D d;change d∈aF (eR L (cL D p.1 p.2))↔_\/d∈p.1::aF L;rw[a,MM,IP,or_assoc]
def sR{D:DC}{c:Ce}{v:I}:(cL D c v).length<=D.length+1:=by
 unfold cL;split;rw[Ih];omega;rw[Ip];show Iq _
abbrev Val(f:Ce->I)(D:DC):Prop:=∀p∈D,p.2=f p.1
def Val.put{f:Ce->I}{D:DC}(h:Val f D)(c:Ce):Val f (cL D c (f c)):=by
 unfold cL;split
 .intro p a;have(q,d,rfl):=Is.mp a;by_cases e:q.1=c;rw[if_pos e,e];rw[if_neg e];show h q d
 .intro p a;rcases yaM a with a|a;show h p a;rw[ysM a]
def Val.sto{f:Ce->I}{L:DC}(a:Val f L):∀{D:DC},Val f D->Val f (eR L D):=by
 induction L with
 | nil=>show λh=>h
 | cons p L c=>
  intro D h;show c (λq d=>a q (ymC _ d)) ?_;change Val f (cL D p.1 p.2);rw[a p ymS];show h.put p.1
def pe{f:Ce->I}{D:DC}(h:Val f D){c:Ce}(a:c∈aF D):bI (dcI D) (ceI c)*>(f c):=by
 induction D with
 | nil=>cases a
 | cons p D d=>
  change(if ceI p.1=ceI c then TH p.2 else bI (dcI D) (ceI c))=_;by_cases e:p.1=c;rw[if_pos (by rw[e]),h p ymS,e]
  .rw[if_neg λz=>e (ka z)];show d (λq g=>h q (ymC _ g)) ?_;rcases ycM (show c∈p.1::aF D from a)with z|z;show absurd z.symm e;show z
inductive Rch(E:Ce->!Ce) (s:Ce):Ce->Prop
 | start:Rch E s s
 | step {a b:Ce}:Rch E s a->b∈E a->Rch E s b
def Rch.within{E:Ce->!Ce}{s:Ce}{F:Ce->Prop}(hs:F s)(d:∀a b,F a->b∈E a->F b){c:Ce}(h:Rch E s c):F c:=by
 induction h with
 | start=>show hs
 | step _ f e=>show d _ _ e f
end L2
namespace L2
open PySem PySem.Spec PyProof.Rows
local macro_rules|`(tactic| ac_nf)=>`(tactic| try simp only[CZ,FF,FE,zz,FG,List.set_cons_zero,LS,nZ,AM,Ey,EA,Ez,AN,vP,ue])
local macro_rules|`(tactic| injection $x:ident)=>`(tactic| refine $x ?_)
local macro_rules|`(tactic| infer_instance)=>`(tactic| first
 | injection sG|injection zh|(refine ze ?_;try ac_nf)|injection CL|refine Fu rfl ?_|injection Fw
 | injection Cn|injection G8|injection Hi|injection sd|injection E5|injection G9|injection Hh
 | injection w_C|refine fM rfl ?_|refine E9 rfl rfl ?_|refine E8 rfl ?_|refine E7 rfl ?_|injection E6|injection He|injection Hf|injection sf|injection Ie|injection w_B|injection w_M|refine EY rfl ?_|refine EZ rfl rfl ?_|injection yH|injection Ib|injection Fa|injection E3|refine FQ (by unhygienic rfl) ?_|injection yJ|injection yL|injection Hg|injection Ic|refine Hj rfl (by unhygienic rfl) ?_|injection oJ|injection yK|injection E4
 | injection Bz|injection BA
 | injection lS|injection Hk|injection Ig|refine Hm rfl rfl ?_|refine yM rfl ?_|refine Co rfl rfl ?_|refine Hl rfl rfl rfl ?_|injection oM|refine eP rfl ?_
 | injection BB|injection Fi|injection Fh|injection Fg|injection Hn|injection jR
 | (refine Bu (by unhygienic rfl) ?_;try ac_nf)|refine Ff rfl ?_|refine yQ (by unhygienic rfl) ?_|injection Bw|injection Fe|injection yP
 | refine gu (by unhygienic rfl) ?_
 | injection Dw|injection Ga|injection FS|injection FU|injection F7|injection FX|injection DL|injection DJ|injection z7|injection F6|injection F5|injection DD|injection DU|injection DN|injection F8|injection F9|injection DS|refine DT rfl ?_
 | refine BP rfl ?_|refine BQ rfl ?_|refine wI (n:=0) rfl (Lw rfl) ?_|refine wI (n:=1) rfl (Lw rfl) ?_
 | refine j1 (zR (by decide) (by decide)) ?_|refine j1 (zP (by decide) (by decide)) ?_|refine wF ⋯ ?_|refine DB ⋯ ?_
 | refine se (by rfl) ?_|injection qC|injection su
 | refine wD (b:=true) rfl (by decide) ?_|refine wD (b:=false) rfl (by decide) ?_|refine Hc (by unhygienic rfl) ?_
 | injection HK|injection HL|refine qu rfl ?_|refine Cu rfl (by unhygienic rfl) rfl rfl ?_|refine Cv rfl rfl ?_|injection Hv|injection EQ|refine sK rfl ?_|refine zq rfl ?_)
local macro_rules|`(tactic| omega)=>`(tactic| decide)
local macro_rules|`(tactic| and_intros)=>`(tactic| repeat infer_instance)
local macro_rules|`(tactic| cbv)=>`(tactic| unhygienic rfl)
local macro_rules|`(tactic| clear_value $h:ident)=>`(tactic| first|refine dsp (fun $h=>?_) (fun $h=>?_)|refine HF (fun $h=>?_) (fun $h=>?_)|refine bsp (fun $h=>?_) (fun $h=>?_))
def bn{ns:!Int}{kd:Kd}{a:Int}{QR:R->Prop}(d:0<=a)(f:a<ns.length)(q:∀y,y∈ns->ns[a.toNat]?*>y->QR {.ow,.im (.int y)}):W1 (ixR {kd,.li (ns.map .int)} (.im (.int a))) QR:=by
 show rf d (by exists f) λx c=>?_;rw[Iw]at c;cases e:ns[a.toNat]? with
 | none=>rw[e]at c;cases c
 | some y=>rw[e]at c;cases c;show q y (ymG e) e
def uG{ns:!Int}{kd:Kd}{a:Int}{QR:R->Prop}(d:0<=a)(f:a<ns.length)(q:∀y,y∈ns->ns[a.toNat]?*>y->QR {.ow,.im (.int y)}):W1 (ixR {kd,.im (.tup (ns.map .int))} (.im (.int a))) QR:=by
 show DF d (by exists f) λx c=>?_;rw[Iw]at c;cases e:ns[a.toNat]? with
 | none=>rw[e]at c;cases c
 | some y=>rw[e]at c;cases c;show q y (ymG e) e
def aU{a:Type}{P : a->Prop}{l:!a}{y : a}(h:∀x∈l,P x)(d:P y):∀x∈l++[y],P x:=λx c=>(yaM c).elim (h x) λz=>by rw[ysM z];show d
abbrev fT(f:Int×Int):T:=.li [.int f.1,.int f.2]
def ao(a:0<n)(e:n<2^64)(q:∀d c,0<=d->d<n->Q (.im (.int d)) (fT c)):W2 (ai [fT f,.im (.int n)]) Q:=by
 show ig rfl rfl ?_;unfold i4;and_intros
 (refine bZ ?_;and_intros;clear_value h)
 .and_intros;show q _ (f.1 / n,f.2) (JV _ (by lia)) (JF _ a)
 .and_intros;show q _ (f.1,(f.2*48271 % 2147483647*40692+30103) % 2147483399+1) (JV _ (by lia)) (JF _ a)
abbrev rX(is:!Int):T:=.im (.tup (is.map .int))
def yg{f:Int×Int}{n:Int}(m:1<=n)(o:n<=3){Q:T->T->Prop}(q:∀is i,is.length=n.toNat->(∀x∈is,-2<=x/\x<=2)->Q (rX is) (fT i)):W2 (ku [fT f,.im (.int n)]) Q:=by
 show ig rfl rfl ?_;unfold kn;and_intros;show bZ ?_;and_intros;show ao (by lia) (by lia) λd f a c=>?_;ac_nf;and_intros;clear_value h
 .and_intros;show wG (is:=[.int 0]) {by simp,by decide,by lia,by lia} ?_;and_intros;have:(Ik n.toNat [I.int 0]).flatten=(Ik n.toNat (0:Int)).map .int:=by simp
  rw[this];show q _ f ∅ (by intro x e;rw[(Ka.mp e).2];decide)
 .and_intros;show bD (λf:Int×Int=>[TH {.io 0,fT f},↥(.int n)]) I.int (λj _ is=>is.length=j/\∀x∈is,-2<=x/\x<=2) ?_;and_intros;show{{by lia,by lia},by cbv,f,by cbv,{Xr,by simp},λj f is p ⟨g,e⟩=>?_,λf is ⟨g,e⟩=>?_}
  .and_intros;show ao (by lia) (by lia) λd f a c=>?_;ac_nf;and_intros;show bn (ns:=[0,1,0-1,2,0-2]) a c λy l _=>{y,f,Xr,by cbv,by simp[g],aU e (by simp at l;lia)}
  .and_intros;show q is f g e
def y9{f:Int×Int}{n:Int}(s:1<=n)(t:n<=3){Q:T->T->Prop}(q:∀is p,is.length=n.toNat->(∀x∈is,-2<=x/\x<=2)->(∃(k:Nat) (y:Int) (m:!Int),is=Ik k 0++y::m/\y<0)->Q (rX is) (fT p)):W2 (dW [fT f,.im (.int n)]) Q:=by
 show ig rfl rfl ?_;unfold dQ;and_intros;show ao (by lia) (by lia) λd f c e=>?_;ac_nf;and_intros;show vq (λf:Int×Int=>[TH {.io 0,fT f},↥(.int n),↥(.int d),TF]) I.int (λj _ is=>is.length=j/\∀x∈is,-2<=x/\x<=2) ?_;and_intros;show{{by lia,by lia,by lia,by lia,by lia},by cbv,f,by cbv,{Xr,by simp},λj f is u ⟨i,h⟩=>?_,λf is ⟨i,h⟩=>?_}
 .and_intros;show ao (by lia) (by lia) λd f c e=>?_;ac_nf;and_intros;show bn (ns:=[0,1,0-1,2,0-2]) c e λy r _=>{y,f,Xr,by cbv,by simp[i],aU h (by simp at r;lia)}
 .and_intros;show rh (is:=[.int 0]) {by lia,by lia,by simp;rw[No];lia} ?_;and_intros;show ao (by lia) (by lia) λg f l o=>?_;ac_nf;and_intros;show jB (is:=(Ik d.toNat [I.int 0]).flatten) (js:=[.int (0-1-g)]) (by simp;rw[No];lia) ?_;and_intros;show jB (is:=(Ik d.toNat [I.int 0]).flatten++[.int (0-1-g)]) (js:=is.map I.int) (by simp;rw[No];lia) ?_;and_intros;have:(Ik d.toNat [I.int 0]).flatten++[.int (0-1-g)]++is.map I.int=(Ik d.toNat 0++(0-1-g)::is).map I.int:=by simp
  rw[this];show q _ f (by simp;lia) (λx a=>by
   rcases yaM a with a|a;rw[(Ka.mp a).2];decide
   .rcases ycM a with rfl|a
    .lia
    .show h x a) {d.toNat,_,is,Xr,by lia}
def vm{row signs:!Int}{a:Int}(d:1<=row.length)(c:row.length<=1000)(u:0<=a)(hs:signs.length=row.length)(l:∀x∈row,-(2^64)<x/\x<2^64){Q:T->Prop}(q:∀is:!Int,is.length=row.length->(∀(k:Nat) x s,row[(k+a.toNat) % row.length]?*>x->signs[k]?*>s->is[k]?*>(x*s))->Q (rX is)):W1 (cR [rX row,.im (.int a),.li (signs.map .int)]) Q:=by
 show tE rfl rfl ?_;unfold cH;and_intros;show dn (λp:!Int=>[⇑(rX row),↥(.int a),TH {.vw TF TF,.li (signs.map .int)},⇑(.li (p.map .int)),TF]) (λj p=>p.length=j/\∀(k:Nat),k<j->∀x s,row[(k+a.toNat) % row.length]?*>x->signs[k]?*>s->p[k]?*>(x*s)) ?_;and_intros;rw[Ih];show{{by lia,by lia},[],by cbv,{Xr,λk e=>absurd e (Me _)},λj is v ⟨f,g⟩=>?_,λis ⟨f,g⟩=>?_}
 .and_intros;show wF (by simp;lia) ?_;and_intros;rw[Ih];have o:((j:Int)+a) % (row.length:Int)=(((j+a.toNat) % row.length:Nat):Int):=by
   rw[Int.natCast_emod,Int.natCast_add];congr 1;lia
  rw[o];have r:(j+a.toNat) % row.length<row.length:=K0 _ (by lia);show uG (ns:=row) (by lia) (by lia) λy i h=>?_;and_intros;show bn (ns:=signs) (by lia) (by lia) λz t m=>?_;and_intros;show j1 (zP (l y i).1 (l y i).2) ?_;and_intros;show cj (by simp[f];rw[No];lia) ?_;and_intros;show{is++[y*z],?_,by simp[f],λk e x s d c=>?_}
  .change _=[_,_,_,_,_];rw[Iu]
   cbv
  .rcases Nat.lt_succ_iff_lt_or_eq.mp e with e|rfl;rw[Jj (by lia)];show g k e x s d c
   .rw[IJ]at h m;rw[h]at d;rw[m]at c;cases d;cases c;rw[JA (by lia),f];simp
 .and_intros;show q is (by lia) λk x s d c=>g k (by have:=(Ii.mp c).1;lia) x s d c
inductive Ru where
 | num (n:Int)|rd (x:Str) (row:!Int)|op (s:Str) (a b:Ru)|cond (a b c:Ru)
abbrev tRu:Ru->I
 | .num n=>.tup [.str "num",.int n]
 | .rd x d=>.tup [.str "at",.str x,.tup (d.map .int)]
 | .op s a b=>.tup [.str "op",.str s,tRu a,tRu b]
 | .cond a b c=>.tup [.str "if",tRu a,tRu b,tRu c]
abbrev Ru.leaves:Ru->!Ru
 | .op _ a b=>a.leaves++b.leaves
 | .cond a b c=>a.leaves++(b.leaves++c.leaves)
 | r=>[r]
abbrev Ru.depth:Ru->Nat
 | .op _ a b=>max a.depth b.depth+1
 | .cond a b c=>max a.depth (max b.depth c.depth)+1
 | _=>0
abbrev rS:!Str:=["+","-","*","min","max","rest","less"]
abbrev Ru.ok:Ru->Prop
 | .op s a b=>s∈rS/\a.ok/\b.ok
 | .cond a b c=>a.ok/\b.ok/\c.ok
 | _=>True
def Ru.depth_lt:∀r:Ru,r.depth<r.leaves.length
 | .num _=>Mf
 | .rd _ _=>Mf
 | .op _ a b=>by have:=a.depth_lt;have:=b.depth_lt;dsimp[Ru.depth,Ru.leaves,Ip];omega
 | .cond a b c=>by have:=a.depth_lt;have:=b.depth_lt;have:=c.depth_lt;dsimp[Ru.depth,Ru.leaves,Ip];omega
def ja{d:Type}{emb : d->I}{ns:!d}{kd:Kd}{a:Int}{QR:R->Prop}(f:0<=a)(g:a<ns.length)(q:∀y,ns[a.toNat]?*>y->QR {.ow,.im (emb y)}):W1 (ixR {kd,.li (ns.map emb)} (.im (.int a))) QR:=by
 show rf f (by exists g) λx c=>?_;rw[Iw]at c;cases e:ns[a.toNat]? with
 | none=>rw[e]at c;cases c
 | some y=>rw[e]at c;cases c;show q y e
def Ha{c:MT}{d a:MS}{O:Rho}{Q:Fl->Rho->Prop}(M:Bool->Rho->Prop)(h:WT c O M)(g:∀O,M TK O->WS d O Q)(f:∀O,M TJ O->WS a O Q):WS (mIf c d a) O Q:=bZ (WT.mono h λb O m=>{λe=>g O (e▸m),λe=>f O (e▸m)})
def HC{c:Type}{l:!c}{n:Nat}{a b : c}(d:l[n]?*>a)(g:l[n+1]?*>b):l=l.take n++a::b::l.drop (n+2):=by
 have(i,e):=Ii.mp d;have(h,f):=Ii.mp g;rw[<-e,<-f,JR,JR,Kh]
def HD{d:Type}{l:!d}{n:Nat}{a b c : d}(e:l[n]?*>a)(i:l[n+1]?*>b)(g:l[n+2]?*>c):l=l.take n++a::b::c::l.drop (n+3):=by
 have(o,f):=Ii.mp e;have(m,h):=Ii.mp i;have(p,j):=Ii.mp g;rw[<-f,<-h,<-j,JR,JR,JR,Kh]
def vS{f:Int×Int}{rs:!Ru}(m:rs≠[])(y:rs.length<=1000)(e:∀r∈rs,r.ok){Q:T->T->Prop}(q:∀r J,r.leaves=rs.flatMap Ru.leaves->r.ok->Q (.im (tRu r)) (fT J)):W2 (jF [fT f,.li (rs.map tRu)]) Q:=by
 show MR [TH {.io 0,fT f},TH {.vw TF TF,.li (rs.map tRu)},TF,TF,TF] rfl rfl rfl ?_;unfold g9;and_intros;show gT (λs:(Int×Int)×!Ru=>[TH {.io 0,fT s.1},TH {.vw TF TF,.li (rs.map tRu)},⇑(.li (s.2.map tRu)),TF,TF]) (λs=>s.2≠[]/\s.2.length<=1000/\(∀r∈s.2,r.ok)/\s.2.flatMap Ru.leaves=rs.flatMap Ru.leaves) (λs=>s.2.length) (f,rs) (by cbv) ⟨m,y,e,Xr⟩ λs ⟨m,y,e,o⟩=>?_;have(f,i):=s;dsimp only at m y e o|-;and_intros;rw[Ih];clear_value v
 .and_intros;rw[Ih];show ao ⋯ ⋯ λg f x L=>?_;ac_nf;and_intros;show Ha (λb O=>∃f:Int×Int,O=[TH {.io 0,fT f},TH {.vw TF TF,.li (rs.map tRu)},⇑(.li (i.map tRu)),↥(.int g),TF]/\(b=TK->2<i.length)) ?_ ?_ ?_
  .and_intros;rw[Ih];clear_value E
   .and_intros;show ao ⋯ ⋯ λd f t u=>?_;ac_nf;and_intros;show{f,Xr,λ_=>by omega}
   .show{f,Xr,λz=>absurd z (by decide)}
  .rintro O ⟨f,rfl,E⟩;have E:=E rfl;and_intros;rw[Ih];generalize G:(if(i.length:Int)-3<g then(i.length:Int)-3 else g)=at1;have H:0<=at1/\at1+3<=i.length:=by subst G;split<;>omega
   show ja (ns:=i) H.1 ⋯ λa w=>?_;and_intros;show ja (ns:=i) ⋯ ⋯ λb p=>?_;and_intros;show ja (ns:=i) ⋯ ⋯ λc B=>?_;and_intros;rw[show(at1+1).toNat=at1.toNat+1 by omega]at p;rw[show(at1+2).toNat=at1.toNat+2 by omega]at B;have l:=HD w p B;show{[],i.map tRu,_,_,at1,at1+3,Xr,Xr,Xr,by cbv,{H.1,by omega,by simp;omega,by simp;rw[No];omega},Xr,Xr,?_};ac_nf;and_intros;show{(f,i.take at1.toNat++Ru.cond a b c::i.drop (at1.toNat+3)),?_,?_,by simp,?_,?_,?_}
   .rw[Iu,Io,Km,KD,show(at1+3).toNat=at1.toNat+3 by omega,IC]
    cbv
   .simp;omega
   .simp;omega
   .intro r j;rcases yaM j with j|j;show e r (JM j)
    .rcases ycM j with rfl|j;show{e a (ymG w),e b (ymG p),e c (ymG B)};show e r (JX j)
   .rw[<-o]
    conv=>rhs;rw[l]
    simp[Ru.leaves]
  .rintro O ⟨f,rfl,_⟩;and_intros;show ao ⋯ ⋯ λd f t u=>?_;ac_nf;and_intros;show ja (emb:=I.str) (ns:=rS) t (by simpa[rS]using u) λM A=>?_;and_intros;show ja (ns:=i) x ⋯ λa w=>?_;and_intros;show ja (ns:=i) ⋯ ⋯ λb p=>?_;and_intros;rw[show(g+1).toNat=g.toNat+1 by omega]at p;have l:=HC w p;show{[],i.map tRu,_,_,g,g+2,Xr,Xr,Xr,by cbv,{x,by omega,by simp;omega,by simp;rw[No];omega},Xr,Xr,?_};ac_nf;and_intros;show{(f,i.take g.toNat++Ru.op M a b::i.drop (g.toNat+2)),?_,?_,by simp,?_,?_,?_}
   .rw[Iu,Io,Km,KD,show(g+2).toNat=g.toNat+2 by omega,IC]
    cbv
   .simp;omega
   .simp;omega
   .intro r j;rcases yaM j with j|j;show e r (JM j)
    .rcases ycM j with rfl|j;show{ymG A,e a (ymG w),e b (ymG p)};show e r (JX j)
   .rw[<-o]
    conv=>rhs;rw[l]
    simp[Ru.leaves]
 .and_intros;obtain⟨r,rfl⟩:∃r,i=[r]:=by
   match i,m,v with
   | [r],_,_=>show⟨r,Xr⟩
   | _::_::_,_,h=>simp at h;omega
  and_intros;show q r f (by exists o) (e r ∅)
abbrev Ru.kids:Ru->!Ru
 | .op _ a b=>[a,b]
 | .cond a b c=>[a,b,c]
 | _=>[]
abbrev Ru.pre:Ru->!Ru
 | .num n=>[.num n]
 | .rd x d=>[.rd x d]
 | .op s a b=>.op s a b::(a.pre++b.pre)
 | .cond a b c=>.cond a b c::(a.pre++(b.pre++c.pre))
def rl(r:Ru):r.pre=r::r.kids.flatMap Ru.pre:=by cases r<;>simp[Ru.pre,Ru.kids]
def Aq(r:Ru):1<=r.pre.length:=by rw[rl];simp
def iF:∀r:Ru,r.pre.length<2*r.leaves.length
 | .num _=>by simp[Ru.pre,Ru.leaves]
 | .rd _ _=>by simp[Ru.pre,Ru.leaves]
 | .op _ a b=>by have:=iF a;have:=iF b;dsimp[Ru.pre,Ru.leaves,Iv,Ip];omega
 | .cond a b c=>by have:=iF a;have:=iF b;have:=iF c;dsimp[Ru.pre,Ru.leaves,Iv,Ip];omega
def wd(r:Ru):r.kids.length<=3:=by cases r<;>simp[Ru.kids]
def vX(q:Q (.im (.tup (r.kids.map tRu)))):W1 (dB [.im (tRu r)]) Q:=by
 show MK [↥(tRu r)] rfl rfl rfl ?_;unfold cu;cases r with
 | num k=>
  rw[tRu];and_intros
  (refine bZ ?_;and_intros;clear_value h)
  .show absurd h (by decide +kernel)
  and_intros
  (refine bZ ?_;and_intros;clear_value d)
  .show absurd d (by decide +kernel)
  and_intros;show q
 | rd x e=>
  rw[tRu];and_intros
  (refine bZ ?_;and_intros;clear_value h)
  .show absurd h (by decide +kernel)
  and_intros
  (refine bZ ?_;and_intros;clear_value d)
  .show absurd d (by decide +kernel)
  and_intros;show q
 | op s a b=>
  rw[tRu];and_intros
  (refine bZ ?_;and_intros;clear_value h)
  .and_intros;show sW (is:=[.str "op",.str s,tRu a,tRu b]) (show ¬((2:Nat)=0/\4=4) by decide) ?_;and_intros;show q
  .show absurd rfl h
 | cond a b c=>
  rw[tRu];and_intros
  (refine bZ ?_;and_intros;clear_value h)
  .show absurd h (by decide +kernel)
  and_intros
  (refine bZ ?_;and_intros;clear_value d)
  .and_intros;show sW (is:=[.str "if",tRu a,tRu b,tRu c]) (show ¬((1:Nat)=0/\4=4) by decide) ?_;and_intros;show q
  .show absurd rfl d
def wJ(q:Q (~~~is.isEmpty)):W1 (tru (.li is)) Q:=w1 rfl q
def wL(t:r.leaves.length<=1000)(q:Q (.li (r.pre.map tRu))):W1 (fZ [.im (tRu r)]) Q:=by
 have h:=iF r;show MK [↥(tRu r),TF,TF,TF] rfl rfl rfl ?_;unfold dS;and_intros;show gT (λs:!Ru×!Ru=>[↥(tRu r),⇑(.li (s.1.map tRu)),⇑(.li (s.2.map tRu)),TF]) (λs=>s.1++s.2.reverse.flatMap Ru.pre=r.pre) (λs=>(s.2.flatMap Ru.pre).length) ([],[r]) (by cbv) ∅ λs e=>?_;have(g,st):=s;dsimp only at e|-;and_intros;show wJ ?_;show bsp (λf=>?_) (λj=>?_)
 .obtain⟨c,p,rfl⟩:∃c p,st=c++[p]:=by
   rcases Lx st with z|⟨a,b,z⟩;rw[z]at f;cases f;show{a,b,by simpa using z}
  rw[Iu]at *;and_intros;show BS ?_;ac_nf;and_intros;have d:=congrArg JL e;dsimp[LM,Ki,List.reverse_nil,Jr,Iz,Iy,KC,IM,Ip,IT]at d e;have o:(c.reverse.flatMap Ru.pre).length=(c.flatMap Ru.pre).length:=by simp[LN,Lf,Mb]
  have m:c.length<=(c.flatMap Ru.pre).length:=by
   clear e f d o
   induction c with
   | nil=>simp
   | cons a l u=>rw[Iy,Iv,Ip];have:=Aq a;omega
  show cj (is:=g.map tRu) (by simp;rw[No];omega) ?_;ac_nf;and_intros;show vX ?_;and_intros;have i:=wd p;show DA (is:=c.map tRu) (js:=(p.kids.map tRu).reverse) (by simp;rw[No];omega) ?_;ac_nf;and_intros;show{(g++[p],c++p.kids.reverse),?_,?_,?_}
  .rw[Iu,Iu,Lf]
   cbv
  .rw[Iz,Iz,Ip,Ip,Iy,KC,IM,rl p,Iv];have:(p.kids.reverse.flatMap Ru.pre).length=(p.kids.flatMap Ru.pre).length:=by simp[LN,Lf,Mb]
   omega
  .rw[<-e,LM,List.reverse_reverse,Iz,rl p];simp
 .have:st=[]:=by cases st<;>first|rfl|cases j
  subst this;and_intros;simp at e;subst e;show q
abbrev bB(lot:!Ce) (D:DC):Nat:=(lot.filter λc=>decide (c∉aF D)).length
def k8{lot:!Ce}{D:DC}{c:Ce}{v:I}(h:c∈lot)(i:c∉aF D):bB lot (cL D c v)<bB lot D:=by
 unfold bB;have sub:∀l:!Ce,(l.filter λd=>decide (d∉aF (cL D c v))).length<=(l.filter λd=>decide (d∉aF D)).length:=λl=>by
  induction l with
  | nil=>show Iq _
  | cons x l g=>
   dsimp[Jv];by_cases f:x∈aF D
   .have a:x∈aF (cL D c v):=MM.mpr (.inl f);dsimp[f,a,not_true,decide_false,IQ,if_false];show g
   .by_cases a:x∈aF (cL D c v);dsimp[f,a,not_true,not_false_iff,decide_false,decide_true,IQ,if_false,if_true,Iv];omega;dsimp[f,a,not_false_iff,decide_true,if_true,Iv];omega
 induction lot with
 | nil=>cases h
 | cons x l g=>
  dsimp[Jv];by_cases e:x=c
  .subst e;have a:x∈aF (cL D x v):=MM.mpr (.inr rfl);dsimp[i,a,not_true,not_false_iff,decide_false,decide_true,IQ,if_false,if_true,Iv];have:=sub l;omega
  .have g:=g ((ycM h).resolve_left λz=>e z.symm);by_cases f:x∈aF D
   .have a:x∈aF (cL D c v):=MM.mpr (.inl f);dsimp[f,a,not_true,decide_false,IQ,if_false];show g
   .have a:x∉aF (cL D c v):=λz=>(MM.mp z).elim f e;dsimp[f,a,not_false_iff,decide_true,if_true,Iv];omega
def kh(lot:!Ce)(D:DC):bB lot D<=lot.length:=Ly _ _
def za{lot:!Ce}{E:Ce->!Ce}{s:Ce}{L:DC}(hs:s∈lot)(hE:∀a∈lot,∀b∈E a,b∈lot)(hl:lot.length<=1000000)(hL:Val (λc=>.ls ((E c).map ceI)) L)(hk:∀a∈lot,a∈aF L){Q:T->Prop}(q:∀D:DC,(∀c,c∈aF D↔Rch E s c)->Q (.dq (dcI D))):W1 (gI [.li [ceI s],.dq (dcI L)]) Q:=by
 show MK [TH {.vw TF TF,.li [ceI s]},TH {.vw TF TF,.dq (dcI L)},TF,TF,TF,TF] rfl rfl rfl ?_;unfold gD;and_intros;show lR ceI (λ_=>.bl TK) ?_;and_intros;show{[s],Xr,gu (by cbv) {by rw[No];change 1<16777216;decide,λx hx=>?_,?_}}
 .cases ysM hx;show{{_,bC s},?_};and_intros;show{Xr,?_};and_intros;show{Xr,by cbv}
 ac_nf;and_intros;show gT (λz:DC×!Ce=>[TH {.vw TF TF,.li [ceI s]},TH {.vw TF TF,.dq (dcI L)},⇑(.dq (dcI z.1)),⇑(.li (z.2.map ceI)),TF,TF]) (λz=>s∈aF z.1/\(∀c∈aF z.1,Rch E s c/\c∈lot/\(c∈z.2 \/ ∀b∈E c,b∈aF z.1))/\(∀c∈z.2,c∈aF z.1)/\z.1.length+bB lot z.1<=lot.length+1/\z.2.length+bB lot z.1<=lot.length+1) (λz=>2*bB lot z.1+z.2.length) ([(s,.bl TK)],[s]) (by cbv) {JD.mpr rfl,λc e=>by cases ysM e;show{.start,hs,.inl ymS},λc e=>e,by have:=kh lot [(s,.bl TK)];simp;omega,by have:=kh lot [(s,.bl TK)];simp;omega} λz H=>?_;have(D,m):=z;have(h1,N,h3,h4,h5):=H;dsimp only at h1 N h3 h4 h5|-;and_intros;show wJ ?_;show bsp (λJ=>?_) (λhe=>?_)
 .obtain⟨i,a,rfl⟩:∃l p,m=l++[p]:=by
   rcases Lx m with z|⟨a,b,z⟩;rw[z]at J;cases J;show{a,b,by simpa using z}
  rw[Iu]at *;and_intros;show BS ?_;ac_nf;and_intros;have U:=h3 a ∅;have y:=(N a U).2.1;show cX (λz:DC×!Ce=>[TH {.vw TF TF,.li [ceI s]},TH {.vw TF TF,.dq (dcI L)},⇑(.dq (dcI z.1)),⇑(.li (z.2.map ceI)),↥(ceI a),TF]) (λj z=>s∈aF z.1/\(∀c∈aF z.1,Rch E s c/\c∈lot/\(c∈z.2\/c=a \/ ∀b∈E c,b∈aF z.1))/\(∀c∈z.2,c∈aF z.1)/\z.1.length+bB lot z.1<=lot.length+1/\z.2.length+bB lot z.1+1<=lot.length+1/\a∈aF z.1/\(∀b∈(E a).take j,b∈aF z.1)/\2*bB lot z.1+z.2.length<2*bB lot D+(i++[a]).length) ?_;and_intros;show HQ (bC a) (pe hL (hk a y)) ?_;show{(E a).map ceI,Xr,by cbv,(D,i),by cbv,?_,?_,?_}
  .show{h1,λc e=>?_,λc e=>h3 c (by simp[e]),h4,by simp at h5;change i.length+bB lot D+1<=_;omega,U,by simp,by simp};have(t,o,r):=N c e;show{t,o,?_};rcases r with g|g
   .rcases yaM g with g|g;show .inl g;show .inr (.inl (ysM g))
   .show .inr (.inr g)
  .intro j x z hx H;have(b,X,rfl):=aA hx;have(f,u):=z;have(t,o,r,M,S,B,A,G):=H;dsimp only at t o r M S B A G|-;have w:=ymG X;have O:∀c∈(E a).take (j+1),c∈(E a).take j\/c=b:=λc e=>by
    rw[Jk,X]at e;exists e
   and_intros;show bZ ?_;and_intros;show wH (bC b) ?_;rw[fS];and_intros;show bsp (λhn=>?_) (λY=>?_)
   .have hn:b∉aF f:=by exists hn
    have hlt:=k8 (v:=.bl TK) (hE a y b w) hn;have hlp:=sR (D:=f) (c:=b) (v:=.bl TK);and_intros;show Bv ?_;and_intros;show z0 (bC b) (by rw[nY];unfold dcI;rw[Ih,No];omega) ?_;rw[nY];ac_nf;and_intros;show cj (is:=u.map ceI) (by rw[Ih,No];omega) ?_;ac_nf;and_intros;show{(cL f b (.bl TK),u++[b]),by rw[Iu];cbv,MM.mpr (.inl t),λc e=>?_,λc e=>?_,by change(cL f b (.bl TK)).length+bB lot (cL f b (.bl TK))<=_;omega,by change(u++[b]).length+bB lot (cL f b (.bl TK))+1<=_;rw[Ip];simp;omega,MM.mpr (.inl B),λc e=>?_,by change 2*bB lot (cL f b (.bl TK))+(u++[b]).length<_;rw[Ip];simp at G|-;omega}
    .rcases MM.mp e with e|rfl
     .have(Z,k2,k3):=o c e;show{Z,k2,?_};rcases k3 with k|k|k;show .inl (yaL _ k);show .inr (.inl k);show .inr (.inr λd hd=>MM.mpr (.inl (k d hd)))
     .show{.step (o a B).1 w,hE a y c w,.inl ∅}
    .rcases yaM e with e|e;show MM.mpr (.inl (r c e));show MM.mpr (.inr (ysM e))
    .rcases O c e with h|h;show MM.mpr (.inl (A c h));show MM.mpr (.inr h)
   .have Y:b∈aF f:=by exists Y
    and_intros;show{(f,u),by cbv,t,o,r,M,S,B,λc e=>?_,G};rcases O c e with h|h
    .show A c h
    .rw[h];show Y
  .intro z H;have(f,u):=z;have(t,o,r,M,S,B,A,G):=H;dsimp only at t o r M S B A G|-;rw[Ih,Ji]at A;and_intros;show{(f,u),Xr,G,t,λc e=>?_,r,M,by change u.length+bB lot f<=_;omega};have(Z,k2,k3):=o c e;show{Z,k2,?_};rcases k3 with k|k|k
   .show .inl k
   .subst k;show .inr A
   .show .inr k
 .have:m=[]:=by cases m<;>first|rfl|cases he
  subst this;and_intros;show q D λc=>{λe=>(N c e).1,λhr=>hr.within h1 λa b U X=>?_};show((N a U).2.2.resolve_left λz=>nomatch z) b X
abbrev tRd(p:Int×!Int):I:=.tup [.int p.1,.tup (p.2.map .int)]
abbrev aJ(l:!(Int×!Int)):T:=.li (l.map tRd)
def fL(l:!(Int×!Int))(i:I):aJ l ≠ .im i:=by unfold aJ;intro z;cases z
def xq{ls:! !(Int×!Int)}{n:Nat}{l:!(Int×!Int)}{p:Int×!Int}(h:ls[n]?*>l):T.put (.lst (ls.map aJ)) [.ix n] (.li (l.map tRd++[tRd p]))=.lst ((ls.set n (l++[p])).map aJ):=by
 rw[xp (u:=aJ l) (by rw[Iw,h];rfl),Ll];simp[aJ]
def yI{O:Rho}{Q:Fl->Rho->Prop}{L X:Nat}{a:MA}{ls:! !(Int×!Int)}{i:Int}(n:Nat){l:!(Int×!Int)}(j : O[L]?*>(⇑(.lst (ls.map aJ))))(o : O[X]?*>(↥(.int i)))(r:i=(n:Int))(g:ls[n]?*>l)(hz:l.length<1000)(m:a.mu.contains L=TJ)
  (h:WA a O λrs d=>∃p,rs=[{.ow,.im (tRd p)}]/\d[L]?*>(⇑(.lst (ls.map aJ)))/\Q .nx ((ar [L] d).set L (⇑(.lst ((ls.set n (l++[p])).map aJ))))):WS (bt (cf L [] apT (mIx (af L) (af X)) a)) O Q:=by
 subst r;show sd (yK (yH (fM j (fM o (gu (by cbv) ?_)))));have c:(ls.map aJ)[(n:Int).toNat]?*>(aJ l):=by rw[IJ,Iw,g];rfl
 show re (u:=aJ l) (kd:=.vw (TH L) (TH [.ix (n:Int).toNat])) ⋯ c (fL l) rfl ?_;rw[IJ];show WA.mono h λrs d ⟨p,e,f,q⟩=>?_;subst e;show gu ?_ (se rfl (su (qC (Cv f rfl ?_))))
 .change dJ a.mu {.vw (TH L) (TH [.ix n]),aJ l}=TK;unfold dJ;dsimp[Kd.root];rw[m];rfl
 .show cj (is:=l.map tRd) (by simp;rw[No];omega) ?_;rw[xq g];show q
abbrev Looks(P:Nat->Int×!Int->Prop)(c:Nat)(m:Nat)(ls:! !(Int×!Int)):Prop:=ls.length=m/\∀x l,ls[x]?*>l->l.length<=c/\∀p∈l,P x p
def Looks.get(h:Looks P c m ls)(a:n<m):∃l,ls[n]?*>l/\l.length<=c/\∀p∈l,P n p:=by
 have:n<ls.length:=by rw[h.1];show a
 show{ls[n],II this,h.2 n _ (II this)}
def fb{c:Type}{l:!c}{n x:Nat}{a b : c}(h:(l.set n a)[x]?*>b):(n=x/\b=a)\/(n≠x/\l[x]?*>b):=by
 by_cases e:n=x
 .subst e;have:=(Ii.mp h).1;rw[Jp (by exists this)]at h;cases h;show .inl ⟨Xr,Xr⟩
 .rw[ID e]at h;show .inr ⟨e,h⟩
def Looks.set{P:Nat->Int×!Int->Prop}{c m:Nat}{ls:! !(Int×!Int)}{n:Nat}{l a:!(Int×!Int)}(h:Looks P c m ls)(g:ls[n]?*>l)(e:a.length<=c)(f:∀p∈a,P n p):Looks P c m (ls.set n a):=by
 show{by rw[Kn];show h.1,λx a d=>?_};rcases fb d with⟨rfl,rfl⟩|⟨_,d⟩;show⟨e,f⟩;show h.2 x a d
abbrev lU(w m:Int)(p:Int×!Int):Prop:=0<=p.1/\p.1<m/\p.2.length=w.toNat/\∀x∈p.2,-2<=x/\x<=2
def zf{f:Int×Int}{w m:Int}(O:1<=w)(M:w<=3)(Y:1<=m)(Z:m<=6){Q:T->T->Prop}(q:∀ls H,Looks (λ_ p=>lU w m p) 3 m.toNat ls->Q (.lst (ls.map aJ)) (fT H)):W2 (eD [fT f,.im (.int w),.im (.int m)]) Q:=by
 show ig rfl rfl ?_;unfold cD;and_intros;show lQ (λ_:Unit=>[TH {.io 0,fT f},↥(.int w),↥(.int m),TF,TF,TF]) aJ fL (λ_ _ l=>∀x∈l,x=[]) ?_;and_intros;show{{by omega,by omega},by cbv,(),by cbv,by simp,λj _ l U a=>?_,λ_ l a X=>?_}
 .and_intros;show{[],(),Xr,by cbv,aU a rfl}
 and_intros;show dn (λs:(Int×Int)×! !(Int×!Int)=>[TH {.io 0,fT s.1},↥(.int w),↥(.int m),⇑(.lst (s.2.map aJ)),TF,TF]) (λj s=>Looks (λ_ p=>lU w m p) 3 m.toNat s.2/\∀y l,j<=y->s.2[y]?*>l->l=[]) ?_;and_intros;show{{by omega,by omega},(f,l),by cbv,{{X,λx i o=>by rw[a i (ymG o)];simp},λy i _ o=>a i (ymG o)},λx s o ⟨g,h⟩=>?_,λs ⟨g,_⟩=>?_}
 .and_intros;show dn (λt:(Int×Int)×! !(Int×!Int)=>[TH {.io 0,fT t.1},↥(.int w),↥(.int m),⇑(.lst (t.2.map aJ)),↥(.int x),TF]) (λj t=>Looks (λ_ p=>lU w m p) 3 m.toNat t.2/\(∀l,t.2[x]?*>l->l.length<=j)/\∀y l,x+1<=y->t.2[y]?*>l->l=[]) ?_;and_intros;show ao ⋯ ⋯ λd f J L=>?_;ac_nf;and_intros;show{{by omega,by omega},(f,s.2),by cbv,{g,λl a=>by rw[h x l (Iq _) a];simp,λy l G a=>h y l ⋯ a},λj t U ⟨g,N,h⟩=>?_,λt ⟨g,_,h⟩=>by and_intros;show{t,by cbv,g,h}};have(l,a,S,B):=g.get (n:=x) ⋯;iterate 2 infer_instance
  show yI (ls:=t.2) x rfl rfl rfl a ⋯ (by cbv) ?_;and_intros;show ao ⋯ ⋯ λe f r v=>?_;ac_nf;and_intros;show yg O M λE f A u=>?_;ac_nf;and_intros;have:=N l a;show{(e,E),Xr,Xr,?_};and_intros;show{(f,t.2.set x (l++[(e,E)])),by cbv,g.set a (by simp;omega) (aU B ⟨r,v,A,u⟩),λi c=>?_,λy i G c=>?_}
  .rcases fb c with⟨_,rfl⟩|⟨z,_⟩;simp;omega;show absurd rfl z
  .rcases fb c with⟨z,_⟩|⟨_,c⟩;omega;show h y i G c
 .and_intros;show q s.2 s.1 g
abbrev qj(w m:Int)(x:Nat)(p:Int×!Int):Prop:=lU w m p/\((p.1<x/\∀e∈p.2,e=0) \/ ∃(k:Nat) (y:Int) (r:!Int),p.2=Ik k 0++y::r/\y<0)
def sQ(h1:1<=w)(h2:w<=3)(h3:1<=m)(h4:m<=6)(q:∀ls U,Looks (qj w m) 3 m.toNat ls->Q (.lst (ls.map aJ)) (fT U)):W2 (cO [fT f,.im (.int w),.im (.int m)]) Q:=by
 show ig rfl rfl ?_;unfold cE;and_intros;show lQ (λ_:Unit=>[TH {.io 0,fT f},↥(.int w),↥(.int m),TF,TF,TF]) aJ fL (λ_ _ l=>∀x∈l,x=[]) ?_;and_intros;show{{by lia,by lia},by cbv,(),by cbv,by simp,λj _ l hj c=>?_,λ_ l c hn=>?_}
 .and_intros;show{[],(),Xr,by cbv,aU c rfl}
 and_intros;show dn (λs:(Int×Int)×! !(Int×!Int)=>[TH {.io 0,fT s.1},↥(.int w),↥(.int m),⇑(.lst (s.2.map aJ)),TF,TF]) (λj s=>Looks (qj w m) 3 m.toNat s.2/\∀y l,j<=y->s.2[y]?*>l->l=[]) ?_;and_intros;show{{by lia,by lia},(f,l),by cbv,{{hn,λx g J=>by rw[c g (ymG J)];simp},λy g _ J=>c g (ymG J)},λx s J ⟨o,B⟩=>?_,λs ⟨o,_⟩=>?_}
 .and_intros;show dn (λt:(Int×Int)×! !(Int×!Int)=>[TH {.io 0,fT t.1},↥(.int w),↥(.int m),⇑(.lst (t.2.map aJ)),↥(.int x),TF]) (λj t=>Looks (qj w m) 3 m.toNat t.2/\(∀l,t.2[x]?*>l->l.length<=j)/\∀y l,x+1<=y->t.2[y]?*>l->l=[]) ?_;and_intros;show ao (by lia) (by lia) λd f Z hd1=>?_;ac_nf;and_intros;show{{by lia,by lia},(f,s.2),by cbv,{o,λl c=>by rw[B x l (Iq _) c];simp,λy l G c=>B y l (by lia) c},λj t hj ⟨o,hc,B⟩=>?_,λt ⟨o,_,B⟩=>by and_intros;show{t,by cbv,o,B}};have(l,c,hl3,N):=o.get (n:=x) (by lia);have X:=hc l c;have r:∀(e:Int) (a:!Int) (f:Int×Int),qj w m x (e,a)->Looks (qj w m) 3 m.toNat (t.2.set x (l++[(e,a)]))/\(∀g,(t.2.set x (l++[(e,a)]))[x]?*>g->g.length<=j+1)/\∀y g,x+1<=y->(t.2.set x (l++[(e,a)]))[y]?*>g->g=[]:=λe a f v=>by
   show{o.set c (by simp;lia) (aU N v),λg h=>?_,λy g G h=>?_}
   .rcases fb h with⟨_,rfl⟩|⟨z,_⟩;simp;lia;show absurd rfl z
   .rcases fb h with⟨z,_⟩|⟨_,h⟩
    .lia
    .show B y g G h
  have i:∀f,WS (bt (cf 3 [] apT (mIx (af 3) (af 4)) (aa (av [] (aa (am 0 0 ai (ac 0 (ac 2 mNil))) (aa (am 0 0 dW (ac 0 (ac 1 mNil))) mNil))) mNil))) [TH {.io 0,fT f},↥(.int w),↥(.int m),⇑(.lst (t.2.map aJ)),↥(.int x),↥(.int j)] λE O=>E=.nx/\∃e a f,O=[TH {.io 0,fT f},↥(.int w),↥(.int m),⇑(.lst ((t.2.set x (l++[(e,a)])).map aJ)),↥(.int x),↥(.int j)]/\qj w m x (e,a):=λf=>by
   show yI (ls:=t.2) x rfl rfl rfl c (by lia) (by cbv) ?_;and_intros;show ao (by lia) (by lia) λe f p u=>?_;ac_nf;and_intros;show y9 h1 h2 λa f M L hb=>?_;ac_nf;and_intros;show{(e,a),Xr,Xr,by trivial,e,a,f,by cbv,⟨p,u,M,L⟩,.inr hb}
  have A:∀f,(0:Int)<x->WS (bt (cf 3 [] apT (mIx (af 3) (af 4)) (aa (av [] (aa (am 0 0 ai (ac 0 (ac 4 mNil))) (aa (mOp cJ (av [] (aa (mC (.int 0)) mNil)) (af 1)) mNil))) mNil))) [TH {.io 0,fT f},↥(.int w),↥(.int m),⇑(.lst (t.2.map aJ)),↥(.int x),↥(.int j)] λE O=>E=.nx/\∃e a f,O=[TH {.io 0,fT f},↥(.int w),↥(.int m),⇑(.lst ((t.2.set x (l++[(e,a)])).map aJ)),↥(.int x),↥(.int j)]/\qj w m x (e,a):=λf H=>by
   show yI (ls:=t.2) x rfl rfl rfl c (by lia) (by cbv) ?_;and_intros;show ao (by lia) (by lia) λe f p u=>?_;ac_nf;and_intros;show wG (is:=[.int 0]) {by simp,by decide,by lia,by lia} ?_;have er:(Ik w.toNat [I.int 0]).flatten=(Ik w.toNat (0:Int)).map .int:=by simp
   rw[er];and_intros;show{(e,Ik w.toNat 0),Xr,Xr,by trivial,e,_,f,by cbv,{p,by lia,by simp,λy G=>?_},.inl {u,λy G=>(Ka.mp G).2}};rw[(Ka.mp G).2];decide
  and_intros
  (refine bZ ?_;and_intros;clear_value H)
  .and_intros;show ao (by lia) (by lia) λz f S Y=>?_;ac_nf;and_intros;clear_value hz
   .show WS.mono (A f H) ?_;rintro E O ⟨rfl,e,a,f,rfl,v⟩;and_intros;show{(f,_),by cbv,r e a f v}
   .show WS.mono (i f) ?_;rintro E O ⟨rfl,e,a,f,rfl,v⟩;and_intros;show{(f,_),by cbv,r e a f v}
  .show{λz=>absurd z (by decide),λ_=>?_};show WS.mono (i _) ?_;rintro E O ⟨rfl,e,a,f,rfl,v⟩;and_intros;show{(f,_),by cbv,r e a f v}
 .and_intros;show q s.2 s.1 o
def Looks.mono(h:Looks P c m ls)(d:c<=c'):Looks P c' m ls:={h.1,λx l a=>{IS (h.2 x l a).1 d,(h.2 x l a).2}}
abbrev tTr(p:Int×Int×!Int):I:=.tup [.int p.1,.int p.2.1,.tup (p.2.2.map .int)]
abbrev Hs(w:Int)(p:Int×Int×!Int):Prop:=0<=p.1/\p.1<w/\0<=p.2.1/\p.2.1<w/\p.2.2.length=w.toNat/\∀x∈p.2.2,-2<=x/\x<=2
def r8{row signs:!Int}{a:Int}(o:1<=row.length)(r:row.length<=1000)(j:0<=a)(hs:signs.length=row.length)(f:∀x∈row,-2<=x/\x<=2)(v:∀x∈signs,x=1\/x = -1){Q:T->Prop}(q:∀is:!Int,is.length=row.length->(∀x∈is,-2<=x/\x<=2)->(∀(k:Nat) x s,row[(k+a.toNat) % row.length]?*>x->signs[k]?*>s->is[k]?*>(x*s))->Q (rX is)):W1 (cR [rX row,.im (.int a),.li (signs.map .int)]) Q:=by
 show vm o r j hs (λx u=>by have:=f x u;lia) λis i c=>q is i (λy l=>?_) c;have(k,h):=Ky.mp l;have t:=(Ii.mp h).1;have p:(k+a.toNat) % row.length<row.length:=K0 _ (by lia);have d:row[(k+a.toNat) % row.length]?=TH row[(k+a.toNat) % row.length]:=II p;have g:signs[k]?=TH signs[k]:=II (by lia);have e:=c k _ _ d g;rw[h]at e;have w:=f _ (ymG d);have m:=v _ (ymG g);have:y=row[(k+a.toNat) % row.length]*signs[k]:=by exists e
 rw[this];rcases m with z|z<;>rw[z]<;>lia
def Dv{f:Int×Int}{w m:Int}(h1:2<=w)(h2:w<=3)(h3:w<=m)(h4:m<=6){Q:T->T->Prop}(q:∀ls f',Looks (λ_ p=>lU w m p) 7 m.toNat ls->Q (.lst (ls.map aJ)) (fT f')):W2 (cP [fT f,.im (.int w),.im (.int m)]) Q:=by
 show MR [TH {.io 0,fT f},↥(.int w),↥(.int m),TF,TF,TF,TF,TF,TF,TF,TF] rfl rfl rfl ?_;unfold bL;and_intros;show ao (by lia) (by lia) λB f a1 b1=>?_;ac_nf;and_intros;show ao (by lia) (by lia) λd2 f a2 b2=>?_;ac_nf;and_intros;show ao (by lia) (by lia) λd3 f a3 b3=>?_;ac_nf;and_intros;show ao (by lia) (by lia) λd4 f a4 b4=>?_;ac_nf;and_intros;show cj (by simp;rw[No];lia) ?_;show sG (Cn ?_);show WS.mono (Q:=λfl O=>fl=.nx/\∃(f:Int×Int) (i:!(Int×Int×!Int)),O=[TH {.io 0,fT f},↥(.int w),↥(.int m),↥(.int (1+B)),⇑(.li (i.map tTr)),TF,TF,TF,TF,TF,TF]/\(∀p∈i,Hs w p)/\i.length<=7) ?_ ?_
 .and_intros
  (refine bZ ?_;and_intros;clear_value hw)
  .subst hw;and_intros;show ao (by lia) (by lia) λd5 f a5 b5=>?_;ac_nf;and_intros;show ao (by lia) (by lia) λd6 f a6 b6=>?_;ac_nf;and_intros;show jB (by simp;rw[No];lia) ?_;and_intros;show{by trivial,f,[(0,0,[0,0,1+B]),(1,1,[0,0,0-1]),(0,1,[0,0-1,0]),(1,0,[0,0,d5]),(2,2,[0,1+d6,0]),(0,2,[0-1,0,1]),(2,0,[0,0,0])],by cbv,?_,by simp};dsimp[IP,IV,or_false];rintro p (rfl|rfl|rfl|rfl|rfl|rfl|rfl)<;>(refine{by simp,by simp,by simp,by simp,Xr,?_};dsimp[IP,IV,or_false];lia)
  .have Y:w=2:=by lia
   subst Y;and_intros;show{by trivial,f,[(0,0,[0,1+B]),(1,1,[0,0-1-d2]),(0,1,[0-1,d3-1]),(1,0,[0-d4,0])],by cbv,?_,by simp};dsimp[IP,IV,or_false];rintro p (rfl|rfl|rfl|rfl)<;>(refine{by simp,by simp,by simp,by simp,Xr,?_};dsimp[IP,IV,or_false];lia)
 rintro fl O ⟨rfl,f,i,rfl,N,X⟩;and_intros;show ao (by lia) (by lia) λv f aw bw=>?_;ac_nf;and_intros;show bD (λf:Int×Int=>[TH {.io 0,fT f},↥(.int w),↥(.int m),↥(.int (1+B)),⇑(.li (i.map tTr)),TF,TF,TF,TF,TF,TF]) I.int (λj _ l=>l.length=j/\∀x∈l,x=1\/x = -1) ?_;and_intros;show{{by lia,by lia},by cbv,f,by cbv,{Xr,by simp},λj f l Z ⟨c,g⟩=>?_,λf signs ⟨hsl,hsx⟩=>?_}
 .and_intros;show ao (by lia) (by lia) λd f hd0 hd1=>?_;ac_nf;and_intros;show{1-2*d,f,Xr,by cbv,by simp[c],aU g (by lia)}
 and_intros;show lQ (λ_:Unit=>[TH {.io 0,fT f},↥(.int w),↥(.int m),↥(.int (1+B)),⇑(.li (i.map tTr)),↥(.int v),⇑(.li (signs.map .int)),TF,TF,TF,TF]) aJ fL (λ_ _ l=>∀x∈l,x=[]) ?_;and_intros;show{{by lia,by lia},by cbv,(),by cbv,by simp,λj _ l Z c=>?_,λ_ l c hn=>?_}
 .and_intros;show{[],(),Xr,by cbv,aU c rfl}
 and_intros;show cX (λt:! !(Int×!Int)=>[TH {.io 0,fT f},↥(.int w),↥(.int m),↥(.int (1+B)),⇑(.li (i.map tTr)),↥(.int v),⇑(.li (signs.map .int)),⇑(.lst (t.map aJ)),TF,TF,TF]) (λj t=>Looks (λ_ p=>lU w m p) j m.toNat t/\∀y l,3<=y->t[y]?*>l->l=[]) ?_;and_intros;show{_,(show ef _*>((i.map tTr).map _)from rfl),by cbv,l,by cbv,{{hn,λx r g=>by rw[c r (ymG g)];simp},λy r _ g=>c r (ymG g)},λj x t g ⟨h,G⟩=>?_,λt ⟨h,G⟩=>?_}
 .rw[Iw]at g;cases e:i[j]? with
  | none=>rw[e]at g;cases g
  | some p=>
   rw[e]at g;cases g;have(x,o,J):=p;have hp:=N _ (ymG e);have(p1,p2,p3,p4,p5,p6):=hp;simp only at p1 p2 p3 p4 p5 p6;have Z:=(Ii.mp e).1;have(l,c,S,A):=h.get (n:=x.toNat) (by lia);iterate 9 infer_instance
   show yI (ls:=t) x.toNat rfl rfl (by lia) c (by lia) (by cbv) ?_;and_intros;show r8 (row:=J) (signs:=signs) (by lia) (by lia) aw (by lia) p6 hsx λH u E _=>?_;and_intros;show{(o,H),Xr,Xr,?_};and_intros;show{t.set x.toNat (l++[(o,H)]),by cbv,(h.mono (KG j)).set c (by simp;lia) (aU A {p3,(by lia:o<m),u.trans p5,E}),λy r U a=>?_};rcases fb a with⟨z,_⟩|⟨_,a⟩
   .lia
   .show G y r U a
 .and_intros;show yG (λs:(Int×Int)×! !(Int×!Int)=>[TH {.io 0,fT s.1},↥(.int w),↥(.int m),↥(.int (1+B)),⇑(.li (i.map tTr)),↥(.int v),⇑(.li (signs.map .int)),⇑(.lst (s.2.map aJ)),TF,TF,TF]) (λj s=>Looks (λ_ p=>lU w m p) 7 m.toNat s.2/\∀y l,3+j<=y->s.2[y]?*>l->l=[]) ?_;and_intros;rw[Ih]at h;show{{by lia,by lia,by lia,by lia},(f,t),by cbv,{h.mono X,λy r U a=>G y r (by lia) a},λj s Z ⟨h,G⟩=>?_,λs ⟨h,_⟩=>?_}
  .have(l,c,S,A):=h.get (n:=3+j) (by lia);have M:=G _ l (Iq _) c;iterate 2 infer_instance
   show yI (ls:=s.2) (3+j) rfl rfl (by lia) c (by lia) (by cbv) ?_;and_intros;show ao (by lia) (by lia) λe f L he1=>?_;ac_nf;and_intros;show yg (by lia) h2 λH f u E=>?_;ac_nf;and_intros;show{(e,H),Xr,Xr,?_};and_intros;show{(f,s.2.set (3+j) (l++[(e,H)])),by cbv,h.set c (by simp[M]) (aU A {L,(by lia:e<m),u,E}),λy r U a=>?_};rcases fb a with⟨z,_⟩|⟨_,a⟩
   .lia
   .show G y r (by lia) a
  .and_intros;show q s.2 s.1 h
def uU{ls:! !(Int×!Int)}{n:Nat}{l:!(Int×!Int)}{p:Int×!Int}(h:ls[n]?*>l):T.put (.lst (ls.map aJ)) [.ix n] (.li (tRd p::l.map tRd))=.lst ((ls.set n (p::l)).map aJ):=by
 rw[xp (u:=aJ l) (by rw[Iw,h];rfl),Ll];simp[aJ]
def Hb{O:Rho}{Q:Fl->Rho->Prop}{L X:Nat}{a:MA}{ls:! !(Int×!Int)}{i:Int}(n:Nat){l:!(Int×!Int)}(j : O[L]?*>(⇑(.lst (ls.map aJ))))(o : O[X]?*>(↥(.int i)))(r:i=(n:Int))(g:ls[n]?*>l)(hz:l.length<1000)(m:a.mu.contains L=TJ)
  (h:WA a O λrs d=>∃p,rs=[{.ow,.im (.int 0)},{.ow,.im (tRd p)}]/\d[L]?*>(⇑(.lst (ls.map aJ)))/\Q .nx ((ar [L] d).set L (⇑(.lst ((ls.set n (p::l)).map aJ))))):WS (bt (cf L [] nL (mIx (af L) (af X)) a)) O Q:=by
 subst r;show sd (yK (yH (fM j (fM o (gu (by cbv) ?_)))));have c:(ls.map aJ)[(n:Int).toNat]?*>(aJ l):=by rw[IJ,Iw,g];rfl
 show re (u:=aJ l) (kd:=.vw (TH L) (TH [.ix (n:Int).toNat])) (by lia) c (fL l) rfl ?_;rw[IJ];show WA.mono h λrs d ⟨p,e,f,q⟩=>?_;subst e;show gu ?_ (se rfl (su (su (qC (Cv f rfl ?_)))))
 .change dJ a.mu {.vw (TH L) (TH [.ix n]),aJ l}=TK;unfold dJ;dsimp[Kd.root];rw[m];rfl
 .show BO (is:=l.map tRd) {by lia,by simp,by simp;rw[No];lia} ?_;change Q _ (List.set _ _ (TH {_,T.put _ _ (.li (tRd p::l.map tRd))}));rw[uU g];show q
abbrev RR(rest row:!Int):Prop:=row.length=rest.length/\∀(i:Nat) y r,row[i]?*>y->rest[i]?*>r->-2<=y/\y<=2/\-2<=r+y/\r+y<=2
def Ba{f:Int×Int}{w m:Int}(h1:1<=w)(h2:w<=3)(h3:1<=m)(h4:m<=6){Q:T->T->Prop}(q:∀ls f',Looks (λ_ p=>lU w m p) 4 m.toNat ls->Q (.lst (ls.map aJ)) (fT f')):W2 (eH [fT f,.im (.int w),.im (.int m)]) Q:=by
 show MR [TH {.io 0,fT f},↥(.int w),↥(.int m),TF,TF,TF,TF,TF] rfl rfl rfl ?_;unfold cG;and_intros;show sQ h1 h2 h3 h4 λls f t=>?_;ac_nf;and_intros;show ao (by lia) (by lia) λd f Z hd1=>?_;ac_nf;and_intros;show rh (is:=[.int 0]) {by lia,by lia,by simp;rw[No];lia} ?_;have E:(Ik w.toNat [I.int 0]).flatten=(Ik w.toNat (0:Int)).map .int:=by simp
 rw[E];and_intros;show dn (λs:(Int×Int)×! !(Int×!Int)×!Int=>[TH {.io 0,fT s.1},↥(.int w),↥(.int m),⇑(.lst (s.2.1.map aJ)),↥(.int (1+d)),⇑(.li (s.2.2.map .int)),TF,TF]) (λj s=>Looks (λ_ p=>lU w m p) 4 m.toNat s.2.1/\(∀y l,j<=y->s.2.1[y]?*>l->l.length<=3)/\s.2.2.length=w.toNat/\∀x∈s.2.2,-2<=x/\x<=2) ?_;and_intros;show{{by lia,by lia},(f,ls,Ik w.toNat 0),by cbv,{{t.1,λx l c=>{by have:=(t.2 x l c).1;lia,λp J=>((t.2 x l c).2 p J).1}},λy l _ c=>(t.2 y l c).1,by simp,λx c=>by rw[(Ka.mp c).2];decide},λk s hk ⟨G,hE,S,B⟩=>?_,λs ⟨G,_⟩=>?_}
 .have(f,ls,rest):=s;simp only at G hE S B;have(l,h,hl4,hlP):=G.get (n:=k) (by lia);have hl3:=hE k l (Iq _) h;and_intros;show bD (λf:Int×Int=>[TH {.io 0,fT f},↥(.int w),↥(.int m),⇑(.lst (ls.map aJ)),↥(.int (1+d)),⇑(.li (rest.map .int)),↥(.int k),TF]) I.int (λj _ l=>l.length=j/\∀x∈l,-1<=x/\x<=1) ?_;and_intros;show{{by lia,by lia},by cbv,f,by cbv,{Xr,by simp},λj f l hj ⟨h,c⟩=>?_,λf r1 ⟨hl1,hx1⟩=>?_}
  .and_intros;show ao (by lia) (by lia) λd f Z hd1=>?_;ac_nf;and_intros;show{d-1,f,Xr,by cbv,by simp[h],aU c (by lia)}
  and_intros;show bD (λ_:Unit=>[TH {.io 0,fT f},↥(.int w),↥(.int m),⇑(.lst (ls.map aJ)),↥(.int (1+d)),⇑(.li (rest.map .int)),↥(.int k),⇑(.li (r1.map .int))]) I.int (λj _ l=>l.length=j/\∀(i:Nat) y r,l[i]?*>y->rest[i]?*>r->-2<=y/\y<=2/\-2<=r+y/\r+y<=2) ?_;and_intros;show{{by lia,by lia},by cbv,(),by cbv,{Xr,by simp},λj _ l hj ⟨h,c⟩=>?_,λ_ r2 ⟨hl2,hx2⟩=>?_}
  .and_intros;show bn (ns:=rest) (by lia) (by lia) λr H E=>?_;and_intros;show bn (ns:=r1) (by lia) (by lia) λy X ey=>?_;and_intros;show bn (ns:=rest) (by lia) (by lia) λY g M=>?_;rw[E]at M;cases (M);and_intros;have b1:=B r H;have b2:=hx1 y X;show{_,(),Xr,by cbv,by simp[h],λi y' Y a g=>?_};by_cases v:i<l.length
   .rw[Jj v]at a;show c i y' Y a g
   .have:=(Ii.mp a).1;simp at this;have A:i=j:=by lia
    subst A;rw[JA (by lia)]at a;simp[h]at a;rw[IJ]at E;rw[E]at g;cases g;subst a;split<;>split<;>lia
  and_intros;show WS.mono (Q:=λfl O=>fl=.nx/\∃o:!Int,O=[TH {.io 0,fT f},↥(.int w),↥(.int m),⇑(.lst (ls.map aJ)),↥(.int (1+d)),⇑(.li (rest.map .int)),↥(.int k),⇑(.li (List.map .int o))]/\RR rest o) ?_ ?_
  ·(refine bZ ?_;and_intros;clear_value hlast)
   .and_intros;show gS (λ_:Unit=>[TH {.io 0,fT f},↥(.int w),↥(.int m),⇑(.lst (ls.map aJ)),↥(.int (1+d)),⇑(.li (rest.map .int)),↥(.int k),⇑(.li (r2.map .int))]) I.int (λj _ l=>l.length=j/\∀(i:Nat) y r,l[i]?*>y->rest[i]?*>r->y = -r) ?_;and_intros;show{rest.map .int,Xr,by simp;rw[No];lia,by cbv,(),by cbv,{Xr,by simp},λj x _ l c ⟨h,hq⟩=>?_,λ_ o ⟨U,hq3⟩=>?_}
    .rw[Iw]at c;cases e:rest[j]? with
     | none=>rw[e]at c;cases c
     | some r=>
      rw[e]at c;cases c;and_intros;show{0-r,(),Xr,by cbv,by simp[h],λi y' Y a g=>?_};by_cases v:i<l.length
      .rw[Jj v]at a;show hq i y' Y a g
      .have:=(Ii.mp a).1;simp at this;have A:i=j:=by lia
       subst A;rw[JA (by lia)]at a;simp[h]at a;rw[e]at g;cases g
       lia
    .and_intros;show{by trivial,o,by cbv,by simpa using U,λi y r X H=>?_};have:=hq3 i y r X H;have:=B r (ymG H)
     lia
   .and_intros;show{by trivial,r2,by cbv,by lia,hx2}
  .rintro fl O ⟨rfl,o,rfl,N,L⟩;and_intros;show bD (λ_:Unit=>[TH {.io 0,fT f},↥(.int w),↥(.int m),⇑(.lst (ls.map aJ)),↥(.int (1+d)),⇑(.li (rest.map .int)),↥(.int k),⇑(.li (o.map .int))]) I.int (λj _ l=>l.length=j/\∀x∈l,-2<=x/\x<=2) ?_;and_intros;show{{by lia,by lia},by cbv,(),by cbv,{Xr,by simp},λj _ l hj ⟨h,c⟩=>?_,λ_ r4 ⟨hl4,hx4⟩=>?_}
   .and_intros;show bn (ns:=rest) (by lia) (by lia) λr H E=>?_;and_intros;show bn (ns:=o) (by lia) (by lia) λy X ey=>?_;and_intros;have:=L _ y r ey E;show{r+y,(),Xr,by cbv,by simp[h],aU c (by lia)}
   iterate 2 infer_instance
   show Hb (ls:=ls) k rfl rfl rfl h (by lia) (by cbv) ?_;and_intros;have hkm:((k:Int)+1) % (1+d)<m:=by have:=JF ((k:Int)+1) (show 0<1+d by lia);lia
   have hk0:0<=((k:Int)+1) % (1+d):=JV _ (by lia);show{(((k:Int)+1) % (1+d),o),Xr,Xr,?_};and_intros;show{(f,ls.set k ((((k:Int)+1) % (1+d),o)::l),r4),by cbv,G.set h (by simp;lia) (λp J=>?_),λy l' X u=>?_,by lia,hx4}
   .rcases ycM J with rfl|J
    .show{hk0,hkm,by simpa[S]using N,λx c=>?_};have(i,hi):=Ky.mp c;have hil:=(Ii.mp hi).1;have:i<rest.length:=by simp only at hil;lia
     have:=L i x _ hi (II this)
     lia
    .show hlP p J
   .rcases fb u with⟨z,_⟩|⟨_,u⟩
    .lia
    .show hE y l' (by lia) u
 .and_intros;show q s.2.1 s.1 G
def Looks.imp(h:Looks P c m ls)(d:c<=c')(e:∀x p,P x p->P' x p):Looks P' c' m ls:={h.1,λx l a=>{IS (h.2 x l a).1 d,λp f=>e x p ((h.2 x l a).2 p f)}}
def xQ(q:∀(w m:Int) ls l,1<=w->w<=3->1<=m->m<=6->Looks (λ_ p=>lU w m p) 7 m.toNat ls->Q (.tup [.im (.int w),.lst (ls.map aJ)]) (fT l)):W2 (jI [fT f]) Q:=by
 show MR [TH {.io 0,fT f},TF,TF,TF,TF] rfl rfl rfl ?_;unfold hV;and_intros;show ao (by lia) (by lia) λh f y o=>?_;ac_nf;and_intros;show ao (by lia) (by lia) λe f r s=>?_;ac_nf;and_intros;try ac_nf
 show bn (ns:=[1,2,2,2,2,1,2,3]) (JV _ (by lia)) (by have:=JF e (show(0:Int)<8 by lia);exists this) λw t _=>?_;have a:1<=w/\w<=3:=by simp at t;lia
 and_intros;show bn (ns:=[3,6]) (by lia) (by simp;lia) λi g _=>?_;have j:3<=i/\i<=6:=by simp at g;lia
 and_intros;show ao (by lia) (by lia) λd f u v=>?_;ac_nf;and_intros
 (refine bZ ?_;and_intros;clear_value A)
 .and_intros;show zf a.1 a.2 (by lia) (by lia) λls f c=>?_;ac_nf;and_intros;show q w (1+d) ls f a.1 a.2 (by lia) (by lia) (c.mono (by lia))
 and_intros
 (refine bZ ?_;and_intros;clear_value E)
 .and_intros;show sQ a.1 a.2 (by lia) (by lia) λls f c=>?_;ac_nf;and_intros;show q w (1+d) ls f a.1 a.2 (by lia) (by lia) (c.imp (by lia) λx p z=>z.1)
 and_intros
 (refine bZ ?_;and_intros;clear_value B)
 .and_intros;show Ba a.1 a.2 (by lia) (by lia) λls f c=>?_;ac_nf;and_intros;show q w (1+d) ls f a.1 a.2 (by lia) (by lia) (c.mono (by lia))
 and_intros;try ac_nf
 show Dv (by split<;>lia) (by split<;>lia) (by split<;>split<;>split<;>lia) (by split<;>split<;>split<;>lia) λls f c=>?_;ac_nf;and_intros;show q _ _ ls f (by split<;>lia) (by split<;>lia) (by split<;>split<;>split<;>lia) (by split<;>split<;>split<;>lia) c
abbrev M4:!Str:=["min","max","rest","less","if"]
abbrev nmB(S:!Nat) (a:Nat) (ch k:Nat):!Nat:=S.take a++ch::S.drop a++(if k % 2=1 then [113]else [])
abbrev nmS(S:!Nat) (a:Nat) (ch k:Nat):Str:=if oL (nmB S a ch k)∈M4 then oL (nmB S a ch k++[119])else oL (nmB S a ch k)
def HR:113∈sL LET:=by decide +kernel
def HZ:119∈sL LET:=by decide +kernel
def yX:∀i<26,∀j<26,(sL LET).getD i 0=(sL LET).getD j 0->i=j:=by decide +kernel
def CM:∀z∈M4,oL (sL z++[119])∉M4:=by decide +kernel
def eV:(nmB S a ch k).length=S.length+1+k % 2:=by
 unfold nmB;have h:k % 2=0\/k % 2=1:=by lia
 rw[Ip,Ip,Iv,IR,Jl];rcases h with h|h<;>simp[h]<;>lia
def Dd(d:∀c∈S,c∈sL LET)(e:ch∈sL LET):∀c∈nmB S a ch k,c∈sL LET:=λc h=>by
 unfold nmB at h;rcases yaM h with h|h
 .rcases yaM h with h|h;show d c (JM h)
  .rcases ycM h with rfl|h;show e;show d c (JX h)
 .split at h;rw[ysM h];show HR;cases h
def sU(h:nmB S a ch k=nmB S a ch' k'):ch=ch'/\k % 2=k' % 2:=by
 have d:=congrArg JL h;rw[eV,eV]at d;have c:k % 2=k' % 2:=by lia
 show{?_,c};unfold nmB at h;rw[c]at h;have f:=K7 h;have e:=List.append_cancel_left f;show(JN.inj e).1
def pz(c:k % 2=1):(nmB S a ch k).getLast?=TH 113:=by
 unfold nmB;rw[if_pos c,KJ];rfl
def nU(h:oL x=oL y):x=y:=congrArg sL h
def zS(h:nmS S a ch k=nmS S a ch' k'):ch=ch'/\k % 2=k' % 2:=by
 unfold nmS at h;split at h<;>split at h;show sU (K7 (nU h))
 .have d:=nU h;have c:=congrArg JL d;rw[Ip,eV,eV]at c;have e:k' % 2=1:=by simp at c;lia
  have:=pz (S:=S) (a:=a) (ch:=ch') e;rw[<-d,KJ]at this;cases this
 .have d:=nU h;have c:=congrArg JL d;rw[Ip,eV,eV]at c;have e:k % 2=1:=by simp at c;lia
  have:=pz (S:=S) (a:=a) (ch:=ch) e;rw[d,KJ]at this;cases this
 .show sU (nU h)
abbrev kD(z:Str):Prop:=1<=z.length/\z.length<=8/\z∉M4/\∀c∈sL z,c∈sL LET
def De(g:∀c∈S,c∈sL LET)(i:ch∈sL LET)(l:S.length<=5):kD (nmS S a ch k):=by
 have f:=Dd (a:=a) (k:=k) g i;have d:=eV (S:=S) (a:=a) (ch:=ch) (k:=k);unfold kD nmS;split
 .delta c;have j:(oL (nmB S a ch k++[119])).length=S.length+1+k % 2+1:=by rw[fq,eJ,Ip,d];rfl
  show{by lia,by lia,CM _ c,λx e=>?_};rw[eJ]at e;rcases yaM e with h|h;show f x h;rw[ysM h];show HZ
 .delta c;have j:(oL (nmB S a ch k)).length=S.length+1+k % 2:=by rw[fq,eJ,d]
  show{by lia,by lia,c,λx e=>f x (by rwa [eJ]at e)}
def vG{a:Type}{xs:!a}{n:Nat}(h:n<=xs.length):dv xs TF (TH (n:Int))=xs.take n:=by
 unfold dv;rw[HT.sIx_none,HT.sIx_nat,Ls h];simp
def oS{a:Type}{xs:!a}{n:Nat}(h:n<=xs.length):dv xs (TH (n:Int)) TF=xs.drop n:=by
 unfold dv;rw[HT.sIx_none,HT.sIx_nat,Ls h];show IF (by rw[Jl];show Iq _)
def mZ:∀{zs:!Str},pZ (zs.map I.str)*>zs
 | []=>rfl
 | z::zs=>by rw[Io,pZ,mZ];rfl
def DG(h:(zs.map (·.length)).sum+zs.length*z.length<=16777216)(q:QT1 (.im (.str (Pd z zs)))):W1 (kX (.im (.str z)) [.li (zs.map .str)]) QT1:=w1 (by dsimp[kX,mZ];rw[if_pos h]) q
def qZ{f:Type}{g:Nat->f}{n:Nat}(a:∀x<n,∀y<n,g x=g y->x=y):((I8 n).map g).Nodup:=jy List.nodup_range λx c y d e=>a x (JJ.mp c) y (JJ.mp d) e
abbrev gF(S:!Nat) (a fn m:Nat):!Str:=(I8 m).map λk=>nmS S a ((sL LET).getD ((fn+5*k) % 26) 0) k
def si(h:i<26):(sL LET)[i]?*>((sL LET).getD i 0):=by
 rw[Ja,II (by rw[nt];show h)];rfl
def wy{S:!Nat}{a fn m:Nat}(f:∀c∈S,c∈sL LET)(d:S.length<=5)(j:m<=6):(gF S a fn m).length=m/\(gF S a fn m).Nodup/\∀z∈gF S a fn m,kD z:=by
 show{by simp[gF],qZ λx h y i e=>?_,λz g=>?_}
 .have:=yX _ (K0 _ (by decide)) _ (K0 _ (by decide)) (zS e).1
  lia
 .have(k,l,rfl):=Is.mp g;show De f (ymG (si (K0 _ (by decide)))) d
def wv{f:Int×Int}{m:Int}(h1:0<=m)(h2:m<=6){Q:T->T->Prop}(q:∀(zs:!Str) f',zs.length=m.toNat->zs.Nodup->(∀z∈zs,kD z)->Q (.li (zs.map .str)) (fT f')):W2 (jH [fT f,.im (.int m)]) Q:=by
 show MR [TH {.io 0,fT f},↥(.int m),TF,TF,TF,TF,TF,TF,TF] rfl rfl rfl ?_;unfold hJ;and_intros;show bD (λf:Int×Int=>[TH {.io 0,fT f},↥(.int m),↥(.str LET),TF,TF,TF,TF,TF,TF]) I.str (λj _ l=>l.length=j/\∀z∈l,∃g,g∈sL LET/\z={#[g]}) ?_;and_intros;show ao (by lia) (by lia) λd f A B=>?_;ac_nf;and_intros;show{{by lia,by lia},by cbv,f,by cbv,{Xr,by simp},λj f l hj ⟨hl,M⟩=>?_,λf zs ⟨hl,M⟩=>?_}
 .and_intros;show ao (by lia) (by lia) λd f A B=>?_;ac_nf;and_intros;show wE (s:=LET) (by rw[LET_len',No];lia) A (by rw[nt];show B) λc r=>?_;show{{#[c]},f,Xr,by cbv,by simp[hl],aU M {c,ymG r,Xr}}
 and_intros;have u:∀zs:!Str,(∀z∈zs,∃g,g∈sL LET/\z={#[g]})->(zs.map (·.length)).sum=zs.length:=λzs h=>by
  induction zs with
  | nil=>rfl
  | cons z zs ih=>
   have(g,_,e):=h z ymS;rw[Io,List.sum_cons,ih λy hy=>h y (ymC _ hy),Iv,e];change 1+zs.length=_
   lia
 have e0:("" : Str)=oL []:=by decide +kernel
 have e1:(("" : Str)).length=0:=by decide +kernel
 show DG (zs:=zs) (by rw[u zs M,e1];lia) ?_;have U:sL (Pd "" zs)=(zs.map sL).flatten:=by rw[e0];show uf zs
 have N:(sL (Pd "" zs)).length<=5:=by
  rw[U,List.length_flatten,IN];have:(zs.map (JL∘sL)).sum=zs.length:=by rw[<-u zs M];congr 1
  lia
 have hS:∀c∈sL (Pd "" zs),c∈sL LET:=λc r=>by
  rw[U]at r;have(l,Y,r):=L8.mp r;have(z,hz,rfl):=Is.mp Y;have(g,X,rfl):=M z hz;have:c=g:=by exists r
  rw[this];show X
 generalize Pd "" zs=stem at *;have hst5:stem.length<=5:=by rw[fq];show N
 have p:∀l:!Nat,(oL l).length=l.length:=λl=>by rw[fq,eJ]
 and_intros;show ao (by lia) (by lia) λfi f hf0 hf1=>?_;ac_nf;and_intros;show DK (by rw[No];lia) ?_;and_intros;show ao (by lia) (by lia) λL f ha0 ha1=>?_;ac_nf;and_intros;obtain⟨a,rfl⟩:∃a:Nat,L=(a:Int):={L.toNat,by lia};obtain⟨o,rfl⟩:∃a:Nat,fi=(a:Int):={fi.toNat,by lia};have G:a<=(sL stem).length:=by rw[<-fq];lia
 try ac_nf
 and_intros;show dn (λk:Nat=>[TH {.io 0,fT f},↥(.int m),↥(.str LET),↥(.str stem),↥(.int o),↥(.int a),⇑(.li ((gF (sL stem) a o k).map .str)),TF,TF]) (λj k=>k=j) ?_;and_intros;show{{by lia,by lia},0,by cbv,Xr,λi k hi Z=>?_,λk Z=>?_}
 .subst Z;have J:((o:Int)+5*(k:Int)) % 26=(((o+5*k) % 26:Nat):Int):=by lia
  have E:(o+5*k) % 26<26:=K0 _ (by decide);have t:=si E;have x:gF (sL stem) a o (k+1)=gF (sL stem) a o k++[nmS (sL stem) a ((sL LET).getD ((o+5*k) % 26) 0) k]:=by simp[gF,Lu]
  generalize (sL LET).getD ((o+5*k) % 26) 0=g at t x;and_intros;show BV (by rw[No];lia) ?_;rw[vG G];and_intros;rw[J];show wE (s:=LET) (by rw[LET_len',No];lia) (by lia) (by rw[nt];lia) λc r=>?_;rw[IJ,t]at r;cases (r);and_intros;show nV (by rw[p,IR,No];change _+1<=_;lia) ?_;and_intros;show BV (by rw[No];lia) ?_;rw[oS G];and_intros;show nV (by rw[fq,lH,eJ,p,No,Ip,IR,Jl];change _+1+_<=_;lia) ?_;have en:(oL ((sL stem).take a)++({#[g]}:Str))++oL ((sL stem).drop a)=oL ((sL stem).take a++g::(sL stem).drop a):=by
   apply oz;rw[lH,lH,eJ,eJ,eJ];simp
  rw[en];and_intros;show WS.mono (Q:=λH O=>H=.nx/\O=[TH {.io 0,fT f},↥(.int m),↥(.str LET),↥(.str stem),↥(.int o),↥(.int a),⇑(.li ((gF (sL stem) a o k).map .str)),↥(.int k),↥(.str (oL (nmB (sL stem) a g k)))]) ?_ ?_
  ·(refine bZ ?_;and_intros;clear_value hk2)
   .and_intros;show nV (by rw[p,Ip,Iv,IR,Jl,No];change _+1<=_;lia) ?_;have v:oL ((sL stem).take a++g::(sL stem).drop a)++("q" : Str)=oL (nmB (sL stem) a g k):=by
     apply oz;rw[lH,eJ,eJ];unfold nmB;rw[if_pos (by lia)];rfl
    rw[v];and_intros;show{by trivial,by first|trivial|cbv}
   .and_intros;have v:(sL stem).take a++g::(sL stem).drop a=nmB (sL stem) a g k:=by
     unfold nmB;rw[if_neg (by lia)];simp
    rw[v];show{by trivial,by first|trivial|cbv}
  rintro H O ⟨rfl,rfl⟩;have hnl:(oL (nmB (sL stem) a g k)).length<=7:=by rw[p,eV];lia
  and_intros;show WS.mono (Q:=λH O=>H=.nx/\O=[TH {.io 0,fT f},↥(.int m),↥(.str LET),↥(.str stem),↥(.int o),↥(.int a),⇑(.li ((gF (sL stem) a o k).map .str)),↥(.int k),↥(.str (nmS (sL stem) a g k))]) ?_ ?_
  .show bZ ?_;and_intros;show FY (is:=M4.map .str) {Xr,by decide +kernel,by decide +kernel} ?_;and_intros;clear_value hw
   .have w:oL (nmB (sL stem) a g k)∈M4:=by exists hw
    and_intros;have hw1:(("w" : Str)).length=1:=by decide +kernel
    show nV (by rw[No];lia) ?_;have v:oL (nmB (sL stem) a g k)++("w" : Str)=nmS (sL stem) a g k:=by
     unfold nmS;rw[if_pos w];apply oz;rw[lH,eJ,eJ];rfl
    rw[v];and_intros;show{by trivial,by first|trivial|cbv}
   .have w:oL (nmB (sL stem) a g k)∉M4:=by exists hw
    have v:oL (nmB (sL stem) a g k)=nmS (sL stem) a g k:=by unfold nmS;rw[if_neg w]
    rw[v];and_intros;show{by trivial,by first|trivial|cbv}
  rintro H O ⟨rfl,rfl⟩;and_intros;show cj (by simp[gF];rw[No];lia) ?_;ac_nf;and_intros;show{k+1,?_,Xr};rw[x,Iu]
  cbv
 .subst Z;and_intros;have(n1,n2,n3):=wy (S:=sL stem) (a:=a) (fn:=o) (m:=m.toNat) hS N (by lia);show q _ f n1 n2 n3
abbrev gn(p:Str×Ru):I:=.tup [.str p.1,tRu p.2]
abbrev aE(w wh:Int) (a:!(Str×Ru)):I:=.tup [.int w,.int wh,.tup (a.map gn)]
abbrev nM:Ru->Prop
 | .num _=>True
 | .rd _ _=>True
 | _=>False
def uq{r:Ru}(h:nM r):r.leaves=[r]:=by cases r<;>first|rfl|cases h
def mI:∀{rs:!Ru},(∀r∈rs,nM r)->rs.flatMap Ru.leaves=rs
 | [],_=>rfl
 | r::rs,h=>by rw[Iy,uq (h r ymS),mI λx a=>h x (ymC _ a)];rfl
abbrev M9(ns:!Str)(w:Int):Ru->Prop
 | .num n=>0<=n/\n<=1000000000
 | .rd x a=>x∈ns/\a.length=w.toNat
 | _=>False
def M9.leaf{ns:!Str}{w:Int}{r:Ru}(h:M9 ns w r):nM r:=by cases r<;>first|trivial|cases h
def zD{r:Ru}(h:nM r):r.ok:=by cases r<;>first|trivial|cases h
abbrev Cov(n:Nat)(rs:!Ru):Prop:=∃L:!(Str×!Int),L.length<=n/\∀x a,Ru.rd x a∈rs->(x,a)∈L
abbrev vz(c:Nat)(ns:!Str)(w:Int)(n:Nat)(r:Ru):Prop:=r.ok/\r.leaves.length<=c/\(∀l∈r.leaves,M9 ns w l)/\Cov n r.leaves
abbrev yW(c:Nat)(w wh:Int)(a:!(Str×Ru)):Prop:=1<=w/\w<=3/\2<=wh/\wh<=1000000000/\1<=a.length/\a.length<=6/\(a.map (·.1)).Nodup/\(∀z∈a.map (·.1),kD z)/\∃n,n*a.length<=16/\∀p∈a,vz c (a.map (·.1)) w n p.2
def on:∀{l:!(Str×!Int)},I.doks (l.map λp=>tRu (.rd p.1 p.2))=TK/\I.deps (l.map λp=>tRu (.rd p.1 p.2))<=50
 | []=>{Xr,by decide}
 | p::l=>by
  have c:=on (l:=l);have d:∀a:!Int,I.doks (a.map I.int)=TK/\I.deps (a.map I.int)=0:=λa=>by
   induction a with
   | nil=>show⟨Xr,Xr⟩
   | cons x a c=>show{by rw[Io,I.doks,c.1];rfl,by rw[Io,I.deps,c.2];rfl}
  show{?_,?_}
  .rw[Io,I.doks,c.1];dsimp[tRu,I.dok,I.doks,(d p.2).1];rfl
  .rw[Io,I.deps];have e:I.dep (tRu (.rd p.1 p.2))<=50:=by dsimp[tRu,I.dep,I.deps,(d p.2).2];decide
   have:=c.2
   lia
def mn{a:Type}{xs:!a}{v:Int}(h:0<=v):dv xs TF (TH v)=xs.take v.toNat:=by
 obtain⟨n,rfl⟩:∃n:Nat,v=n:={v.toNat,by lia};unfold dv;rw[HT.sIx_none,HT.sIx_nat,IJ,Mh,Mw];rcases Nat.le_total n xs.length with h|h;rw[Ls h];rw[Nat.min_eq_right h,IF h,IF (Iq _)]
def vV{f:Int×Int}{Q:T->T->Prop}(q:∀w wh v f',yW 10 w wh v->Q (.im (aE w wh v)) (fT f')):W2 (jG [fT f]) Q:=by
 show MR [TH {.io 0,fT f},TF,TF,TF,TF,TF,TF,TF,TF,TF] rfl rfl rfl ?_;unfold hC;and_intros;show xQ λw m ls f hw1 hw2 hm1 hm2 hL=>?_;ac_nf;and_intros;show ao (by lia) (by lia) λd1 f a1 b1=>?_;ac_nf;and_intros;show ao (by lia) (by lia) λd2 f a2 b2=>?_;ac_nf;and_intros;show ao (by lia) (by lia) λd3 f a3 b3=>?_;ac_nf;and_intros;show ao (by lia) (by lia) λd4 f a4 b4=>?_;ac_nf;and_intros;show bn (ns:=[2+d1,2+d2,1000000000-d3]) a4 (by exists b4) λwh hwh _=>?_;have H:2<=wh/\wh<=1000000000:=by simp at hwh;lia
 and_intros;have M:((ls.map aJ).length:Int)=m:=by rw[Ih,hL.1];lia
 rw[M];show wv (by lia) hm2 λE f hzl hzn hzo=>?_;ac_nf;and_intros;show dn (λs:(Int×Int)×!(Str×Ru)=>[TH {.io 0,fT s.1},↥(.int w),⇑(.lst (ls.map aJ)),↥(.int wh),⇑(.li (E.map .str)),⇑(.li (s.2.map gn)),TF,TF,TF,TF]) (λj s=>s.2.map (·.1)=E.take j/\∀p∈s.2,vz 10 E w (16 / m.toNat) p.2) ?_;and_intros;rw[M];show{{by lia,by lia},(f,[]),by cbv,{Xr,by simp},λx s hx ⟨c,B⟩=>?_,λs ⟨c,B⟩=>?_}
 .have(f,v):=s;dsimp only at c B|-;have(l,hl,hl7,hlP):=hL.get (n:=x) (by lia);and_intros;show gS (λ_:Unit=>[TH {.io 0,fT f},↥(.int w),⇑(.lst (ls.map aJ)),↥(.int wh),⇑(.li (E.map .str)),⇑(.li (v.map gn)),↥(.int x),TF,TF,TF]) (λp:Str×!Int=>tRu (.rd p.1 p.2)) (λj _ L=>L.length=j/\∀p∈L,p.1∈E/\p.2.length=w.toNat) ?_;and_intros;show re (u:=aJ l) (kd:=.vw (TH 2) (TH [.ix x])) (by lia) (by rw[IJ,Iw,hl];rfl) (fL l) rfl ?_;and_intros;rw[M];rw[mn (Int.ediv_nonneg (by lia) (by lia)),<-Km];show{(l.take (16 / m).toNat).map tRd,Xr,by simp;rw[No];lia,by cbv,(),by cbv,{Xr,by simp},λj x' _ L A ⟨i,J⟩=>?_,λ_ L ⟨i,J⟩=>?_}
  .rw[Iw]at A;cases e:(l.take (16 / m).toNat)[j]? with
   | none=>rw[e]at A;cases A
   | some p=>
    rw[e]at A;cases A;have O:=hlP p (JM (ymG e));have(p0,p1,p2,p3):=O;and_intros;show ja (emb:=I.str) (ns:=E) p0 (by lia) λz hz=>?_;and_intros;show{(z,p.2),(),Xr,by cbv,by simp[i],aU J {ymG hz,p2}}
  rw[Ih]at i;have X:L.length<=16 / m.toNat:=by
   rw[i,IR];have:(16 / m).toNat=16 / m.toNat:=by
    obtain⟨n,rfl⟩:∃n:Nat,m=n:={m.toNat,by lia};rw[IJ];show congrArg Int.toNat (Int.natCast_ediv 16 n).symm
   lia
  have hL7:L.length<=7:=by rw[i,IR];lia
  and_intros;show dn (λs:(Int×Int)×!Ru=>[TH {.io 0,fT s.1},↥(.int w),⇑(.lst (ls.map aJ)),↥(.int wh),⇑(.li (E.map .str)),⇑(.li (v.map gn)),↥(.int x),⇑(.li (s.2.map tRu)),TF,TF]) (λj s=>s.2.length=L.length+j/\(∀r∈s.2,M9 E w r)/\∀y h,Ru.rd y h∈s.2->(y,h)∈L) ?_;and_intros;show ao (by lia) (by lia) λd f hd0 S=>?_;ac_nf;and_intros;show FV (js:=[]) ⟨on.1,Xr,on.2⟩ ?_;and_intros;have hk:∀b:Bool,0<=(if b then 1 else 0:Int)/\(if b then 1 else 0:Int)<=1:=λb=>by cases b<;>decide
  have hk':=hk (decide (L.map (λp=>tRu (.rd p.1 p.2))=[]));have hk0:L=[]->(if(decide (L.map (λp=>tRu (.rd p.1 p.2))=[]))=TK then 1 else 0:Int)=1:=λz=>by rw[z];rfl
  generalize (if(decide (L.map (λp=>tRu (.rd p.1 p.2))=[]))=TK then 1 else 0:Int)=kk at *;show{{by lia,by lia},(f,L.map λp=>.rd p.1 p.2),by rw[IN];cbv,{by simp,λr a=>?_,λy h a=>?_},λj s hj ⟨t,g,o⟩=>?_,λs ⟨t,g,o⟩=>?_}
  .have(p,O,rfl):=Is.mp a;show J p O
  .have(p,O,e):=Is.mp a;cases e;show O
  .have(f,N):=s;dsimp only at t g o|-;and_intros;show ao (by lia) (by lia) λe1 f he0 he1=>?_;ac_nf;and_intros;show bn (ns:=[9,1000000001]) he0 (by exists he1) λtop Z _=>?_;have htop':1<=top/\top<=1000000001:=by simp at Z;lia
   and_intros;show ao (by lia) (by lia) λnum f hn0 hn1=>?_;ac_nf;and_intros;rw[Ih];show ao (by lia) (by lia) λY f ha0 ha1=>?_;ac_nf;and_intros;show BO (is:=N.map tRu) {ha0,by simp;lia,by simp;rw[No];lia} ?_;ac_nf;and_intros;show{(f,N.take Y.toNat++Ru.num num::N.drop Y.toNat),?_,by clear i X hL7 hk' hj hd0 S;simp;lia,λr a=>?_,λy h a=>?_}
   .rw[Iu,Io,Km,KD]
    cbv
   .rcases yaM a with a|a;show g r (JM a)
    .rcases ycM a with rfl|a;show{hn0,by lia};show g r (JX a)
   .rcases yaM a with a|a;show o y h (JM a)
    .rcases ycM a with a|a;cases a;show o y h (JX a)
  .have(f,N):=s;dsimp only at t g o|-;and_intros;show ja (emb:=I.str) (ns:=E) (by lia) (by lia) λz hz=>?_;and_intros;show vS (rs:=N) (λh0=>?_) (by lia) (λr a=>zD (g r a).leaf) λr f G hro=>?_
   .rw[h0]at t;have hL0:L=[]:=J1 (Nat.add_eq_zero_iff.mp t.symm).1;have:=hk0 hL0;simp at t
    lia
   rw[mI λr a=>(g r a).leaf]at G;ac_nf;and_intros;show cj (is:=v.map gn) (by
    have:v.length<=E.length:=by rw[<-Ih (f:=λp:Str×Ru=>p.1),c];simp;lia
    simp;rw[No];lia) ?_
   ac_nf;and_intros;show{(f,v++[(z,r)]),?_,?_,aU B {hro,by rw[G];lia,by rw[G];show g,L,X,by rw[G];show o}}
   .rw[Iu]
    cbv
   .rw[Iu,c,Jk];rw[IJ]at hz;rw[hz];rfl
 .have(f,v):=s;dsimp only at c B|-;and_intros;rw[IF (by lia)]at c;have U:v.length=m.toNat:=by rw[<-hzl,<-c,Ih]
  show q w wh v f {hw1,hw2,H.1,H.2,by lia,by lia,by rw[c];show hzn,by rw[c];show hzo,16 / m.toNat,?_,by rw[c];show B};rw[U];show Nat.div_mul_le_self 16 m.toNat
abbrev tR2(p:Str×!Int):I:=.tup [.str p.1,.tup (p.2.map .int)]
abbrev fe(z:Str) (p:Str×!Int):I:=.tup [.str z,.str p.1,.tup (p.2.map .int)]
def ii:∀{L:!(Str×!Int)},I.doks (L.map (fe z))=TK/\I.deps (L.map (fe z))<=50
 | []=>{Xr,Jm _}
 | p::l=>by
  have c:=ii (z:=z) (L:=l);have d:∀a:!Int,I.doks (a.map I.int)=TK/\I.deps (a.map I.int)=0:=λa=>by
   induction a with
   | nil=>show⟨Xr,Xr⟩
   | cons x a c=>show{by rw[Io,I.doks,c.1];rfl,by rw[Io,I.deps,c.2];rfl}
  show{?_,?_}
  .rw[Io,I.doks,c.1];dsimp[fe,I.dok,I.doks,(d p.2).1];rfl
  .rw[Io,I.deps];have e:I.dep (fe z p)<=50:=by dsimp[fe,I.dep,I.deps,(d p.2).2];decide
   have:=c.2;omega
def yn:(fe z p).dok=TK:=by
 have:=(ii (z:=z) (L:=[p])).1;rw[Io,KS,I.doks,Il]at this;show this.1
abbrev xO:Ru->↑(Str×!Int)
 | .rd x a=>TH (x,a)
 | _=>TF
abbrev rds(r:Ru):!(Str×!Int):=r.leaves.filterMap xO
def ic:∀r:Ru,r.pre.filterMap xO=rds r
 | .num _=>rfl
 | .rd _ _=>rfl
 | .op s a b=>by
  have e:=ic a;have d:=ic b;unfold rds at e d|-;rw[Ru.pre,Ru.leaves,K8 rfl,IL,IL,e,d]
 | .cond a b c=>by
  have e:=ic a;have d:=ic b;have f:=ic c;unfold rds at e d f|-;rw[Ru.pre,Ru.leaves,K8 rfl,IL,IL,IL,IL,e,d,f]
def dm(r:Ru):(rds r).length<=r.leaves.length:=List.length_filterMap_le _ _
abbrev iR(a:!(Str×!Int)) (p:Str×!Int):!(Str×!Int):=if p∈a then a else a++[p]
abbrev ded(L:!(Str×!Int)):!(Str×!Int):=L.foldl iR []
def vI(L:!(Str×!Int))(p:Str×!Int):ded (L++[p])=iR (ded L) p:=by unfold ded;rw[K6];rfl
def sA:∀(L a:!(Str×!Int)),(L.foldl iR a).length<=a.length+L.length
 | [],a=>by simp
 | p::L,a=>by
  have h:=sA L (iR a p);have c:(iR a p).length<=a.length+1:=by unfold iR;split<;>simp
  dsimp[Kc,Iv]at h|-
  lia
def qE(L:!(Str×!Int)):(ded L).length<=L.length:=by have:=sA L [];unfold ded;exists this
def cy{a:Type}{L:!a}{j:Nat}{x : a}(e:L[j]?*>x):L.take (j+1)=L.take j++[x]:=by rw[Jk,e];rfl
def uM{r:Ru}(m:r.leaves.length<=1000){Q:T->Prop}(q:Q (.im (.tup ((rds r).map tR2)))):W1 (jK [.im (tRu r)]) Q:=by
 have l:=iF r;show MK [↥(tRu r)] rfl rfl rfl ?_;unfold ib;and_intros;show eN (λ_:Unit=>[↥(tRu r)]) tR2 (λj _ L=>L=(r.pre.take j).filterMap xO) ?_;and_intros;show wL m ?_;show{r.pre.map tRu,Xr,by simp;rw[No];lia,by cbv,(),by cbv,Xr,λj o _ L d f=>?_,λ_ L f=>?_}
 .rw[Iw]at d;cases e:r.pre[j]? with
  | none=>rw[e]at d;cases d
  | some y=>
   rw[e]at d;cases d;have g:(r.pre.take (j+1)).filterMap xO=L++(xO y).toList:=by
    rw[cy e,IL,<-f];cases y<;>rfl
   cases y with
   | num k=>
    rw[tRu];and_intros;clear_value h
    .show absurd h (by decide +kernel)
    .show{(),by cbv,by rw[g];show(IM _).symm}
   | rd x i=>
    rw[tRu];and_intros;clear_value h
    .and_intros;show{(x,i),(),Xr,by cbv,by rw[g];rfl}
    .show absurd rfl h
   | op s a b=>
    rw[tRu];and_intros;clear_value h
    .show absurd h (by decide +kernel)
    .show{(),by cbv,by rw[g];show(IM _).symm}
   | cond a b c=>
    rw[tRu];and_intros;clear_value h
    .show absurd h (by decide +kernel)
    .show{(),by cbv,by rw[g];show(IM _).symm}
 .rw[Ih,IF (Iq _),ic]at f;subst f;and_intros;show q
def uc{z:Str}{r:Ru}(o:r.leaves.length<=1000){Q:T->Prop}(q:Q (.li ((ded (rds r)).map (fe z)))):W1 (eI [.im (.str z),.im (tRu r)]) Q:=by
 have t:=dm r;show MK [↥(.str z),↥(tRu r),TF,TF,TF,TF] rfl rfl rfl ?_;unfold cI;and_intros;show cX (λL:!(Str×!Int)=>[↥(.str z),↥(tRu r),⇑(.li (L.map (fe z))),TF,TF,TF]) (λj L=>L=ded ((rds r).take j)) ?_;and_intros;show uM o ?_;show{(rds r).map tR2,Xr,by cbv,[],by cbv,Xr,λj y L c d=>?_,λL d=>?_}
 .rw[Iw]at c;cases e:(rds r)[j]? with
  | none=>rw[e]at c;cases c
  | some p=>
   rw[e]at c;cases c;have x:=(Ii.mp e).1;have u:L.length<=1000:=by rw[d];have:=qE ((rds r).take j);rw[IR]at this;lia
   have l:ded ((rds r).take (j+1))=iR L p:=by rw[cy e,vI,d]
   and_intros;show bZ ?_;and_intros;show DR (i:=fe z p) (is:=L.map (fe z)) ⟨yn,ii.1,ii.2⟩ ?_;and_intros;clear_value h
   .and_intros;show cj (is:=L.map (fe z)) (i:=fe z p) (by simp;rw[No];lia) ?_;ac_nf;and_intros;have g:p∉L:=λm=>h (Is.mpr {_,m,Xr});show{L++[p],?_,?_}
    .rw[Iu]
     cbv
    .rw[l,iR,if_neg g]
   .and_intros;have g:p∈L:=by
     have(w,m,f):=Is.mp h;have:w=p:=by
      unfold fe at f;dsimp[I.tup.injEq,JN.injEq,I.str.injEq,and_true,true_and]at f;have(s,v):=f;show Prod.ext s (List.map_inj_right (λa b h=>by cases h;rfl) |>.mp v)
     show this▸m
    show{L,by cbv,by rw[l,iR,if_pos g]}
 .rw[Ih,IF (Iq _)]at d;subst d;and_intros;show q
def lu:∀a:!(Str×Ru),uT (a.map gn)*>(a.map λd=>(OL d.1,tRu d.2))
 | []=>rfl
 | d::a=>by rw[Io,uT,lu a];rfl
def wC{c:!(Str×Ru)}(f:(c.map (·.1)).Nodup){Q:T->Prop}(q:Q (.di (c.map λd=>(.str d.1,tRu d.2)))):W1 (mr [.im (.tup (c.map gn))]) Q:=by unhygienic
 show w1 (x:=.di (c.map λd=>(.str d.1,tRu d.2))) ?_ q;change vJ (c.map gn)=_;unfold vJ;rw[lu];dsimp only;rw[if_pos ?_,IN];rfl
 .rw[IN];have:(c.map λd=>(OL d.1:Key))=(c.map (·.1)).map OL:=by rw[IN];rfl
  change(c.map λd=>(OL d.1:Key)).Nodup;rw[this];show List.Pairwise.map _ (λa b h e=>h (Ti e)) f
def gv:∀{a:!(Str×Ru)},(a.map (·.1)).Nodup->(z,r)∈a->kO (a.map λd=>(.str d.1,tRu d.2)) (.str z)*>(tRu r)
 | d::a,f,c=>by
  rw[Io,IW]at f;rw[Io,kO];rcases ycM c with rfl|c;rw[if_pos rfl]
  .have:d.1≠z:=λe=>f.1 (e▸Is.mpr {_,c,Xr});rw[if_neg (λe=>this (I.str.inj e))];show gv f.2 c
def FT(h:kO kvs (.str z)*>v)(q:Q (.im v)):W1 (dgT (.di kvs) (.im (.str z))) Q:=by unhygienic
 show w1 (x:=.im v) ?_ q;change dg1 kvs (.str z)=_;unfold dg1 nO;dsimp only;rw[h];rfl
def vd(a:(ds.map (·.1)).Nodup)(c:(z,r)∈ds)(q:Q (.im (tRu r))):W1 (gJ [.im (aE w wh ds),.im (.str z)]) Q:=by
 show MK [↥(aE w wh ds),↥(.str z)] rfl rfl rfl ?_;unfold eT;rw[aE];and_intros;show wC a ?_;and_intros;show FT (gv a c) ?_;and_intros;show q
def EB:rds (.op s a b)=rds a++rds b:=by simp[rds,Ru.leaves,IL]
def xP:rds (.cond a b c)=rds a++(rds b++rds c):=by simp[rds,Ru.leaves,IL]
def jw:∀(n:Nat) (r:Ru),r.depth<n->r.leaves.length<=1000->∀{Q:T->Prop},Q (.li ((rds r).map tR2))->W1 (cQ n [.im (tRu r)]) Q
 | 0,r,l,_,Q,q=>absurd l (Me _)
 | n+1,r,l,t,Q,q=>by
  show MK [↥(tRu r),TF,TF] rfl rfl rfl ?_;unfold dR;cases r with
  | num k=>
   rw[tRu];and_intros
   (refine bZ ?_;and_intros;clear_value h)
   .and_intros;show q
   .show absurd rfl h
  | rd x v=>
   rw[tRu];and_intros
   (refine bZ ?_;and_intros;clear_value h)
   .show absurd h (by decide +kernel)
   and_intros
   (refine bZ ?_;and_intros;clear_value i)
   .and_intros;show q
   .show absurd rfl i
  | op s a b=>
   have w:a.depth<n/\b.depth<n:=by dsimp[Ru.depth]at l;lia
   have o:a.leaves.length+b.leaves.length<=1000:=by simpa[Ru.leaves]using t
   have u:=dm a;have A:=dm b;rw[tRu];and_intros
   (refine bZ ?_;and_intros;clear_value h)
   .show absurd h (by decide +kernel)
   and_intros
   (refine bZ ?_;and_intros;clear_value i)
   .show absurd i (by decide +kernel)
   and_intros;show cX (λL:!(Str×!Int)=>[↥(.tup [.str "op",.str s,tRu a,tRu b]),⇑(.li (L.map tR2)),TF]) (λj L=>L=([a,b].take j).flatMap rds) ?_;and_intros;dsimp[decide_true,if_true,Int.reduceAdd];show sW (is:=[.str "op",.str s,tRu a,tRu b]) (show ¬((2:Nat)=0/\4=4) by decide) ?_;show{[a,b].map tRu,Xr,by cbv,[],by cbv,Xr,λj z L d f=>?_,λL f=>?_}
   .rw[Iw]at d;cases e:([a,b]:!Ru)[j]? with
    | none=>rw[e]at d;cases d
    | some y=>
     rw[e]at d;cases d;have g:y=a\/y=b:=by have:=ymG e;exists this
     have m:(rds y).length<=1000:=by rcases g with rfl|rfl<;>lia
     have p:L.length<=1000:=by
      rw[f]
      match j with
      | 0=>simp
      | 1=>simp;lia
      | _+2=>simp;lia
     and_intros;show jw n y (by rcases g with rfl|rfl<;>lia) (by rcases g with rfl|rfl<;>lia) ?_;and_intros;show lm (is:=L.map tR2) (js:=(rds y).map tR2) (by simp;rw[No];lia) ?_;ac_nf;and_intros;show{L++rds y,?_,by rw[f,cy e,Iz];simp};rw[Iu];try cbv
   .rw[Ih,IF (Iq _)]at f;subst f;and_intros;rw[EB]at q;exists q
  | cond a b c=>
   have w:a.depth<n/\b.depth<n/\c.depth<n:=by dsimp[Ru.depth]at l;lia
   have o:a.leaves.length+(b.leaves.length+c.leaves.length)<=1000:=by simpa[Ru.leaves]using t
   have u:=dm a;have A:=dm b;have B:=dm c;rw[tRu];and_intros
   (refine bZ ?_;and_intros;clear_value h)
   .show absurd h (by decide +kernel)
   and_intros
   (refine bZ ?_;and_intros;clear_value i)
   .show absurd i (by decide +kernel)
   and_intros;show cX (λL:!(Str×!Int)=>[↥(.tup [.str "if",tRu a,tRu b,tRu c]),⇑(.li (L.map tR2)),TF]) (λj L=>L=([a,b,c].take j).flatMap rds) ?_;and_intros;rw[show(1+if decide (("if" : Str) = "op")=TK then 1 else 0:Int)=1 by decide +kernel];show sW (is:=[.str "if",tRu a,tRu b,tRu c]) (show ¬((1:Nat)=0/\4=4) by decide) ?_;show{[a,b,c].map tRu,Xr,by cbv,[],by cbv,Xr,λj z L d f=>?_,λL f=>?_}
   .rw[Iw]at d;cases e:([a,b,c]:!Ru)[j]? with
    | none=>rw[e]at d;cases d
    | some y=>
     rw[e]at d;cases d;have g:y=a\/y=b\/y=c:=by have:=ymG e;exists this
     have m:(rds y).length<=1000:=by rcases g with rfl|rfl|rfl<;>lia
     have p:L.length<=1000:=by
      rw[f]
      match j with
      | 0=>simp
      | 1=>simp;lia
      | 2=>simp;lia
      | _+3=>simp;lia
     and_intros;show jw n y (by rcases g with rfl|rfl|rfl<;>lia) (by rcases g with rfl|rfl|rfl<;>lia) ?_;and_intros;show lm (is:=L.map tR2) (js:=(rds y).map tR2) (by simp;rw[No];lia) ?_;ac_nf;and_intros;show{L++rds y,?_,by rw[f,cy e,Iz];simp};rw[Iu];try cbv
   .rw[Ih,IF (Iq _)]at f;subst f;and_intros;rw[xP]at q;exists q
abbrev dI(a b:!Int):!Int:=List.zipWith (· + ·) a b
abbrev tPl(a:!Int):I:=.tup (a.map .int)
abbrev m9(c:Str×!Int):I:=.tup [.str c.1,tPl c.2]
def nr{a b:!Int}{j:Nat}{x y:Int}(c:a[j]?*>x)(d:b[j]?*>y):dI (a.take (j+1)) (b.take (j+1))=dI (a.take j) (b.take j)++[x+y]:=by
 unfold dI;rw[cy c,cy d,LO];rfl
 .have f:=(Ii.mp c).1;have e:=(Ii.mp d).1;rw[IR,IR];lia
def qg:dI (a.take (min a.length b.length)) (b.take (min a.length b.length))=dI a b:=by
 unfold dI;rw[<-List.take_zipWith];rw[IF ∅]
def C7{a b:!Int}(m:a.length<=1000){Q:T->Prop}(q:Q (.im (tPl (dI a b)))):W1 (om [.im (tPl a),.im (tPl b)]) Q:=by
 show MK [↥(tPl a),↥(tPl b)] rfl rfl rfl ?_;unfold ko;and_intros;show qd (λ_:Unit=>[↥(tPl a),↥(tPl b)]) I.int (λj _ l=>l=dI (a.take j) (b.take j)) ?_;and_intros;show{_,_,TJ,TJ,a.map .int,b.map .int,Xr,Xr,Xr,by simp;rw[No];lia,by cbv,(),by cbv,Xr,λj x y _ l h f c=>?_,λ_ l c=>?_}
 .have(i,e,rfl):=aA h;have(g,d,rfl):=aA f;and_intros;show{i+g,(),Xr,by cbv,by rw[c,nr e d]}
 .rw[Ih,Ih]at c;rw[qg]at c;subst c;and_intros;show q
def yO(h:(ds.map (·.1)).Nodup)(f:(z,r)∈ds)(l:r.leaves.length<=22)(d:pl.length<=1000)(q:Q (.li ((ded (rds r)).map λp=>m9 (p.1,dI pl p.2)))):W1 (fk [.im (aE w wh ds),.im (m9 (z,pl))]) Q:=by
 have i:=dm r;have g:=qE (rds r);show MK [↥(aE w wh ds),↥(m9 (z,pl)),TF,TF] rfl rfl rfl ?_;unfold dk;and_intros;show gS (λ_:Unit=>[↥(aE w wh ds),↥(m9 (z,pl)),↥(.str z),↥(tPl pl)]) (λp:Str×!Int=>m9 (p.1,dI pl p.2)) (λj _ L=>L=(ded (rds r)).take j) ?_;and_intros;show vd h f ?_;and_intros;show uc ⋯ ?_;show{(ded (rds r)).map (fe z),Xr,by simp;rw[No];omega,by cbv,(),by cbv,Xr,λj m _ L a c=>?_,λ_ L c=>?_}
 .rw[Iw]at a;cases e:(ded (rds r))[j]? with
  | none=>rw[e]at a;cases a
  | some p=>
   rw[e]at a;cases a;and_intros;show C7 d ?_;and_intros;show{p,(),Xr,by cbv,by rw[c,cy e]}
 .rw[Ih,IF (Iq _)]at c;subst c;and_intros;show q
def zK(h:p∈ded L):p∈L:=by
 have:∀(L a:!(Str×!Int)),p∈L.foldl iR a->p∈a\/p∈L:=by
  intro L
  induction L with
  | nil=>intro a h;show .inl h
  | cons x L c=>
   intro a h;rcases c _ h with h|h
   .unfold iR at h;split at h;show .inl h
    .rcases yaM h with h|h;show .inl h;show .inr (ysM h▸ymS)
   .show .inr (ymC _ h)
 rcases this L [] h with h|h;cases h;show h
abbrev RuL(r:Ru):Prop:=r.leaves.length<=22/\∀x a,Ru.rd x a∈r.leaves->a.length<=1000
abbrev H6(a:!(Str×Ru)):Prop:=a.length<=6/\(a.map (·.1)).Nodup/\∀p∈a,RuL p.2
abbrev SL(a:!(Str×Ru)):!(Str×Str×!Int):=a.flatMap λd=>(ded (rds d.2)).map λp=>(d.1,p)
abbrev fu(R:Str->Ru) (c:Ce):!Ce:=(ded (rds (R c.1))).map λp=>(p.1,dI c.2 p.2)
abbrev gk(R:Str->Ru) (lot:!Ce) (c:Ce):!Ce:=(fu R c).filter λd=>decide (d∈lot)
def yN(R:Str->Ru)(c:Ce):((ded (rds (R c.1))).map λp=>m9 (p.1,dI c.2 p.2))=(fu R c).map ceI:=by
 unfold fu;rw[IN];rfl
def lL(lot:!Ce)(f:Ce->I):gR (lot.map λc=>(ceI c,f c)) []=dcI (eR (lot.map λc=>(c,f c)) []):=by
 rw[show lot.map (λc=>(ceI c,f c))=dcI (lot.map λc=>(c,f c)) by unfold dcI;rw[IN];rfl];show tH _ []
def gY(lot:!Ce)(f:Ce->I)(c:Ce):c∈aF (eR (lot.map λc=>(c,f c)) [])↔c∈lot:=by
 rw[sP];unfold aF;rw[IN];simp
def Bl(lot:!Ce)(f:Ce->I):Val f (eR (lot.map λc=>(c,f c)) []):=Val.sto (λp a=>by have(c,_,rfl):=Is.mp a;rfl) (λp a=>nomatch a)
def vy{w wh:Int}{g:!(Str×Ru)}{lot:!Ce}{R:Str->Ru}(v:(g.map (·.1)).Nodup)(y:∀c∈lot,(c.1,R c.1)∈g/\(R c.1).leaves.length<=22/\c.2.length<=1000)(A:lot.length<=1000000){Q:T->Prop}
  (q:∀L:DC,Val (λc=>.ls ((gk R lot c).map ceI)) L->(∀a∈lot,a∈aF L)->Q (.dq (dcI L))):W1 (dg [.im (aE w wh g),.li (lot.map ceI)]) Q:=by
 show MK [↥(aE w wh g),TH {.vw TF TF,.li (lot.map ceI)},TF] rfl rfl rfl ?_;unfold db;and_intros;show lR ceI (λ_=>.bl TK) ?_;and_intros;show{lot,Xr,gu (by cbv) {by rw[No];omega,λc i=>?_,?_}}
 .show{{_,bC c},?_};and_intros;show{Xr,?_};and_intros;show{Xr,by cbv}
 rw[lL lot λ_=>.bl TK];ac_nf;and_intros;show lR ceI (λc=>.ls ((gk R lot c).map ceI)) ?_;and_intros;show{lot,Xr,gu (by cbv) {by rw[No];omega,λc i=>?_,?_}}
 .show{{_,bC c},?_};have(p,s,r):=y c i;and_intros;show{Xr,?_};ac_nf;show Cm ?_;show eN (λ_:Unit=>[↥(aE w wh g),TF,⇑(.dq (dcI (eR (lot.map λc=>(c,I.bl TK)) []))),↥(ceI c)]) ceI (λj _ l=>l=((fu R c).take j).filter λd=>decide (d∈lot)) ?_;and_intros;show yO v p s r ?_;rw[yN];and_intros;have u:(fu R c).length<=44:=by
   unfold fu;have:=dm (R c.1);have:=qE (rds (R c.1));rw[Ih];omega
  show{(fu R c).map ceI,Xr,by rw[Ih,No];omega,by cbv,(),by cbv,Xr,λj x _ l t h=>?_,λ_ l h=>?_}
  .have(d,m,rfl):=aA t;subst h;and_intros;show sV (bC d) ?_;rw[fS];and_intros;have f:((fu R c).take (j+1))=(fu R c).take j++[d]:=by rw[Jk,m];rfl
   show{λe=>?_,λe=>?_}
   .have e:d∈lot:=(gY lot _ d).mp (of_decide_eq_true e);and_intros;show{d,(),Xr,by cbv,by rw[f,IY];simp[e]}
   .have e:d∉lot:=λz=>(of_decide_eq_false e) ((gY lot _ d).mpr z);show{(),by cbv,by rw[f,IY];simp[e]}
  .rw[Ih,Ji]at h;subst h;show{_,Xr,Xr,by cbv}
 .rw[lL lot λc=>.ls ((gk R lot c).map ceI)];and_intros;show q _ (Bl _ _) λa o=>(gY lot _ a).mpr o
def mP{w wh:Int}{g:!(Str×Ru)}{lot:!Ce}{R:Str->Ru}{s:Ce}(u:(g.map (·.1)).Nodup)(v:∀c∈lot,(c.1,R c.1)∈g/\(R c.1).leaves.length<=22/\c.2.length<=1000)(i:lot.length<=1000000)(hs:s∈lot){Q:T->Prop}
  (q:∀p:Ce->Bool,(∀c,p c=TK↔Rch (gk R lot) s c)->Q (.li ((lot.filter p).map ceI))):W1 (fY [.im (aE w wh g),.li (lot.map ceI),.im (ceI s)]) Q:=by
 show MK [↥(aE w wh g),TH {.vw TF TF,.li (lot.map ceI)},↥(ceI s),TF] rfl rfl rfl ?_;unfold fU;and_intros;show vy u v i λL o y=>?_;and_intros;show za hs (λa _ b e=>of_decide_eq_true (Ix.mp e).2) i o y λD r=>?_;ac_nf;and_intros;show eN (λ_:Unit=>[↥(aE w wh g),TH {.vw TF TF,.li (lot.map ceI)},↥(ceI s),⇑(.dq (dcI D))]) ceI (λj _ l=>l=(lot.take j).filter λd=>decide (d∈aF D)) ?_;and_intros;show{lot.map ceI,Xr,by rw[Ih,No];omega,by cbv,(),by cbv,Xr,λj x _ l t h=>?_,λ_ l h=>?_}
 .have(d,m,rfl):=aA t;subst h;and_intros;show sV (bC d) ?_;rw[fS];and_intros;have f:lot.take (j+1)=lot.take j++[d]:=by rw[Jk,m];rfl
  show{λe=>?_,λe=>?_}
  .have e:d∈aF D:=of_decide_eq_true e;and_intros;show{d,(),Xr,by cbv,by rw[f,IY];simp[e]}
  .have e:d∉aF D:=of_decide_eq_false e;show{(),by cbv,by rw[f,IY];simp[e]}
 .rw[Ih,Ji]at h;subst h;and_intros;show q (λd=>decide (d∈aF D)) λc=>by rw[decide_eq_true_eq];show r c
def y6{w wh:Int}{a:!(Str×Ru)}{r:Ru}{c:Ce}(o:(a.map (·.1)).Nodup)(z:(c.1,r)∈a)(H:r.leaves.length<=22)(s:r.depth<24)(t:c.2.length<=1000){Q:T->Prop}(q:Q (.li ((rds r).map λp=>ceI (p.1,dI c.2 p.2)))):W1 (lB [.im (aE w wh a),.im (ceI c)]) Q:=by
 have E:=dm r;show MK [↥(aE w wh a),↥(ceI c),TF,TF,TF,TF] rfl rfl rfl ?_;unfold iY;and_intros;show wC o ?_;and_intros;show FT (gv o z) ?_;ac_nf;and_intros;show cX (λL:!Ce=>[↥(aE w wh a),↥(ceI c),↥(tRu r),⇑(.li (L.map ceI)),TF,TF]) (λj L=>L=((rds r).take j).map λp=>(p.1,dI c.2 p.2)) ?_;and_intros;show jw 24 r s ⋯ ?_;show{(rds r).map tR2,Xr,by cbv,[],by cbv,Xr,λj x L h e=>?_,λL e=>?_}
 .have(p,B,rfl):=aA h;subst e;and_intros;show qd (λ_:Unit=>[↥(aE w wh a),↥(ceI c),↥(tRu r),⇑(.li ((((rds r).take j).map λp=>((p.1,dI c.2 p.2):Ce)).map ceI)),↥(.str p.1),↥(tPl p.2)]) I.int (λi _ l=>l=dI (c.2.take i) (p.2.take i)) ?_;and_intros;have G:((rds r).take j).length<=22:=by rw[IR];omega
  show{_,_,TJ,TJ,c.2.map .int,p.2.map .int,Xr,Xr,Xr,by simp;rw[No];omega,by cbv,(),by cbv,Xr,λi x y _ l h u d=>?_,λ_ l d=>?_}
  .have(A,m,rfl):=aA h;have(v,g,rfl):=aA u;and_intros;show{A+v,(),Xr,by cbv,by rw[d,nr m g]}
  .rw[Ih,Ih]at d;rw[qg]at d;subst d;and_intros;show cj (is:=(((rds r).take j).map λp=>((p.1,dI c.2 p.2):Ce)).map ceI) (by rw[Ih,Ih,No];omega) ?_;ac_nf;and_intros;show{((rds r).take j).map (λp=>((p.1,dI c.2 p.2):Ce))++[(p.1,dI c.2 p.2)],by rw[Iu (f:=ceI)];cbv,?_};rw[cy B,Iu];rfl
 .rw[Ih,IF (Iq _)]at e;subst e;and_intros;rw[IN];show q
def D9(c:Ce):rB (.tup [ceI c,.bl TK])*>(ceI c,.bl TK):=by
 change(cb (ceI c)).map (λ_=>(ceI c,I.bl TK))=_;rw[bC];rfl
def ll{L:!Ce}{Q:T->Prop}(q:Q (.dq (dcI (eR (L.map λc=>(c,.bl TK)) [])))):W1 (gt [.li (L.map λc=>.tup [ceI c,.bl TK])]) Q:=by
 show zZ (l:=L.map λc=>(ceI c,.bl TK)) ?_ (by rw[lL L λ_=>.bl TK];show q);clear q
 induction L with
 | nil=>rfl
 | cons c L a=>rw[Io,iN,D9,a];rfl
abbrev dr(R:Str->Ru) (c:Ce):!Ce:=(rds (R c.1)).map λp=>(p.1,dI c.2 p.2)
def sy:∀(L a:!(Str×!Int)) {p:Str×!Int},p∈a\/p∈L->p∈L.foldl iR a
 | [],_,_,h=>h.resolve_right λz=>nomatch z
 | x::L,a,p,h=>by
  show sy L (iR a x) ?_;unfold iR;rcases h with h|h
  .show .inl ?_;split;show h;show yaL _ h
  .rcases ycM h with rfl|h
   .show .inl ?_;split;assumption;simp
   .show .inr h
def M2{R:Str->Ru}{lot:!Ce}{c d:Ce}:d∈gk R lot c↔d∈dr R c/\d∈lot:=by
 unfold gk fu dr;rw[Ix,decide_eq_true_iff,Is,Is];show{fun⟨⟨p,e,a⟩,f⟩=>{{p,zK e,a},f},fun⟨⟨p,e,a⟩,f⟩=>{{p,sy _ _ (.inr e),a},f}}
def k9{lot:!Ce}{D D':DC}(h:∀c∈aF D,c∈aF D'):bB lot D'<=bB lot D:=by
 unfold bB;rw[<-KP,<-KP];show List.countP_mono_left λx _ z=>decide_eq_true λy=>of_decide_eq_true z (h x y)
def zE{lot:!Ce}{D D':DC}{c:Ce}(h:∀c∈aF D,c∈aF D')(f:c∈lot)(g:c∈aF D')(e:c∉aF D):bB lot D'<bB lot D:=
 Js (k9 (D:=cL D c .non) λd a=>(MM.mp a).elim (h d) λz=>z▸g) (k8 f e)
def jg{lot:!Ce}:∀(L D:DC),(∀p∈L,p.1∈lot)->(eR L D).length+bB lot (eR L D)<=D.length+bB lot D
 | [],_,_=>Iq _
 | p::L,D,h=>by
  show IS (jg L (cL D p.1 p.2) λq f=>h q (ymC _ f)) ?_;by_cases e:p.1∈aF D
  .have g:(cL D p.1 p.2).length=D.length:=by unfold cL;rw[if_pos e,Ih]
   have a:=k9 (lot:=lot) (D:=D) (D':=cL D p.1 p.2) λc d=>MM.mpr (.inl d);omega
  .have g:=sR (D:=D) (c:=p.1) (v:=p.2);have a:=k8 (v:=p.2) (h p ymS) e;omega
def C0(D:DC):(dcI D).map (·.1)=(aF D).map ceI:=by
 unfold dcI aF;rw[IN,IN];rfl
def ul(a:↑R):bA [] a=a:=by
 rcases a with _|⟨k,t⟩;rfl
 .cases k with
  | vw o p=>cases o<;>unhygienic rfl
  | _=>unhygienic rfl
def wB{a0 g d f c h a i j p l r m o q s:↑R}:ci [TF,TF,TF,TF,TF,TF,TF,TF] [7] [j,p,l,r,m,o,q,s] [a0,g,d,f,c,h,a,i]=[a0,g,d,f,c,h,a,i]:=by
 have e:ci [TF,TF,TF,TF,TF,TF,TF,TF] [7] [j,p,l,r,m,o,q,s] [a0,g,d,f,c,h,a,i]=[bA [] a0,bA [] g,bA [] d,bA [] f,bA [] c,bA [] h,bA [] a,bA [] i]:=by unhygienic rfl
 rw[e];dsimp[ul]
def oK{k:Nat}{a0 o g f h p e m:↑R}{L:!Ce}{r0:R}{a:R->Rho->Prop}(t:[a0,o,g,f,h,p,e,m][k]?*>(TH r0))(s:ef (rdR k r0)*>((L.map ceI).map λi=>{.ow,.im i}))(v:L.length<=10000000)(q:a {.ow,.li (L.map λc=>.tup [ceI c,.bl TK])} [a0,o,g,f,h,p,e,m]):WE (aM [TF,TF,TF,TF,TF,TF,TF,TF] (mIt (af k)) (ae 7) mYes (av [7] (ac 7 (aa (mC (.bl TK)) mNil)))) [a0,o,g,f,h,p,e,m] a:=by
 show gS (λ_:Unit=>[a0,o,g,f,h,p,e,m]) (λc:Ce=>.tup [ceI c,.bl TK]) (λj _ l=>l=L.take j) (fM t ?_);show{L.map ceI,s,by rw[Ih,No];omega,by unhygienic show bH,(),by cbv,Xr,λj x _ l u d=>?_,λ_ l d=>?_}
 .have(c,r,rfl):=aA u;subst d;and_intros;show{c,(),by cbv,by unhygienic show wB,by rw[Jk,r];rfl}
 .rw[Ih,Ji]at d;subst d;show q
def fF:∀row:!Int,I.doks (row.map I.int)=TK/\I.deps (row.map I.int)=0
 | []=>⟨Xr,Xr⟩
 | x::row=>{by rw[Io,I.doks,(fF row).1];rfl,by rw[Io,I.deps,(fF row).2];rfl}
def cB:∀l:!Ce,I.doks (l.map ceI)=TK/\I.deps (l.map ceI)<=50
 | []=>{Xr,by decide}
 | c::l=>by
  have a:=cB l;have d:(ceI c).dok=TK/\(ceI c).dep<=50:=by
   show{?_,?_};dsimp[ceI,I.dok,I.doks,(fF c.2).1];rfl;dsimp[ceI,I.dep,I.deps,(fF c.2).2];decide
  show{by rw[Io,I.doks,a.1,d.1];rfl,by rw[Io,I.deps];omega}
def qA(c:Ce):I.doks [.str c.1,.tup (c.2.map .int)]=TK/\I.deps [.str c.1,.tup (c.2.map .int)]<=50:=by
 show{?_,?_};dsimp[I.dok,I.doks,(fF c.2).1];rfl;dsimp[I.dep,I.deps,(fF c.2).2];decide
section
variable {is js:!I}{Q:T->Prop}
def BR(h:I.doks is=TK/\I.doks js=TK/\I.deps is<=50)(q:Q (.im (.bl (~~~decide (is=js))))):W1 (neT (.li is) (.li js)) Q:={_,by dsimp[neT,eqB,eqL];rw[if_pos h];rfl,q}
def DP(h:I.doks is=TK/\I.doks js=TK/\I.deps is<=50)(q:Q (.im (.bl (~~~decide (is=js))))):W1 (neT (.li is) (.im (.ls js))) Q:={_,by dsimp[neT,eqB,eqL,lsI,Jh];rw[if_pos h];rfl,q}
def DO(h:I.doks is=TK/\I.doks js=TK/\I.deps is<=50)(q:Q (.im (.bl (~~~decide (is=js))))):W1 (neT (.im (.ls is)) (.li js)) Q:={_,by dsimp[neT,eqB,eqL,lsI,Jh];rw[if_pos h];rfl,q}
def FW(h:I.doks is=TK/\I.doks js=TK/\I.deps is<=50)(q:Q (.im (.bl (decide (is=js))))):W1 (eqT (.li is) (.li js)) Q:={_,by dsimp[eqT,eqB,eqL];rw[if_pos h];rfl,q}
def Dz(h:I.doks is=TK/\I.doks js=TK/\I.deps is<=50)(q:Q (.im (.bl (decide (is=js))))):W1 (eqT (.im (.tup is)) (.im (.tup js))) Q:={_,by dsimp[eqT,eqB,eqI];rw[if_pos h];rfl,q}
def DM(q:Q (.li is)):W1 (pf [.im (.ls is)]) Q:=by unhygienic show{_,Xr,q}
def DH(q:Q (.im (.int is.length))):W1 (cY [.im (.ls is)]) Q:=by unhygienic show{_,Xr,q}
end
def zb{w wh:Int}{A:!(Str×Ru)}{lot:!Ce}{R:Str->Ru}{s:Ce}(hn:(A.map (·.1)).Nodup)(hR:∀c∈lot,(c.1,R c.1)∈A/\(R c.1).leaves.length<=22/\(R c.1).depth<24/\c.2.length<=1000)(hl:lot.length<=100000)(hs:s∈lot){Q:T->Prop}
  (q:∀p:Ce->Bool,(∀c,p c=TK↔Rch (gk R lot) s c)->Q (.li ((lot.filter p).map ceI))):W1 (iG [.im (aE w wh A),.im (.ls (lot.map ceI)),.im (ceI s)]) Q:=by
 show MK [↥(aE w wh A),↥(.ls (lot.map ceI)),↥(ceI s),TF,TF,TF,TF,TF] rfl rfl rfl ?_;unfold iC;and_intros;show oK (L:=lot) rfl rfl ⋯ ?_;and_intros;show ll ?_;have hI:=gY lot λ_=>I.bl TK;generalize eR (lot.map λc=>(c,I.bl TK)) []=J at hI|-;ac_nf;and_intros;show Ia rfl (bC s) ?_;ac_nf;and_intros;show gT (λz:DC×!Ce=>[↥(aE w wh A),↥(.ls (lot.map ceI)),↥(ceI s),⇑(.dq (dcI J)),⇑(.dq (dcI z.1)),⇑(.li (z.2.map ceI)),TF,TF]) (λz=>s∈aF z.1/\(∀c∈aF z.1,Rch (gk R lot) s c/\c∈lot/\(c∈z.2 \/ ∀b∈gk R lot c,b∈aF z.1))/\(∀c∈z.2,c∈aF z.1)/\z.1.length+bB lot z.1<=lot.length+1/\z.2.length<=lot.length+1) (λz=>2*bB lot z.1+(if z.2=[]then 0 else 1)) ([(s,.bl TK)],[s]) (by cbv) {JD.mpr rfl,λc h=>by cases ysM h;show{.start,hs,.inl ymS},λc h=>h,by have:=kh lot [(s,.bl TK)];simp;omega,by simp} λz hz=>?_;have(D,g):=z;have(h1,M,h3,h4,h5):=hz;dsimp only at h1 M h3 h4 h5|-;and_intros;show BR {(cB g).1,Xr,(cB g).2} ?_;and_intros;clear_value O
 .and_intros;show cX (λf:!Ce=>[↥(aE w wh A),↥(.ls (lot.map ceI)),↥(ceI s),⇑(.dq (dcI J)),⇑(.dq (dcI D)),⇑(.li (g.map ceI)),⇑(.li (f.map ceI)),TF]) (λj f=>f.length<=22*j/\(∀d∈f,d∈lot/\d∉aF D/\∃c∈g,d∈dr R c)/\∀c∈g.take j,∀d∈dr R c,d∈lot->d∉aF D->d∈f) ?_;and_intros;show{g.map ceI,Xr,by cbv,[],by cbv,{Jm _,λd m=>(nomatch m),λc h=>by simp at h},λj x f hx r=>?_,λf r=>?_}
  .have(c,h,rfl):=aA hx;have(g1,B,Y):=r;have hcm:=ymG h;have hjl:=(Ii.mp h).1;have(e1,e2,e3,e4):=hR c (M c (h3 c hcm)).2.1;have hal:(dr R c).length<=22:=by unfold dr;rw[Ih];show IS (dm _) e2
   and_intros;show eN (λ_:Unit=>[↥(aE w wh A),↥(.ls (lot.map ceI)),↥(ceI s),⇑(.dq (dcI J)),⇑(.dq (dcI D)),⇑(.li (g.map ceI)),⇑(.li (f.map ceI)),↥(ceI c)]) ceI (λi _ l=>l=((dr R c).take i).filter λd=>decide (d∈lot/\d∉aF D)) ?_;and_intros;show y6 hn e1 e2 e3 e4 ?_;rw[show((rds (R c.1)).map λp=>ceI (p.1,dI c.2 p.2))=(dr R c).map ceI by unfold dr;rw[IN];rfl];and_intros;show{(dr R c).map ceI,Xr,by rw[Ih,No];omega,by cbv,(),by cbv,Xr,λi x _ l hx r=>?_,λ_ l r=>?_}
   .have(d,m,rfl):=aA hx;subst r;have t:((dr R c).take (i+1))=(dr R c).take i++[d]:=by rw[Jk,m];rfl
    and_intros;show sV (bC d) ?_;rw[fS];and_intros;clear_value y
    .have y:=(hI d).mp y;and_intros;show wH (bC d) ?_;rw[fS];and_intros;clear_value hj
     .and_intros;show{d,(),Xr,by cbv,by rw[t,IY];simp[y,hj]}
     .show{(),by cbv,by rw[t,IY];simp[hj]}
    .have y:d∉lot:=λz=>y ((hI d).mpr z);show spF {(),by cbv,by rw[t,IY];simp[y]}
   .rw[Ih,Ji]at r;subst r;have hfl:((dr R c).filter λd=>decide (d∈lot/\d∉aF D)).length<=22:=IS (Ly _ _) hal;and_intros;show lm (is:=f.map ceI) (js:=((dr R c).filter λd=>decide (d∈lot/\d∉aF D)).map ceI) (by rw[Ih,Ih,No];omega) ?_;rw[<-Iu];ac_nf;and_intros;show{f++(dr R c).filter λd=>decide (d∈lot/\d∉aF D),by cbv,by rw[Ip];omega,λd m=>?_,λc' o d m hdl hdn=>?_}
    .rcases yaM m with m|m;show B d m
     .have(G,E):=Ix.mp m;have E:=of_decide_eq_true E;show⟨E.1,E.2,c,hcm,G⟩
    .rw[Jk,h]at o;rcases yaM o with o|o;show yaL _ (Y c' o d m hdl hdn)
     .cases ysM (show c'∈[c]from o);show yaR _ (Ix.mpr {m,decide_eq_true ⟨hdl,hdn⟩})
  .have(g1,B,Y):=r;rw[Ih]at g1 Y;rw[Ji]at Y;and_intros;show oK (L:=f) rfl rfl ⋯ ?_;and_intros;show ll ?_;have H:=gY f λ_=>I.bl TK;have Z:=jg (lot:=lot) (f.map λc=>(c,I.bl TK)) [] λp X=>by
    have(c,h,rfl):=Is.mp X;show(B c h).1
   have hl0:=kh lot [];generalize eR (f.map λc=>(c,I.bl TK)) []=N at H Z|-;rw[Ko]at Z;have hkl:(aF N).length=N.length:=Ih _;and_intros;show z6 ?_;rw[C0];ac_nf;and_intros;show oK (L:=aF N) rfl rfl ⋯ ?_;and_intros;show ll ?_;have hU:=gY (aF N) λ_=>I.bl TK;have hUl:=jg (lot:=lot) ((aF N).map λc=>(c,I.bl TK)) [] λp X=>by
    have(c,h,rfl):=Is.mp X;show(B c ((H c).mp h)).1
   generalize eR ((aF N).map λc=>(c,I.bl TK)) []=U at hU hUl|-;rw[Ko]at hUl;have u:∀c,c∈aF U↔c∈f:=λc=>(hU c).trans (H c);and_intros;show DV (kvs:=dcI D) (more:=dcI U) (λz=>by
    cases D with
    | nil=>cases h1
    | cons a b=>cases z) (by unfold dcI;rw[Ih,Ih,No];omega) ?_
   rw[tH];ac_nf;and_intros;have hD:=jg (lot:=lot) U D λp X=>(B p.1 ((u p.1).mp (Is.mpr ⟨p,X,Xr⟩))).1;have v:=sP U D;show{(eR U D,aF N),by cbv,?_,(v s).mpr (.inl h1),λc h=>?_,λc h=>(v c).mpr (.inr ((u c).mpr ((H c).mp h))),by change(eR U D).length+bB lot (eR U D)<=_;omega,by change(aF N).length<=_;omega}
   .change 2*bB lot (eR U D)+(if aF N=[]then 0 else 1)<2*bB lot D+(if g=[]then 0 else 1);have hm:g≠[]:=λz=>O (by rw[z];rfl);rw[if_neg hm];have hle:=k9 (lot:=lot) (D:=D) (D':=eR U D) λc h=>(v c).mpr (.inl h);by_cases e:aF N=[];rw[if_pos e];omega
    .rw[if_neg e];have(c,h):=List.exists_mem_of_ne_nil _ e;have h:=(H c).mp h;have:=zE (lot:=lot) (D:=D) (D':=eR U D) (c:=c) (λc h=>(v c).mpr (.inl h)) (B c h).1 ((v c).mpr (.inr ((u c).mpr h))) (B c h).2.1;omega
   .by_cases hcd:c∈aF D
    .have(G,E,k3):=M c hcd;show{G,E,.inr λb hb=>?_};rcases k3 with k|k
     .have(b1,b2):=M2.mp hb;by_cases hbd:b∈aF D;show(v b).mpr (.inl hbd);show(v b).mpr (.inr ((u b).mpr (Y c k b b1 b2 hbd)))
     .show(v b).mpr (.inl (k b hb))
    .have S:=(u c).mp (((v c).mp h).resolve_left hcd);have(G,E,a,ha,k3):=B c S;show{.step (M a (h3 a ha)).1 (M2.mpr ⟨k3,G⟩),G,.inl ((H c).mpr S)}
 .have:g=[]:=by cases g<;>first|rfl|cases O
  subst this;and_intros;show eN (λ_:Unit=>[↥(aE w wh A),↥(.ls (lot.map ceI)),↥(ceI s),⇑(.dq (dcI J)),⇑(.dq (dcI D)),⇑(.li (([]:!Ce).map ceI)),TF,TF]) ceI (λi _ l=>l=(lot.take i).filter λd=>decide (d∈aF D)) ?_;and_intros;show{lot.map ceI,Xr,by rw[Ih,No];omega,by cbv,(),by cbv,Xr,λi x _ l hx r=>?_,λ_ l r=>?_}
  .have(d,m,rfl):=aA hx;subst r;have t:lot.take (i+1)=lot.take i++[d]:=by rw[Jk,m];rfl
   and_intros;show sV (bC d) ?_;rw[fS];and_intros;clear_value y
   .and_intros;show{d,(),Xr,by cbv,by rw[t,IY];simp[y]}
   .show{(),by cbv,by rw[t,IY];simp[y]}
  .rw[Ih,Ji]at r;subst r;and_intros;show q _ λc=>{λh=>(M c (of_decide_eq_true h)).1,λhr=>decide_eq_true (hr.within h1 λa b ha hb=>?_)};show((M a ha).2.2.resolve_left λz=>nomatch z) b hb
def sE{ns:!Int}{k:Int}(o:ns.length<=1000)(h:0<=k)(l:k<=1000000){Q:T->Prop}(q:∀f,Q (fT f)):W1 (je [.li (ns.map .int),.im (.int k)]) Q:=by
 show MK [TH {.vw TF TF,.li (ns.map .int)},↥(.int k),TF,TF] rfl rfl rfl ?_;unfold iZ;and_intros;show WS.mono (Q:=λc O=>c=.nx/\∃cell:Int,O=[TH {.vw TF TF,.li (ns.map .int)},↥(.int k),↥(.int cell),TF]) ?_ ?_
 ·(refine bZ ?_;and_intros;clear_value d)
  .rw[Ih]at d;and_intros;show bn (ns:=ns) h d λy g _=>?_;and_intros;show{by trivial,y,by first|trivial|cbv}
  ·(refine bZ ?_;and_intros;clear_value e)
   .rw[Ih]at e;and_intros;rw[Ih];show wF ⋯ ?_;and_intros;show bn (ns:=ns) (JV _ ⋯) (JF _ ⋯) λy g _=>?_;and_intros;show{by trivial,_,by first|trivial|cbv}
   .and_intros;show{by trivial,_,by first|trivial|cbv}
 rintro c O ⟨rfl,cell,rfl⟩;and_intros;show WS.mono (Q:=λc O=>c=.nx/\∃a:Int,O=[TH {.vw TF TF,.li (ns.map .int)},↥(.int k),↥(.int cell),↥(.int a)]) ?_ ?_
 .show bZ ?_;and_intros;show BU {by omega,by omega,by decide} ?_;and_intros;clear_value i
  .and_intros;show{by trivial,_,by first|trivial|cbv}
  .and_intros;show{by trivial,_,by first|trivial|cbv}
 rintro c O ⟨rfl,a,rfl⟩;and_intros;have m:=JV cell (show(2147483629:Int)≠0 by omega);have j:=JF cell (show(0:Int)<2147483629 by omega);show BU {by omega,by omega,by omega} ?_;and_intros;show q (a,_)
def yf{e f:!Int}(L:e.length<=3)(A:∀x∈e,0<=x/\x<=9){Q:T->Prop}(q:∀a:! !Int,a.length<=729->(∀p∈a,p.length<=3)->Q (.li (a.map tPl))):W1 (jJ [.li (e.map .int),.li (f.map .int)]) Q:=by
 show MK [TH {.vw TF TF,.li (e.map .int)},TH {.vw TF TF,.li (f.map .int)},TF,TF,TF,TF,TF] rfl rfl rfl ?_;unfold h9;and_intros;show Bn (λa:! !Int=>[TH {.vw TF TF,.li (e.map .int)},TH {.vw TF TF,.li (f.map .int)},⇑(.li (a.map tPl)),TF,TF,TF,TF]) (λj a=>a.length<=9^j/\∀p∈a,p.length<=j) ?_;and_intros;show{_,_,TK,TK,e.map .int,f.map .int,Xr,Xr,Xr,by cbv,[[]],by cbv,{by decide,by simp},λj x y a s z g=>?_,λa g=>?_}
 .have(n,v,rfl):=aA s;have(b,G,rfl):=aA z;have(m,o):=g;have E:=A n (ymG v);have M:=(Ii.mp v).1;have B:a.length<=81:=IS m (LH (by decide) (show j<=2 by omega));and_intros;show cX (λl:! !Int=>[TH {.vw TF TF,.li (e.map .int)},TH {.vw TF TF,.li (f.map .int)},⇑(.li (a.map tPl)),↥(.int n),↥(.int b),⇑(.li (l.map tPl)),TF]) (λi l=>l.length<=9*i/\∀p∈l,p.length<=j+1) ?_;and_intros;show{a.map tPl,Xr,by cbv,[],by cbv,{Jm _,λp c=>nomatch c},λi x l s g=>?_,λl g=>?_}
  .have(p,c,rfl):=aA s;have(u,r):=g;have w:=o p (ymG c);have H:=(Ii.mp c).1;and_intros;show bD (λ_:Unit=>[TH {.vw TF TF,.li (e.map .int)},TH {.vw TF TF,.li (f.map .int)},⇑(.li (a.map tPl)),↥(.int n),↥(.int b),⇑(.li (l.map tPl)),↥(tPl p)]) tPl (λk _ h=>h.length=k/\∀p∈h,p.length<=j+1) ?_;and_intros;show{{by omega,by omega},by cbv,(),by cbv,{Xr,λp c=>nomatch c},λk _ h J d=>?_,λ_ h d=>?_}
   .and_intros;show Dx (is:=p.map .int) (js:=[.int (b+(k:Int))]) (by rw[Ih,No];change p.length+1<=_;omega) ?_;show{p++[b+(k:Int)],(),by simp[tPl],by cbv,by rw[Ip,d.1];rfl,aU d.2 (by rw[Ip];change p.length+1<=_;omega)}
   .and_intros;show lm (is:=l.map tPl) (js:=h.map tPl) (by rw[Ih,Ih,No];omega) ?_;rw[<-Iu];ac_nf;and_intros;show{l++h,by cbv,by rw[Ip];omega,λp c=>?_};show(yaM c).elim (r p) (d.2 p)
  .have(u,r):=g;rw[Ih]at u;and_intros;ac_nf;show{l,by cbv,by rw[Nat.pow_succ];omega,r}
 .have(m,o):=g;rw[Ih]at m o;have t:min e.length (f.map I.int).length<=3:=by omega
  and_intros;show q a (IS m (LH (by decide) t)) λp c=>IS (o p c) t
def qH{a c:Type}{f : a->c}{l:!a}{n:Nat}:(l.map f).eraseIdx n=(l.eraseIdx n).map f:=by
 rw[Kx,Kx,Iu,Km,KD]
abbrev iM(a:!(Str×Ru))(lot:!Ce):Prop:=∀c∈lot,c.1∈a.map (·.1)/\c.2.length<=3
def C8{w wh:Int}{e:!(Str×Ru)}{f:Int×Int}(hw:1<=w/\w<=3)(J:e.length<=6){Q:T->T->Prop}(q:∀lot f',lot.length<=4374->iM e lot->Q (.li (lot.map ceI)) (fT f')):W2 (oh [fT f,.im (aE w wh e)]) Q:=by
 show MR [TH {.io 0,fT f},↥(aE w wh e),TF,TF,TF,TF,TF,TF,TF] rfl rfl rfl ?_;unfold km;rw[aE];and_intros;show ao ⋯ ⋯ λa f a1 b1=>?_;ac_nf;and_intros;show bn (ns:=[9,4,3]) ⋯ (by change w-1<3;omega) λy hy _=>?_;have hy:3<=y/\y<=9:=by simp at hy;omega
 and_intros;have Y:∀b:Bool,0<=(if b then 1 else 0:Int)/\(if b then 1 else 0:Int)<=1:=λb=>by cases b<;>decide
 have Y:=Y (decide ((3:Int)<((e.map gn).length:Int)));generalize (if(decide ((3:Int)<((e.map gn).length:Int)))=TK then 1 else 0:Int)=kk at *;ac_nf;and_intros;show bD (λf:Int×Int=>[TH {.io 0,fT f},↥(aE w wh e),↥(.int a),↥(.int (y-kk)),TF,TF,TF,TF,TF]) I.int (λj _ i=>i.length=j/\∀x∈i,0<=x/\x<=9) ?_;and_intros;show{{by omega,by omega},by cbv,f,by cbv,{Xr,λx s=>nomatch s},λj f i hj h=>?_,λf t h=>?_}
 .and_intros;show ao ⋯ ⋯ λd f o r=>?_;ac_nf;and_intros;show{1+d,f,Xr,by cbv,by rw[Ip,h.1];rfl,aU h.2 {by omega,by omega}}
 have(s1,s2):=h;ac_nf;and_intros;show bD (λf:Int×Int=>[TH {.io 0,fT f},↥(aE w wh e),↥(.int a),↥(.int (y-kk)),⇑(.li (t.map .int)),TF,TF,TF,TF]) I.int (λj _ i=>True) ?_;rw[aE];and_intros;show{{by omega,by omega},by cbv,f,by cbv,trivial,λj f i hj h=>?_,λf E h=>?_}
 .and_intros;have u:∀b:Bool,0<=(if b then 1 else 0:Int)/\(if b then 1 else 0:Int)<2:=λb=>by cases b<;>decide
  have u:=u (decide (a=3));show bn (ns:=[5,1901]) u.1 u.2 λm hm _=>?_;have hm:5<=m/\m<=1901:=by simp at hm;omega
  and_intros;show ao ⋯ ⋯ λd f o r=>?_;ac_nf;and_intros;show bn (ns:=[2,950]) u.1 u.2 λm2 hm2 _=>?_;and_intros;show{d-m2,f,Xr,by cbv,trivial}
 ac_nf;and_intros;show cX (λl:!Ce=>[TH {.io 0,fT f},↥(aE w wh e),↥(.int a),↥(.int (y-kk)),⇑(.li (t.map .int)),⇑(.li (E.map .int)),⇑(.li (l.map ceI)),TF,TF]) (λj l=>l.length<=6*j/\iM e l) ?_;and_intros;show yf ⋯ s2 λps hp1 N=>?_;show{ps.map tPl,Xr,by cbv,[],by cbv,{Jm _,λc g=>nomatch g},λj x l s h=>?_,λlot h=>?_}
 .have(p,Z,rfl):=aA s;have(X,H):=h;have hj:=(Ii.mp Z).1;have U:=N p (ymG Z);and_intros;show gS (λ_:Unit=>[TH {.io 0,fT f},↥(aE w wh e),↥(.int a),↥(.int (y-kk)),⇑(.li (t.map .int)),⇑(.li (E.map .int)),⇑(.li (l.map ceI)),↥(tPl p),TF]) ceI (λk _ L=>L.length=k/\iM e L) ?_;rw[aE];and_intros;show{e.map gn,Xr,by rw[Ih,No];omega,by cbv,(),by cbv,{Xr,λc g=>nomatch g},λk x _ L s v=>?_,λ_ L v=>?_}
  .have(d,J,rfl):=aA s;rw[gn];and_intros;show{(d.1,p),(),by cbv,by cbv,by rw[Ip,v.1];rfl,aU v.2 {Is.mpr {d,ymG J,Xr},U}}
  .rw[Ih]at v;and_intros;show lm (is:=l.map ceI) (js:=L.map ceI) (by rw[Ih,Ih,No];omega) ?_;rw[<-Iu];ac_nf;and_intros;show{l++L,by cbv,by rw[Ip];omega,λc g=>?_};show(yaM g).elim (H c) (v.2 c)
 have(X,H):=h;rw[Ih]at X;and_intros;show WS.mono (Q:=λfl O=>fl=.nx/\∃(f:Int×Int) (l:!Ce),l.length<=4374/\iM e l/\O=[TH {.io 0,fT f},↥(aE w wh e),↥(.int a),↥(.int (y-kk)),⇑(.li (t.map .int)),⇑(.li (E.map .int)),⇑(.li (l.map ceI)),TF,TF]) ?_ ?_
 ·(refine bZ ?_;and_intros;clear_value hf)
  .and_intros;show eN (λf:Int×Int=>[TH {.io 0,fT f},↥(aE w wh e),↥(.int a),↥(.int (y-kk)),⇑(.li (t.map .int)),⇑(.li (E.map .int)),⇑(.li (lot.map ceI)),TF,TF]) ceI (λj _ l=>l.length<=j/\iM e l) ?_;and_intros;show{lot.map ceI,Xr,by rw[Ih,No];omega,by cbv,f,by cbv,{Jm _,λc g=>nomatch g},λj x f l s h=>?_,λf l h=>?_}
   .have(c,g,rfl):=aA s;and_intros;show ao ⋯ ⋯ λd f o r=>?_;ac_nf;and_intros;clear_value J
    .and_intros;show{c,f,Xr,by cbv,by rw[Ip];show KA h.1,aU h.2 (H c (ymG g))}
    .show{f,by cbv,L5 h.1,h.2}
   .rw[Ih]at h;and_intros;show{by trivial,f,l,by omega,h.2,by first|trivial|cbv}
  .and_intros;show{by trivial,f,lot,by omega,H,by first|trivial|cbv}
 rintro fl O ⟨rfl,f,l,hl,S,rfl⟩;and_intros;show gT (λz:(Int×Int)×!Ce×!Ce=>[TH {.io 0,fT z.1},↥(aE w wh e),↥(.int a),↥(.int (y-kk)),⇑(.li (t.map .int)),⇑(.li (E.map .int)),⇑(.li (z.2.1.map ceI)),TF,⇑(.li (z.2.2.map ceI))]) (λz=>z.2.1.length+z.2.2.length<=4374/\iM e z.2.1/\iM e z.2.2) (λz=>z.2.1.length) (f,l,[]) (by cbv) {hl,S,λc g=>nomatch g} λz hz=>?_;have(f,l,A):=z;have(h1,B,G):=hz;dsimp only at h1 B G|-;and_intros;clear_value M
 .rw[Ih]at M;and_intros;clear_value hf0
  .and_intros;rw[Ih];show ao ⋯ ⋯ λd f o r=>?_;ac_nf;and_intros;obtain⟨c,g⟩:∃c,l[d.toNat]?*>c:={_,II (show d.toNat<l.length by omega)};show z8 (is:=l.map ceI) (x:=ceI c) o ⋯ (by rw[Iw,g];rfl) ?_;ac_nf;and_intros;show cj (is:=A.map ceI) (by rw[Ih,No];omega) ?_;ac_nf;and_intros;have hel:(l.eraseIdx d.toNat).length=l.length-1:=List.length_eraseIdx_of_lt ⋯;show{(f,l.eraseIdx d.toNat,A++[c]),?_,by change(l.eraseIdx d.toNat).length<l.length;omega,by change(l.eraseIdx d.toNat).length+(A++[c]).length<=_;rw[Ip];change _+(_+1)<=_;omega,λc g=>B c (List.mem_of_mem_eraseIdx g),aU G (B c (ymG g))};dsimp only;rw[Iu,<-qH];try cbv
  .and_intros;show jB (is:=A.map ceI) (js:=l.map ceI) (by rw[Ih,Ih,No];omega) ?_;rw[<-Iu];and_intros;show q _ f (by rw[Ip];omega) λc g=>(yaM g).elim (G c) (B c)
 .show spF ?_;and_intros;show jB (is:=A.map ceI) (js:=l.map ceI) (by rw[Ih,Ih,No];omega) ?_;rw[<-Iu];and_intros;show q _ f (by rw[Ip];omega) λc g=>(yaM g).elim (G c) (B c)
abbrev uni(n:Nat) (a x:Int):!Int:=(I8 n).map λk:Nat=>x*(if decide ((k:Int)=a)then 1 else 0)
def oH:(uni n a x).length=n:=by unfold uni;rw[Ih,Kv]
def eM(n:Nat)(a x:Int):uni (n+1) a x=uni n a x++[x*(if decide ((n:Int)=a)then 1 else 0)]:=by unfold uni;rw[Lu,Iu];rfl
def tO{n:Nat}{a x y:Int}:dI (uni n a x) (uni n a y)=uni n a (x+y):=by
 unfold dI
 induction n with
 | zero=>rfl
 | succ n c=>
  rw[eM,eM,eM,LO (by rw[oH,oH]),c,MH];rfl
def Bh{n:Nat}{a x:Int}(h:(n:Int)<=a):(uni n a x).sum=0:=by
 induction n with
 | zero=>rfl
 | succ n c=>
  rw[eM,Lr,c ⋯,if_neg (by simp;omega)];simp
def kB{n:Nat}{a x:Int}(d:0<=a)(h:a<(n:Int)):(uni n a x).sum=x:=by
 induction n with
 | zero=>omega
 | succ n c=>
  rw[eM,Lr];by_cases e:(n:Int)=a;rw[Bh ⋯,if_pos (decide_eq_true e)];simp;rw[c ⋯,if_neg (by exists e)];simp
section
variable {n m:Nat}{a st back:Int}{lot:!Ce}{R:Str->Ru}
def wm(g:0<=a)(f:a<(n:Int))(r:back=1\/back = -1)(t:0<st)(o:∀c,c∈lot ↔ ∃j:Nat,j<m/\c=(("a" : Str),uni n a ((j:Int)*st)))(q:rds (R "a")=[(("a" : Str),uni n a (back*st))]){s c:Ce}(hs:s∈lot)(h:Rch (gk R lot) s c):c∈lot/\0<=back*(c.2.sum-s.2.sum):=by
 show h.within (F:=λc=>c∈lot/\0<=back*(c.2.sum-s.2.sum)) {hs,by rw[Int.sub_self,My];show Int.le_refl _} λx y i l=>?_;have(d,e):=M2.mp l;show{e,?_};have(j,_,rfl):=(o x).mp i.1;unfold dr at d;rw[q]at d;cases ysM d;have p:=i.2;change 0<=back*((dI (uni n a (j*st)) (uni n a (back*st))).sum-s.2.sum);rw[tO,kB g f];rw[show(((("a" : Str),uni n a (j*st)):Ce)).2=uni n a (j*st)from rfl,kB g f]at p;generalize (j:Int)*st=z at *;rcases r with rfl|rfl<;>omega
def wl(h:back=1\/back = -1)(r:∀c,c∈lot ↔ ∃j:Nat,j<m/\c=(("a" : Str),uni n a ((j:Int)*st)))(p:rds (R "a")=[(("a" : Str),uni n a (back*st))]){d:Nat}(o:d<m):∀(i:Nat) (j:Nat),j<m->(j:Int)=d+back*i->Rch (gk R lot) (("a" : Str),uni n a ((d:Int)*st)) (("a" : Str),uni n a ((j:Int)*st)):=by
 intro i
 induction i with
 | zero=>
  intro j f e;have:j=d:=by rw[Int.natCast_zero,My]at e;omega
  rw[this];show .start
 | succ i l=>
  intro j f e;obtain⟨k,s,g,q⟩:∃k:Nat,k<m/\(k:Int)=d+back*i/\(j:Int)=k+back:=by
   rcases h with rfl|rfl;show{j-1,by omega,by omega,by omega};show{j+1,by omega,by omega,by omega}
  show .step (l k s g) (M2.mpr {?_,(r _).mpr ⟨j,f,Xr⟩});unfold dr;rw[p];show JD.mpr ?_;change((("a" : Str),uni n a (j*st)):Ce)=(("a" : Str),dI (uni n a (k*st)) (uni n a (back*st)));rw[tO,<-MH,<-q]
def wn(l:0<=a)(i:a<(n:Int))(o:back=1\/back = -1)(d:0<st)(f:∀c,c∈lot ↔ ∃j:Nat,j<m/\c=(("a" : Str),uni n a ((j:Int)*st)))(p:rds (R "a")=[(("a" : Str),uni n a (back*st))]){s c:Ce}(hs:s∈lot)(q:c∈lot):Rch (gk R lot) s c↔0<=back*(c.2.sum-s.2.sum):=by
 show{λh=>(wm l i o d f p hs h).2,λh=>?_};have(e,g,rfl):=(f s).mp hs;have(j,r,rfl):=(f c).mp q;rw[show(((("a" : Str),uni n a (j*st)):Ce)).2=uni n a (j*st)from rfl,show(((("a" : Str),uni n a (e*st)):Ce)).2=uni n a (e*st)from rfl,kB l i,kB l i,<-Int.sub_mul]at h;show wl o f p g (j-e+(e-j)) j r ?_;rcases o with rfl|rfl
 .rw[Int.one_mul]at h;have:=KM h d;omega
 .have h:0<=(-((j:Int)-e))*st:=by rw[Int.neg_mul];omega
  have:=KM h d;omega
end
def t9{a:Type}{xs:!a}{v:Int}(h:0<=v)(c:v.toNat<=xs.length):dv xs (TH v) TF=xs.drop v.toNat:=by
 obtain⟨n,rfl⟩:∃n:Nat,v=(n:Int):={v.toNat,by omega};show oS (by exists c)
abbrev sT(n:Nat) (a x:Int):!(Str×Ru):=[("a",.op "+" (.rd "a" (uni n a x)) (.num 1))]
abbrev dL(n:Nat) (a st:Int) (m:Nat):!Ce:=(I8 m).map λj:Nat=>(("a" : Str),uni n a ((j:Int)*st))
def ur{n:Nat}{a st:Int}{m:Nat}{c:Ce}:c∈dL n a st m ↔ ∃j:Nat,j<m/\c=(("a" : Str),uni n a ((j:Int)*st)):=by
 unfold dL;rw[Is];show{fun⟨j,h,e⟩=>{j,JJ.mp h,e.symm},fun⟨j,h,e⟩=>{j,JJ.mpr h,e.symm}}
def zG{w:Int}{f:Int×Int}(L:1<=w/\w<=3){Q:T->T->Prop}(q:∀(wh a c st:Int) (m t:Nat) x,0<=a->a<w->(c=1\/c = -1)->(st=1\/st=2)->100<=m->m<=300->t<m->Q (.tup [.im (aE w wh (sT w.toNat a (c*st))),.li (((dL w.toNat a st m).drop t++(dL w.toNat a st m).take t).map ceI),.im (.int c)]) (fT x)):W2 (lC [fT f,.im (.int w)]) Q:=by
 show MR [TH {.io 0,fT f},↥(.int w),TF,TF,TF,TF,TF,TF,TF,TF] rfl rfl rfl ?_;unfold i3;and_intros;show ao ⋯ ⋯ λs f S O=>?_;ac_nf;and_intros;show ao ⋯ ⋯ λa f z y=>?_;ac_nf;and_intros;show ao ⋯ ⋯ λr f M X=>?_;ac_nf;and_intros;obtain⟨m,A⟩:∃m:Nat,100+s=m:={(100+s).toNat,by omega};have e:1-2*r=1\/1-2*r = -1:=by omega
 generalize 1-2*r=c at e|-;rw[A];ac_nf;and_intros;show ao ⋯ ⋯ λp f N E=>?_;have h:1+p=1\/1+p=2:=by omega
 ac_nf;and_intros;generalize 1+p=st at h|-;show bD (λ_:Unit=>[TH {.io 0,fT f},↥(.int w),↥(.int m),↥(.int a),↥(.int c),↥(.int st),TF,TF,TF,TF]) I.int (λj _ g=>g=uni j a (c*st)) ?_;and_intros;show{{by omega,by omega},by cbv,(),by cbv,Xr,λj _ g B d=>?_,λ_ g d=>?_}
 .subst d;and_intros;show j1 (zP ⋯ ⋯) ?_;and_intros;show j1 (zR (by split<;>decide) (by split<;>decide)) ?_;show{_,(),Xr,by cbv,(eM _ _ _).symm}
 subst d;and_intros;show ao ⋯ ⋯ λv f U G=>?_;ac_nf;and_intros;show bD (λ_:Unit=>[TH {.io 0,fT f},↥(.int w),↥(.int m),↥(.int a),↥(.int c),↥(.int st),↥(tPl (uni w.toNat a (c*st))),↥(aE w (2+v) (sT w.toNat a (c*st))),TF,TF]) ceI (λj _ l=>l=dL w.toNat a st j) ?_;and_intros;show{{by omega,by omega},by cbv,(),by cbv,Xr,λj _ l B d=>?_,λ_ l d=>?_}
 .subst d;and_intros;show bD (λ_:Unit=>[TF,↥(.int w),TF,↥(.int a),TF,↥(.int st),TF,TF,TF,TF,↥(.int j)]) I.int (λi _ g=>g=uni i a ((j:Int)*st)) ?_;and_intros;show{{by omega,by omega},by cbv,(),by cbv,Xr,λi _ g J d=>?_,λ_ g d=>?_}
  .subst d;and_intros;show j1 (zR ⋯ ⋯) ?_;and_intros;show j1 (zR (by split<;>decide) (by split<;>decide)) ?_;show{_,(),Xr,by cbv,(eM _ _ _).symm}
  .subst d;and_intros;show{(("a" : Str),uni w.toNat a ((j:Int)*st)),(),by cbv,by cbv,by unfold dL;rw[Lu,Iu];rfl}
 rw[IJ]at d;subst d;and_intros;show ao ⋯ ⋯ λt f u H=>?_;ac_nf;and_intros;have o:(dL w.toNat a st m).length=m:=by unfold dL;rw[Ih,Kv]
 rw[t9 u (by rw[Ih,o];omega),mn u];show jB (by rw[Jl,IR,Ih,No];omega) ?_;rw[<-KD,<-Km,<-Iu];and_intros;show q (2+v) a c st m t.toNat f z y e h ⋯ ⋯ ⋯
def lY{f:Int×Int}{Q:T->T->Prop}(q:∀z,Q (.im (.bl TK)) (fT z)):W2 (eG [fT f]) Q:=by
 show MR [TH {.io 0,fT f},TF,TF,TF,TF,TF] rfl rfl rfl ?_;unfold cF;and_intros;show ao ⋯ ⋯ λd f a1 b1=>?_;ac_nf;and_intros;show zG {by omega,by omega} λG a e st m t f H X N O S Z U=>?_;have Y:(((1+d).toNat:Nat):Int)=1+d:=by omega
 have E:(dL (1+d).toNat a st m).length=m:=by unfold dL;rw[Ih,Kv]
 have g:((dL (1+d).toNat a st m).drop t++(dL (1+d).toNat a st m).take t).length=m:=by rw[Ip,Jl,IR];omega
 have h:∀c,c∈((dL (1+d).toNat a st m).drop t++(dL (1+d).toNat a st m).take t) ↔ ∃j:Nat,j<m/\c=(("a" : Str),uni (1+d).toNat a ((j:Int)*st)):=λc=>by
  rw[<-ur,Kb,or_comm,<-Kb,Kh]
 generalize ((dL (1+d).toNat a st m).drop t++(dL (1+d).toNat a st m).take t)=lot at g h|-;ac_nf;and_intros;rw[Ih,g];show ao ⋯ ⋯ λi f B A=>?_;ac_nf;and_intros;show ja (emb:=ceI) (ns:=lot) B (by rw[g];show A) λs o=>?_;have o:=ymG o;ac_nf;and_intros;show eN (λ_:Unit=>[TH {.io 0,fT f},↥(aE (1+d) G (sT (1+d).toNat a (e*st))),⇑(.li (lot.map ceI)),↥(.int e),↥(ceI s),TF]) ceI (λj _ l=>l=(lot.take j).filter λc=>decide (0<=e*(c.2.sum-s.2.sum))) ?_;and_intros;show{lot.map ceI,Xr,by rw[Ih,g,No];omega,by cbv,(),by cbv,Xr,λj x _ l L w=>?_,λ_ l w=>?_}
 .have(c,r,rfl):=aA L;subst w;have v:lot.take (j+1)=lot.take j++[c]:=by rw[Jk,r];rfl
  rw[ceI,ceI];and_intros;show sX ?_;and_intros;show sX ?_;and_intros;show j1 (zP ⋯ ⋯) ?_;and_intros;clear_value y
  .and_intros;show{c,(),by cbv,by cbv,by rw[v,IY];simp[y]}
  .show{(),by cbv,by rw[v,IY];simp[y]}
 rw[Ih,Ji]at w;subst w;ac_nf;and_intros;have u:∀c∈lot,c.1=("a" : Str)/\c.2.length<=1000:=λc r=>by
  have(j,_,rfl):=(h c).mp r;show{Xr,by rw[oH];omega}
 show mP (R:=λ_=>.op "+" (.rd "a" (uni (1+d).toNat a (e*st))) (.num 1)) (by simp[sT]) (λc r=>{by rw[(u c r).1];show JD.mpr rfl,by change 2<=22;decide,(u c r).2}) ⋯ o λp M=>?_;have J:lot.filter p=lot.filter λc=>decide (0<=e*(c.2.sum-s.2.sum)):=by
  show K5 λc r=>?_;have:=wn (R:=λ_=>.op "+" (.rd "a" (uni (1+d).toNat a (e*st))) (.num 1)) H ⋯ N ⋯ h rfl o r;rw[Jo,M c,this,decide_eq_true_iff]
 rw[J];and_intros;show FW {(cB _).1,(cB _).1,(cB _).2} ?_;and_intros;rw[decide_eq_true rfl];show q f
def yS{d:MA}{O:Rho}{a:!R->!R->Rho->Prop}(h:WA d O λrs c=>∃r is,rs=[r]/\wj r.t*>is/\a [r] (gy 0 is) c):WI (jx d) O a:=by unhygienic
 have(rs,c,e,r,is,rfl,f,q):=h;show{_,_,_,by dsimp[jx,e,f],q}
def kP:∀(is:!I) (k:Nat),(gy k is).length=is.length
 | [],_=>rfl
 | _::is,k=>congrArg (· + 1) (kP is (k+1))
def Dy{c d:Ce}{Q:T->Prop}(q:Q (.im (.bl (decide (c=d))))):W1 (eqT (.im (ceI c)) (.im (ceI d))) Q:=by
 show Dz {(qA c).1,(qA d).1,(qA c).2} ?_;rw[show decide ([I.str c.1,.tup (c.2.map .int)]=[I.str d.1,.tup (d.2.map .int)])=decide (c=d)from decide_eq_decide.mpr {λz=>ka (congrArg I.tup z),λz=>by rw[z]}];show q
def DE{c:Type}{emb : c->I}{ns:!c}{kd:Kd}{a:Int}{QR:R->Prop}(d:0<=a)(i:a<ns.length)(q:∀y,ns[a.toNat]?*>y->QR {.ow,.im (emb y)}):W1 (ixR {kd,.im (.ls (ns.map emb))} (.im (.int a))) QR:=by
 have:=rf (is:=ns.map emb) (kd:=kd) (QR:=QR) d (by rw[Ih];show i) λx g=>by
  have(y,h,rfl):=aA g;show q y h
 have(r,e,f):=this;show{r,?_,f};rw[<-e];dsimp[ixR,isI,ixX,ixI]
def FR{is:!I}{a:T->I->Prop}(q:a (.li []) .non):W2 (qD (.li is) []) a:={_,_,Xr,q}
abbrev pS(a:!(Str×Ru)) (x:Str):Ru:=((a.find? λp=>decide (p.1=x)).map (·.2)).getD (.num 0)
def yi{a:!(Str×Ru)}{x:Str}(h:x∈a.map (·.1)):(x,pS a x)∈a:=by
 unfold pS;cases e:a.find? λp=>decide (p.1=x)with
 | none=>
  have(p,d,rfl):=Is.mp h;show absurd (decide_eq_true rfl) (List.find?_eq_none.mp e p d)
 | some p=>
  have f:=List.mem_of_find?_eq_some e;have c:p.1=x:=by have:=List.find?_some e;show of_decide_eq_true this
  rw[<-c];show f
def k15_law{ns:!Int}(hn:ns.length<=63):W1 (r_l_law_v11 [.li (ns.map .int)]) λt=>t=.im (.bl TK):=by
 show MK [TH {.vw TF TF,.li (ns.map .int)},TF,TF,TF,TF,TF,TF,TF,TF,TF,TF,TF] rfl rfl rfl ?_;unfold gC;and_intros;show dn (λ_:Unit=>[TH {.vw TF TF,.li (ns.map .int)},TF,TF,TF,TF,TF,TF,TF,TF,TF,TF,TF]) (λ_ _=>True) ?_;and_intros;rw[Ih];generalize o:(if(if(4:Int)<(ns.length:Int)then 4 else(ns.length:Int))>2 then(if(4:Int)<(ns.length:Int)then 4 else(ns.length:Int))else 2)=c;have hc4:2<=c/\c<=4:=by subst o;split<;>split<;>omega
 show{{by omega,by omega},(),by cbv,trivial,λj _ hj _=>?_,λ_ _=>?_}
 .and_intros;show sE (ns:=ns) ⋯ ⋯ ⋯ λf=>?_;ac_nf;and_intros;show bD (λf:Int×Int=>[TH {.vw TF TF,.li (ns.map .int)},↥(.int j),⇑(fT f),TF,TF,TF,TF,TF,TF,TF,TF,TF]) I.int (λi _ is=>is.length=i/\∀x∈is,0<=x) ?_;and_intros;show ao ⋯ ⋯ λd f a1 b1=>?_;ac_nf;and_intros;show{{by omega,by omega},by cbv,f,by cbv,{Xr,λx A=>nomatch A},λi f is hi hP=>?_,λf g hP=>?_}
  .and_intros;show ao ⋯ ⋯ λe f a2 b2=>?_;ac_nf;show{e,f,Xr,by cbv,by rw[Ip,hP.1];rfl,aU hP.2 a2}
  have(p1,p2):=hP;ac_nf;and_intros;show vV λw N u f X=>?_;ac_nf;and_intros;show Cm ?_;and_intros;show C8 (w:=w) (wh:=N) ⟨X.1,X.2.1⟩ X.2.2.2.2.2.1 λa f hl G=>?_;show{_,Xr,?_};ac_nf;and_intros;have Z:∀l:!Ce,iM u l->∀c∈l,(c.1,pS u c.1)∈u/\(pS u c.1).leaves.length<=22/\(pS u c.1).depth<24/\c.2.length<=1000:=λl hl c o=>by
   have(x1,x2):=hl c o;have h1:=yi x1;obtain⟨_,_,_,_,_,_,_,_,n,_,a10⟩:=X;have h2:=(a10 _ h1).2.1;have h3:=Ru.depth_lt (pS u c.1);dsimp only at h2;show{h1,by omega,by omega,by omega}
  have S:(u.map (·.1)).Nodup:=X.2.2.2.2.2.2.1;show cX (λ_:Unit=>[TH {.vw TF TF,.li (ns.map .int)},↥(.int j),⇑(fT f),⇑(.li (g.map .int)),↥(aE w N u),↥(.ls (a.map ceI)),TF,TF,TF,TF,TF,TF]) (λ_ _=>True) ?_;and_intros;show DO {(cB a).1,Xr,(cB a).2} ?_;and_intros;have y:∃L:!Int,(Ik (if(~~~decide (a.map ceI=[]))=TK then 1 else 0:Int).toNat (g.map I.int)).flatten=L.map I.int/\(∀x∈L,0<=x/\a≠[]):=by
   by_cases e:a=[]
   .show{[],?_,λx A=>nomatch A};rw[e];rfl
   .show{g,?_,λx A=>{p2 x A,e}};rw[decide_eq_false λz=>e (LL.mp z)];simp
  have hbl:∀b:Bool,-(2^63)<=(if b then 1 else 0:Int)/\(if b then 1 else 0:Int)<2^63/\(g.map I.int).length*(if b then 1 else 0:Int).toNat<=sizeLine:=λb=>by
   rw[Ih,No];cases b;show{by decide,by decide,Jm _};show{by decide,by decide,by change g.length*1<=_;omega}
  show rh (hbl _) ?_;have(L,eL,hL):=y;rw[eL];show{L.map .int,Xr,by cbv,(),by cbv,trivial,λi x _ A _=>?_,λ_ _=>?_}
  .have(v,hp,rfl):=aA A;have(hp0,hne):=hL v (ymG hp);have hlp:1<=a.length:=List.length_pos_iff.mpr hne;and_intros;show DH ?_;and_intros;rw[Ih];generalize B:(if(a.length:Int)>1 then(a.length:Int)else 1)=mx;have B:mx=a.length:=by subst B;split<;>omega
   subst B;show DE (emb:=ceI) (ns:=a) (JV _ ⋯) (JF _ ⋯) λs U=>?_;have U:=ymG U;ac_nf;and_intros;show lP (yS ?_);and_intros;show{_,a.map ceI,Xr,Xr,gu (by cbv) {by rw[kP,Ih,No];omega,λi E O=>O=[TH {.vw TF TF,.li (ns.map .int)},↥(.int j),⇑(fT f),⇑(.li (g.map .int)),↥(aE w N u),↥(.ls (a.map ceI)),↥(.int v),↥(ceI s),TF,TF,TF,TF]/\∃l:!Ce,E=l.map (λc=>T.im (ceI c))/\l.length<=i/\(∀c∈l,c∈a)/\(s∈a.take i->s∈l),{by cbv,[],Xr,Iq _,λc o=>(nomatch o),λz=>by simp at z},?_,?_}}
   .rintro i r E O H ⟨rfl,l,rfl,l1,l2,J⟩;rw[jq]at H;cases e:(a.map ceI)[i]? with
    | none=>rw[e]at H;cases H
    | some x=>
     rw[e]at H;dsimp[JU,IG.injEq,IZ]at H;subst H;have(c,o,rfl):=aA e;have Y:a.take (i+1)=a.take i++[c]:=by rw[Jk,o];rfl
     have M:∃l':!Ce,(l.map (λc=>T.im (ceI c))++[T.im (ceI c)])=l'.map (λc=>T.im (ceI c))/\l'.length<=i+1/\(∀c∈l',c∈a)/\(s∈a.take (i+1)->s∈l'):=by
      show{l++[c],by rw[Iu];rfl,by rw[Ip];show KA l1,aU l2 (ymG o),λz=>?_};rw[Y]at z;show(yaM z).elim (λz=>yaL _ (J z)) λz=>yaR _ z
     and_intros;clear_value h2
     .and_intros;show spT ?_;and_intros;show{_,Xr,by cbv,M}
     .and_intros;show Dy ?_;and_intros;clear_value h3
      .and_intros;show{_,Xr,by cbv,M}
      .show{by cbv,l,Xr,L5 l1,l2,λz=>?_};rw[Y]at z;show(yaM z).elim J λz=>absurd (ysM z).symm h3
   rintro E O ⟨rfl,q,rfl,l1,l2,J⟩;rw[kP,Ih]at l1 J;rw[Ji]at J;have hhs:=J U;rw[show cc (q.map λc=>T.im (ceI c))=.li (q.map ceI)from dZ];ac_nf;and_intros;show cX (λ_:Unit=>[TH {.vw TF TF,.li (ns.map .int)},↥(.int j),⇑(fT f),⇑(.li (g.map .int)),↥(aE w N u),↥(.ls (a.map ceI)),↥(.int v),↥(ceI s),↥(.ls (q.map ceI)),TF,TF,TF]) (λ_ _=>True) ?_;and_intros;show EX rfl ?_;ac_nf;and_intros;show{[a,q,a].map λl=>.ls (l.map ceI),Xr,by cbv,(),by cbv,trivial,λi x _ A _=>?_,λ_ _=>?_}
   .have(l,hl2,rfl):=aA A;obtain⟨Q,m,hll⟩:s∈l/\iM u l/\l.length<=4374:=by
     have:=ymG hl2;dsimp[IP,IV,or_false]at this;rcases this with rfl|rfl|rfl;show⟨U,G,hl⟩;show{hhs,λc o=>G c (l2 c o),by omega};show⟨U,G,hl⟩
    and_intros;show DM ?_;ac_nf;and_intros;show mP (R:=pS u) S (λc o=>{(Z l m c o).1,(Z l m c o).2.1,(Z l m c o).2.2.2}) ⋯ Q λp hp=>?_;ac_nf;and_intros;show bZ ?_;and_intros;show spF ?_;and_intros;show zb (R:=pS u) S (Z l m) ⋯ Q λp' hp'=>?_;have he:l.filter p=l.filter p':=K5 λc _=>by rw[Jo,hp c,hp' c]
    rw[<-he];and_intros;show BR {(cB _).1,(cB _).1,(cB _).2} ?_;rw[decide_eq_true rfl]
    (repeat first|infer_instance|refine spT ?_|refine spF ?_|refine bZ ?_)
    show DP {(cB _).1,(cB _).1,(cB _).2} ?_;rw[decide_eq_true rfl]
    (repeat first|infer_instance|refine spT ?_|refine spF ?_|refine bZ ?_)
    show FR ?_;ac_nf;and_intros;show{(),by cbv,trivial}
   .and_intros;show{(),by cbv,trivial}
  .and_intros;show{(),by cbv,trivial}
 .and_intros;show sE (ns:=ns) ⋯ ⋯ ⋯ λf=>?_;ac_nf;and_intros;show ao ⋯ ⋯ λd f a1 b1=>?_;ac_nf;and_intros;clear_value h
  .and_intros;rfl
  .and_intros;show lY λf=>?_;ac_nf;and_intros;rfl
end L2
namespace K15
open PySem PySem.Spec PyProof.Rows L2
local macro_rules|`(tactic| exfalso)=>`(tactic| exact⟨rfl,rfl,rfl,by decide +kernel,rfl,by decide +kernel,by decide +kernel⟩)
structure Adr(mg:Str->↑Nk)(K:yF):Prop where
 d0:p9 K mg "_law_feed" gN ["_law_script","_law_k"]
 d1:p9 K mg "_law_take" gP ["_law_feed_here","_law_many"]
 d2:p9 K mg "_law_turned_row" cW ["_law_row_here","_law_way","_law_signs"]
 d3:p9 K mg "_law_row" iK ["_law_feed_here","_law_ways"]
 d4:p9 K mg "_law_opposed_reads" bU ["_law_feed_here","_law_ways","_law_many"]
 d5:p9 K mg "_law_free_reads" cS ["_law_feed_here","_law_ways","_law_many"]
 d6:p9 K mg "_law_back_row" dF ["_law_feed_here","_law_ways"]
 d7:p9 K mg "_law_late_reads" cT ["_law_feed_here","_law_ways","_law_many"]
 d8:p9 K mg "_law_ring_reads" cV ["_law_feed_here","_law_ways","_law_many"]
 d9:p9 K mg "_law_reads" gb ["_law_feed_here"]
 d10:p9 K mg "_law_names" f9 ["_law_feed_here","_law_many"]
 d11:p9 K mg "_law_grown" f7 ["_law_feed_here","_law_leaves"]
 d12:p9 K mg "_law_house" f8 ["_law_feed_here"]
 d13:p9 K mg "_law_rooms" gc ["_law_sizes","_law_begun"]
 d14:p9 K mg "_law_lot" iJ ["_law_feed_here","_law_house_here"]
 d15:p9 K mg "_law_long" gO ["_law_feed_here","_law_ways"]
 d16:p9 K mg "come_to" jN ["starts","links"]
 d17:p9 K mg "led" yj ["place","row"]
 d18:p9 K mg "inner_parts" ft ["part"]
 d19:p9 K mg "parts_of" iL ["rule"]
 d20:p9 K mg "reads" oA ["rule"]
 d21:p9 K mg "desk_steps" ge ["name","rule"]
 d22:p9 K mg "rule_of" jO ["house","name"]
 d23:p9 K mg "waits_for" gQ ["house","cell"]
 d24:p9 K mg "waits_within" eK ["house","lot"]
 d25:p9 K mg "needed" lI ["house","lot","cell"]
 d26:p9 K mg "_law_long_right" cU ["_law_feed_here"]
 d27:p9 K mg "_law_reads_of" dH ["_law_rule"]
 d28:p9 K mg "_law_asks" gM ["_law_house_here","_law_cell"]
 d29:p9 K mg "_law_due" iI ["_law_house_here","_law_lot_here","_law_cell"]
 d30:p9 K mg "law" s_law ["_law_script"]
 T:Bi mg
 G:GT K mg
def adr_less(mg:Str->↑Nk)(K:yF)(a:Addr)(A:Adr mg K)(l:Nd K a):Adr mg (less K a):=
 {A.d0.less l,A.d1.less l,A.d2.less l,A.d3.less l,A.d4.less l,A.d5.less l,A.d6.less l,A.d7.less l,A.d8.less l,A.d9.less l,A.d10.less l,A.d11.less l,A.d12.less l,A.d13.less l,A.d14.less l,A.d15.less l,A.d16.less l,A.d17.less l,A.d18.less l,A.d19.less l,A.d20.less l,A.d21.less l,A.d22.less l,A.d23.less l,A.d24.less l,A.d25.less l,A.d26.less l,A.d27.less l,A.d28.less l,A.d29.less l,A.d30.less l,A.T,⟨trivial⟩}
noncomputable abbrev pm0:Nk:=(vs "law_clockhouse_k15_what_a_cell_needs" 266)
noncomputable abbrev pm1:Nk:=(vs "clockhouse.needs" 246)
noncomputable abbrev pm2:Nk:=(vs "clockhouse.houses" 212)
noncomputable abbrev pm3:Nk:=(vs "clockhouse.rules" 187)
abbrev KF(P:Tb):yF:=[(3,oD [(eO P "__name__" 165 (vs "law_clockhouse_k15_what_a_cell_needs" 266)),(eO P "__doc__" 166 .none),(eO P "__package__" 167 .none),(eO P "__loader__" 168 (Po "__main__.__loader__#opaque")),(eO P "__spec__" 169 .none),(eO P "__annotations__" 170 (vr 6)),(eO P "__builtins__" 171 (vr 4)),(eO P "__file__" 173 (vs "/claim/cut.py" 172)),(eO P "__cached__" 174 .none),(eO P "inner_parts" 195 (vr 21)),(eO P "parts_of" 205 (vr 28)),(eO P "reads" 211 (vr 33)),(eO P "desk_steps" 225 (vr 40)),(eO P "rule_of" 233 (vr 47)),(eO P "led" 239 (vr 52)),(eO P "waits_for" 245 (vr 57)),(eO P "waits_within" 253 (vr 62)),(eO P "come_to" 259 (vr 67)),(eO P "needed" 265 (vr 72)),(eO P "_law_feed" 277 (vr 79)),(eO P "_law_take" 287 (vr 86)),(eO P "_law_names" 293 (vr 91)),(eO P "_law_row" 299 (vr 96)),(eO P "_law_back_row" 305 (vr 101)),(eO P "_law_free_reads" 311 (vr 106)),(eO P "_law_late_reads" 317 (vr 111)),(eO P "_law_turned_row" 328 (vr 118)),(eO P "_law_opposed_reads" 334 (vr 123)),(eO P "_law_ring_reads" 340 (vr 128)),(eO P "_law_reads" 351 (vr 135)),(eO P "_law_grown" 362 (vr 142)),(eO P "_law_house" 368 (vr 147)),(eO P "_law_reads_of" 377 (vr 154)),(eO P "_law_rooms" 383 (vr 159)),(eO P "_law_lot" 389 (vr 164)),(eO P "_law_asks" 395 (vr 169)),(eO P "_law_due" 401 (vr 174)),(eO P "_law_long" 407 (vr 179)),(eO P "_law_long_right" 413 (vr 184)),(eO P "law" 419 (vr 189))] 40),
 (79,oF "_law_feed" gN pm0 78),
 (78,oc "_law_feed" 268 51 2 73 (TH (75,76)) 77 275),
 (86,oF "_law_take" gP pm0 85),
 (85,oc "_law_take" 278 61 2 80 (TH (82,83)) 84 285),
 (118,oF "_law_turned_row" cW pm0 117),
 (117,oc "_law_turned_row" 318 105 3 112 (TH (114,115)) 116 326),
 (96,oF "_law_row" iK pm0 95),
 (95,oc "_law_row" 294 82 2 92 TF 94 297),
 (123,oF "_law_opposed_reads" bU pm0 122),
 (122,oc "_law_opposed_reads" 329 110 3 119 TF 121 332),
 (106,oF "_law_free_reads" cS pm0 105),
 (105,oc "_law_free_reads" 306 90 3 102 TF 104 309),
 (101,oF "_law_back_row" dF pm0 100),
 (100,oc "_law_back_row" 300 86 2 97 TF 99 303),
 (111,oF "_law_late_reads" cT pm0 110),
 (110,oc "_law_late_reads" 312 96 3 107 TF 109 315),
 (128,oF "_law_ring_reads" cV pm0 127),
 (127,oc "_law_ring_reads" 335 124 3 124 TF 126 338),
 (135,oF "_law_reads" gb pm0 134),
 (134,oc "_law_reads" 341 136 1 129 (TH (131,132)) 133 349),
 (91,oF "_law_names" f9 pm0 90),
 (90,oc "_law_names" 288 69 2 87 TF 89 291),
 (142,oF "_law_grown" f7 pm0 141),
 (141,oc "_law_grown" 352 148 2 136 (TH (138,139)) 140 360),
 (147,oF "_law_house" f8 pm0 146),
 (146,oc "_law_house" 363 159 1 143 TF 145 366),
 (159,oF "_law_rooms" gc pm0 158),
 (158,oc "_law_rooms" 378 180 2 155 TF 157 381),
 (164,oF "_law_lot" iJ pm0 163),
 (163,oc "_law_lot" 384 188 2 160 TF 162 387),
 (179,oF "_law_long" gO pm0 178),
 (178,oc "_law_long" 402 218 2 175 TF 177 405),
 (67,oF "come_to" jN pm1 66),
 (66,oc "come_to" 254 37 2 63 TF 65 257),
 (52,oF "led" yj pm2 51),
 (51,oc "led" 234 28 2 48 TF 50 237),
 (21,oF "inner_parts" ft pm3 20),
 (20,oc "inner_parts" 189 2 1 15 (TH (17,18)) 19 193),
 (28,oF "parts_of" iL pm3 27),
 (27,oc "parts_of" 196 8 1 22 (TH (24,25)) 26 203),
 (33,oF "reads" oA pm3 32),
 (32,oc "reads" 206 16 1 29 TF 31 209),
 (40,oF "desk_steps" ge pm2 39),
 (39,oc "desk_steps" 214 19 2 34 (TH (36,37)) 38 223),
 (47,oF "rule_of" jO pm2 46),
 (46,oc "rule_of" 226 26 2 41 (TH (43,44)) 45 231),
 (57,oF "waits_for" gQ pm2 56),
 (56,oc "waits_for" 240 30 2 53 TF 55 243),
 (62,oF "waits_within" eK pm1 61),
 (61,oc "waits_within" 248 34 2 58 TF 60 251),
 (72,oF "needed" lI pm1 71),
 (71,oc "needed" 260 47 3 68 TF 70 263),
 (184,oF "_law_long_right" cU pm0 183),
 (183,oc "_law_long_right" 408 226 1 180 TF 182 411),
 (154,oF "_law_reads_of" dH pm0 153),
 (153,oc "_law_reads_of" 369 171 1 148 (TH (150,151)) 152 375),
 (169,oF "_law_asks" gM pm0 168),
 (168,oc "_law_asks" 390 201 2 165 TF 167 393),
 (174,oF "_law_due" iI pm0 173),
 (173,oc "_law_due" 396 207 3 170 TF 172 399),
 (189,oF "law" s_law pm0 188),
 (188,oc "law" 414 231 1 185 TF 187 417)]
abbrev KL:!Str:=["inner_parts","parts_of","reads","desk_steps","rule_of","led","waits_for","waits_within","come_to","needed","_law_feed","_law_take","_law_names","_law_row","_law_back_row","_law_free_reads","_law_late_reads","_law_turned_row","_law_opposed_reads","_law_ring_reads","_law_reads","_law_grown","_law_house","_law_reads_of","_law_rooms","_law_lot","_law_asks","_law_due","_law_long","_law_long_right"].map ND
abbrev KH:PySem.W.Hook:=PySem.W.kHook KF [3,79,78,86,85,118,117,96,95,123,122,106,105,101,100,111,110,128,127,135,134,91,90,142,141,147,146,159,158,164,163,179,178,67,66,52,51,21,20,28,27,33,32,40,39,47,46,57,56,62,61,72,71,184,183,154,153,169,168,174,173,189,188] (λ_=>rfl)
abbrev KQ:Nv:=PySem.W.view PySem.Challenge.pw_clockhouse_k15_what_a_cell_needs [34]
def left:PySem.W.LeftO PySem.Challenge.pw_clockhouse_k15_what_a_cell_needs KQ KL (λs=>PySem.W.xlAt KQ [] s&&PySem.W.recOk [] s) KH.obs KH.val 4000:=λw=>by rfl'
def adr0(w:NB)(mg:Str->↑Nk)(h:Heap)(X:(KF w.params).In h)(G:h.Ns NZ mg):Adr mg (KF w.params):=
 {p9.mkO X G 79 pm0 78 (by2 λ_ _ _ _ _ _ _ _=>rfl),
   p9.mkO X G 86 pm0 85 (by2 λ_ _ _ _ _ _ _ _=>rfl),
   p9.mkO X G 118 pm0 117 (by3 λ_ _ _ _ _ _ _ _ _=>rfl),
   p9.mkO X G 96 pm0 95 (by2 λ_ _ _ _ _ _ _ _=>rfl),
   p9.mkO X G 123 pm0 122 (by3 λ_ _ _ _ _ _ _ _ _=>rfl),
   p9.mkO X G 106 pm0 105 (by3 λ_ _ _ _ _ _ _ _ _=>rfl),
   p9.mkO X G 101 pm0 100 (by2 λ_ _ _ _ _ _ _ _=>rfl),
   p9.mkO X G 111 pm0 110 (by3 λ_ _ _ _ _ _ _ _ _=>rfl),
   p9.mkO X G 128 pm0 127 (by3 λ_ _ _ _ _ _ _ _ _=>rfl),
   p9.mkO X G 135 pm0 134 (by1 λ_ _ _ _ _ _ _=>rfl),
   p9.mkO X G 91 pm0 90 (by2 λ_ _ _ _ _ _ _ _=>rfl),
   p9.mkO X G 142 pm0 141 (by2 λ_ _ _ _ _ _ _ _=>rfl),
   p9.mkO X G 147 pm0 146 (by1 λ_ _ _ _ _ _ _=>rfl),
   p9.mkO X G 159 pm0 158 (by2 λ_ _ _ _ _ _ _ _=>rfl),
   p9.mkO X G 164 pm0 163 (by2 λ_ _ _ _ _ _ _ _=>rfl),
   p9.mkO X G 179 pm0 178 (by2 λ_ _ _ _ _ _ _ _=>rfl),
   p9.mkO X G 67 pm1 66 (by2 λ_ _ _ _ _ _ _ _=>rfl),
   p9.mkO X G 52 pm2 51 (by2 λ_ _ _ _ _ _ _ _=>rfl),
   p9.mkO X G 21 pm3 20 (by1 λ_ _ _ _ _ _ _=>rfl),
   p9.mkO X G 28 pm3 27 (by1 λ_ _ _ _ _ _ _=>rfl),
   p9.mkO X G 33 pm3 32 (by1 λ_ _ _ _ _ _ _=>rfl),
   p9.mkO X G 40 pm2 39 (by2 λ_ _ _ _ _ _ _ _=>rfl),
   p9.mkO X G 47 pm2 46 (by2 λ_ _ _ _ _ _ _ _=>rfl),
   p9.mkO X G 57 pm2 56 (by2 λ_ _ _ _ _ _ _ _=>rfl),
   p9.mkO X G 62 pm1 61 (by2 λ_ _ _ _ _ _ _ _=>rfl),
   p9.mkO X G 72 pm1 71 (by3 λ_ _ _ _ _ _ _ _ _=>rfl),
   p9.mkO X G 184 pm0 183 (by1 λ_ _ _ _ _ _ _=>rfl),
   p9.mkO X G 154 pm0 153 (by1 λ_ _ _ _ _ _ _=>rfl),
   p9.mkO X G 169 pm0 168 (by2 λ_ _ _ _ _ _ _ _=>rfl),
   p9.mkO X G 174 pm0 173 (by3 λ_ _ _ _ _ _ _ _ _=>rfl),
   p9.mkO X G 189 pm0 188 (by1 λ_ _ _ _ _ _ _=>rfl),
   {bN X G,bN X G,bN X G,bN X G,bN X G,bN X G,bN X G,bN X G,bN X G,bN X G,bN X G,bN X G,bN X G,bN X G,bN X G,bN X G,bN X G,bN X G,bN X G,bN X G,bN X G},⟨trivial⟩}
def c0:p8 ["_law_script","_law_k","_law_cell","_law_own"] ["_law_script","_law_k"] (ak gN):=by exfalso
def c1:p8 ["_law_feed_here","_law_many","_law_digit","_law_one"] ["_law_feed_here","_law_many"] (ak gP):=by exfalso
def c2:p8 ["_law_row_here","_law_way","_law_signs","_law_found","_law_k"] ["_law_row_here","_law_way","_law_signs"] (ak cW):=by exfalso
def c3:p8 ["_law_feed_here","_law_ways"] ["_law_feed_here","_law_ways"] (ak iK):=by exfalso
def c4:p8 ["_law_feed_here","_law_ways","_law_many","_law_far","_law_some","_law_way","_law_signs","_law_looks","_law_x","_law_other","_law_row_here"] ["_law_feed_here","_law_ways","_law_many"] (ak bU):=by exfalso
def c5:p8 ["_law_feed_here","_law_ways","_law_many","_law_looks","_law_x","_law_k"] ["_law_feed_here","_law_ways","_law_many"] (ak cS):=by exfalso
def c6:p8 ["_law_feed_here","_law_ways","_law_at","_law_more"] ["_law_feed_here","_law_ways"] (ak dF):=by exfalso
def c7:p8 ["_law_feed_here","_law_ways","_law_many","_law_looks","_law_x","_law_k"] ["_law_feed_here","_law_ways","_law_many"] (ak cT):=by exfalso
def c8:p8 ["_law_feed_here","_law_ways","_law_many","_law_looks","_law_long_here","_law_rest","_law_k","_law_row_here"] ["_law_feed_here","_law_ways","_law_many"] (ak cV):=by exfalso
def c9:p8 ["_law_feed_here","_law_form","_law_wide","_law_ways","_law_many"] ["_law_feed_here"] (ak gb):=by exfalso
def c10:p8 ["_law_feed_here","_law_many","_law_letters","_law_stem","_law_first","_law_at","_law_found","_law_k","_law_name"] ["_law_feed_here","_law_many"] (ak f9):=by exfalso
def c11:p8 ["_law_feed_here","_law_leaves","_law_found","_law_at","_law_sign"] ["_law_feed_here","_law_leaves"] (ak f7):=by exfalso
def c12:p8 ["_law_feed_here","_law_ways","_law_looks","_law_wheel","_law_names_here","_law_desks","_law_x","_law_leaves","_law_k","_law_number"] ["_law_feed_here"] (ak f8):=by exfalso
def c13:p8 ["_law_sizes","_law_begun","_law_found","_law_size","_law_first","_law_longer","_law_place"] ["_law_sizes","_law_begun"] (ak gc):=by exfalso
def c14:p8 ["_law_feed_here","_law_house_here","_law_form","_law_wide","_law_sizes","_law_begun","_law_lot_here","_law_place","_law_found"] ["_law_feed_here","_law_house_here"] (ak iJ):=by exfalso
def c15:p8 ["_law_feed_here","_law_ways","_law_many","_law_at","_law_back","_law_step","_law_row_here","_law_house_here","_law_lot_here","_law_turn"] ["_law_feed_here","_law_ways"] (ak gO):=by exfalso
def c16:p8 ["starts","links","found","due","cell","other"] ["starts","links"] (ak jN):=by exfalso
def c17:p8 ["place","row"] ["place","row"] (ak yj):=by exfalso
def c18:p8 ["part"] ["part"] (ak ft):=by exfalso
def c19:p8 ["rule","parts","due","part"] ["rule"] (ak iL):=by exfalso
def c20:p8 ["rule"] ["rule"] (ak oA):=by exfalso
def c21:p8 ["name","rule","steps","other","row","step"] ["name","rule"] (ak ge):=by exfalso
def c22:p8 ["house","name"] ["house","name"] (ak jO):=by exfalso
def c23:p8 ["house","cell","name","place"] ["house","cell"] (ak gQ):=by exfalso
def c24:p8 ["house","lot","inside"] ["house","lot"] (ak eK):=by exfalso
def c25:p8 ["house","lot","cell","found"] ["house","lot","cell"] (ak lI):=by exfalso
def c26:p8 ["_law_feed_here","_law_house_here","_law_lot_here","_law_back","_law_cell","_law_due_here"] ["_law_feed_here"] (ak cU):=by exfalso
def c27:p8 ["_law_rule","_law_found","_law_part"] ["_law_rule"] (ak dH):=by exfalso
def c28:p8 ["_law_house_here","_law_cell","_law_rule","_law_found","_law_name","_law_row_here"] ["_law_house_here","_law_cell"] (ak gM):=by exfalso
def c29:p8 ["_law_house_here","_law_lot_here","_law_cell","_law_inside","_law_found","_law_more","_law_near","_law_one"] ["_law_house_here","_law_lot_here","_law_cell"] (ak iI):=by exfalso
def c30:p8 ["_law_script","_law_k","_law_feed_here","_law_picks","_law_house_here","_law_lot_here","_law_pick","_law_cell","_law_half","_law_some","_law_handed","_law_found"] ["_law_script"] (ak s_law):=by exfalso
local macro_rules|`(tactic| ac_nf)=>`(tactic| first|exact aj|exact CK.blk aj|exact CK.blk (CK.blk aj))
local macro_rules|`(tactic| injection $x:ident)=>`(tactic| refine $x ?_)
local macro_rules|`(tactic| infer_instance)=>`(tactic| first
 | ((with_reducible change QE _ _ _ _);first|exact gm|exact aO _|exact Gw|exact Gp _|exact pG|exact BZ _|refine Go nofun ?_ ?_|refine pI _ ?_|refine pH _ ?_|refine BY nofun ?_ ?_|refine Gx nofun ?_ ?_|refine B2 nofun ?_ ?_|refine xu nofun ?_ ?_|refine El nofun ?_ ?_|refine Gr nofun ?_ ?_|refine lw _ nofun (by with_reducible assumption) ?_|refine mU nofun (by with_reducible first|exact b_len|exact b_max|exact b_min|exact Cw) ?_ ?_|refine xw nofun (by with_reducible first|exact b_tuple|exact b_int|exact b_list|exact b_dict) ?_ ?_|refine lx nofun (by with_reducible assumption) ?_|refine HU nofun ?_ ?_ ?_|refine Gv nofun ?_|refine xv _ _ nofun (by with_reducible first|exact pi|exact pj|exact wp|exact zJ) ?_ ?_|refine rE _ nofun BL ?_|refine Em nofun Da ?_ ?_|refine xr nofun ?_ ?_ ?_ (by unhygienic rfl)|refine B1 nofun (Bi.b_isinstance (by assumption)) (by with_reducible first|exact Bi.b_list (by assumption)) (by with_reducible first|exact J4) (by decide) ?_|refine Gq ?_ ?_|refine Gn nofun ?_ ?_|injection xt|injection B3)
 | ((with_reducible change QA _ _ _ _);first|exact aL|refine az _ ?_|refine bd ?_ ?_)
 | ((with_reducible change QSs _ _ _ _);first|exact rH|exact mV|refine eX _ ?_|refine ba ?_ ?_|injection cN)
 | ((with_reducible change QS _ _ _ _);first|refine cg _ ?_ ?_|injection jE|injection jc|refine xz ?_ ?_|refine Es _ _ nofun ?_ ?_|refine xA ?_ ?_ ?_|refine jD nofun (λ_=>Oa) ?_ ?_ ?_|refine ly (λ_=>Oa) ?_ ?_|refine qs_fgt _ ?_)
 | ((with_reducible change QT _ _ _ _);first|refine eC nofun ?_ ?_ ?_ (by unhygienic rfl)|injection xB|refine xC nofun ?_|injection xD|refine QW.t ?_)
 | ((with_reducible change QW _ _ _ _);first|refine xE ?_ ?_|refine tq ?_ ?_|injection tp|injection rJ)
 | ((with_reducible change QG _ _ _ _ _);first|refine bu _ ?_|refine rG nofun (eB ?_ (eB ?_ n8))|refine rG nofun (eB ?_ (eB ?_ (eB ?_ n8)))|refine Ep _ ?_ ?_|refine xx _ ?_ ?_ ?_)
 | ((with_reducible change QI _ _ _ _ _);first|refine jC nofun ?_ ?_|refine uX nofun ?_ ?_|refine Er nofun ?_ ?_|refine cM nofun ?_)
 | ((with_reducible change QO _ _ _ _);first|exact AI|injection AJ)
 | ((with_reducible change QTs _ _ _ _);first|exact eY|injection jd)
 | ((with_reducible change gi _ _);first|exact CA|exact Hy|exact Hz|exact HA|exact sr|exact HB|exact tX|exact Fp|exact qw)
 | ((with_reducible show∀_,List.Nodup _);intro _;first|assumption|exact bR (by rfl'))
 | with_reducible first|assumption|exact Bi.b_dict (by assumption)|exact Bi.b_int (by assumption)|exact Bi.b_isinstance (by assumption)|exact Bi.b_len (by assumption)|exact Bi.b_list (by assumption)|exact Bi.b_max (by assumption)|exact Bi.b_min (by assumption)|exact Bi.b_sum (by assumption)|exact Bi.b_tuple (by assumption))
local macro_rules|`(tactic| and_intros)=>`(tactic| repeat' (first|infer_instance|fail))
section
variable {P:Nv}{W:NB}{K:yF}{mg:Str->↑Nk}{base:Heap}(A:Adr mg K)
include A
def v0:Has P W K mg base 1 "_law_feed" ["_law_script","_law_k"] (spP K je):=by
 have:=c0.nd;have:=A.T;show Def.qp A.d0.to c0 (m:=iZ) ?_ (λ_=>rfl);unfold iZ;and_intros
def v1:Has P W K mg base 1 "_law_take" ["_law_feed_here","_law_many"] (spI K 0 ai):=by
 have:=c1.nd;have:=A.T;show Def.qi A.d1.to c1 (m:=i4) ?_ (λ_=>rfl);unfold i4;and_intros
def v2:Has P W K mg base 1 "_law_turned_row" ["_law_row_here","_law_way","_law_signs"] (spP K cR):=by
 have:=c2.nd;have:=A.T;show Def.qp A.d2.to c2 (m:=cH) ?_ (λ_=>rfl);unfold cH;and_intros
def v3:Has P W K mg base 2 "_law_row" ["_law_feed_here","_law_ways"] (spI K 0 ku):=by
 have:=@v1 P W K mg base A;have:=c3.nd;have:=A.T;show Def.qi A.d3.to c3 (m:=kn) ?_ (λ_=>rfl);unfold kn;and_intros
 .show bz (N':=["_law_feed_here","_law_ways","_law_k"]) (by ac_nf) (λ_=>Blk.of (by rfl')) ?_ ?_ ?_ ?_<;>and_intros
def v4:Has P W K mg base 3 "_law_opposed_reads" ["_law_feed_here","_law_ways","_law_many"] (spI K 0 cP):=by
 have:=@v1 P W K mg base A;have:=@v2 P W K mg base A;have:=@v3 P W K mg base A;have:=c4.nd;have:=A.T;show Def.qi A.d4.to c4 (m:=bL) ?_ (λ_=>rfl);unfold bL;and_intros
 .show bz (N':=["_law_feed_here","_law_ways","_law_many","_law_far","_law_some","_law_way","_law_signs","_law_looks","_law_x","_law_other","_law_row_here","_law_k"]) (by ac_nf) (λ_=>Blk.of (by rfl')) ?_ ?_ ?_ ?_<;>and_intros
 .show br _ (N':=["_law_feed_here","_law_ways","_law_many","_law_far","_law_some","_law_way","_law_signs","_law_looks","_law_x","_law_other","_law_row_here"]) (by ac_nf) (λ_=>(by first|assumption|show bR (by rfl'))) (λ_=>Blk.of (by rfl')) ?_ ?_ ?_ ?_<;>and_intros
def v5:Has P W K mg base 3 "_law_free_reads" ["_law_feed_here","_law_ways","_law_many"] (spI K 0 eD):=by
 have:=@v1 P W K mg base A;have:=@v3 P W K mg base A;have:=c5.nd;have:=A.T;show Def.qi A.d5.to c5 (m:=cD) ?_ (λ_=>rfl);unfold cD;and_intros
 .show br _ (N':=["_law_feed_here","_law_ways","_law_many","_law_looks","_law_x","_law_k"]) (by ac_nf) (λ_=>(by first|assumption|show bR (by rfl'))) (λ_=>Blk.of (by rfl')) ?_ ?_ ?_ ?_<;>and_intros
def v6:Has P W K mg base 2 "_law_back_row" ["_law_feed_here","_law_ways"] (spI K 0 dW):=by
 have:=@v1 P W K mg base A;have:=c6.nd;have:=A.T;show Def.qi A.d6.to c6 (m:=dQ) ?_ (λ_=>rfl);unfold dQ;and_intros
 .show br _ (N':=["_law_feed_here","_law_ways","_law_at","_law_more","_law_k"]) (by ac_nf) (λ_=>(by first|assumption|show bR (by rfl'))) (λ_=>Blk.of (by rfl')) ?_ ?_ ?_ ?_<;>and_intros
def v7:Has P W K mg base 3 "_law_late_reads" ["_law_feed_here","_law_ways","_law_many"] (spI K 0 cO):=by
 have:=@v1 P W K mg base A;have:=@v6 P W K mg base A;have:=c7.nd;have:=A.T;show Def.qi A.d7.to c7 (m:=cE) ?_ (λ_=>rfl);unfold cE;and_intros
 .show br _ (N':=["_law_feed_here","_law_ways","_law_many","_law_looks","_law_x","_law_k"]) (by ac_nf) (λ_=>(by first|assumption|show bR (by rfl'))) (λ_=>Blk.of (by rfl')) ?_ ?_ ?_ ?_<;>and_intros
def v8:Has P W K mg base 4 "_law_ring_reads" ["_law_feed_here","_law_ways","_law_many"] (spI K 0 eH):=by
 have:=@v7 P W K mg base A;have:=@v1 P W K mg base A;have:=c8.nd;have:=A.T;show Def.qi A.d8.to c8 (m:=cG) ?_ (λ_=>rfl);unfold cG;and_intros
 .show bz (N':=["_law_feed_here","_law_ways","_law_many","_law_looks","_law_long_here","_law_rest","_law_k","_law_row_here","_law_j"]) (by ac_nf) (λ_=>Blk.of (by rfl')) ?_ ?_ ?_ ?_<;>and_intros
 .show bz (N':=["_law_feed_here","_law_ways","_law_many","_law_looks","_law_long_here","_law_rest","_law_k","_law_row_here","_law_j"]) (by ac_nf) (λ_=>Blk.of (by rfl')) ?_ ?_ ?_ ?_<;>and_intros
 .show bz (N':=["_law_feed_here","_law_ways","_law_many","_law_looks","_law_long_here","_law_rest","_law_k","_law_row_here","_law_number"]) (by ac_nf) (λ_=>Blk.of (by rfl')) ?_ ?_ ?_ ?_<;>and_intros
 .show bz (N':=["_law_feed_here","_law_ways","_law_many","_law_looks","_law_long_here","_law_rest","_law_k","_law_row_here","_law_j"]) (by ac_nf) (λ_=>Blk.of (by rfl')) ?_ ?_ ?_ ?_<;>and_intros
def v9:Has P W K mg base 5 "_law_reads" ["_law_feed_here"] (spI K 0 jI):=by
 have:=@v1 P W K mg base A;have:=@v5 P W K mg base A;have:=@v7 P W K mg base A;have:=@v8 P W K mg base A;have:=@v4 P W K mg base A;have:=c9.nd;have:=A.T;show Def.qi A.d9.to c9 (m:=hV) ?_ (λ_=>rfl);unfold hV;and_intros
def v10:Has P W K mg base 2 "_law_names" ["_law_feed_here","_law_many"] (spI K 0 jH):=by
 have:=@v1 P W K mg base A;have:=c10.nd;have:=A.T;show Def.qi A.d10.to c10 (m:=hJ) ?_ (λ_=>rfl);unfold hJ;and_intros
 .show bz (N':=["_law_feed_here","_law_many","_law_letters","_law_stem","_law_first","_law_at","_law_found","_law_k","_law_name"]) (by ac_nf) (λ_=>Blk.of (by rfl')) ?_ ?_ ?_ ?_<;>and_intros
def v11:Has P W K mg base 2 "_law_grown" ["_law_feed_here","_law_leaves"] (spI K 0 jF):=by
 have:=@v1 P W K mg base A;have:=c11.nd;have:=A.T;show Def.qi A.d11.to c11 (m:=g9) ?_ (λ_=>rfl);unfold g9;and_intros
def v12:Has P W K mg base 6 "_law_house" ["_law_feed_here"] (spI K 0 jG):=by
 have:=@v9 P W K mg base A;have:=@v1 P W K mg base A;have:=@v10 P W K mg base A;have:=@v11 P W K mg base A;have:=c12.nd;have:=A.T;show Def.qi A.d12.to c12 (m:=hC) ?_ (λ_=>rfl);unfold hC;and_intros
 .show br _ (N':=["_law_feed_here","_law_ways","_law_looks","_law_wheel","_law_names_here","_law_desks","_law_x","_law_leaves","_law_k","_law_number","_law_other","_law_row_here"]) (by ac_nf) (λ_=>(by first|assumption|show bR (by rfl'))) (λ_=>Blk.of (by rfl')) ?_ ?_ ?_ ?_<;>and_intros
def v13:Has P W K mg base 1 "_law_rooms" ["_law_sizes","_law_begun"] (spP K jJ):=by
 have:=c13.nd;have:=A.T;show Def.qp A.d13.to c13 (m:=h9) ?_ (λ_=>rfl);unfold h9;and_intros
 .show bz (N':=["_law_sizes","_law_begun","_law_found","_law_size","_law_first","_law_longer","_law_place","_law_k"]) (by ac_nf) (λ_=>Blk.of (by rfl')) ?_ ?_ ?_ ?_<;>and_intros
def v14:Has P W K mg base 2 "_law_lot" ["_law_feed_here","_law_house_here"] (spI K 0 oh):=by
 have:=@v1 P W K mg base A;have:=@v13 P W K mg base A;have:=c14.nd;have:=A.T;show Def.qi A.d14.to c14 (m:=km) ?_ (λ_=>rfl);unfold km;and_intros
 .show br _ (N':=["_law_feed_here","_law_house_here","_law_form","_law_wide","_law_sizes","_law_begun","_law_lot_here","_law_place","_law_found","_law_k"]) (by ac_nf) (λ_=>(by first|assumption|show bR (by rfl'))) (λ_=>Blk.of (by rfl')) ?_ ?_ ?_ ?_<;>and_intros
 .show br _ (N':=["_law_feed_here","_law_house_here","_law_form","_law_wide","_law_sizes","_law_begun","_law_lot_here","_law_place","_law_found","_law_k"]) (by ac_nf) (λ_=>(by first|assumption|show bR (by rfl'))) (λ_=>Blk.of (by rfl')) ?_ ?_ ?_ ?_<;>and_intros
 .show bz (N':=["_law_feed_here","_law_house_here","_law_form","_law_wide","_law_sizes","_law_begun","_law_lot_here","_law_place","_law_found","_law_name","_law_rule"]) (by ac_nf) (λ_=>Blk.of (by rfl')) ?_ ?_ ?_ ?_<;>and_intros
 .show br _ (N':=["_law_feed_here","_law_house_here","_law_form","_law_wide","_law_sizes","_law_begun","_law_lot_here","_law_place","_law_found","_law_cell"]) (by ac_nf) (λ_=>(by first|assumption|show bR (by rfl'))) (λ_=>Blk.of (by rfl')) ?_ ?_ ?_ ?_<;>and_intros
def v15:Has P W K mg base 2 "_law_long" ["_law_feed_here","_law_ways"] (spI K 0 lC):=by
 have:=@v1 P W K mg base A;have:=c15.nd;have:=A.T;show Def.qi A.d15.to c15 (m:=i3) ?_ (λ_=>rfl);unfold i3;and_intros
 .show bz (N':=["_law_feed_here","_law_ways","_law_many","_law_at","_law_back","_law_step","_law_row_here","_law_house_here","_law_lot_here","_law_turn","_law_k"]) (by ac_nf) (λ_=>Blk.of (by rfl')) ?_ ?_ ?_ ?_<;>and_intros
 .show br _ (N':=["_law_feed_here","_law_ways","_law_many","_law_at","_law_back","_law_step","_law_row_here","_law_house_here","_law_lot_here","_law_turn","_law_j"]) (by ac_nf) (λ_=>(by first|assumption|show bR (by rfl'))) (λ_=>Blk.of (by rfl')) ?_ ?_ ?_ ?_<;>and_intros;show bz (N':=["_law_feed_here","_law_ways","_law_many","_law_at","_law_back","_law_step","_law_row_here","_law_house_here","_law_lot_here","_law_turn","_law_j","_law_k"]) (by ac_nf) (λ_=>Blk.of (by rfl')) ?_ ?_ ?_ ?_<;>and_intros
def v16:Has P W K mg base 1 "come_to" ["starts","links"] (spP K gI):=
 Def.qp A.d16.to c16 (m:=gD) (ba (pJ 2 (N':=["starts","links","found","due","cell","other"]) (f:=[TF,TF,TF,TF,TF,TF]) aj (λ_=>c16.nd) (λ_=>Blk.of (by rfl')) (cM aj (aO 0)) (bu 4 (λ_=>bR (by rfl'))) eY (aO 4) pG)
  (ba (cg 3 (λ_=>c16.nd) (xw aj b_list A.T.b_list (az 0 aL)))
  (ba (ly (λ_=>Oa) (xC aj (aO 3)) (eX [4,5] (ba (cg 4 (λ_=>c16.nd) (rE 3 aj BL (aO 3)))
  (cN (jD aj (λ_=>Oa) (cM aj (Gs aj (aO 1) (aO 4))) (bu 5 (λ_=>c16.nd)) (eX [5] (cN (xA (eC aj qw (aO 5) (aO 2) (by unhygienic rfl)) (ba (xz pG (AH aj 2 (aO 2) (aO 5)))
  (cN (jc (xv 3 [5] aj pi (aO 3) (az 5 aL))))) rH))))))))
  (cN (jE (aO 2)))))) (λ_=>rfl)
def v17:Has P W K mg base 1 "led" ["place","row"] (spP K om):=by
 have:=c17.nd;have:=A.T;show Def.qp A.d17.to c17 (m:=ko) ?_ (λ_=>rfl);unfold ko;and_intros
 .show bz (N':=["place","row","number","more"]) (by ac_nf) (λ_=>Blk.of (by rfl')) ?_ ?_ ?_ ?_<;>and_intros
def v18:Has P W K mg base 1 "inner_parts" ["part"] (spP K dB):=by
 have:=c18.nd;have:=A.T;show Def.qp A.d18.to c18 (m:=cu) ?_ (λ_=>rfl);unfold cu;and_intros
def v19:Has P W K mg base 2 "parts_of" ["rule"] (spP K fZ):=by
 have:=@v18 P W K mg base A;have:=c19.nd;have:=A.T;show Def.qp A.d19.to c19 (m:=dS) ?_ (λ_=>rfl);unfold dS;and_intros
def v20:Has P W K mg base 3 "reads" ["rule"] (spP K jK):=by
 have:=@v19 P W K mg base A;have:=c20.nd;have:=A.T;show Def.qp A.d20.to c20 (m:=ib) ?_ (λ_=>rfl);unfold ib;and_intros
 .show bz (N':=["rule","part"]) (by ac_nf) (λ_=>Blk.of (by rfl')) ?_ ?_ ?_ ?_<;>and_intros
def v21:Has P W K mg base 4 "desk_steps" ["name","rule"] (spP K eI):=by
 have:=@v20 P W K mg base A;have:=c21.nd;have:=A.T;show Def.qp A.d21.to c21 (m:=cI) ?_ (λ_=>rfl);unfold cI;and_intros
def v22:Has P W K mg base 1 "rule_of" ["house","name"] (spP K gJ):=by
 have:=c22.nd;have:=A.T;show Def.qp A.d22.to c22 (m:=eT) ?_ (λ_=>rfl);unfold eT;and_intros
def v23:Has P W K mg base 5 "waits_for" ["house","cell"] (spP K fk):=by
 have:=@v21 P W K mg base A;have:=@v22 P W K mg base A;have:=@v17 P W K mg base A;have:=c23.nd;have:=A.T;show Def.qp A.d23.to c23 (m:=dk) ?_ (λ_=>rfl);unfold dk;and_intros
 .show bz (N':=["house","cell","name","place","own","other","row"]) (by ac_nf) (λ_=>Blk.of (by rfl')) ?_ ?_ ?_ ?_<;>and_intros
def v24:Has P W K mg base 6 "waits_within" ["house","lot"] (spP K dg):=
 Def.qp A.d24.to c24 (m:=db) (ba (cg 2 (λ_=>c24.nd) (tm (N':=["house","lot","inside","cell"]) (f:=[TF,TF,TF,TF]) aj (λ_=>Blk.of (by rfl')) (cM aj (aO 1)) (bu 3 (λ_=>bR (by rfl'))) eY (aO 3) pG))
  (cN (jE (tm (N':=["house","lot","inside","cell"]) (f:=[TH 0,TF,TH 2,TF]) aj (λ_=>Blk.of (by rfl')) (cM aj (aO 1)) (bu 3 (λ_=>bR (by rfl'))) eY (aO 3) (xt (bz (N':=["house","lot","inside","cell","other"]) (f:=[TF,TF,TH 2,TF,TF]) (CK.blk aj) (λ_=>Blk.of (by rfl')) (cM (CK.blk aj) (lx (CK.blk aj) (v23 A) (az 0 (az 3 aL)))) (bu 4 (λ_=>bR (by rfl'))) (jd (eC (CK.blk (CK.blk aj)) sr (aO 4) (aO 2) (by unhygienic rfl))) (aO 4))))))) (λ_=>rfl)
def v25:Has P W K mg base 7 "needed" ["house","lot","cell"] (spP K fY):=by
 have:=@v16 P W K mg base A;have:=@v24 P W K mg base A;have:=c25.nd;have:=A.T;show Def.qp A.d25.to c25 (m:=fU) ?_ (λ_=>rfl);unfold fU;and_intros
 .show bz (N':=["house","lot","cell","found","inner"]) (by ac_nf) (λ_=>Blk.of (by rfl')) ?_ ?_ ?_ ?_<;>and_intros
def v26:Has P W K mg base 8 "_law_long_right" ["_law_feed_here"] (spI K 0 eG):=by
 have:=@v15 P W K mg base A;have:=@v1 P W K mg base A;have:=@v25 P W K mg base A;have:=c26.nd;have:=A.T;show Def.qi A.d26.to c26 (m:=cF) ?_ (λ_=>rfl);unfold cF;and_intros
 .show br _ (N':=["_law_feed_here","_law_house_here","_law_lot_here","_law_back","_law_cell","_law_due_here","_law_one"]) (by ac_nf) (λ_=>(by first|assumption|show bR (by rfl'))) (λ_=>Blk.of (by rfl')) ?_ ?_ ?_ ?_<;>and_intros
def v27:∀n,Has P W K mg base (1+n) "_law_reads_of" ["_law_rule"] (spP K (cQ n))
 | 0=>Def.qp A.d27.to c27 (m:=nR) mV (λ_=>rfl)
 | n+1=>by
  have a:=v27 n;have:=c27.nd;have:=A.T;show Def.qp (k:=1+n) A.d27.to c27 (m:=dR (cQ n)) ?_ (λ_=>rfl);unfold dR;and_intros
def v28:Has P W K mg base 26 "_law_asks" ["_law_house_here","_law_cell"] (spP K lB):=by
 have:=@v27 P W K mg base A 24;have:=c28.nd;have:=A.T;show Def.qp A.d28.to c28 (m:=iY) ?_ (λ_=>rfl);unfold iY;and_intros
 .show bz (N':=["_law_house_here","_law_cell","_law_rule","_law_found","_law_name","_law_row_here","_law_one","_law_more"]) (by ac_nf) (λ_=>Blk.of (by rfl')) ?_ ?_ ?_ ?_<;>and_intros
def v29:Has P W K mg base 27 "_law_due" ["_law_house_here","_law_lot_here","_law_cell"] (spP K iG):=
 Def.qp A.d29.to c29 (m:=iC) (ba (cg 3 (λ_=>c29.nd) (n5 aj A.T.b_dict (bd (bz (N':=["_law_house_here","_law_lot_here","_law_cell","_law_inside","_law_found","_law_more","_law_near","_law_one"]) (f:=[TF,TF,TF,TF,TF,TF,TF,TF]) aj (λ_=>Blk.of (by rfl')) (cM aj (aO 1)) (bu 7 (λ_=>bR (by rfl'))) eY (pI [7] (az 7 (bd pG aL)))) aL)))
  (ba (cg 4 (λ_=>c29.nd) (HS aj 2))
  (ba (cg 5 (λ_=>c29.nd) (pH [2] (az 2 aL)))
  (ba (ly (λ_=>Oa) (eC aj tX (aO 5) (pH [] aL) (iE _)) (eX [6,7] (ba (cg 6 (λ_=>c29.nd) (pH [] aL))
  (ba (jD aj (λ_=>Oa) (cM aj (aO 5)) (bu 7 (λ_=>c29.nd)) (eX [7] (cN (jc (xv 6 [] aj pj (aO 6) (bd (bz (N':=["_law_house_here","_law_lot_here","_law_cell","_law_inside","_law_found","_law_more","_law_near","_law_one","_law_other"]) (f:=[TF,TF,TF,TH 3,TH 4,TF,TF,TF,TF]) aj (λ_=>Blk.of (by rfl')) (cM aj (lx aj (v28 A) (az 0 (az 7 aL)))) (bu 8 (λ_=>bR (by rfl'))) (jd (QW.t (xE (eC (CK.blk aj) sr (aO 8) (aO 3) (by unhygienic rfl)) (tp (eC (CK.blk aj) qw (aO 8) (aO 4) (by unhygienic rfl)))))) (aO 8)) aL))))))
  (ba (cg 5 (λ_=>c29.nd) (xw aj y8 A.T.b_list (bd (n5 aj A.T.b_dict (bd (bz (N':=["_law_house_here","_law_lot_here","_law_cell","_law_inside","_law_found","_law_more","_law_near","_law_one"]) (f:=[TF,TF,TF,TF,TF,TF,TF,TF]) aj (λ_=>Blk.of (by rfl')) (cM aj (aO 6)) (bu 7 (λ_=>bR (by rfl'))) eY (pI [7] (az 7 (bd pG aL)))) aL)) aL)))
  (cN (jc (Eo 4 [] aj (aO 4) (bd (n5 aj A.T.b_dict (bd (bz (N':=["_law_house_here","_law_lot_here","_law_cell","_law_inside","_law_found","_law_more","_law_near","_law_one"]) (f:=[TF,TF,TF,TF,TF,TF,TF,TF]) aj (λ_=>Blk.of (by rfl')) (cM aj (aO 5)) (bu 7 (λ_=>bR (by rfl'))) eY (pI [7] (az 7 (bd pG aL)))) aL)) aL)))))))))
  (cN (jE (bz (N':=["_law_house_here","_law_lot_here","_law_cell","_law_inside","_law_found","_law_more","_law_near","_law_one"]) (f:=[TF,TF,TF,TF,TH 4,TF,TF,TF]) aj (λ_=>Blk.of (by rfl')) (cM aj (aO 1)) (bu 7 (λ_=>bR (by rfl'))) (jd (eC (CK.blk aj) sr (aO 7) (aO 4) (by unhygienic rfl))) (aO 7)))))))) (λ_=>rfl)
def v30:Has P W K mg base 28 "law" ["_law_script"] (spP K r_l_law_v11):=
 Def.qp A.d30.to c30 (m:=gC) (ba (jD aj (λ_=>Oa) (jC aj A.T (bd (mU aj b_max A.T.b_max (bd gm (bd (mU aj b_min A.T.b_min (bd (mU aj b_len A.T.b_len (az 0 aL)) (bd gm aL))) aL))) aL)) (bu 1 (λ_=>c30.nd)) (eX [1,2,3,4,5,6,7,8,9,10,11] (ba (cg 2 (λ_=>c30.nd) (lx aj (v0 A) (az 0 (az 1 aL))))
  (ba (br 3 (N':=["_law_script","_law_k","_law_feed_here","_law_picks","_law_house_here","_law_lot_here","_law_pick","_law_cell","_law_half","_law_some","_law_handed","_law_found","_law_j"]) (f:=[TF,TF,TH 2,TF,TF,TF,TF,TF,TF,TF,TF,TF,TF]) aj (λ_=>c30.nd) (λ_=>Blk.of (by rfl')) (jC aj A.T (bd (BY aj gm (lw 2 aj (v1 A) (az 2 (bd gm aL)))) aL)) (bu 12 (λ_=>bR (by rfl'))) eY (lw 2 (CK.blk aj) (v1 A) (az 2 (bd gm aL))))
  (ba (cg 4 (λ_=>c30.nd) (lw 2 aj (v12 A) (az 2 aL)))
  (ba (cg 5 (λ_=>c30.nd) (xt (lw 2 aj (v14 A) (az 2 (az 4 aL)))))
  (cN (jD aj (λ_=>Oa) (cM aj (B2 aj (aO 3) (xw aj b_int A.T.b_int (bd (xr aj tX (aO 5) (pH [] aL) (iE _)) aL)))) (bu 6 (λ_=>c30.nd)) (eX [6,7,8,9,10,11] (ba (cg 7 (λ_=>c30.nd) (Go aj (aO 5) (xu aj (aO 6) (mU aj b_max A.T.b_max (bd gm (bd (mU aj b_len A.T.b_len (az 5 aL)) aL))))))
  (ba (br 8 (N':=["_law_script","_law_k","_law_feed_here","_law_picks","_law_house_here","_law_lot_here","_law_pick","_law_cell","_law_half","_law_some","_law_handed","_law_found","_law_j","_law_one"]) (f:=[TF,TF,TF,TF,TF,TF,TF,TH 7,TF,TF,TF,TF,TF,TF]) aj (λ_=>c30.nd) (λ_=>Blk.of (by rfl')) (xy aj A.T (az 5 aL)) (rG (CK.blk aj) (eB (bu 12 (λ_=>bR (by rfl'))) (eB (bu 13 (λ_=>bR (by rfl'))) n8))) (jd (QW.t (tq (eC (CK.blk aj) CA (xu (CK.blk aj) (aO 12) gm) gm (iE _)) (rJ (eC (CK.blk aj) CA (aO 13) (aO 7) (iE _)))))) (aO 13))
  (cN (jD aj (λ_=>Oa) (cM aj (pI [] (az 5 (bd (BZ 8) (az 5 aL))))) (bu 9 (λ_=>c30.nd)) (eX [9,10,11] (ba (cg 10 (λ_=>c30.nd) (xw aj b_list A.T.b_list (az 9 aL)))
  (ba (cg 11 (λ_=>c30.nd) (lx aj (v25 A) (az 4 (az 10 (az 7 aL)))))
  (ba (xA (QW.t (tq (xB (xD (B1 aj A.T.b_isinstance A.T.b_list J4 (by decide) (aO 11)))) (tq (eC aj tX (aO 11) (lx aj (v29 A) (az 4 (az 9 (az 7 aL)))) (iE _)) (rJ (eC aj tX (aO 10) (aO 9) (iE _)))))) (cN (jE pG)) rH)
  (cN (jc (rE 11 aj zI (aO 11)))))))))))))))))))))
  (ba (cg 2 (λ_=>c30.nd) (lx aj (v0 A) (az 0 (bd gm aL))))
  (cN (jE (Gq (xr aj tX (lw 2 aj (v1 A) (az 2 (bd gm aL))) gm (iE _)) (B3 (lw 2 aj (v26 A) (az 2 aL)))))))) (λ_=>rfl)
end
end K15
open PySem PySem.W PyProof.Rows
set_option maxRecDepth 100000 in
set_option maxHeartbeats 0 in
theorem PySem.Challenge.cw_clockhouse_k15_what_a_cell_needs_holds : PySem.Challenge.rw_clockhouse_k15_what_a_cell_needs.Holds := by
 show holds_law K15.ws λsaid=>?_;show holds_open (q:=K15.KQ) (loose:=K15.KL) (XP:=XL K15.KQ []) (YP:=K15.KH.says) K15.left K15.KH.of K15.KH.keeps (λs e=>xl_of s (LI.mp e).1) XL.keeps (by rfl) (by rfl) (by rfl) (λs e=>recFacts_of (LI.mp e).2) (by rfl) said (by rfl') {Xr,Xr,Xr,Xr,Xr,by decide +kernel} ?hw ?hc
 case hw=>w_witness2
 show L2.walkP (l:=PySem.Challenge.rw_clockhouse_k15_what_a_cell_needs) (k:=28) (x:="_law_script") (st:=K15.s_law) (run:=L2.r_l_law_v11) (A:=K15.Adr) (K:=K15.KF) rfl rfl {Xr,Xr,by decide,by decide} (λw h Y=>Y) K15.adr0 K15.adr_less (λmg K A=>A.d30.to) (λ_ _ _ _ _ _ s v=>.of_eq rfl) (λw mg K base A=>K15.v30 A) (λns hn=>by have(t,h1,h2):=L2.k15_law (ns:=ns) hn;rw[h1,h2])
