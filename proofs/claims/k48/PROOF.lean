import PyProof.Rows.All
import KE.KPairComp
import KE.KEqDict
import KE.KFromBytes
import KE.KIsAll
import KE.KRevIter
import KE.KDictOf
import KE.KSortTup
import PySem.Challenge.RW_clockhouse_k48_cells_and_clocks_carried
set_option Elab.async false
set_option linter.all false
set_option maxRecDepth 100000
set_option maxHeartbeats 4000000
set_option genSizeOf false
set_option bootstrap.genMatcherCode false
set_option compiler.extract_closed false
set_option hygiene false
open Lean in
local macro_rules|`(tactic| ext $p:rintroPat*)=>do
 let i:=p.map fun p=>(⟨p.raw[0][0]⟩:Ident)
 let h:=i[0]!
 let s<-`(tactic| (split at $h:ident<;>first|(cases $h:ident;done)|skip))
 if i.size<2 then return s
 let r:=i.extract 1 i.size
 `(tactic| ($s:tactic;rename_i $[$r:ident]*))
local macro_rules(kind:=«term{_}»)|`({$x:term,*})=>`(⟨$x,*⟩)
open Option renaming none->Uc,some->Ud
open Bool renaming true->Ug,false->Ue
local macro_rules|`(nofun)=>`(by ac_nf)
def X02{P Q:Prop}{G:Prop}(h:P/\Q)(k:P->Q->G):G:=by rcases h with⟨p,q⟩;exact k p q
def X03{P Q R:Prop}{G:Prop}(h:P/\Q/\R)(k:P->Q->R->G):G:=by rcases h with⟨p,q,r⟩;exact k p q r
def X04{P Q R S:Prop}{G:Prop}(h:P/\Q/\R/\S)(k:P->Q->R->S->G):G:=by rcases h with⟨p,q,r,s⟩;exact k p q r s
def X05{P Q R S T:Prop}{G:Prop}(h:P/\Q/\R/\S/\T)(k:P->Q->R->S->T->G):G:=by rcases h with⟨p,q,r,s,t⟩;exact k p q r s t
def X06{P Q R S T U:Prop}{G:Prop}(h:P/\Q/\R/\S/\T/\U)(k:P->Q->R->S->T->U->G):G:=by rcases h with⟨p,q,r,s,t,u⟩;exact k p q r s t u
def X11{P:α->Prop}{G:Prop}(h:∃a,P a)(k:∀a,P a->G):G:=by rcases h with⟨a,p⟩;exact k a p
def X12{P Q:α->Prop}{G:Prop}(h:∃a,P a/\Q a)(k:∀a,P a->Q a->G):G:=by rcases h with⟨a,p,q⟩;exact k a p q
def X13{P Q R:α->Prop}{G:Prop}(h:∃a,P a/\Q a/\R a)(k:∀a,P a->Q a->R a->G):G:=by rcases h with⟨a,p,q,r⟩;exact k a p q r
def X14{P Q R S:α->Prop}{G:Prop}(h:∃a,P a/\Q a/\R a/\S a)(k:∀a,P a->Q a->R a->S a->G):G:=by rcases h with⟨a,p,q,r,s⟩;exact k a p q r s
def X15{P Q R S T:α->Prop}{G:Prop}(h:∃a,P a/\Q a/\R a/\S a/\T a)(k:∀a,P a->Q a->R a->S a->T a->G):G:=by rcases h with⟨a,p,q,r,s,t⟩;exact k a p q r s t
def X21{P:α->β->Prop}{G:Prop}(h:∃a b,P a b)(k:∀a b,P a b->G):G:=by rcases h with⟨a,b,p⟩;exact k a b p
def X22{P Q:α->β->Prop}{G:Prop}(h:∃a b,P a b/\Q a b)(k:∀a b,P a b->Q a b->G):G:=by rcases h with⟨a,b,p,q⟩;exact k a b p q
def X23{P Q R:α->β->Prop}{G:Prop}(h:∃a b,P a b/\Q a b/\R a b)(k:∀a b,P a b->Q a b->R a b->G):G:=by rcases h with⟨a,b,p,q,r⟩;exact k a b p q r
def X24{P Q R S:α->β->Prop}{G:Prop}(h:∃a b,P a b/\Q a b/\R a b/\S a b)(k:∀a b,P a b->Q a b->R a b->S a b->G):G:=by rcases h with⟨a,b,p,q,r,s⟩;exact k a b p q r s
def X25{P Q R S T:α->β->Prop}{G:Prop}(h:∃a b,P a b/\Q a b/\R a b/\S a b/\T a b)(k:∀a b,P a b->Q a b->R a b->S a b->T a b->G):G:=by rcases h with⟨a,b,p,q,r,s,t⟩;exact k a b p q r s t
def X26{P Q R S T U:α->β->Prop}{G:Prop}(h:∃a b,P a b/\Q a b/\R a b/\S a b/\T a b/\U a b)(k:∀a b,P a b->Q a b->R a b->S a b->T a b->U a b->G):G:=by rcases h with⟨a,b,p,q,r,s,t,u⟩;exact k a b p q r s t u
def X32{P Q:α->β->γ->Prop}{G:Prop}(h:∃a b c,P a b c/\Q a b c)(k:∀a b c,P a b c->Q a b c->G):G:=by rcases h with⟨a,b,c,p,q⟩;exact k a b c p q
def X33{P Q R:α->β->γ->Prop}{G:Prop}(h:∃a b c,P a b c/\Q a b c/\R a b c)(k:∀a b c,P a b c->Q a b c->R a b c->G):G:=by rcases h with⟨a,b,c,p,q,r⟩;exact k a b c p q r
def X34{P Q R S:α->β->γ->Prop}{G:Prop}(h:∃a b c,P a b c/\Q a b c/\R a b c/\S a b c)(k:∀a b c,P a b c->Q a b c->R a b c->S a b c->G):G:=by rcases h with⟨a,b,c,p,q,r,s⟩;exact k a b c p q r s
def X35{P Q R S T:α->β->γ->Prop}{G:Prop}(h:∃a b c,P a b c/\Q a b c/\R a b c/\S a b c/\T a b c)(k:∀a b c,P a b c->Q a b c->R a b c->S a b c->T a b c->G):G:=by rcases h with⟨a,b,c,p,q,r,s,t⟩;exact k a b c p q r s t
def X43{P Q R:α->β->γ->δ->Prop}{G:Prop}(h:∃a b c d,P a b c d/\Q a b c d/\R a b c d)(k:∀a b c d,P a b c d->Q a b c d->R a b c d->G):G:=by rcases h with⟨a,b,c,d,p,q,r⟩;exact k a b c d p q r
def X44{P Q R S:α->β->γ->δ->Prop}{G:Prop}(h:∃a b c d,P a b c d/\Q a b c d/\R a b c d/\S a b c d)(k:∀a b c d,P a b c d->Q a b c d->R a b c d->S a b c d->G):G:=by rcases h with⟨a,b,c,d,p,q,r,s⟩;exact k a b c d p q r s
def X45{P Q R S T:α->β->γ->δ->Prop}{G:Prop}(h:∃a b c d,P a b c d/\Q a b c d/\R a b c d/\S a b c d/\T a b c d)(k:∀a b c d,P a b c d->Q a b c d->R a b c d->S a b c d->T a b c d->G):G:=by rcases h with⟨a,b,c,d,p,q,r,s,t⟩;exact k a b c d p q r s t
def Xr{c:Sort _}{a:c}:a=a:=rfl
def Xn{a:α}{C:Prop}(h:none=some a):C:=nomatch h
def Xb{C:Prop}(h:false=true):C:=nomatch h
def Xs{a b:α}{C:Prop}(h:some a=some b)(k:b=a->C):C:=k (Option.some.inj h).symm
def Xt{a b:α}{c d:β}{C:Prop}(h:some (a,c)=some (b,d))(k:b=a->d=c->C):C:=by cases h;exact k rfl rfl
local macro_rules|`(tactic| cases $h:ident)=>`(tactic| first|exact Xn $h|exact Xb $h|subst $h:ident|(refine Xt $h fun e_1 e_2=>?_;clear $h;subst e_1;subst e_2)|(refine Xs $h fun e_1=>?_;clear $h;subst e_1)|cases ($h))
open Lean Parser.Tactic in
local macro_rules|`(tactic| have($x,$y,*):=$t)=>do
 let e:=#[x]++y.getElems
 let mut b:=#[]
 let mut u:=#[]
 let mut p:=#[]
 for x in e do
  let i:Ident:=⟨x.raw⟩
  p:=p.push (<-if i.raw.isIdent then `(rcasesPatLo|$i:ident) else `(rcasesPatLo|_))
  if i.getId==`rfl then
   let j:=mkIdent (.mkSimple s!"e_{b.size}")
   b:=b.push j;u:=u.push (<-`(tactic| subst $j:ident))
  else b:=b.push i
 let f<-`(tactic| rcases $t:term with⟨$p,*⟩)
 if t.raw.isIdent&&e.any (·.raw.getId==t.raw.getId) then return f
 if t.raw.isIdent then u:=u.push (<-`(tactic| try clear $(⟨t.raw⟩):ident))
 let n:=e.size
 let mut c<-`(tactic| fail)
 for k in [0:n] do
  let q:=n-1-k
  c<-`(tactic| first|refine $(mkIdent (.mkSimple s!"X{q}{n-q}")) $t fun $b*=>?_|$c:tactic)
 for v in u do c<-`(tactic| ($c:tactic;$v:tactic))
 `(tactic| first|$c:tactic|$f:tactic)
open Lean Parser.Tactic in
local macro_rules|`(tactic| rcases $t:term with $p:rcasesPatLo)=>do
 let s:=p.raw[0][0].getSepArgs
 if s.size != 2 then Macro.throwUnsupported
 let g(a:Syntax):MacroM (Ident×TSyntax `tactic):=do
  if a.getKind==`Lean.Parser.Tactic.rcasesPat.one then
   let i:Ident:=⟨a[0]⟩
   if i.getId==`rfl then return (mkIdent `h_9,<-`(tactic| subst h_9))
   return (i,<-`(tactic| skip))
  if a.getKind != `Lean.Parser.Tactic.rcasesPat.tuple then Macro.throwUnsupported
  let mut r:Array Term:=#[]
  for e in a[1].getSepArgs do
   let x:=e[0][0]
   if e[1].getNumArgs==0&&x.getNumArgs==1&&x[0].getKind==`Lean.Parser.Tactic.rcasesPat.one then r:=r.push ⟨x[0][0]⟩
  if r.size==a[1].getSepArgs.size&&r.size>1 then
   let y:=r.extract 1 r.size
   return (mkIdent `h_9,<-`(tactic| have($(r[0]!),$y,*):=h_9))
  let q:TSyntax ``rcasesPatLo:=⟨mkNode ``rcasesPatLo #[mkNode ``rcasesPatMed #[mkNullNode #[a]],mkNullNode]⟩
  return (mkIdent `h_9,<-`(tactic| rcases h_9 with $q:rcasesPatLo))
 let (i,c)<-g s[0]!
 let (j,d)<-g s[1]!
 `(tactic| (refine Or.elim $t (fun $i=>?_) (fun $j=>?_);$c:tactic;rotate_left;$d:tactic;rotate_right))
local macro_rules|`(~~~$x)=>`(not $x)
local macro_rules|`(!$x)=>`(List $x)
local macro_rules|`(↑$x)=>`(Option $x)
local macro_rules|`($x*>$y)=>`($x=some $y)
local macro_rules|`(abbrev $i:declId $s:optDeclSig $v:declVal)=>`(noncomputable def $i:declId $s:optDeclSig $v:declVal)
local macro_rules|`(private def $i:declId $s:optDeclSig $v:declVal)=>`(@[irreducible] noncomputable def $i:declId $s:optDeclSig $v:declVal)
local macro_rules|`(protected def $i:declId $s:optDeclSig $v:declVal)=>`(@[reducible] def $i:declId $s:optDeclSig $v:declVal)
local macro_rules|`(def $i:declId $b:bracketedBinder* : $t $v:declVal)=>`(theorem $i:declId $b:bracketedBinder* : $t $v:declVal)
local macro_rules|`(↥$x)=>`(some ⟨.ow,.im $x⟩)
local macro_rules|`(⇑$x)=>`(some ⟨.ow,$x⟩)
local macro_rules|`(⋯)=>`(by omega)
local macro_rules|`(∅)=>`(by simp)
local macro_rules|`(tactic| dsimp[$l,*]$[at $h]?)=>`(tactic| simp only[$l,*]$[at $h]?)
local macro_rules|`(tactic| exists $e)=>`(tactic| simpa using $e)
local macro_rules|`(tactic| delta $i*)=>`(tactic| rename_i $[$i:ident]*)
local macro_rules|`(tactic| show $e)=>`(tactic| refine $e)
open PySem renaming wpAny_bind->NO,Value->Oa,Shared->Od,sizeLine_eq->Oe,wpAny_pure->Of,wpAny->Oj,model->Ol,Builtin->Om,Program->On,NameKind->Oo,World->Oq,Around->Ot,starEach->Ox,cellsFrom->Oz,wpAny_mono->OB,wpAny_newObj_type->OC,wpAny_field->OG,compareOp->OH,wpAny_holding->OI,wpAny_callSpecial?_slot->OJ,mainGlobals->OM,wpAny_call_entry->OP,binaryOp->OQ,wpAny_seqItems->OT,wpAny_pyIter_tuple->OU,cLine->OV,wpAny_truthy_bool->OW,foldedSetIterable->OX,holding->OZ,bootBuiltins->O7,attributeBase->O8,assignEach->Pj,call_meets->Pk,wpAny_passesOwn->Po,codeAny->Pq,sysModules->Ps,FuncData->Pt,wpAny_setField->Pu,IsPair->Pv,sliceBounds->Px,letOwnedTupleGo->PD,codeAny_builtin->PH,behindInMarks->PJ,wpAny_standAt->PK,PassesOwn->PL,wpAny_pyIter_list->PM,wpAny_binaryOp_repeat_ref->PR,rawInt->PV,wpAny_comprehension_free->PX,assign->P0,getattributeRaised->P3,Scope->P5,backTo->P6,wpAny_typeOf->P7,newFunctionEnv->Qa,wpAny_rule->Qc,typeIs_int->Qd,PlainAttrs->Qe,wpAny_updateSeq_pair->Qh,wpAny_execs_nil->Qj,pyNext->Qk,wpAny_loadPart'->Qo,standAt->Qq,valueAt->Qt,wpAny_Call_Name_kw->Qw,fitsIndex_both->Qy,setItem->QK,swapsWithSole->QN,swappedStores->QP,IsPart->QU,wpAny_onRaise->QY,stored->QZ,swapsWith->Q0,wpAny_pyNext_tuple_item->Q3,noFill_tuple_add->Q4,wpAny_Call_method0_late->Q5,seqItems?->Q8,wpAny_pyNext_list_item->Re,wpAny_pyNext_tuple_end->Rf,codeAny_mono->Rg,getItem->Rh,relabel->Rj,notedBy->Rk,pushCells_keeps->Ro,wpAny_isTrue_Compare1->Rs,wpAny_pyNext_list_end->Rt,int___rmul___int_list->Rv,subscripted->Rx,wpAny_listPart->Ry,wpAny_letGo->Rz,Draws->RA,DictEntry->RD,BindsTo->RE,callerA->RF,wpAny_dictSet_pairs->RJ,assignInOrder->RK,seq_tuple_add->RL,evalPart_none->RM,wpAny_attempt->RO,plainId_quiet->RQ,builtinsNs->RV,isTrue->RW,Result->RX,typeLookup->RY,typeOf->R3,sub_AttributeError->R7,wpAny_assign_Name->R8,concat_meets->Sa,wpAny_sequenceKey->Sb,slot_list_getitem->Sc,slot_list_setitem->Se,wpAny_pyIter_enum->Si,call_meetsIn->Sl,wpAny_execs_cons->So,wpAny_isInstance->Sw,wpAny_pyIter_zip->Sy,seqIndex_of->SA,field->SB,noFill_list_mul->SH,wpAny_specialOf->SJ,theTreesLotGoes->SK,post_val_or_str->SM,am_miss_of_fast->SN,release->SO,Keyword->SQ,wpAny_Name->SS,CmpOp->SU,truthy->SV,bindName->SW,wpAny_bindName->SX,pyIter->SY,Walks->SZ,recursionLimit->Ta,bindArgs->Tb,bindL->Tc,bindC->Td,typeIs_str->Th,sliceRange_one->Ti,firstArgMember->Tl,isSubtype_stop->Tn,IsZip->Tp,wpAny_newTuple->Tq,getAttr?->Tr,carriedByValue->Ts,seqIndex?->TB,Params->TJ,dictSet->TN,ItemsOf->TQ,pick_run->TV,compEnvC->TW,compPost->TX,IsEnum->T6
open PySem.Heap renaming get?_push_of_some->Oc,get?_push_size->Og,lt_size->Oh,SameBut->Ou,size_push->OD,get?_update_self->O6,get?_update_other->P8,ExtBut->QM,push->Ua
open Ne renaming symm->Op
open PySem.Builtin.SmallTypes renaming nextOf->Os,ownedTupleIsFree->PY,ownedTupleHandOut->RH
open PySem.NameKind renaming cell->Ov,free->Pl
open PySem.AutoSeq1 renaming wpAny_loadPart'->Ow,idx_int->Sv
open PySem.Str renaming ofString->Oy,length->T2
open PySem.SeqAt renaming EqAt->OA,notIn_tupleAt->RG,notIn_listAt->R0,RcNeAt->Sf,in_tupleAt->Sr,in_listAt->SF,RcAt->Tj
open PySem.Builtin.Str renaming strSliceIndices->OE,occurrences->Pi,tooLong->T1
open PySem.Value renaming none->OL,ref->OR,bool->Py,ellipsis->PP,builtin->QX,int->RC,type->RU,str->Sn,isStrOf->Tw,isInt->TR
open PySem.Obj renaming mapFields->ON,mapSeq->PB,data_mapFields->R5
open Sum renaming inr->OO,inl->Rc
open PySem.Builtin.Tuple renaming tupleExact->OS,tupleTooMany->Qz,tupleItemsOf->Tf,tupleHashOf->Tu
open PySem.Heap.SameBut renaming update->OY
open PySem.Builtin.List renaming listTooLong->O9,listSubscript?->Qr,listAllItems->QD,listSameRef->QV,listItems->TH
open PySem.Around renaming under_plainId->Ph
open PySem.F renaming slot_tuple_iterator_next->Pm,slot_int_rmul->PF,slot_tuple_getattribute->PU,slot_list_getattribute->PZ,slot_tuple_mul->Qf,slot_dict_itemiterator_iter->Qi,args_tuple_iterator_next_1->Qn,slot_zip_next->Qp,entry_tuple_iterator_next->Qs,args_int_rmul_2->QL,slot_int_index->Q6,entry_int_rmul->Q7,fills_int_mul->Rn,slot_enumerate_next->Rw,args_tuple_mul_2->R4,args_list_mul_2->Sd,slot_tuple_rmul->Sg,entry_tuple_mul->Sh,args_zip_next_1->Sj,slot_dict_items->Sk,plain_list_iadd->Sm,entry_list_pop->Ss,entry_list_mul->Su,entry_zip_next->Sx,slot_list_pop->SG,slot_list_mul->SI,slot_list_ne->Tt
open PySem.Builtin.Slice renaming slicePlaces->Pn,sliceAdjust->PQ,sliceApplied->Qx,slicePartIndex->SD,sliceFields->Tv
open PySem.PassesOwn renaming never->Pp
open PySem.MeetsSeq3 renaming plain_eq_loop->Pw,entry_eq_loop->Rb
open False renaming elim->Pz
open True renaming intro->PN
open PySem.AutoListH renaming list___mul___list_int_3->P4
open PySem.Calls renaming callWith_builtin->P9,Name_function_global->Qu
open PySem.Txt renaming join->Qb,slice->TC
open Classical renaming choose->Qg
open PyProof.Rows renaming envOfC->Ql,assignInOrder_cons->Qv,AllBare->QJ,subscriptTail_builtinR->Ri,seqObj->RB,subscriptTail->RN,listUpdate_at->RP,assignInOrder_nil->R9,seqEpoch_at->SC,IntsAre->SR,slicePart_none->Te,Subscript_->Tg,range_getD->TD,IsTup->TU
open ForInStep renaming yield->Qm
open PySem.Code renaming quiet_builtin->QB
open Sum.inr renaming inj->QH
open PySem.Builtin.Dict renaming updateFrom->Q9,pairItems->Rl,selfAndRest->Tx
open PySem.W renaming kas_sort->Ra,specialIn->TF,OpenLaw->TK,WShape->TL,findIn->TM,WData->T7
open PySem.Heap.DictOf renaming new->Rq
open PySem.SeqAt.EqAt renaming int_str->RS,str_int->RT,same->SE
open PySem.Heap.IsSliceOf renaming new->RZ
open Or renaming inr->R6,inl->To
open PySem.SeqAt.RcNeAt renaming lists_lengths->Tk,tuples->TZ,lists->T4
open PySem.Builtin.Range renaming rangeSize->Tz
open PySem.Walks renaming tuple->TY,list->T5
open PySem.W.WShape renaming has->T3
open PySem.Flow renaming next->T8
open PySem.W.WData renaming int->T9
open List renaming length_map->Jr,getElem?_eq_some_iff->Js,map_cons->Jt,size_toArray->Ju,replicate->Jw,nodup_append->Jy,mem_map->Jz,getElem?_map->JB,map_append->JC,mem_filter->JD,range->JE,length_cons->JH,flatMap_cons->JI,map_map->JJ,append_assoc->JK,flatMap_append->JL,getElem?_set_ne->JM,getD_eq_getElem?_getD->JO,length_append->JP,nodup_cons->JS,take_length->JU,mem_cons->JV,getElem?_eq_getElem->JW,take_add_one->JX,filterMap_cons->JY,not_mem_nil->JZ,length_take->J1,cons_append->J3,perm_middle->Ka,mem_map_of_mem->Kb,take_of_length_le->Kc,append_nil->Kg,mem_filterMap->Kh,replicate_succ->Kj,lookup_cons->Kk,map_nil->Kl,exists_cons_of_length_eq_add_one->Km,filter_sublist->Kn,getElem?_cons_succ->Ko,length_range->Kq,getElem?_append_left->Kr,length_drop->Kt,getElem?_set_self->Kv,cons->Kw,mem_flatMap->Kx,getElem?_zip_eq_some->Ky,drop_eq_getElem_cons->Kz,zipWith->KB,length->KC,length_eq_zero_iff->KI,contains_eq_mem->KJ,mem_of_mem_take->KM,mem_range->KO,getElem?_append_right->KP,flatten_cons->KR,nil_append->KT,mem_iff_getElem?->KW,take_append_drop->KY,all_eq_true->K0,eq_nil_of_length_eq_zero->K5,mem_of_mem_drop->K6,getElem?_cons_zero->K7,length_set->K8,filter_eq_self->La,getElem_cons_drop->Lb,map_take->Lc,filter_cons->Ld,nodup_nil->Le,filterMap_append->Lh,getElem?_take_of_lt->Lk,all_cons->Ll,map_drop->Lm,eraseIdx_eq_take_drop_succ->Lo,map_congr_left->Lp,mem_replicate->Ls,filter_map->Lu,length_zip->Lv,ext_getElem?->Ly,forIn_cons->LD,find?_cons->LG,range_succ->LH,filterMap_map->LI,append_of_mem->LJ,map_singleton->LK,eraseIdx_cons_succ->LL,eraseIdxIfInBounds_toArray->LS,perm_append_comm->LU,drop_length->LV,lookup->LW,not_lt->LX,getLast?_append->LY,length_zipWith->L0,length_pos_iff->L5,getElem?_range->L6,map_set->L7,filter_filter->Ma,perm_ext_iff_of_nodup->Mb,take_succ->Md,getElem?_inj->Mf,any_cons->Mg,append_cancel_right->Mi,getElem?_replicate->Mj,flatMap_eq_nil_iff->Mo,set->Mp,foldl->Mq,range_succ_eq_map->Ms,sublist_cons_self->Mv,zipWith_cons_cons->Mw,mem_append->Mx,of_mem_zip->My,foldl_cons->Mz,head?_drop->MC,dropLast_eq_take->MD,set_append_left->MK,drop_drop->ML,map_eq_nil_iff->MU,zipWith_append->MV,filter_append->MY,set_cons_succ->MZ,pairwise_cons->M0,all_nil->M4,eraseIdx_nil->M5,take_zipWith->M6,mem_flatten->Na,flatMap_nil->Nc,any_eq_true->Nd,le_antisymm->Nf,nodup_range->Ng,forIn_nil->Nk,drop_zero->Nl,take_zero->Nm,map->No,sum_cons->Nt,all_map->Nz,map_id->NF
open Bool renaming and_eq_true->Jv,false_ne_true->JF,not_eq_true'->Kf,eq_iff_iff->KS,false_eq_true->Lr,and_self->LC,or_eq_true->LF,true_and->Mh,and_eq_true_iff->MP,false_or->MW,not_eq_true->M9,false_and->Nj,not_false->Nn,and_true->Nq,true_or->Ny
open Nat renaming le_refl->JA,ne_of_lt->JG,lt_of_lt_of_le->JN,zero_add->Ke,le_trans->Ks,zero_le->Ku,lt_irrefl->KA,le_add_right->KD,succ->KG,lt_of_le_of_lt->KZ,ne_of_gt->K2,le_of_lt->Li,lt_succ_of_lt->Lj,zero_lt_succ->Lq,le_of_ble_eq_true->Lx,lt_succ_self->LA,le_succ->LM,mul_le_mul->LP,min_eq_left->LZ,mod_lt->Mc,le_max_right->Mm,lt_trans->Mr,le_max_left->MB,add_le_add_left->MR,mul_comm->M2,min_self->M3,succ_le_succ->M8,not_lt_zero->Ni,succ_mul->Nx
open Option renaming map_eq_some_iff->JQ,some->JT,map_some->KU,isSome_iff_exists->LB,getD_none->Mk,bind_eq_some_iff->Mn,none->NE
open Int renaming toNat_natCast->JR,emod_lt_of_pos->Lf,emod_nonneg->Lw,fdiv_eq_ediv_of_nonneg->L8,eq_ofNat_of_zero_le->Ml,natAbs_mul->Np,zero_add->NA,le_refl->NG,one_mul->NH
open Array renaming length_toList->Ki,getElem?_toList->Lg,toArray_toList->MN,append_assoc->MX,toList->Nv
open PyProof.Rows renaming callWith_type1->KN,slot_tuple_getitem->Ln,boot_tuple->LN,boot_list->LQ,boot_dict->LR,boot_min->MF,boot_max->MH,boot_int->MJ,callWith_builtin1->M7,boot_sorted->Nr,boot_range->Nu,boot_bool->NB,boot_all->NC,boot_sum->ND
open PySem.W renaming fnOf->K3,keepIn->K4,codeIn->Lz,cellsFrom_some->LO,findIn->L9,methodObj->Me,nsIn->Mt,kitOne->MM,specialIn->M1,instObj->Nh,isFn->Nw
open PySem renaming mem_of_lookup->K9,evalArgs_none->MQ,seqSlot_of->Nb
local macro_rules|`(tactic| unhygienic $t)=>`(tactic| with_unfolding_all $t)
local macro_rules|`(tactic| rfl')=>`(tactic| kernel_rfl)
def K48.ws:PySem.Challenge.rw_clockhouse_k48_cells_and_clocks_carried.wellSaid=Ug:=by rfl'
def yaR{a:Type}{b : a}(x:!a){y:!a}(h:b∈y):b∈x++y:=List.mem_append_right x h
def yaL{a:Type}{b : a}{x:!a}(y:!a)(h:b∈x):b∈x++y:=List.mem_append_left y h
def ymS{a:Type}{b : a}{x:!a}:b∈b::x:=List.mem_cons_self
def ymC{a:Type}{b : a}(y : a){x:!a}(h:b∈x):b∈y::x:=List.mem_cons_of_mem y h
def yaM{a:Type}{b : a}{x y:!a}(h:b∈x++y):b∈x\/b∈y:=Mx.mp h
def ycM{c:Type}{b a : c}{x:!c}(h:b∈a::x):b=a\/b∈x:=JV.mp h
def ysM{c:Type}{b a : c}(h:b∈[a]):b=a:=List.mem_singleton.mp h
def ymG{c:Type}{x:!c}{i:Nat}{a : c}(h:x[i]?*>a):a∈x:=List.mem_of_getElem? h
protected def yF:=PySem.W.Frag
namespace L2
open PySem PySem.Spec PyProof.Rows
protected def Key:=Sum Int Str
abbrev l7:Key->Oa->Bool
 | .inl k,v=>TR k v
 | .inr x,v=>Tw x v
abbrev Jb(w:Oq):Key->Int
 | .inl k=>hashInt k
 | .inr x=>hashStr w x
def bz:∀{k:Key} {v:Oa},l7 k v=Ug->(∃i t,k=Rc i/\v=RC i t)\/(∃x t,k=OO x/\v=Sn x t)
 | .inl i,v,h=>by
  have(t,e):=Oa.isInt_shape (k:=i) (v:=v) h;show .inl ⟨i,t,Xr,e⟩
 | .inr x,v,h=>by
  have(t,e):=Oa.isStrOf_shape (x:=x) (v:=v) h;show .inr ⟨x,t,Xr,e⟩
def vo(i:Int)(t:Tok):l7 (.inl i) (.int i t)=Ug:=by simp[l7,TR]
def vp(x:Str)(t:Tok):l7 (.inr x) (.str x t)=Ug:=by simp[l7,Tw]
def Ee(a b:Int):decide ((Rc a:Key)=Rc b)=(a==b):=by
 by_cases e:a=b;subst e;simp
 .have h:¬ (Rc a:Key)=Rc b:=λq=>e (Rc.inj q);rw[decide_eq_false h];show(beq_eq_false_iff_ne.mpr e).symm
def Eh(a b:Str):decide ((OO a:Key)=OO b)=decide (a=b):=by
 by_cases e:a=b;subst e;simp
 .have h:¬ (OO a:Key)=OO b:=λq=>e (QH q);rw[decide_eq_false h,decide_eq_false e]
def Ef(a:Int)(b:Str):decide ((Rc a:Key)=OO b)=Ue:=decide_eq_false (λq=>nomatch q)
def Eg(a:Str)(b:Int):decide ((OO a:Key)=Rc b)=Ue:=decide_eq_false (λq=>nomatch q)
abbrev aU(prog:On) (w:Oq):PySem.KeyKind prog w Key where
 is:=l7
 hash:=Jb w
 inj:=λv a b ha hb=>by
  rcases bz ha with⟨i,t,rfl,rfl⟩|⟨x,t,rfl,rfl⟩
  .rcases bz hb with⟨j,u,rfl,e⟩|⟨y,u,rfl,e⟩;injection e with e1 _;rw[e1];show nomatch e
  .rcases bz hb with⟨j,u,rfl,e⟩|⟨y,u,rfl,e⟩;show nomatch e;injection e with e1 _;rw[e1]
 byValue:=λk v h=>by
  rcases bz h with⟨i,t,rfl,rfl⟩|⟨x,t,rfl,rfl⟩<;>rfl
 pyHash:=λhv h=>by
  rcases bz hv with⟨i,t,rfl,rfl⟩|⟨x,t,rfl,rfl⟩;show wpAny_pyHash_int h;show wpAny_pyHash_str h
 eqBool:=λhu hv h=>by
  rcases bz hu with⟨i,t,rfl,rfl⟩|⟨x,t,rfl,rfl⟩
  .rcases bz hv with⟨j,u,rfl,rfl⟩|⟨y,u,rfl,rfl⟩;rw[Ee]at h;show wpAny_eqBool_int h;rw[Ef]at h;show RS i t y u _ _ _ _ h
  .rcases bz hv with⟨j,u,rfl,rfl⟩|⟨y,u,rfl,rfl⟩;rw[Eg]at h;show RT x t j u _ _ _ _ h;rw[Eh]at h;show wpAny_eqBool_str h
 «strs»:=λk x t v h=>by
  rcases bz h with⟨i,u,rfl,e⟩|⟨y,u,rfl,e⟩;show nomatch e
  .injection e with e1 _;subst e1;cases v<;>rfl
def qP(prog:On)(w:Oq)(i:Int)(t:Tok):(aU prog w).is (.inl i) (.int i t)=Ug:=vo i t
def qQ(prog:On)(w:Oq)(x:Str)(t:Tok):(aU prog w).is (.inr x) (.str x t)=Ug:=vp x t
inductive V where
 | non|bl (b:Bool)|int (i:Int)|str (x:Str)|byt (b:Array UInt8)|flt (b:UInt64)|ref (a:Addr)|ty (n:String)
 deriving DecidableEq
abbrev RelV:V->Oa->Prop
 | .non,u=>u=OL
 | .bl b,u=>u=Py b
 | .int i,u=>∃t,u=RC i t
 | .str x,u=>∃t,u=Sn x t
 | .byt b,u=>∃t,u=Oa.bytes b t
 | .flt b,u=>∃t,u=Oa.float b t
 | .ref a,u=>u=OR a
 | .ty n,u=>u=RU n
protected def Vals:!V->!Oa->Prop:=Paired RelV
def Vals.length{a:!V}{us:!Oa}(r:Vals a us):a.length=us.length:=Paired.length r
def Vals.get:∀{a:!V} {us:!Oa} {i:Nat} {x:V},Vals a us->a[i]?*>x->∃u,us[i]?*>u/\RelV x u
 | _,_,_,_,.nil,e=>by simp at e
 | _,_,0,_,.cons r _,e=>by simp at e;subst e;show{_,Xr,r}
 | _,_,i+1,x,.cons _ t,e=>by
  have(u,d,c):=Vals.get (i:=i) (x:=x) t (by exists e);show{u,by simpa using d,c}
def Vals.set{x:V}{u:Oa}(r:RelV x u):∀{a:!V} {us:!Oa} (i:Nat),Vals a us->Vals (a.set i x) (us.set i u)
 | _,_,_,.nil=>.nil
 | _,_,0,.cons _ t=>.cons r t
 | _,_,i+1,.cons q t=>.cons q (Vals.set r i t)
def Vals.append:∀{c a:!V} {us ws:!Oa},Vals c us->Vals a ws->Vals (c++a) (us++ws):=by
 intro c a us ws h k
 induction h with
 | nil=>show k
 | cons r t d=>show .cons r d
def Vals.take:∀{a:!V} {us:!Oa} (n:Nat),Vals a us->Vals (a.take n) (us.take n)
 | _,_,0,_=>.nil
 | _,_,_+1,.nil=>.nil
 | _,_,n+1,.cons r t=>.cons r (Vals.take n t)
def Vals.drop:∀{a:!V} {us:!Oa} (n:Nat),Vals a us->Vals (a.drop n) (us.drop n)
 | _,_,0,r=>r
 | _,_,_+1,.nil=>.nil
 | _,_,n+1,.cons _ t=>Vals.drop n t
abbrev RelO:↑V->↑Oa->Prop
 | some v,Ud u=>RelV v u
 | none,Uc=>True
 | _,_=>False
abbrev KV{κ : Type}:!(κ×V)->!(κ×Oa)->Prop:=Paired λ(p : κ×V) (q : κ×Oa)=>p.1=q.1/\RelV p.2 q.2
abbrev kV:Key->V
 | .inl i=>.int i
 | .inr x=>.str x
protected def K1:=Sum Key !Key
section
variable (P:On)(w:Oq)
abbrev hk1:K1->Int
 | .inl k=>(aU P w).hash k
 | .inr a=>tupleKeyHash (aU P w) a
abbrev hk2(ks:!K1):Int:=reduceHash (Tu (ks.map (hk1 P w)))
abbrev enK(x:!K1×Addr×Oa):RD:={hk2 P w x.1,.ref x.2.1,x.2.2}
end
inductive HO where
 | lst (xs:!V)
 | tup (xs:!V)
 | dK (kvs:!(Key×V))|dT (kvs:!(!K1×Addr×V))
 | set (S:Int->Bool) (n:Nat)
 | ins (C dx:Addr) (fs:!(Str×V))
 | own (x:Addr)
 | xd (fs:!(Str×V))
 | met (f x:Addr)
 | rng (lo hi:Int)
 | frz (o:Obj) (u:HO)
 | tbl (ps:Array Oa)
 | ext (φ : Heap->Prop)
protected def Hp:=Addr->↑HO
abbrev upd(H:Hp) (a:Addr) (o:HO):Hp:=λb=>if b=a then Ud o else H b
def aA{H:Hp}{a:Addr}{o:HO}:upd H a o a*>o:=by unfold upd;rw[if_pos rfl]
def aT{H:Hp}{a b:Addr}{o:HO}(h:b≠a):upd H a o b=H b:=by unfold upd;rw[if_neg h]
def bH{H:Hp}{a b:Addr}{o:HO}(h:H a*>o)(h':H b=Uc):a≠b:=by
 intro e;subst e;rw[h]at h';cases h'
abbrev NR(h:Heap)(a:Addr)(items:Array Oa):Prop:=∃o,h.get? a*>o/\(o.cls=.type "tuple" /\ o.dict=Uc)/\∃n,o.data=.seq items n
def NR.to{h:Heap}{a:Addr}{items:Array Oa}(x:NR h a items):TU h a items:=let ⟨o,e,c,d⟩:=x;⟨o,e,c.1,d⟩
def NR.new(h:Heap)(items:Array Oa):NR (h.push {cls:=.type "tuple",data:=.seq items}) h.objs.size items:={_,Og _ rfl,⟨Xr,Xr⟩,_,Xr}
section
variable (P:On)(w:Oq)
abbrev NI(H:Hp)(h:Heap)(a:Addr):HO->Prop
 | .lst e=>e.length<=sizeLine/\∃(c:!Oa) (n:Nat),Vals e c/\h.get? a=Ud {cls:=.type "list",data:=.seq c.toArray n}
 | .tup e=>e.length<=sizeLine/\∃c:!Oa,Vals e c/\NR h a c.toArray
 | .dK d=>d.length<=sizeLine/\(a==Ps)=Ue/\∃vs,KV d vs/\h.DictOf (aU P w) a vs
 | .dT d=>d.length<=sizeLine/\(a==Ps)=Ue/\∃e:!(!K1×Addr×Oa),
   Paired (λ(p:!K1×Addr×V) (q:!K1×Addr×Oa)=>p.1=q.1/\p.2.1=q.2.1/\RelV p.2.2 q.2.2) d e /\
   ∃o m y,h.get? a*>o/\o.ExactDict/\o.data=.dict m y/\m.toList=e.map (enK P w)/\(e.map (·.1)).Nodup
 | .set S n=>h.SetOf (intKind P w) a S n
 | .ins C j i=>H j*>(.own a)/\i.length<=1000/\j≠a/\h.get? a*>(Nh C j) /\
   ∃g,h.Ns1 j g/\(∀f,RelO (i.lookup f) (g f))/\PySem.Within g (i.map (·.1))
 | .own _=>∃o,h.get? a*>o
 | .xd i=>∃g,h.Ns1 a g/\∀f,RelO (i.lookup f) (g f)
 | .rng lo z=>∃t u v,h.get? a=Ud {cls:=.type "range",data:=.fields #[.int lo t,.int z u,.int 1 v]}
 | .frz o u=>h.get? a*>o/\NI H h a u
 | .tbl s=>h.get? a=Ud {cls:=.none,data:=.fields s}
 | .met f x=>h.get? a*>(Me (.ref f) (.ref x))
 | .ext k=>k h/\(∃o,h.get? a*>o)/\∀r l:Heap,k r->(∀o,r.get? a*>o->l.get? a*>o)->k l
abbrev HOk(H:Hp)(h:Heap):Prop:=∀a o,H a*>o->NI P w H h a o
end
section
variable {P:On}{w:Oq}{H H':Hp}{h h':Heap}{a:Addr}{o:HO}
def NI.lt(x:NI P w H h a o):a<h.objs.size:=by
 cases o with
 | lst g=>have(_,_,_,_,e):=x;show Oh e
 | tup g=>have(_,_,_,p):=x;show p.to.lt
 | dK c=>have(_,_,_,_,o,_,_,e,_):=x;show Oh e
 | dT c=>have(_,_,_,_,o,_,_,e,_):=x;show Oh e
 | set S n=>have(o,_,_,_,e,_):=x;show Oh e
 | ins C k d=>have(_,_,_,e,_):=x;show Oh e
 | own y=>have(_,e):=x;show Oh e
 | xd d=>obtain⟨_,⟨_,_,_,e,_⟩,_⟩:=x;show Oh e
 | rng lo l=>have(_,_,_,e):=x;show Oh e
 | frz m u=>have(e,_):=x;show Oh e
 | tbl j=>show Oh (show h.get? a*>_ from x)
 | met f y=>show Oh (show h.get? a*>_ from x)
 | ext i=>obtain⟨_,⟨_,e⟩,_⟩:=x;show Oh e
def Paired.mapP{g e:Type}{F G : g->e->Prop}:∀{c : !g} {d : !e},Paired F c d->(∀a b,F a b->G a b)->Paired G c d:=by
 intro c d h f
 induction h with
 | nil=>show .nil
 | cons r t i=>show .cons (f _ _ r) i
def NI.stay(x:NI P w H h a o)(k:∀b u,(b=a\/H b*>(.own a))->h.get? b*>u->h'.get? b*>u)
  (ho:∀b,H b*>(.own a)->H' b*>(.own a)) (O:∀b m,H b*>(.tup m)->H' b*>(.tup m)):NI P w H' h' a o:=by
 induction o with
 | lst m=>have(z,l,n,r,e):=x;show{z,l,n,r,k _ _ (.inl rfl) e}
 | tup m=>have(z,l,r,g,e,c):=x;show{z,l,r,g,k _ _ (.inl rfl) e,c}
 | dK s=>have(z,y,vs,r,g,j,i,e,c):=x;show{z,y,vs,r,g,j,i,k _ _ (.inl rfl) e,c}
 | dT s=>
  have(z,y,m,r,g,j,i,e,c):=x;show{z,y,m,r,g,j,i,k _ _ (.inl rfl) e,c}
 | set S n=>have(g,j,i,t,e,c):=x;show{g,j,i,t,k _ _ (.inl rfl) e,c}
 | ins C N G=>
  obtain⟨d,z,J,e,B,⟨A,j,i,L,c⟩,r⟩:=x;show{ho _ d,z,J,k _ _ (.inl rfl) e,B,{A,j,i,k _ _ (.inr d) L,c},r}
 | own y=>have(g,e):=x;show{g,k _ _ (.inl rfl) e}
 | xd G=>obtain⟨B,⟨A,j,i,e,c⟩,r⟩:=x;show{B,{A,j,i,k _ _ (.inl rfl) e,c},r}
 | rng lo Q=>have(t,u,v,e):=x;show{t,u,v,k _ _ (.inl rfl) e}
 | frz g u K=>have(e,q):=x;show{k _ _ (.inl rfl) e,K q}
 | tbl E=>
  have e:h.get? a=Ud {cls:=.none,data:=.fields E}:=x;change h'.get? a=Ud {cls:=.none,data:=.fields E};show k a _ (.inl rfl) e
 | met f y=>
  have e:h.get? a*>(Me (.ref f) (.ref y)):=x;change h'.get? a*>(Me (.ref f) (.ref y));show k a _ (.inl rfl) e
 | ext M=>obtain⟨p,⟨o,e⟩,st⟩:=x;show{st _ _ p λo q=>k _ _ (.inl rfl) q,{o,k _ _ (.inl rfl) e},st}
def HOk.lt(x:HOk P w H h)(e:H a*>o):a<h.objs.size:=(x a o e).lt
def HOk.fresh(x:HOk P w H h)(e:h.objs.size<=a):H a=Uc:=by
 cases q:H a with
 | none=>rfl
 | some u=>show absurd (JN (x.lt q) e) (KA _)
def HOk.kept(x:HOk P w H h)(k:∀b u,h.get? b*>u->h'.get? b*>u):HOk P w H h':=λa o e=>
 (x a o e).stay (λb u _ q=>k b u q) (λ_ q=>q) λ_ _ q=>q
def HOk.laid(x:HOk P w H h)(k:∀b u,h.get? b*>u->h'.get? b*>u)(g:h.objs.size<=a)(new:NI P w (upd H a o) h' a o):HOk P w (upd H a o) h':=λb u e=>by
 have d:=x.fresh g;by_cases f:b=a;subst f;rw[aA]at e;cases e;show new
 .rw[aT f]at e;show(x b u e).stay (λc v _ q=>k c v q) (λc q=>by rw[aT (bH q d)];show q) λc i q=>by rw[aT (bH q d)];show q
end
abbrev Rd(H:Hp)(a:Addr)(u:HO):Prop:=H a*>u \/ ∃o,H a*>(.frz o u)
def Rd.ok{P:On}{w:Oq}{H:Hp}{h:Heap}{a:Addr}{u:HO}(r:Rd H a u)(x:HOk P w H h):NI P w H h a u:=by
 rcases r with r|⟨o,r⟩;show x a u r
 .have(_,q):=x a _ r;show q
abbrev Mut:↑HO->Prop
 | some (.lst _)=>True
 | some (.dK _)=>True
 | some (.dT _)=>True
 | some (.set _ _)=>True
 | some (.ins _ _ _)=>True
 | some (.ext _)=>True
 | _=>False
section
variable {P:On}{w:Oq}{H:Hp}{h h':Heap}{x e:Addr}{o':HO}
def HOk.write(s:HOk P w H h)(l:Mut (H x))(p:e=x\/H e*>(.own x))(k:∀b u,b≠e->h.get? b*>u->h'.get? b*>u)(m:∃u,h'.get? e*>u)
  (new:NI P w (upd H x o') h' x o'):HOk P w (upd H x o') h':=λb u q=>by
 have d:∀c y,H c*>(.own y)->c≠x:=λc y r z=>by subst z;rw[r]at l;show l
 have f:∀c i,H c*>(.tup i)->c≠x:=λc i r z=>by subst z;rw[r]at l;show l
 by_cases j:b=x;subst j;rw[aA]at q;cases q;show new
 .rw[aT j]at q;by_cases a:b=e
  .have o:H b*>(.own x):=by
    rcases p with z|z;show absurd (a.trans z) j;rw[a];show z
   rw[q]at o;cases o;have(v,t):=m;show{v,by rw[a];show t}
  .show(s b u q).stay (λc v g r=>k c v ?_ r) (λc r=>by rw[aT (d c b r)];show r) λc i r=>by rw[aT (f c i r)];show r
   rcases g with rfl|g;show a
   .rintro rfl;rcases p with z|z;show d c b g z;rw[g]at z;cases z;show j rfl
end
structure Un(fs ex:!Addr)(H H':Hp)(h h':Heap):Prop where
 keep:∀b o,h.get? b*>o->H b=Uc->b∉fs->b∉ex->h'.get? b*>o
 slot:∀b o,h.get? b*>o->H b=Uc->b∈fs->b∉ex->∃sl,h'.get? b=Ud {o with slots:=sl}
 free:∀b o,h.get? b*>o->H b=Uc->b∉ex->H' b=Uc
 there:∀b o,h.get? b*>o->b∉ex->∃o',h'.get? b*>o'
 tups:∀b xs,H b*>(.tup xs)->H' b*>(.tup xs)
 frzs:∀b o u,H b*>(.frz o u)->H' b*>(.frz o u)
 tbls:∀b ps,H b*>(.tbl ps)->∃more,H' b*>(.tbl (ps++more))
section
variable {fs fs' ex ex':!Addr}{H H1 H2:Hp}{h h1 h2 h':Heap}{a x e:Addr}{o:HO}
def Un.any(u:Un fs ex H H1 h h1){b:Addr}{c:Obj}(q:h.get? b*>c)(n:H b=Uc)(g:b∉ex):∃sl,h1.get? b=Ud {c with slots:=sl}:=by
 by_cases f:b∈fs;show u.slot b c q n f g;show{c.slots,u.keep b c q n f g}
def Un.trans(a:Un fs ex H H1 h h1)(b:Un fs ex H1 H2 h1 h2):Un fs ex H H2 h h2 where
 keep:=λc ob q n hc hx=>b.keep c ob (a.keep c ob q n hc hx) (a.free c ob q n hx) hc hx
 slot:=λc ob q n hc hx=>by
  have(sl,e1):=a.slot c ob q n hc hx;have(sl',e2):=b.slot c _ e1 (a.free c ob q n hx) hc hx;show⟨sl',e2⟩
 free:=λc ob q n hx=>by
  have(o',e1):=a.there c ob q hx;show b.free c o' e1 (a.free c ob q n hx) hx
 there:=λc ob q hx=>by
  have(o',e1):=a.there c ob q hx;show b.there c o' e1 hx
 tups:=λc xs q=>b.tups c xs (a.tups c xs q)
 frzs:=λc ob xs q=>b.frzs c ob xs (a.frzs c ob xs q)
 tbls:=λc ps q=>by
  have(m1,e1):=a.tbls c ps q;have(m2,e2):=b.tbls c _ e1;show{m1++m2,by rw[e2,MX]}
def Un.kept(k:∀b u,h.get? b*>u->h'.get? b*>u):Un fs ex H H h h':=
 {λb c q _ _ _=>k b c q,λb c q _ _ _=>{c.slots,k b c q},λ_ _ _ n _=>n,λb c q _=>{c,k b c q},λ_ _ q=>q,λ_ _ _ q=>q,λ_ d q=>{#[],by rw[q];simp}}
def Un.refl:Un fs ex H H h h:=Un.kept λ_ _ q=>q
def Un.laid(k:∀b u,h.get? b*>u->h'.get? b*>u)(hp:h.objs.size<=a)(hn:H a=Uc):Un fs ex H (upd H a o) h h' where
 keep:=λb u q _ _ _=>k b u q
 slot:=λb u q _ _ _=>{u.slots,k b u q}
 free:=λb u q n _=>by rw[aT (JG (JN (Oh q) hp))];show n
 there:=λb u q _=>{u,k b u q}
 tups:=λb xs q=>by rw[aT (bH q hn)];show q
 frzs:=λb u xs q=>by rw[aT (bH q hn)];show q
 tbls:=λb ps q=>{#[],by rw[aT (bH q hn),q];simp}
def Un.write(d:Mut (H x))(l:e=x\/H e*>(.own x))(k:∀b u,b≠e->h.get? b*>u->h'.get? b*>u)(f:∃u,h'.get? e*>u):Un fs ex H (upd H x o) h h':=by
 have j:∀b,H b=Uc->b≠x:=λb n z=>by subst z;rw[n]at d;show d
 have i:∀b,H b=Uc->b≠e:=λb n z=>by
  subst z;rcases l with r|r;show j b n r;rw[n]at r;cases r
 have g:∀b u,H b*>u->¬ Mut (Ud u)->b≠x:=λb u q m z=>by subst z;rw[q]at d;show m d
 show{λb u q n _ _=>k b u (i b n) q,λb u q n _ _=>{u.slots,k b u (i b n) q},λb u q n _=>by rw[aT (j b n)];show n,λb u q _=>?_,
  λb p q=>by rw[aT (g b _ q λz=>z)];show q,λb u p q=>by rw[aT (g b _ q λz=>z)];show q,λb s q=>{#[],by rw[aT (g b _ q λz=>z),q];simp}}
 by_cases c:b=e;subst c;show f;show{u,k b u c q}
end
abbrev trk(h:Heap) (H:Hp):!Addr:=(JE h.objs.size).filter λa=>(H a).isSome
abbrev pj(h:Heap) (H:Hp):Heap:=PySem.W.hideAll h (trk h H)
def vj(h:Heap)(H:Hp):(pj h H).objs.size=h.objs.size:=PySem.W.hideAll_size _ _
def xy{h:Heap}{H:Hp}{b:Addr}{o:Obj}(e:h.get? b*>o)(n:H b=Uc):(pj h H).get? b*>o:=
 PySem.W.hideAll_get _ e λa=>by
  have q:(H b).isSome=Ug:=(JD.mp a).2;rw[n]at q;simp at q
def Bn{h:Heap}{H:Hp}{b:Addr}{o:Obj}(e:(pj h H).get? b*>o):h.get? b*>o/\H b=Uc:=by
 have a:h.get? b*>o:=PySem.W.of_hideAll (trk h H) e;show{a,?_};cases q:H b with
 | none=>rfl
 | some x=>
  have c:b∈trk h H:=JD.mpr {KO.mpr (Oh a),by simp[q]};have z:(pj h H).get? b=Uc:=PySem.W.hideAll_none (trk h H) c;rw[z]at e;cases e
abbrev AG(g h:Heap) (L:Addr):!(Addr×Obj):=(JE h.objs.size).filterMap λa=>if a=L\/(g.get? a).isSome=Ug then Uc else(h.get? a).map λo=>(a,o)
abbrev rest(g h:Heap) (L d:Addr):!(Addr×Obj):=(AG g h L).filter λp=>decide (p.1≠d)
structure Mod(K:yF)(mg:Str->↑Oa)(base:Heap):Prop where
 kin:K.In base
 glob:base.Ns OM mg
 blt:∃mb,base.Ns RV mb/\∀x:Str,x ≠ "__name__" -> mb x=O7 x
 nolimit:base.NoLimit
structure Cx where
 prog:On
 w:Oq
 K:yF
 mg:Str->↑Oa
 base:Heap
 A:Ot
 N:!Str
 s₀ : Od
 H₀ : Hp
 env:Env
 outer:!Env
 stack:!Env
 ex:!Addr
 fn:Str->Bool
 calm:Bool
 pn:!(Addr×Obj)
 xe:Oa->Od->Prop
abbrev frs(l:!Env):!Addr:=l.filterMap (·.frame)
noncomputable abbrev Cx.fs(X:Cx):!Addr:=frs X.outer
abbrev Vis(a:P5)(x:Str):Prop:=a.names.lookup x*>.local\/a.names.lookup x*>.cell\/a.names.lookup x*>.free
abbrev Loc(a:P5)(x:Str):Prop:=a.names.lookup x*>.local\/a.names.lookup x*>.cell
abbrev IK(env:Env)(h:Heap)(m:Str->↑Oa)(x:Str)(u:Oa):Prop:=
 (env.kindOf x*>.local/\m x*>u)\/((env.kindOf x*>.cell\/env.kindOf x*>.free)/\∃c,env.cells.lookup x*>c/\h.IsCell c (Ud u))
structure Cx.Ok(X:Cx):Prop where
 mod:Mod X.K X.mg X.base
 kind:X.env.scope.kind=.function
 glob:X.env.globals=OM
 blt:X.env.builtins=RV
 above:X.s₀.heap.objs.size<=X.env.locals
 inj:∀x y c,X.env.cells.lookup x*>c->X.env.cells.lookup y*>c->x=y
 has:∀x,(X.env.kindOf x*>.cell\/X.env.kindOf x*>.free)->∃c,X.env.cells.lookup x*>c
 cab:∀x c,X.fn x=Ug->X.env.cells.lookup x*>c->X.s₀.heap.objs.size<=c
 hd:X.calm=Ug->X.A.handled=Uc
 gd:X.calm=Ug->X.A.guards=Ud []
 frames:X.A.frames*>X.stack
 stk:X.stack=X.outer\/(X.stack=X.env::X.outer/\X.env.frame*>X.env.locals)
 exf:∀b∈X.ex,b≠X.env.locals/\∀x c,X.env.cells.lookup x*>c->c≠b
 bs:∀b o,X.base.get? b*>o->X.s₀.heap.get? b*>o/\X.H₀ b=Uc
 bsz:X.base.objs.size<=X.s₀.heap.objs.size
 noex:∀b o,X.base.get? b*>o->b∉X.ex
 exfs:∀b∈X.ex,b∉X.fs
 funs:X.s₀.heap.FunFrames X.base X.outer
 frf:∀b∈X.fs,X.H₀ b=Uc
structure Inv(X:Cx)(Ub:!(Addr×Obj))(Z:! ↑V)(H:Hp)(s:Od):Prop where
 ok:X.Ok
 os:s.os=X.s₀.os
 bare:QJ s.gens
 base:Un X.fs X.ex X.H₀ H X.s₀.heap s.heap
 loc:∃m,s.heap.Ns X.env.locals m/\∀(i:Nat) (x:Str) (v:V),X.N[i]?*>x->Z[i]?*>(Ud v)->Vis X.env.scope x->∃u,RelV v u/\IK X.env s.heap m x u
 cell:∀x c,X.env.cells.lookup x*>c->∃v,s.heap.IsCell c v
 free:H X.env.locals=Uc
 freeC:∀x c,X.env.cells.lookup x*>c->H c=Uc
 pin:∀p∈X.pn++Ub,s.heap.get? p.1*>p.2/\H p.1=Uc/\p.1≠X.env.locals/\p.1∉X.fs/\∀v,p.2.data ≠ .cell v
 hok:HOk X.prog X.w H s.heap
 len:Z.length=X.N.length
section
variable {X:Cx}{Ub:!(Addr×Obj)}{Z:! ↑V}{H H':Hp}{s:Od}{h':Heap}
def Cx.Ok.nofr(c:X.Ok){b:Addr}{o:Obj}(e:X.base.get? b*>o):b∉X.fs:=λa=>by
 have:=(c.funs.mem a).1;rw[e]at this;cases this
def Inv.bs(I:Inv X Ub Z H s):∀b o,X.base.get? b*>o->s.heap.get? b*>o/\H b=Uc:=λb o e=>
 {I.base.keep b o (I.ok.bs b o e).1 (I.ok.bs b o e).2 (I.ok.nofr e) (I.ok.noex b o e),I.base.free b o (I.ok.bs b o e).1 (I.ok.bs b o e).2 (I.ok.noex b o e)}
def Inv.bk(I:Inv X Ub Z H s):∀b o,X.base.get? b*>o->s.heap.get? b*>o:=λb o e=>(I.bs b o e).1
def Inv.mod(I:Inv X Ub Z H s):Mod X.K X.mg X.base:=I.ok.mod
def Inv.kIn(I:Inv X Ub Z H s):X.K.In s.heap:=I.ok.mod.kin.keeps I.bk
def Inv.fr(I:Inv X Ub Z H s):∃m,Fr X.base X.env.locals s.heap m:=
 let ⟨m,a,_⟩:=I.loc
 {m,a,I.bk,Ks I.ok.bsz I.ok.above}
def Inv.lt(I:Inv X Ub Z H s):X.env.locals<s.heap.objs.size:=let ⟨_,a,_⟩:=I.loc;a.lt
def Inv.sz(I:Inv X Ub Z H s):X.s₀.heap.objs.size<=s.heap.objs.size:=Ks I.ok.above (Li I.lt)
def Inv.nofs(I:Inv X Ub Z H s){a:Addr}(h:s.heap.objs.size<=a):a∉X.fs:=λd=>by
 have(_,o,c,_):=I.ok.funs.mem d;show absurd (JN (Oh c) (Ks I.sz h)) (KA _)
def Inv.cne(I:Inv X Ub Z H s):∀x c,X.env.cells.lookup x*>c->c≠X.env.locals:=λx c e z=>by
 have(v,o,g,f):=I.cell x c e;obtain⟨m,⟨h,j,i,a,d,_⟩,_⟩:=I.loc;rw[z,a]at g;cases g;rw[d]at f;cases f
def Inv.funs(I:Inv X Ub Z H s):s.heap.FunFrames X.base X.outer:=by
 have all:∀(l:!Env),(∀b∈frs l,b∈X.fs)->X.s₀.heap.FunFrames X.base l->s.heap.FunFrames X.base l:=by
  intro l
  induction l with
  | nil=>intro _ _;trivial
  | cons h r k=>
   intro f g;obtain⟨q,⟨L,o,c,j,p,i⟩,m⟩:=g;have a:L∈X.fs:=f L (by unfold frs;rw[JY,c];show ymS);have(t,e):=I.base.slot L o p (I.ok.frf L a) a λz=>I.ok.exfs L z a;show{q,{L,_,c,j,e,i},k (λb d=>f b (by unfold frs;rw[JY,c];show ymC _ d)) m}
 show all X.outer (λ_ d=>d) I.ok.funs
def Inv.stack(I:Inv X Ub Z H s):s.heap.FunFrames X.base X.stack:=by
 rcases I.ok.stk with e|⟨e,a⟩;rw[e];show I.funs
 .rw[e];have(m,c,_):=I.loc;show .cons (by rw[I.ok.kind];decide) a c ?_ I.funs;show Heap.get?_none_of_le (Ks I.ok.bsz I.ok.above)
def Inv.stkSub(I:Inv X Ub Z H s):∀b∈frs X.stack,b∈X.env.locals::X.fs:=λb a=>by
 rcases I.ok.stk with e|⟨e,c⟩;rw[e]at a;show ymC _ a
 .rw[e]at a;unfold frs at a;rw[JY,c]at a;show a
def Inv.stkFree(I:Inv X Ub Z H s):∀b∈frs X.stack,H b=Uc:=λb a=>by
 rcases ycM (I.stkSub b a)with e|a;rw[e];show I.free
 .have(_,o,c,_):=I.ok.funs.mem a;show I.base.free b o c (I.ok.frf b a) λz=>I.ok.exfs b z a
def Inv.step{g':Array GenState}{t':Nat}{d':Drawn}{ch:!Addr}(I:Inv X Ub Z H s)
  (h:∀b∈ch,(b∈X.ex\/X.s₀.heap.objs.size<=b)/\b≠X.env.locals/\(∀x c,X.env.cells.lookup x*>c->c≠b)/\∀p∈X.pn++Ub,p.1≠b)
  (f:∀b o,b≠X.env.locals->b∉X.fs->b∉ch->s.heap.get? b*>o->H b=Uc->h'.get? b*>o)
  (A:∀b o,b≠X.env.locals->b∈X.fs->b∉ch->s.heap.get? b*>o->H b=Uc->∃sl,h'.get? b=Ud {o with slots:=sl}) (free:∀b o,b∉ch->s.heap.get? b*>o->H b=Uc->H' b=Uc)
  (C:∀b o,b∉ch->s.heap.get? b*>o->∃K,h'.get? b*>K)
  (P:∀b B,H b*>(.tup B)->H' b*>(.tup B)) (N:∀b o u,H b*>(.frz o u)->H' b*>(.frz o u)) (M:∀b ps,H b*>(.tbl ps)->∃L,H' b*>(.tbl (ps++L)))
  (ns:∀m,s.heap.Ns X.env.locals m->h'.Ns X.env.locals m) (Q:HOk X.prog X.w H' h') (hg:QJ g') :
  Inv X Ub Z H' {s with heap:=h',gens:=g',drawn:=d',toks:=t'}:=by
 have J:∀b o,X.s₀.heap.get? b*>o->b≠X.env.locals:=λb o e=>JG (JN (Oh e) I.ok.above);have t:∀b o,X.s₀.heap.get? b*>o->b∉X.ex->b∉ch:=λb o e a E=>by
  rcases(h b E).1 with z|z;show a z;show absurd (JN (Oh e) z) (KA _)
 have j:∀x c,X.env.cells.lookup x*>c->∀v,s.heap.IsCell c v->h'.IsCell c v:=λx c e v ⟨o,G,S⟩=>by
  have g:c∉ch:=λz=>(h c z).2.2.1 x c e rfl;by_cases hc:c∈X.fs
  .have(sl,q):=A c o (I.cne x c e) hc g G (I.freeC x c e);show{_,q,S}
  .show{o,f c o (I.cne x c e) hc g G (I.freeC x c e),S}
 show{I.ok,I.os,hg,{λb o e n E a=>?_,λb o e n E a=>?_,λb o e n a=>?_,λb o e a=>?_,λb B e=>P b B (I.base.tups b B e),λb o B e=>N b o B (I.base.frzs b o B e),λb ps e=>?_},?_,λx c e=>?_,?_,λx c e=>?_,λp hp=>?_,Q,I.len};show f b o (J b o e) E (t b o e a) (I.base.keep b o e n E a) (I.base.free b o e n a)
 .have(sl,y):=I.base.slot b o e n E a;have(U,O):=A b _ (J b o e) E (t b o e a) y (I.base.free b o e n a);show⟨U,O⟩
 .have(K,y):=I.base.there b o e a;show free b K (t b o e a) y (I.base.free b o e n a)
 .have(K,y):=I.base.there b o e a;show C b K (t b o e a) y
 .have(m1,y):=I.base.tbls b ps e;have(m2,O):=M b _ y;show{m1++m2,by rw[O,MX]}
 .have(m,hn,hl):=I.loc;show{m,ns m hn,λi x v y O e3=>?_};have(u,r,l):=hl i x v y O e3;show{u,r,?_};rcases l with l|⟨k,c,e,z⟩;show .inl l;show .inr {k,c,e,j x c e _ z}
 .have(v,z):=I.cell x c e;show{v,j x c e v z}
 .obtain⟨m,⟨o,_,_,G,_⟩,_⟩:=I.loc;show free _ o (λz=>(h _ z).2.1 rfl) G I.free
 .have(v,o,G,S):=I.cell x c e;show free c o (λz=>(h c z).2.2.1 x c e rfl) G (I.freeC x c e)
 .have(e,n,ne,nf,d):=I.pin p hp;have g:p.1∉ch:=λz=>(h p.1 z).2.2.2 p hp rfl;show{f p.1 p.2 ne nf g e n,free p.1 p.2 g e n,ne,nf,d}
def Inv.un{t':Nat}(I:Inv X Ub Z H s)(u:Un X.fs [] H H' s.heap h')(f:HOk X.prog X.w H' h'):Inv X Ub Z H' {s with heap:=h',toks:=t'}:=by
 obtain⟨m,⟨o,v,t,i,r⟩,_⟩:=id I.loc;have(q,j):=u.any i I.free ∅;show I.step (g':=s.gens) (d':=s.drawn) (ch:=[]) (λ_ z=>nomatch z) (λb o _ g _ e n=>u.keep b o e n g ∅) (λb o _ g _ e n=>u.slot b o e n g ∅) (λb o _ e n=>u.free b o e n ∅) (λb o _ e=>u.there b o e ∅) u.tups u.frzs u.tbls (λx l=>by
  have(p,d,c,a,k):=l;rw[i]at a;cases a;show{_,d,c,j,k}) f I.bare
def Inv.call{g':Array GenState}{t':Nat}{d':Drawn}{ch:!Addr}(I:Inv X Ub Z H s)(u:Un (frs X.stack) ch H H' s.heap h')(j:HOk X.prog X.w H' h')(t:QJ g')
  (f:∀b∈ch,(b∈X.ex\/X.s₀.heap.objs.size<=b)/\b≠X.env.locals/\(∀x c,X.env.cells.lookup x*>c->c≠b)/\∀p∈X.pn++Ub,p.1≠b) :
  Inv X Ub Z H' {s with heap:=h',gens:=g',drawn:=d',toks:=t'}:=by
 obtain⟨m,⟨o,E,C,l,r⟩,_⟩:=id I.loc;have(B,h):=u.any l I.free λz=>(f _ z).2.1 rfl;show I.step (ch:=ch) f (λb o h y a e n=>u.keep b o e n (λz=>(ycM (I.stkSub b z)).elim h y) a) (λb o _ _ a e n=>u.any e n a) (λb o a e n=>u.free b o e n a) (λb o a e=>u.there b o e a) u.tups u.frzs u.tbls (λG v=>by
  have(A,i,g,d,q):=v;rw[l]at d;cases d;show{_,i,g,h,q}) j t
def Inv.turned{t':Nat}{it:Addr}(I:Inv X Ub Z H s)(k:∀b o,b≠it->s.heap.get? b*>o->h'.get? b*>o)(j:H it=Uc)(f:it≠X.env.locals)
  (l:it∈X.ex\/X.s₀.heap.objs.size<=it) (i:∀x c,X.env.cells.lookup x*>c->c≠it) (h:∀p∈X.pn++Ub,p.1≠it):Inv X Ub Z H {s with heap:=h',toks:=t'}:=by
 have d:∀b u,H b*>u->b≠it:=λb u e z=>by rw[z,j]at e;cases e
 show I.step (g':=s.gens) (d':=s.drawn) (ch:=[it]) (λb B=>?_) (λb o _ _ a e _=>k b o (λz=>a (by simp[z])) e) (λb o _ _ a e _=>{o.slots,k b o (λz=>a (by simp[z])) e}) (λ_ _ _ _ n=>n)
  (λb o a e=>{o,k b o (λz=>a (by simp[z])) e}) (λ_ _ e=>e) (λ_ _ _ e=>e) (λb C e=>{#[],by rw[e];simp}) (λm t=>?_) (λb u e=>?_) I.bare
 .have e:b=it:=by exists B
  subst e;show⟨l,f,i,h⟩
 .have(o,A,w,y,r):=t;show{o,A,w,k _ o (Op f) y,r}
 .show(I.hok b u e).stay (λc v a q=>k c v ?_ q) (λ_ q=>q) λ_ _ q=>q;rcases a with z|z;rw[z];show d b u e;show d c _ z
def Inv.tok(I:Inv X Ub Z H s)(t:Nat):Inv X Ub Z H {s with toks:=t}:=I.un (h':=s.heap) (t':=t) Un.refl I.hok
def Inv.kept{t':Nat}(I:Inv X Ub Z H s)(k:∀b u,s.heap.get? b*>u->h'.get? b*>u):Inv X Ub Z H {s with heap:=h',toks:=t'}:=I.un (Un.kept k) (I.hok.kept k)
def Inv.laid{a:Addr}{o:HO}{t':Nat}(I:Inv X Ub Z H s)(k:∀b u,s.heap.get? b*>u->h'.get? b*>u)(c:s.heap.objs.size<=a)(new:NI X.prog X.w (upd H a o) h' a o) :
  Inv X Ub Z (upd H a o) {s with heap:=h',toks:=t'}:=I.un (Un.laid k c (I.hok.fresh c)) (I.hok.laid k c new)
def Inv.write{x e:Addr}{o:HO}{t':Nat}(I:Inv X Ub Z H s)(f:Mut (H x))(c:e=x\/H e*>(.own x))(k:∀b u,b≠e->s.heap.get? b*>u->h'.get? b*>u)(a:∃u,h'.get? e*>u)
  (new:NI X.prog X.w (upd H x o) h' x o):Inv X Ub Z (upd H x o) {s with heap:=h',toks:=t'}:=I.un (Un.write f c k a) (I.hok.write f c k a new)
def Inv.weak{c:! ↑V}(I:Inv X Ub Z H s)(d:c.length=Z.length)(w:∀(i:Nat) v,c[i]?*>(Ud v)->Z[i]?*>(Ud v)):Inv X Ub c H s:=
 {I.ok,I.os,I.bare,I.base,let ⟨m,g,a⟩:=I.loc;{m,g,λi x v e f h=>a i x v e (w i v f) h},I.cell,I.free,I.freeC,I.pin,I.hok,d.trans I.len}
def Inv.pins_of{a:!(Addr×Obj)}(I:Inv X Ub Z H s)(h:∀p∈a,s.heap.get? p.1*>p.2/\H p.1=Uc/\p.1≠X.env.locals/\p.1∉X.fs/\∀v,p.2.data ≠ .cell v):Inv X a Z H s:=
 {I.ok,I.os,I.bare,I.base,I.loc,I.cell,I.free,I.freeC,λp c=>(yaM c).elim (λz=>I.pin p (yaL _ z)) (h p),I.hok,I.len}
def qS{N:!Str}(e:N.Nodup){i j:Nat}{x:Str}(a:N[i]?*>x)(b:N[j]?*>x):i=j:=by
 have(g,c):=Js.mp a;have(f,d):=Js.mp b;show(List.getElem_inj e).mp (c.trans d.symm)
def oQ{M:Model}{A:Ot}{E:Oa->Od->Prop}{i:Nat}{x:Str}{v:V}{u:Oa}{Q:Unit->Od->Prop}(I:Inv X Ub Z H s)(hN:X.N.Nodup)(hi:X.N[i]?*>x)(B:Loc X.env.scope x)(r:RelV v u)
  (h:∀s',Inv X Ub (Z.set i (Ud v)) H s'->(∃a,Ou a s.heap s'.heap/\(a=X.env.locals\/X.env.cells.lookup x*>a))->Q () s') (hf:X.fn x=Ug\/X.env.scope.names.lookup x*>.local:=by first|show .inl rfl|show .inr rfl|assumption):Oj M A (storeName X.env x u) Q E s:=by
 have(m,hn,hl):=id I.loc;have S:(X.env.scope.kind == .class||(X.env.scope.kind == .module&&X.env.locals != X.env.globals))=Ue:=by rw[I.ok.kind];rfl
 have hiZ:i<Z.length:=by rw[I.len];show(Js.mp hi).1
 have K:=I.cne;have g:∀{a:Addr} {h':Heap},(∃o,s.heap.get? a*>o/\H a=Uc)->Ou a s.heap h'->HOk X.prog X.w H h':=λ{a h'} ha f b ob e=>by
  have(_,_,C):=ha;show(I.hok b ob e).stay (λc w' t q=>(f.2 c ?_).trans q) (λ_ q=>q) λ_ _ q=>q;rintro rfl;rcases t with rfl|t;rw[C]at e;cases e;rw[C]at t;cases t
 rcases B with J|J
 .show wpAny_storeName_local J hn (λh' hn' f=>?_) S;have(oL,_,_,hoL,_):=id hn;show h _ {I.ok,I.os,I.bare,{λb o e n O B=>?_,λb o e n O B=>?_,I.base.free,λb o e B=>?_,I.base.tups,I.base.frzs,I.base.tbls},{_,hn',λj y v' l G e3=>?_},λy c e=>?_,I.free,I.freeC,λp hp=>?_,g ⟨oL,hoL,I.free⟩ f,by simpa using I.len} {_,f,.inl rfl};show(f.2 b (JG (JN (Oh e) I.ok.above))).trans (I.base.keep b o e n O B)
  .have(sl,l):=I.base.slot b o e n O B;show{sl,(f.2 b (JG (JN (Oh e) I.ok.above))).trans l}
  .have(o',l):=I.base.there b o e B;show{o',(f.2 b (JG (JN (Oh e) I.ok.above))).trans l}
  .by_cases L:j=i
   .subst L;rw[hi]at l;cases l;rw[Kv hiZ]at G;cases G;show{u,r,.inl {J,by simp}}
   .rw[JM (Op L)]at G;have(u',r',q):=hl j y v' l G e3;show{u',r',?_};rcases q with⟨k,e⟩|⟨k,c,e,z⟩
    .show .inl {k,?_};have:y≠x:=λe=>L (qS hN l (e▸hi));simp[this,e]
    .show .inr {k,c,e,z.sameBut f (K y c e)}
  .have(w',z):=I.cell y c e;show{w',z.sameBut f (K y c e)}
  .have(e,n,ne,nf,d):=I.pin p hp;show{(f.2 p.1 ne).trans e,n,ne,nf,d}
 .have P:X.fn x=Ug:=by
   rcases hf with z|z;show z;rw[z]at J;cases J
  have(c,t):=I.ok.has x (.inl J);have(w',z):=I.cell x c t;show wpAny_storeName_cell I.ok.kind J t z (λh' hc' f=>?_);have(oc,U,Y):=id z;show h {s with heap:=h'} {I.ok,I.os,I.bare,{λb o e n O B=>?_,λb o e n O B=>?_,I.base.free,λb o e B=>?_,I.base.tups,I.base.frzs,I.base.tbls},{m,hn.sameBut f (Op (K x c t)),λj y v' l G e3=>?_},λy c' e=>?_,I.free,I.freeC,λp hp=>?_,g {oc,U,I.freeC x c t} f,by simpa using I.len} {c,f,.inr t};show(f.2 b (JG (JN (Oh e) (I.ok.cab x c P t)))).trans (I.base.keep b o e n O B)
  .have(sl,l):=I.base.slot b o e n O B;show{sl,(f.2 b (JG (JN (Oh e) (I.ok.cab x c P t)))).trans l}
  .have(o',l):=I.base.there b o e B;show{o',(f.2 b (JG (JN (Oh e) (I.ok.cab x c P t)))).trans l}
  .by_cases L:j=i
   .subst L;rw[hi]at l;cases l;rw[Kv hiZ]at G;cases G;show{u,r,.inr {.inl J,c,t,hc'}}
   .rw[JM (Op L)]at G;have(u',r',q):=hl j y v' l G e3;show{u',r',?_};rcases q with q|⟨k,c',e,z'⟩;show .inl q
    .show .inr {k,c',e,z'.sameBut f ?_};rintro rfl;show L (qS hN l (I.ok.inj _ _ _ e t▸hi))
  .by_cases hcc:c'=c;subst hcc;show{_,hc'}
   .have(w2,z2):=I.cell y c' e;show{w2,z2.sameBut f hcc}
  .have(e,n,ne,nf,d):=I.pin p hp;show{(f.2 p.1 ?_).trans e,n,ne,nf,d};intro q;rw[q,U]at e;have q':oc=p.2:=JT.inj e;show d w' (by rw[<-q'];show Y)
def jW{M:Model}{A:Ot}{E:Oa->Od->Prop}{i:Nat}{x:Str}{v:V}{u:Oa}{Q:Unit->Od->Prop}(I:Inv X Ub Z H s)(d:X.N.Nodup)(g:X.N[i]?*>x)(e:Loc X.env.scope x)(r:RelV v u)
  (h:∀a,Inv X Ub (Z.set i (Ud v)) H a->Q () a) (f:X.fn x=Ug\/X.env.scope.names.lookup x*>.local:=by first|show .inl rfl|show .inr rfl|assumption):Oj M A (storeName X.env x u) Q E s:=
 oQ I d g e r (λa c _=>h a c) f
def Inv.call'{a:Od}{ch:!Addr}(I:Inv X Ub Z H s)(ho:a.os=s.os)(u:Un (frs X.stack) ch H H' s.heap a.heap)(f:HOk X.prog X.w H' a.heap)(k:QJ a.gens)
  (d:∀b∈ch,(b∈X.ex\/X.s₀.heap.objs.size<=b)/\b≠X.env.locals/\(∀x c,X.env.cells.lookup x*>c->c≠b)/\∀p∈X.pn++Ub,p.1≠b):Inv X Ub Z H' a:=by
 have(h',i,g,h,j):=a;have e:j=s.os:=ho;subst e;show I.call (g':=i) (t':=h) (d':=g) u f k d
end
protected def XK:=Oa->↑Addr->Hp->Prop
protected def St:=! ↑V
protected def VK:=V->Hp->Prop
protected def TE:=St->Hp->VK->Prop
protected def TT:=St->Hp->(Bool->Hp->Prop)->Prop
protected def TA:=St->Hp->(!V->Hp->Prop)->Prop
structure N0 where
 nx:St->Hp->Prop
 rt:VK
 bk:St->Hp->Prop:=λ_ _=>False
 ct:St->Hp->Prop:=λ_ _=>False
protected def TS:=N0->St->Hp->Prop
abbrev EP(X:Cx)(c:!(Addr×Obj))(Z:St)(Q:VK)(u:Oa)(d:Od):Prop:=∃v a,Inv X c Z a d/\RelV v u/\Q v a
abbrev TP(X:Cx)(c:!(Addr×Obj))(Z:St)(Q:Bool->Hp->Prop)(b:Bool)(d:Od):Prop:=∃a,Inv X c Z a d/\Q b a
abbrev AP(X:Cx)(c:!(Addr×Obj))(Z:St)(Q:!V->Hp->Prop)(us:!Oa)(d:Od):Prop:=∃vs a,Inv X c Z a d/\Vals vs us/\Q vs a
abbrev SP(X:Cx)(d:!(Addr×Obj))(D:N0)(f:Flow)(e:Od):Prop:=
 match f with
 | .next=>∃c a,Inv X d c a e/\D.nx c a
 | .brk=>∃c a,Inv X d c a e/\D.bk c a
 | .cont=>∃c a,Inv X d c a e/\D.ct c a
 | .ret u=>∃v c a,Inv X d c a e/\RelV v u/\D.rt v a
abbrev PE(X:Cx)(e:Expr)(t:TE):Prop:=
 ∀(a:!(Addr×Obj)) (s:Od) (Z:St) (H:Hp) (Q:VK),Inv X a Z H s->t Z H Q->Oj (Ol X.prog X.w) X.A (eval e X.env) (EP X a Z Q) X.xe s
abbrev PT(X:Cx)(e:Expr)(t:TT):Prop:=
 ∀(a:!(Addr×Obj)) (s:Od) (Z:St) (H:Hp) (Q:Bool->Hp->Prop),Inv X a Z H s->t Z H Q->Oj (Ol X.prog X.w) X.A (RW e X.env (eval e X.env)) (TP X a Z Q) X.xe s
abbrev PW(X:Cx)(e:Expr)(t:TT):Prop:=
 ∀(a:Sem Oa) (c:!(Addr×Obj)) (s:Od) (Z:St) (H:Hp) (Q:Bool->Hp->Prop),Inv X c Z H s->t Z H Q->Oj (Ol X.prog X.w) X.A (RW e X.env a) (TP X c Z Q) X.xe s
def PW.pt{X:Cx}{e:Expr}{t:TT}(h:PW X e t):PT X e t:=h _
abbrev PA(X:Cx)(d:!Expr)(t:TA):Prop:=
 ∀(a:Pos) (c:!(Addr×Obj)) (s:Od) (Z:St) (H:Hp) (Q:!V->Hp->Prop),Inv X c Z H s->t Z H Q->Oj (Ol X.prog X.w) X.A (spliced (P6 a (Ox d X.env))) (AP X c Z Q) X.xe s
abbrev PS(X:Cx)(st:Stmt)(t:TS):Prop:=
 ∀(a:!(Addr×Obj)) (s:Od) (Z:St) (H:Hp) (D:N0),Inv X a Z H s->t D Z H->Oj (Ol X.prog X.w) X.A (exec st X.env) (SP X a D) X.xe s
abbrev PSs(X:Cx)(st:!Stmt)(t:TS):Prop:=
 ∀(a:!(Addr×Obj)) (s:Od) (Z:St) (H:Hp) (D:N0),Inv X a Z H s->t D Z H->Oj (Ol X.prog X.w) X.A (execs st X.env) (SP X a D) X.xe s
def thn{d:Type}{t:Sem d}{Q c : d->Od->Prop}{M:Model}{A:Ot}{E:Oa->Od->Prop}{s:Od}(h:Oj M A t Q E s)(e:∀a s,Q a s->c a s):Oj M A t c E s:=OB h e λ_ _ x=>x
section
variable {X:Cx}
abbrev FR(i:Nat):TE:=λZ H Q=>∃v,Z[i]?*>(Ud v)/\Q v H
abbrev tC(v:V):TE:=λ_ H Q=>Q v H
def yy{i:Nat}{x:Str}{pos:Pos}(q:X.N[i]?*>x)(y:Vis X.env.scope x)(g:(x==("__debug__" : Str))=Ue:=by decide)(j:(x==("__classdict__" : Str))=Ue:=by decide):PE X (.Name x pos) (FR i):=by
 intro w s Z H Q I h;obtain⟨v,e,h⟩:=h;obtain⟨m,p,o⟩:=I.loc;obtain⟨u,r,l⟩:=o i x v q e y;have d:EP X w Z Q u s:=⟨v,H,I,r,h⟩;rcases l with⟨f,t⟩|⟨f,c,k,a⟩;show SS (wpAny_loadName_local I.ok.kind f p t d) g
 .rcases f with f|f;show SS (wpAny_loadName_cell I.ok.kind f k a d) g;show SS (wpAny_loadName_free I.ok.kind f k a d j) g
def EW{i j pos}:PE X (.Constant (.int i) j pos) (tC (.int i)):=λ_ _ _ H _ I h=>wpAny_Constant_int {.int i,H,I.tok _,{_,Xr},h}
def Hm{b j pos}:PE X (.Constant (.bool b) j pos) (tC (.bl b)):=λ_ _ _ H _ I h=>Constant_bool {.bl b,H,I,Xr,h}
def E3{x j pos}:PE X (.Constant (.str x) j pos) (tC (.str x)):=λ_ _ _ H _ I h=>Calls.Constant_str {.str x,H,I.tok _,{_,Xr},h}
abbrev Gl(X:Cx)(x:Str):Prop:=X.env.kindOf x*>.globalImplicit
def Ba{E:Oa->Od->Prop}{a:!(Addr×Obj)}{s:Od}{Z:St}{H:Hp}{x:Str}{u:Oa}{pos:Pos}{Q:Oa->Od->Prop}(I:Inv X a Z H s)(e:Gl X x)(c:X.mg x*>u)(h:Q u s)
  (d:(x==("__debug__" : Str))=Ue:=by decide):Oj (Ol X.prog X.w) X.A (eval (.Name x pos) X.env) Q E s:=
 Qu I.ok.kind e (Calls.loadGlobal_global (by rw[I.ok.glob];show I.mod.glob.keeps I.bk) c h) d
def jo{E:Oa->Od->Prop}{i:!(Addr×Obj)}{s:Od}{Z:St}{H:Hp}{x:Str}{u:Oa}{pos:Pos}{Q:Oa->Od->Prop}(I:Inv X i Z H s)(d:Gl X x)(g:X.mg x=Uc)(j:O7 x*>u)(h:Q u s)
  (e:x ≠ "__name__" :=by decide) (a:(x==("__debug__" : Str))=Ue:=by decide):Oj (Ol X.prog X.w) X.A (eval (.Name x pos) X.env) Q E s:=by
 have(k,f,c):=I.mod.blt;show Qu I.ok.kind d (Calls.loadGlobal_builtin (by rw[I.ok.glob];show I.mod.glob.keeps I.bk) g (by rw[I.ok.blt];show f.keeps I.bk) ((c x e).trans j) h) a
def BC{x:Str}{v:V}{u:Oa}{pos:Pos}(f:Gl X x)(a:X.mg x=Uc)(d:O7 x*>u)(r:RelV v u)(e:x ≠ "__name__" :=by decide)(c:(x==("__debug__" : Str))=Ue:=by decide):PE X (.Name x pos) (tC v):=
 λ_ _ _ H _ I h=>jo I f a d ⟨v,H,I,r,h⟩ e c
variable {a b:Expr}{ta tb:TE}{pos:Pos}
abbrev PC(X:Cx)(op:SU)(a b:Expr)(t:TE):Prop:=
 ∀(e:!(Addr×Obj)) (s:Od) (Z:St) (H:Hp) (Q:VK),Inv X e Z H s->t Z H Q ->
  Oj (Ol X.prog X.w) X.A (eval a X.env) (λv c=>Oj (Ol X.prog X.w) X.A (eval b X.env) (λu d=>Oj (Ol X.prog X.w) X.A (OH op v u) (EP X e Z Q) X.xe d) X.xe c) X.xe s
abbrev tB(t:TE):TT:=λZ H Q=>t Z H λx d=>∃c,x=.bl c/\Q c d
def pt_cmp{op:SU}{t:TE}(h:PC X op a b t)(e:PJ op b=Ue:=by first|show nobehind _ (by decide) (by decide)|rfl):PT X (.Compare a [op] [b] pos) (tB t):=by
 intro i s Z H Q I l;show Rs (thn (h i s Z H _ I l) λv o e=>thn e λu r g=>thn g λc p ⟨x,j,k,m,f⟩=>?_) e;have(d,rfl,q):=f;cases m;show OW ⟨j,k,q⟩
def Fi{e:Expr}{t:TE}(h:PE X e t)(i:∀c,RW e X.env c=(do let v <-c;Qq e.pos;OZ [v] (SV v)):=by intro _;rfl):PT X e (tB t):=by
 intro g s Z H Q I l;show isTrue_plain (thn (h g s Z H _ I l) λv o ⟨x,j,k,m,f⟩=>?_) (i _);have(d,rfl,q):=f;cases m;show OW ⟨j,k,q⟩
variable {tA tB':TT}{rest:!Expr}
abbrev Ib(t u:TT):TT:=λZ H Q=>t Z H λc d=>if c=Ug then u Z d Q else Q Ue d
abbrev tOr(t u:TT):TT:=λZ H Q=>t Z H λc d=>if c=Ug then Q Ug d else u Z d Q
abbrev Ij(t:TT):TT:=λZ H Q=>t Z H λc d=>Q (~~~c) d
def BY(f:PT X a tA):PW X (.BoolOp .And [a] pos) tA:=by
 intro i d s Z H Q I h;show isTrue_and (thn (f d s Z H Q I h) λc g e=>?_);cases c with
 | true=>show isTrue_and_nil e
 | false=>show e
def Fn(f:PT X a tA):PW X (.BoolOp .Or [a] pos) tA:=by
 intro i d s Z H Q I h;show isTrue_or (thn (f d s Z H Q I h) λc g e=>?_);cases c with
 | false=>show isTrue_or_nil e
 | true=>show e
def Fm(k:PT X a tA)(l:PW X (.BoolOp .And (b::rest) pos) tB'):PW X (.BoolOp .And (a::b::rest) pos) (Ib tA tB'):=by
 intro j d s Z H Q I h;show isTrue_and (thn (k d s Z H _ I h) λc i ⟨e,g,f⟩=>?_);cases c with
 | true=>show l j d i Z e Q g f
 | false=>show⟨e,g,f⟩
def Hw(k:PT X a tA)(l:PW X (.BoolOp .Or (b::rest) pos) tB'):PW X (.BoolOp .Or (a::b::rest) pos) (tOr tA tB'):=by
 intro j d s Z H Q I h;show isTrue_or (thn (k d s Z H _ I h) λc i ⟨e,g,f⟩=>?_);cases c with
 | true=>show⟨e,g,f⟩
 | false=>show l j d i Z e Q g f
def Fh(f:PT X a tA):PT X (.UnaryOp .Not a pos) (Ij tA):=by
 intro d s Z H Q I h;show isTrue_not (f d s Z H (λc e=>Q (~~~c) e) I h)
abbrev Dv(ta tb:TE):TE:=λZ H Q=>ta Z H λx d=>∃c,x=.bl c/\if c=Ug then tb Z d Q else Q (.bl Ue) d
abbrev Dz(ta:TE):TE:=λZ H Q=>ta Z H λx d=>∃c,x=.bl c/\Q (.bl (~~~c)) d
def EZ{op}{t:TE}(h:PE X a t):PE X (.BoolOp op [a] pos) t:=λc s Z H Q I d=>BoolOp_one (h c s Z H Q I d)
def EU(k:PE X a ta)(l:PE X (.BoolOp .And (b::rest) pos) tb):PE X (.BoolOp .And (a::b::rest) pos) (Dv ta tb):=by
 intro e s Z H Q I h;show BoolOp_and (thn (k e s Z H _ I h) λv i j=>?_);have(x,f,g,m,d):=j;have(c,rfl,d):=d;cases m;show OW ?_;cases c with
 | true=>show l e i Z f Q g d
 | false=>show{.bl Ue,f,g,Xr,d}
def EY(f:PE X a ta):PE X (.UnaryOp .Not a pos) (Dz ta):=by
 intro g s Z H Q I h;show UnaryOp_ (thn (f g s Z H _ I h) λv l e=>?_);have(x,i,j,k,d):=e;have(c,rfl,d):=d;cases k;show not_of (OW {.bl (~~~c),i,j,Xr,d})
abbrev tIf(t:TT)(ta tb:TE):TE:=λZ H Q=>t Z H λc d=>if c=Ug then ta Z d Q else tb Z d Q
def yw{c:Expr}(k:PT X c tA)(l:PE X a ta)(m:PE X b tb):PE X (.IfExp c a b pos) (tIf tA ta tb):=by
 intro e s Z H Q I h;show wpAny_IfExp (thn (k e s Z H _ I h) λd f ⟨g,j,i⟩=>?_);cases d with
 | true=>show l e f Z g Q j i
 | false=>show m e f Z g Q j i
end
abbrev SqL(K:yF)(H:Hp)(a:Addr)(d:!V):Prop:=
 Rd H a (.lst d) \/
  ∃(o:Obj) (c:Array Oa) (n:Nat),K.lookup a*>o/\o.cls=.type "list" /\ o.dict=Uc/\o.data=.seq c n/\c.size<=sizeLine/\Vals d c.toList
abbrev SqT(K:yF)(H:Hp)(a:Addr)(d:!V):Prop:=
 Rd H a (.tup d) \/
  ∃(o:Obj) (c:Array Oa) (n:Nat),K.lookup a*>o/\(o.cls=.type "tuple" /\ o.dict=Uc)/\o.data=.seq c n/\c.size<=sizeLine/\Vals d c.toList
abbrev IN:Oa->↑V
 | .none=>Ud .non
 | .bool b=>Ud (.bl b)
 | .int i _=>Ud (.int i)
 | .str x _=>Ud (.str x)
 | .bytes b _=>Ud (.byt b)
 | .float b _=>Ud (.flt b)
 | .ref a=>Ud (.ref a)
 | .type n=>Ud (.ty n)
 | _=>Uc
def RelV.abs{x:V}{u:Oa}(r:RelV x u):IN u*>x:=by
 cases x with
 | non=>cases r;rfl
 | bl _=>cases r;rfl
 | int _=>have(t,rfl):=r;rfl
 | str _=>have(t,rfl):=r;rfl
 | byt _=>have(t,rfl):=r;rfl
 | flt _=>have(t,rfl):=r;rfl
 | ref _=>cases r;rfl
 | ty _=>cases r;rfl
def RelV.inj{x y:V}{u:Oa}(r:RelV x u)(q:RelV y u):x=y:=JT.inj (r.abs.symm.trans q.abs)
def Vals.inj:∀{c a:!V} {us:!Oa},Vals c us->Vals a us->c=a:=by
 intro c a us h k
 induction h generalizing a with
 | nil=>cases k;rfl
 | cons r t e=>
  cases k with
  | cons f d=>rw[r.inj f,e d]
section
variable {X:Cx}{Ub:!(Addr×Obj)}{Z:St}{H:Hp}{s:Od}{a:Addr}{xs ys:!V}
def SqL.of{K:yF}(h:H a*>(.lst xs)):SqL K H a xs:=.inl (.inl h)
def SqT.of{K:yF}(h:H a*>(.tup xs)):SqT K H a xs:=.inl (.inl h)
def Inv.list(I:Inv X Ub Z H s)(h:SqL X.K H a xs):∃c:!Oa,Vals xs c/\PlainL s.heap a c.toArray/\xs.length<=sizeLine:=by
 rcases h with h|⟨o,c,n,f,g,d,i,j,r⟩
 .have(z,c,n,r,e):=h.ok I.hok;show{c,r,{_,n,e,Xr,Xr,Xr},z}
 .show{c.toList,r,{o,n,I.kIn a o f,g,d,by simpa using i},?_};have e:=r.length;dsimp[Ki]at e
  lia
def Inv.tuple(I:Inv X Ub Z H s)(h:SqT X.K H a xs):∃c:!Oa,Vals xs c/\TU s.heap a c.toArray/\xs.length<=sizeLine:=by
 rcases h with h|⟨o,c,n,d,f,g,i,r⟩
 .have(z,c,r,p):=h.ok I.hok;show⟨c,r,p.to,z⟩
 .show{c.toList,r,{o,I.kIn a o d,f.1,n,by simpa using g},?_};have e:=r.length;dsimp[Ki]at e
  lia
def Inv.list_inj(I:Inv X Ub Z H s)(h:SqL X.K H a xs)(h':SqL X.K H a ys):xs=ys:=by
 obtain⟨f,r,⟨o,n,e,_,_,d⟩,_⟩:=I.list h;obtain⟨c,k,⟨m,l,i,_,_,g⟩,_⟩:=I.list h';rw[e]at i;cases i;rw[d]at g;injection g with j _;have:f=c:=by simpa using congrArg Nv j
 subst this;show r.inj k
def Inv.tuple_inj(I:Inv X Ub Z H s)(h:SqT X.K H a xs)(h':SqT X.K H a ys):xs=ys:=by
 obtain⟨f,r,⟨o,e,_,n,d⟩,_⟩:=I.tuple h;obtain⟨c,k,⟨m,i,_,l,g⟩,_⟩:=I.tuple h';rw[e]at i;cases i;rw[d]at g;injection g with j _;have:f=c:=by simpa using congrArg Nv j
 subst this;show r.inj k
end
noncomputable abbrev Cx.wish(X:Cx) (E:Oa->Od->Prop):Cx:={X with xe:=E}
noncomputable abbrev Cx.nox(X:Cx):Cx:=X.wish λ_ _=>False
def Cx.Ok.wish{X:Cx}(a:X.Ok)(E:Oa->Od->Prop):(X.wish E).Ok:=
 ⟨a.mod,a.kind,a.glob,a.blt,a.above,a.inj,a.has,a.cab,a.hd,a.gd,a.frames,a.stk,a.exf,a.bs,a.bsz,a.noex,a.exfs,a.funs,a.frf⟩
def Cx.Ok.unwish{X:Cx}{E:Oa->Od->Prop}(a:(X.wish E).Ok):X.Ok:=
 ⟨a.mod,a.kind,a.glob,a.blt,a.above,a.inj,a.has,a.cab,a.hd,a.gd,a.frames,a.stk,a.exf,a.bs,a.bsz,a.noex,a.exfs,a.funs,a.frf⟩
section
variable {X:Cx}{Ub:!(Addr×Obj)}{Z:St}{H:Hp}{s:Od}{E:Oa->Od->Prop}
def Inv.wish(I:Inv X Ub Z H s)(E:Oa->Od->Prop):Inv (X.wish E) Ub Z H s:={I.ok.wish E,I.os,I.bare,I.base,I.loc,I.cell,I.free,I.freeC,I.pin,I.hok,I.len}
def Inv.unwish(I:Inv (X.wish E) Ub Z H s):Inv X Ub Z H s:=⟨I.ok.unwish,I.os,I.bare,I.base,I.loc,I.cell,I.free,I.freeC,I.pin,I.hok,I.len⟩
def SP.unwish{D:N0}{f:Flow}{d:Od}(h:SP (X.wish E) Ub D f d):SP X Ub D f d:=by
 cases f with
 | next=>have(c,a,I,q):=h;show⟨c,a,I.unwish,q⟩
 | brk=>have(c,a,I,q):=h;show⟨c,a,I.unwish,q⟩
 | cont=>have(c,a,I,q):=h;show⟨c,a,I.unwish,q⟩
 | ret u=>have(v,c,a,I,r,q):=h;show⟨v,c,a,I.unwish,r,q⟩
def PSs.nox{st:!Stmt}{t:TS}(h:PSs X.nox st t):PSs X st t:=λUb s Z H D I a=>
 OB (h Ub s Z H D (I.wish _) a) (λ_ _ q=>q.unwish) λ_ _ z=>Pz z
end
section
variable {X:Cx}{st:Stmt}{rest:!Stmt}{t u:TS}{e:Expr}{te:TE}{pos:Pos}
abbrev Dy:TS:=λD Z H=>D.nx Z H
abbrev Io(t u:TS):TS:=λD Z H=>t {D with nx:=u D} Z H
def BU:PSs X [] Dy:=λ_ _ Z H _ I h=>Qj ⟨Z,H,I,h⟩
def y3(k:PS X st t)(j:PSs X rest u):PSs X (st::rest) (Io t u):=by
 intro a s Z H D I h;show So (thn (k a s Z H {D with nx:=u D} I h) λf c q=>?_);cases f with
 | next=>
  obtain⟨g,d,i,q⟩:=q;show j a c g d D i q
 | ret v=>show q
 | brk=>show q
 | cont=>show q
def BV(c:PS X st t):PSs X [st] t:=by
 intro a s Z H D I h;show So (thn (c a s Z H D I h) λf d q=>?_);cases f with
 | next=>show Qj q
 | ret v=>show q
 | brk=>show q
 | cont=>show q
def Inv.quiet{a:!(Addr×Obj)}{Z:St}{H:Hp}{s:Od}(I:Inv X a Z H s):interactive X.env=Ue:=by simp[interactive,I.ok.kind]
abbrev Dw(te:TE):TS:=λD Z H=>te Z H λ_ a=>D.nx Z a
def BS(a:PE X e te)(hs:Q0 e Uc pos.line X.env=pure Ue:=by rfl):PS X (.Expr e pos) (Dw te):=by
 intro c s Z H D I h;show wpAny_Expr_any (thn (a c s Z H _ I h) λv i ⟨x,f,g,j,d⟩=>⟨Z,f,g,d⟩) I.quiet hs
abbrev Im(te:TE):TS:=λD Z H=>te Z H D.rt
def Ff(a:PE X e te):PS X (.Return (Ud e) pos) (Im te):=by
 intro c s Z H D I h;show wpAny_Return_some (thn (a c s Z H _ I h) λv j ⟨x,f,g,i,d⟩=>⟨x,Z,f,g,i,d⟩)
abbrev Ig(c:TT)(t u:TS):TS:=λD Z H=>c Z H λb a=>if b=Ug then t D Z a else u D Z a
def Hv{c:Expr}{a b:!Stmt}{j:TT}(m:PT X c j)(o:PSs X a t)(p:PSs X b u):PS X (.If c a b pos) (Ig j t u):=by
 intro f s Z H D I h;show wpAny_If (thn (m f s Z H _ I h) λd i ⟨k,l,g⟩=>?_);cases d with
 | true=>show o f i Z k D l g
 | false=>show p f i Z k D l g
abbrev FQ:TS:=λ_ _ _=>False
def yY:PS X st FQ:=λ_ _ _ _ _ _ h=>h.elim
end
protected def TG:=V->St->Hp->(St->Hp->Prop)->Prop
protected def TGs:=!V->St->Hp->(St->Hp->Prop)->Prop
abbrev PG(X:Cx)(a:Expr)(t:TG):Prop:=
 ∀(c:!(Addr×Obj)) (s:Od) (Z:St) (H:Hp) (v:V) (u:Oa) (Q:St->Hp->Prop),Inv X c Z H s->RelV v u->t v Z H Q ->
  Oj (Ol X.prog X.w) X.A (P0 a X.env u) (λ_ f=>∃e d,Inv X c e d f/\Q e d) X.xe s
abbrev PGs(X:Cx)(ts:!Expr)(t:TGs):Prop:=
 ∀(a:!(Addr×Obj)) (s:Od) (Z:St) (H:Hp) (vs:!V) (c:!Oa) (Q:St->Hp->Prop),Inv X a Z H s->Vals vs c->t vs Z H Q ->
  Oj (Ol X.prog X.w) X.A (RK ((Pj ts X.env).map (·.2)) c) (λ_ f=>∃e d,Inv X a e d f/\Q e d) X.xe s
protected def AE:=V->V->V->Hp->(Hp->Prop)->Prop
abbrev DG(X:Cx)(t:AE):Prop:=
 ∀(c:!(Addr×Obj)) (s:Od) (Z:St) (H:Hp) (o i v:V) (e d u:Oa) (Q:Hp->Prop),Inv X c Z H s->RelV o e->RelV i d->RelV v u->t o i v H Q ->
  Oj (Ol X.prog X.w) X.A (QK e d u) (λ_ f=>∃a,Inv X c Z a f/\Q a) X.xe s
section
variable {X:Cx}{pos:Pos}
abbrev oe(i:Nat):TG:=λv Z H Q=>Q (Z.set i (Ud v)) H
def BH{i:Nat}{x:Str}(c:X.N.Nodup)(e:X.N[i]?*>x)(f:Loc X.env.scope x)(a:X.fn x=Ug\/X.env.scope.names.lookup x*>.local:=by first|show .inl rfl|show .inr rfl|assumption):PG X (.Name x pos) (oe i):=by
 intro g s Z H v u Q I r h;show R8 (jW I c e f r (λj d=>{_,H,d,h}) a)
abbrev D0:TGs:=λvs Z H Q=>vs=[]/\Q Z H
abbrev xr(t:TG)(u:TGs):TGs:=λvs Z H Q=>∃v r,vs=v::r/\t v Z H λc a=>u r c a Q
def BI:PGs X [] D0:=by
 intro a s Z H vs c Q I r h;obtain⟨e,h⟩:=h;subst e;cases r;show R9 ⟨Z,H,I,h⟩
def yB{e:Expr}{a:!Expr}{t:TG}{u:TGs}(i:PG X e t)(g:PGs X a u)
  (hs:(Pj (e::a) X.env).map (·.2)=P0 e X.env::(Pj a X.env).map (·.2):=by rfl):PGs X (e::a) (xr t u):=by
 intro c s Z H vs p Q I r h;obtain⟨v,vr,o,h⟩:=h;subst o;cases r with
 | cons r j=>
  rw[hs];show Qv (thn (i c s Z H _ _ _ I r h) λ_ f ⟨l,k,m,d⟩=>?_);show g c f l k _ _ Q m j d
abbrev AX(K:yF)(n:Nat)(t:TGs):TG:=λv Z H Q=>∃a c,v=.ref a/\SqT K H a c/\c.length=n/\t c Z H Q
def E5{c:!Expr}{k:Nat}{t:TGs}{n:Nat}(q:X.calm=Ug)(h:PGs X c t)
  (w:(Pj c X.env).length=n:=by rfl) (d:(Pj c X.env).findIdx? (·.1)=Uc:=by rfl):PG X (.Tuple c k pos) (AX X.K n t):=by
 intro g s Z H v u Q I r f;obtain⟨a,B,A,p,l,f⟩:=f;subst A;cases r;obtain⟨m,i,y,E⟩:=I.tuple p;show assign_Tuple_tuple (I.ok.hd q) y (by simp[w,<-l,i.length]) d λC x=>?_;have z:Inv X g Z H {s with heap:=C}:=I.kept (t':=s.toks) λb o e=>x b o (JG (Oh e)) e;show h g _ Z H B _ Q z (by exists i) f
abbrev D3(a e:TE)(t:AE):TG:=λv Z H Q=>a Z H λo c=>e Z c λi f=>t o i v f λd=>Q Z d
def yz{o i:Expr}{f g:TE}{t:AE}(ho:PE X o f)(E:PE X i g)(hs:DG X t)
  (B:∀v,P0 (.Subscript o i pos) X.env v=(do
   let a <-OZ [v] (eval o X.env)
   let c <-OZ [v,a] (eval i X.env)
   Qq pos
   OZ [v,a,c] (QK a c v)
   SO [v,a,c] []):=by intro _;rfl):PG X (.Subscript o i pos) (D3 f g t):=by
 intro d s Z H v u Q I r h;rw[B];show NO (OI (thn (ho d s Z H _ I h) λa k e=>?_));have(x,m,p,K,j):=e;show NO (OI (thn (E d k Z m _ p j) λc J e=>?_));have(y,q,l,G,A):=e;show NO (PK (NO (OI (thn (hs d J Z q x y v a c u _ l K G r A) λ_ L ⟨C,w,z⟩=>?_))));show wpAny_release ⟨Z,C,w,z⟩
abbrev Cz(c:TE)(g:TG):TS:=λD Z H=>c Z H λx a=>g x Z a D.nx
def Fc{a e:Expr}{c:TE}{g:TG}(l:PE X e c)(j:PG X a g)(hs:QN [a] e pos.line X.env=pure Ue:=by rfl)(p:QP [a] e X.env=pure Uc:=by rfl)
  (k:(Pj [a] X.env).map (·.2)=[P0 a X.env]:=by rfl):PS X (.Assign [a] e pos) (Cz c g):=by
 intro d s Z H D I h;show wpAny_Assign_stores (thn (l d s Z H _ I h) λv i ⟨x,m,o,r,f⟩=>?_) hs p;rw[k];show thn (j d i Z m x v _ o r f) λ_ t q=>q
def Fg{i:Nat}{x:Str}{e:Expr}{c:TE}{a:Pos}(f:X.N.Nodup)(q:X.N[i]?*>x)(g:Loc X.env.scope x)(k:PE X e c)(hs:Q0 e (Ud (.Name x a)) pos.line X.env=pure Ue:=by rfl)(o:X.fn x=Ug\/X.env.scope.names.lookup x*>.local:=by first|show .inl rfl|show .inr rfl|assumption) :
  PS X (.Assign [.Name x a] e pos) (Cz c (oe i)):=by
 intro j s Z H D I h;show wpAny_Assign_Name (thn (k j s Z H _ I h) λv t ⟨y,m,p,r,d⟩=>?_) hs;show jW p f q g r (λu l=>{_,m,l,d}) o
abbrev Il(i j:Nat)(c:TA):TS:=λD Z H=>c Z H λvs a=>∃v w,vs=[v,w]/\D.nx ((Z.set i (Ud v)).set j (Ud w)) a
def Fe{i j:Nat}{x y:Str}{a b:Expr}{z:TA}{r t pt:Pos}{kt k2 pt2}(hc:X.calm=Ug)(B:X.N.Nodup)(hi:X.N[i]?*>x)(P:X.N[j]?*>y)(u:i≠j)
  (C:X.env.scope.names.lookup x*>.local) (J:X.env.scope.names.lookup y*>.local) (ha:PA X [a,b] z)
  (Y:QP [.Tuple [.Name x r,.Name y t] kt pt] (.Tuple [a,b] k2 pt2) X.env=pure (Ud [x,y]))
  (hs:QN [.Tuple [.Name x r,.Name y t] kt pt] (.Tuple [a,b] k2 pt2) pos.line X.env=pure Ue:=by rfl) :
  PS X (.Assign [.Tuple [.Name x r,.Name y t] kt pt] (.Tuple [a,b] k2 pt2) pos) (Il i j z):=by
 intro E s Z H D I h;rw[exec_Assign_arm];show NO (PK ?_);rw[hs];show NO (Of ?_);rw[if_neg (by decide)];show NO (Tuple_ (thn (ha _ E s Z H _ I h) λus d z9=>?_));have(vs,G,U,r1,k):=z9;obtain⟨v,w,e1,k⟩:=k;subst e1;obtain⟨g,f,rfl,rv,m⟩:∃g f,us=[g,f]/\RelV v g/\RelV w f:=by
  cases r1 with
  | cons p q=>
   cases q with
   | cons Q O=>
    cases O;show{_,_,Xr,p,Q}
 show OC ?_ (by change 2<=sizeLine;decide);have S:Inv X E Z G {d with heap:=d.heap.push {cls:=.type "tuple",data:=.seq [g,f].toArray}}:=U.kept (t':=d.toks) λb o e=>Oc _ e;rw[Y];show NO (Of ?_);change Oj (Ol X.prog X.w) X.A (do rule "assign.swapped-stores";let c <-unpackItems (.ref d.heap.objs.size) 2 Uc;RK [λv=>SW X.env y v,λv=>SW X.env x v] c.reverse;pure T8) _ _ _;show NO (Qc (NO (unpackItems_tuple (items:=#[g,f]) (I.ok.hd hc) (TU.new d.heap _) λL l=>?_)));have I3:=S.kept (h':=L) (t':=d.toks) λb o e=>l b o (JG (Oh e)) e;change Oj _ _ (RK [λv=>SW X.env y v,λv=>SW X.env x v] [f,g] >>= λ_=>pure T8) _ _ _;show NO (Qv (SX (jW I3 B P (.inl J) m (λs2 I4=>?_) (.inr J))));show Qv (SX (jW I4 B hi (.inl C) rv (λs3 M=>R9 (Of ?_)) (.inr C)));rw[List.set_comm _ _ (Op u)]at M;show{_,G,M,k}
end
section
variable {X:Cx}{pos:Pos}
abbrev Ab(c:TT)(g:TS):TS:=λD Z H=>∃W:Nat->St->Hp->Prop,(∃m,W m Z H)/\∀m Z H,W m Z H ->
 c Z H λb a=>if b=Ug then∃N:St->Hp->Prop,(∀e d,N e d->∃f,f<m/\W f e d)/\g {D with nx:=N,ct:=N,bk:=D.nx} Z a else D.nx Z a
def yZ{c:Expr}{a:!Stmt}{u:TT}{y:TS}(G:PL (Ol X.prog X.w) X.A X.env X.xe)(P:PT X c u)(M:PSs X a y):PS X (.While c a [] pos) (Ab u y):=by
 intro p s Z H D I h;obtain⟨W,⟨O,L⟩,e⟩:=h;show wpAny_While (codeAny_whileLoop (λn Q=>∃t E,Inv X p t E Q/\W n t E) ?_ O ⟨Z,H,I,L⟩);rintro n J ⟨j,B,K,w1⟩;show Po G (thn (P p J j B _ K (e n j B w1)) λb S ⟨C,z,i⟩=>?_);cases b with
 | true=>
  obtain⟨N,x,i⟩:=i;rw[if_pos rfl];show Po G (thn (M p S j C _ z i) λf U k=>?_);cases f with
  | next=>
   have(d,g,r,m):=k;have(q,o,l):=x d g m;show⟨q,o,d,g,r,l⟩
  | cont=>
   have(d,g,r,m):=k;have(q,o,l):=x d g m;show⟨q,o,d,g,r,l⟩
  | brk=>show k
  | ret v=>show k
 | false=>
  rw[if_neg JF];show Qj ⟨j,C,z,i⟩
end
structure It where
 go:Nat->Hp->Prop
 yld:Nat->Hp->V->Hp->Prop
 stop:Nat->Hp->Prop
abbrev dU(X:Cx)(a:!(Addr×Obj))(H:Hp)(b:Addr):Prop:=
 H b=Uc/\b≠X.env.locals/\b∉X.fs/\(b∈X.ex\/X.s₀.heap.objs.size<=b)/\(∀x c,X.env.cells.lookup x*>c->c≠b)/\∀p∈X.pn++a,p.1≠b
def Inv.fpOk{X:Cx}{d:!(Addr×Obj)}{Z:St}{H H':Hp}{s:Od}{b:Addr}(I:Inv X d Z H s)(a:s.heap.objs.size<=b)(g:H' b=Uc):dU X d H' b:=by
 show{g,K2 (JN I.lt a),I.nofs a,.inr (Ks I.sz a),λx c e z=>?_,λp f z=>?_}
 .have(v,q):=I.cell x c e;show absurd (JN q.lt (by rw[z];show a)) (KA _)
 .show absurd (JN (Oh (I.pin p f).1) (by rw[z];show a)) (KA _)
structure N5(P:On)(w:Oq)(K:yF)(tg:Expr)(J:It)(fp:!Addr)(it:Addr)(tn:Nat->Heap->Prop):Prop where
 mem:it∈fp
 obj:∀i h,tn i h->∀b∈fp,∃o,h.get? b*>o/\∀v,o.data ≠ .cell v
 keep:∀i h h',tn i h->(∀b∈fp,∀o,h.get? b*>o->h'.get? b*>o)->tn i h'
 item:∀(X:Cx),X.prog=P->X.w=w->X.K=K->X.calm=Ug->∀(i:Nat) (Ub:!(Addr×Obj)) (s:Od) (Z:St) (H:Hp) (E:Oa->Od->Prop),Inv X Ub Z H s->(∀b∈fp,dU X Ub H b)->tn i s.heap->J.go i H ->
  Oj (Ol P w) X.A (Qk (.ref it)) (λr s1=>∃u,r*>u /\
   Oj (Ol P w) X.A (PD tg (.ref it) u) (λ_ s2=>∃x H',Inv X Ub Z H' s2/\RelV x u/\J.yld i H x H'/\tn (i+1) s2.heap/\∀b∈fp,H' b=Uc) E s1) E s
 done:∀(X:Cx),X.prog=P->X.w=w->X.K=K->X.calm=Ug->∀(i:Nat) (Ub:!(Addr×Obj)) (s:Od) (Z:St) (H:Hp) (E:Oa->Od->Prop),Inv X Ub Z H s->(∀b∈fp,dU X Ub H b)->tn i s.heap->J.stop i H ->
  Oj (Ol P w) X.A (Qk (.ref it)) (λr s1=>r=Uc/\Inv X Ub Z H s1) E s
 self:∀(A:Ot) (i:Nat) (s:Od) (Q:Oa->Od->Prop) (E:Oa->Od->Prop),tn i s.heap->Q (.ref it) s->Oj (Ol P w) A (SY (.ref it)) Q E s
protected def TI:=St->Hp->(It->Hp->Prop)->Prop
abbrev PIE(X:Cx)(d:!(Addr×Obj))(Z:St)(h:Expr)(R:It->Hp->Prop)(c:Oa)(f:Od):Prop:=
 ∃(it:Addr) (g:!Addr) (e:Nat->Heap->Prop) (J:It) (a:Hp),c=.ref it/\Inv X d Z a f/\N5 X.prog X.w X.K h J g it e/\e 0 f.heap/\(∀b∈g,dU X d a b)/\R J a
abbrev PI(X:Cx)(e iter:Expr)(d:TI):Prop:=
 ∀(a:!(Addr×Obj)) (s:Od) (Z:St) (H:Hp) (R:It->Hp->Prop),Inv X a Z H s->d Z H R ->
  Oj (Ol X.prog X.w) X.A (eval iter X.env) (λv c=>Oj (Ol X.prog X.w) X.A (SY v) (PIE X a Z e R) X.xe c) X.xe s
def ua{M:Model}{A:Ot}{E:Oa->Od->Prop}{s:Od}{c:Expr}{it:Addr}{u:Oa}{o:Obj}{n:String}{vs:Array Oa}{Q:Unit->Od->Prop}(ho:s.heap.get? it*>o)(e:o.cls=.type n)(d:o.data=.fields vs)
  (f:["enumerate","zip","dict_itemiterator","dict_reverseitemiterator","odict_iterator","itertools.zip_longest","itertools.pairwise"].contains n=Ue) (a:Q () s):Oj M A (PD c (.ref it) u) Q E s:=by
 unfold PD;cases c<;>first
  | show Of a
  | (cases u<;>first
    | show Of a
    | (refine NO (wpAny_load ho ?_)
       rw[e,d];change Oj M A (if(["enumerate","zip","dict_itemiterator","dict_reverseitemiterator","odict_iterator","itertools.zip_longest","itertools.pairwise"].contains n&&vs[0]? == Ud (PV _))=Ug then _ else _) Q E s;rw[if_neg (by intro h;rw[f,Nj]at h;cases h)];show Of a))
abbrev Itl(K:yF) (a:Addr):It:=
 {λi H=>∃c x,SqL K H a c/\c[i]?*>x,λi H x d=>d=H/\∀c,SqL K H a c->c[i]?*>x,λi H=>∃c,SqL K H a c/\c.length<=i}
abbrev Itt(K:yF) (a:Addr):It:=
 {λi H=>∃c x,SqT K H a c/\c[i]?*>x,λi H x d=>d=H/\∀c,SqT K H a c->c[i]?*>x,λi H=>∃c,SqT K H a c/\c.length<=i}
abbrev Itr(lo:Int) (n:Nat):It:={λi _=>i<n,λi H x a=>a=H/\x=.int (lo+i),λi _=>n<=i}
def wE{P:On}{w:Oq}{K:yF}{tg:Expr}(a it:Addr):N5 P w K tg (Itl K a) [it] it (λi h=>h.IsListIter it a i) where
 mem:=by simp
 obj:=λi h st b hb=>by
  have e:b=it:=by exists hb
  subst e;have(o,e,c,d):=st;show{o,e,λv z=>by rw[d]at z;cases z}
 keep:=λi h h' st k=>st.at λo e=>k it ∅ o e
 item:=by
  intro X hP hw hK hc i Ub s Z H E I hf st hg;subst hP hw hK;have(xs,x,hq,hx):=hg;have(its,rv,p,hz):=I.list hq;have(u,hu,ru):=rv.get hx;have(f0,f1,f2,f3,f4,f5):=hf it ∅;show Re st p.isList (x:=u) (by exists hu) λh' st' sb=>?_;have I1:Inv X Ub Z H {s with heap:=h'}:=I.turned (t':=s.toks) (λb o hb e=>(sb.2 b hb).trans e) f0 f1 f3 f4 f5;have(o,e,c,d):=id st';show{u,Xr,ua (s:={s with heap:=h'}) e c d (by decide) {x,H,I1,ru,{Xr,λys hy=>by rw[I.list_inj hy hq];show hx},st',λb hb=>(hf b hb).1}}
 done:=by
  intro X hP hw hK hc i Ub s Z H E I hf st hg;subst hP hw hK;have(xs,hq,hx):=hg;have(its,rv,p,hz):=I.list hq;have(f0,f1,f2,f3,f4,f5):=hf it ∅;have hl:=rv.length;show Rt (I.ok.hd hc) st p.isList (by simp;lia) λh' eb=>{Xr,I.turned (t':=s.toks) (λb o hb e=>eb b o hb e) f0 f1 f3 f4 f5}
 self:=λ_ _ _ _ _ st h=>wpAny_pyIter_listiter st h
def tF{P:On}{w:Oq}{K:yF}{tg:Expr}(a it:Addr):N5 P w K tg (Itt K a) [it] it (λi h=>h.IsTupleIter it a i) where
 mem:=by simp
 obj:=λi h st b hb=>by
  have e:b=it:=by exists hb
  subst e;have(o,e,c,d):=st;show{o,e,λv z=>by rw[d]at z;cases z}
 keep:=λi h h' st k=>st.at λo e=>k it ∅ o e
 item:=by
  intro X hP hw hK hc i Ub s Z H E I hf st hg;subst hP hw hK;have(xs,x,hq,hx):=hg;have(its,rv,p,hz):=I.tuple hq;have(u,hu,ru):=rv.get hx;have(f0,f1,f2,f3,f4,f5):=hf it ∅;show Q3 st (show s.heap.IsTuple a its.toArray from p) (x:=u) (by exists hu) λh' st' sb=>?_;have I1:Inv X Ub Z H {s with heap:=h'}:=I.turned (t':=s.toks) (λb o hb e=>(sb.2 b hb).trans e) f0 f1 f3 f4 f5;have(o,e,c,d):=id st';show{u,Xr,ua (s:={s with heap:=h'}) e c d (by decide) {x,H,I1,ru,{Xr,λys hy=>by rw[I.tuple_inj hy hq];show hx},st',λb hb=>(hf b hb).1}}
 done:=by
  intro X hP hw hK hc i Ub s Z H E I hf st hg;subst hP hw hK;have(xs,hq,hx):=hg;have(its,rv,p,hz):=I.tuple hq;have(f0,f1,f2,f3,f4,f5):=hf it ∅;have hl:=rv.length;show Rf (I.ok.hd hc) st (show s.heap.IsTuple a its.toArray from p) (by simp;lia) λh' eb=>{Xr,I.turned (t':=s.toks) (λb o hb e=>eb b o hb e) f0 f1 f3 f4 f5}
 self:=λ_ _ _ _ _ st h=>wpAny_pyIter_tupleiter st h
def tE{P:On}{w:Oq}{K:yF}{tg:Expr}(it:Addr)(lo:Int)(n:Nat):N5 P w K tg (Itr lo n) [it] it (λi h=>IsRangeIter h it (lo+(i:Nat)*1) ((n:Int)-(i:Nat)) 1) where
 mem:=by simp
 obj:=λi h st b hb=>by
  have e:b=it:=by exists hb
  subst e;show{_,st,λv z=>by
   have z':Data.fields _=Data.cell v:=z;cases z'}
 keep:=λi h h' st k=>k it ∅ _ st
 item:=by
  intro X hP hw hK hc i Ub s Z H E I hf st hg;subst hP hw hK;have(f0,f1,f2,f3,f4,f5):=hf it ∅;have W:=SZ.range (prog:=X.prog) (w:=X.w) (I.ok.hd hc) it lo 1 n;show W.item i s _ _ hg st λv h' tk hv st' kk=>?_;have(t,rfl):=hv;have I1:Inv X Ub Z H {s with heap:=h',toks:=tk}:=I.turned (λb o hb e=>kk b o (by exists hb) e) f0 f1 f3 f4 f5;show{_,Xr,ua (s:={s with heap:=h',toks:=tk}) (n:="range_iterator") st' rfl rfl (by decide) {.int (lo+i),H,I1,{t,?_},⟨Xr,Xr⟩,st',λb hb=>(hf b hb).1}};rw[Int.mul_one]
 done:=by
  intro X hP hw hK hc i Ub s Z H E I hf st hg;subst hP hw hK;have(f0,f1,f2,f3,f4,f5):=hf it ∅;show wpAny_pyNext_range_end (I.ok.hd hc) st (by have:n<=i:=hg;lia) λh' eb=>{Xr,I.turned (t':=s.toks) (λb o hb e=>eb b o hb e) f0 f1 f3 f4 f5}
 self:=λ_ _ _ _ _ st h=>wpAny_pyIter_rangeiter st h
section
variable {X:Cx}{tg:Expr}
abbrev ub(K:yF)(d:TE):TI:=λZ H R=>d Z H λx c=>∃a,x=.ref a/\(∃e,SqL K c a e)/\R (Itl K a) c
abbrev A1(K:yF)(d:TE):TI:=λZ H R=>d Z H λx c=>∃a,x=.ref a/\(∃e,SqT K c a e)/\R (Itt K a) c
def BL{l:Expr}{f:TE}(g:PE X l f):PI X tg l (ub X.K f):=by
 intro r s Z H R I h;show thn (g r s Z H _ I h) λv c k=>?_;have(x,t,d,w,i):=k;obtain⟨a,e,⟨A,m⟩,q⟩:=i;subst e;cases w;have(j,z,p,y):=d.list m;show PM p.isList ?_;show{c.heap.objs.size,[c.heap.objs.size],_,_,t,Xr,d.kept (t':=c.toks) λb o e=>Oc _ e,wE a _,{_,Og _ rfl,Xr,Xr},λb u=>?_,q};have e:b=c.heap.objs.size:=by exists u
 subst e;show d.fpOk (JA _) (d.hok.fresh (JA _))
def E7{l:Expr}{g:TE}(i:PE X l g):PI X tg l (A1 X.K g):=by
 intro r s Z H R I h;show thn (i r s Z H _ I h) λv c k=>?_;have(x,t,d,w,j):=k;obtain⟨a,e,⟨A,m⟩,q⟩:=j;subst e;cases w;have(f,z,p,y):=d.tuple m;show OU (show c.heap.IsTuple a f.toArray from p) ?_;show{c.heap.objs.size,[c.heap.objs.size],_,_,t,Xr,d.kept (t':=c.toks) λb o e=>Oc _ e,tF a _,{_,Og _ rfl,Xr,Xr},λb u=>?_,q};have e:b=c.heap.objs.size:=by exists u
 subst e;show d.fpOk (JA _) (d.hok.fresh (JA _))
def rA{d:!(Addr×Obj)}{Z:St}{H:Hp}{s:Od}{R:It->Hp->Prop}{E:Oa->Od->Prop}{lo a:Int}{t u v:Tok}{f:Nat}(I:Inv X d Z H s)(k : -(2^62)<=lo)(i:lo<2^62)(h : -(2^62)<=a)(j:a<2^62)
  (q:R (Itr lo (a-lo).toNat) H):Oj (Ol X.prog X.w) X.A (SY (.ref s.heap.objs.size)) (PIE X d Z tg R) E {s with heap:=s.heap.push {cls:=.type "range",data:=.fields #[.int lo t,.int a u,.int 1 v]},toks:=f}:=by
 show wpAny_pyIter_range (IsRange.new ..) (small_one k i h j) ?_;have g:Inv X d Z H {s with heap:=s.heap.push {cls:=.type "range",data:=.fields #[.int lo t,.int a u,.int 1 v]},toks:=f}:=I.kept λb o e=>Oc _ e;show{(s.heap.push {cls:=.type "range",data:=.fields #[.int lo t,.int a u,.int 1 v]}).objs.size,[(s.heap.push {cls:=.type "range",data:=.fields #[.int lo t,.int a u,.int 1 v]}).objs.size],_,_,H,Xr,
  g.kept (t':=f) λb o e=>Oc _ e,tE _ lo (a-lo).toNat,?_,λb p=>?_,q}
 .have l:lo+((0:Nat):Int)*1=lo:=by simp
  have m:(((a-lo).toNat:Nat):Int)-((0:Nat):Int)=Tz lo a 1:=by rw[rangeSize_one];split<;>lia
  change IsRangeIter _ _ (lo+((0:Nat):Int)*1) ((((a-lo).toNat:Nat):Int)-((0:Nat):Int)) 1;rw[l,m];show Og _ rfl
 .have e:b=(s.heap.push {cls:=.type "range",data:=.fields #[.int lo t,.int a u,.int 1 v]}).objs.size:=by exists p
  subst e;show g.fpOk (JA _) (g.hok.fresh (JA _))
abbrev C3(c:TA):TI:=λZ H R=>c Z H λvs a=>∃j:Int,vs=[.int j]/\-(2^62)<=j/\j<2^62/\R (Itr 0 j.toNat) a
abbrev C4(c:TA):TI:=λZ H R=>c Z H λvs a=>∃i j:Int,vs=[.int i,.int j]/\(-(2^62)<=i/\i<2^62/\-(2^62)<=j/\j<2^62)/\R (Itr i (j-i).toNat) a
def vS{a:Expr}{d:TA}{p pos:Pos}(g:Gl X "range")(m:X.mg "range" = Uc)(f:PA X [a] d)(hs:Ox [a] X.env=[(Ue,eval a X.env)]:=by rfl):PI X tg (.Call (.Name "range" p) [a] [] pos) (C3 d):=by
 intro l s Z H R I h;show Call_ (jo I g m boot_range (KN (thn (f pos l s Z H _ I h) λw v ⟨vs,x,o,u,c⟩=>?_) hs rfl));obtain⟨j,e,c,i,q⟩:=c;subst e;cases u with
 | cons r k=>
  cases k;obtain⟨t,rfl⟩:=r;show call_range_1 (rA o (by lia) (by lia) c i (by exists q))
def vT{a b:Expr}{g:TA}{p pos:Pos}(u:Gl X "range")(l:X.mg "range" = Uc)(w:PA X [a,b] g)(hs:Ox [a,b] X.env=[(Ue,eval a X.env),(Ue,eval b X.env)]:=by rfl)(c:Ox [b] X.env=[(Ue,eval b X.env)]:=by rfl) :
  PI X tg (.Call (.Name "range" p) [a,b] [] pos) (C4 g):=by
 intro m s Z H R I h;show Call_ (jo I u l boot_range (KN (thn (w pos m s Z H _ I h) λE A ⟨vs,C,o,y,d⟩=>?_) (by rw[hs,c]) (by rw[c];rfl)));obtain⟨i,j,e,⟨d,v,z,x⟩,q⟩:=d;subst e;cases y with
 | cons r f=>
  cases f with
  | cons k f=>
   cases f;have(t,rfl):=r;have(B,rfl):=k;show call_range_2 (rA o d v z x q)
abbrev Ie(f:TI)(g:TG)(h:TS):TS:=λD Z H=>f Z H λJ j=>∃W:Nat->Nat->St->Hp->Prop,(∃m,W 0 m Z j)/\∀i m Z H,W i m Z H ->
 (J.stop i H/\D.nx Z H)\/(J.go i H/\∃N:St->Hp->Prop,(∀c a,N c a->∃d,d<m/\W (i+1) d c a)/\∀x a,J.yld i H x a->g x Z a λe k=>h {D with nx:=N,ct:=N,bk:=D.nx} e k)
abbrev eB(a:!Addr) (h:Heap):!(Addr×Obj):=a.filterMap λb=>(h.get? b).map λo=>(b,o)
def ft{a:!Addr}{h:Heap}{b:Addr}{o:Obj}(c:b∈a)(e:h.get? b*>o):(b,o)∈eB a h:=Kh.mpr {b,c,by rw[e];rfl}
def vL{a:!Addr}{h:Heap}{p:Addr×Obj}(c:p∈eB a h):p.1∈a/\h.get? p.1*>p.2:=by
 have(b,d,e):=Kh.mp c;cases q:h.get? b with
 | none=>rw[q]at e;cases e
 | some o=>
  rw[q]at e;have f:(b,o)=p:=JT.inj e;subst f;show⟨d,q⟩
def Inv.pinned{c:!(Addr×Obj)}{Z:St}{H:Hp}{s:Od}{a:!Addr}(I:Inv X c Z H s)(j:∀b∈a,dU X c H b)(ho:∀b∈a,∃o,s.heap.get? b*>o/\∀v,o.data ≠ .cell v):Inv X (c++eB a s.heap) Z H s:=
 I.pins_of λp k=>(yaM k).elim (λz=>I.pin p (yaR _ z)) λz=>by
  have(g,e):=vL z;have(l,i,h,_):=j p.1 g;have(o,f,d):=ho p.1 g;rw[e]at f;cases f;show⟨e,l,i,h,d⟩
def Inv.unpinned{a c:!(Addr×Obj)}{Z:St}{H:Hp}{s:Od}(I:Inv X (a++c) Z H s):Inv X a Z H s:=I.pins_of λp d=>I.pin p (yaR _ (yaL _ d))
def Fd{iter:Expr}{q:!Stmt}{wi:TI}{g:TG}{tb:TS}{pos:Pos}(K:PL (Ol X.prog X.w) X.A X.env X.xe)(hc:X.calm=Ug)(hi:PI X tg iter wi)(hg:PG X tg g)(c:PSs X q tb)
  (hs:∀x,OX iter X.env x=pure x:=by intro _;rfl):PS X (.For tg iter q [] pos) (Ie wi g tb):=by
 intro y s Z H D I h;show wpAny_For (thn (hi y s Z H _ I h) λv s1 h1=>thn h1 λitv s2 h2=>?_) hs;obtain⟨it,P,tn,J,H2,e,I2,T,st2,f2,W,⟨m0,w0⟩,L⟩:=h2;subst e;have l:∀{p:Hp},(∀b∈P,p b=Uc)->∀b∈P,dU X y p b:=λhn b c=>{hn b c,(f2 b c).2};show codeAny_forLoop_any (λn s'=>∃i M p,Inv X y M p s'/\tn i s'.heap/\(∀b∈P,p b=Uc)/\W i n M p) ?_ m0 {0,Z,H2,I2,st2,λb c=>(f2 b c).1,w0};rintro n s3 ⟨i,B,Q,I3,C,E,w3⟩;rcases L i n B Q w3 with⟨G,qn⟩|⟨go,N,hN,step⟩
 .show Po K (thn (T.done X rfl rfl rfl hc i y s3 B Q X.xe I3 (l E) C G) λr s4 ⟨U,I4⟩=>?_);subst U;show Qj ⟨B,Q,I4,qn⟩
 .show Po K (thn (T.item X rfl rfl rfl hc i y s3 B Q X.xe I3 (l E) C go) λr s4 ⟨u,U,h4⟩=>?_);subst U;show Po K (thn h4 λ_ s5 z9=>?_);have(x,H5,I5,r5,y5,z,fr5):=z9;have S:=I5.pinned (l fr5) (T.obj _ _ z);show Po K (thn (hg _ s5 B H5 x u _ S r5 (step x H5 y5)) λ_ s6 ⟨Z6,H6,I6,q6⟩=>?_);show Po K (thn (c _ s6 Z6 H6 _ I6 q6) λf Y t=>?_);have again:∀{k:St} {j:Hp},Inv X (y++eB P s5.heap) k j Y->N k j->∃m,m<n/\∃i M p,Inv X y M p Y/\tn i Y.heap/\(∀b∈P,p b=Uc)/\W i m M p:=λ{k j} a O=>by
   have(m',hm,w7):=hN k j O;show{m',hm,i+1,k,j,a.unpinned,T.keep _ _ _ z λb c o e=>(a.pin (b,o) (yaR _ (yaR _ (ft c e)))).1,λb c=>?_,w7};have(o,e,d):=T.obj _ _ z b c;show(a.pin (b,o) (yaR _ (yaR _ (ft c e)))).2.1
  cases f with
  | next=>have(k,j,a,O):=t;show again a O
  | cont=>have(k,j,a,O):=t;show again a O
  | brk=>obtain⟨k,j,a,t⟩:=t;show⟨k,j,a.unpinned,t⟩
  | ret v=>obtain⟨x7,k,j,a,r7,t⟩:=t;show⟨x7,k,j,a.unpinned,r7,t⟩
end
protected def R2:=V->V->Hp->VK->Prop
abbrev OpR(X:Cx)(f:Oa->Oa->Sem Oa)(r:R2):Prop:=
 ∀(a:!(Addr×Obj)) (s:Od) (Z:St) (H:Hp) (x y:V) (v u:Oa) (Q:VK),Inv X a Z H s->RelV x v->RelV y u->r x y H Q ->
  Oj (Ol X.prog X.w) X.A (f v u) (EP X a Z Q) X.xe s
abbrev UnR(X:Cx)(f:Oa->Sem Oa)(r:V->Hp->VK->Prop):Prop:=
 ∀(a:!(Addr×Obj)) (s:Od) (Z:St) (H:Hp) (x:V) (v:Oa) (Q:VK),Inv X a Z H s->RelV x v->r x H Q ->
  Oj (Ol X.prog X.w) X.A (f v) (EP X a Z Q) X.xe s
abbrev NK(X:Cx)(f:Oa)(r:!V->Hp->VK->Prop):Prop:=
 ∀(a:!(Addr×Obj)) (s:Od) (Z:St) (H:Hp) (d:!V) (c:!Oa) (Q:VK),Inv X a Z H s->Vals d c->r d H Q ->
  Oj (Ol X.prog X.w) X.A (call f c) (EP X a Z Q) X.xe s
abbrev IM(X:Cx)(r:V->Hp->(Bool->Hp->Prop)->Prop):Prop:=
 ∀(a:!(Addr×Obj)) (s:Od) (Z:St) (H:Hp) (x:V) (v:Oa) (Q:Bool->Hp->Prop),Inv X a Z H s->RelV x v->r x H Q ->
  Oj (Ol X.prog X.w) X.A (SV v) (TP X a Z Q) X.xe s
abbrev tOp(r:R2)(c e:TE):TE:=λZ H Q=>c Z H λx a=>e Z a λy d=>r x y d Q
abbrev tUn(r:V->Hp->VK->Prop)(c:TE):TE:=λZ H Q=>c Z H λx a=>r x a Q
abbrev rI(C:Int->Int->Prop)(g:Int->Int->V):R2:=λx y H Q=>∃i j,x=.int i/\y=.int j/\C i j/\Q (g i j) H
abbrev rI0(g:Int->Int->V):R2:=λx y H Q=>∃i j,x=.int i/\y=.int j/\Q (g i j) H
abbrev rU(g:Int->V):V->Hp->VK->Prop:=λx H Q=>∃i,x=.int i/\Q (g i) H
section
variable {X:Cx}{a b c:Expr}{ta tb tc:TE}{pos:Pos}
def DO(q:PE X a ta)(C:PE X b tb){i:!(Addr×Obj)}{s:Od}{Z:St}{H:Hp}{R:V->V->Hp->Prop}(I:Inv X i Z H s)
  (h:ta Z H λx l=>tb Z l λy d=>R x y d) {Q:Oa->Od->Prop} {f:Oa->Oa->Sem Oa}
  (r:∀v u j x y d,Inv X i Z d j->RelV x v->RelV y u->R x y d->Oj (Ol X.prog X.w) X.A (f v u) Q X.xe j) :
  Oj (Ol X.prog X.w) X.A (eval a X.env) (λv e=>Oj (Ol X.prog X.w) X.A (eval b X.env) (λu g=>Oj (Ol X.prog X.w) X.A (f v u) Q X.xe g) X.xe e) X.xe s:=by
 show thn (q i s Z H _ I h) λv o k=>?_;have(x,l,z,E,m):=k;show thn (C i o Z l _ z m) λu j k=>?_;have(y,d,t,B,p):=k;show r v u j x y d t E B p
def Hs{op:Operator}{r:R2}(ho:OpR X (OQ op) r)(e:PE X a ta)(l:PE X b tb):PE X (.BinOp a op b pos) (tOp r ta tb):=by
 intro f s Z H Q I h;show wpAny_BinOp (DO e l I h λv u k x y i g j d q=>ho f k Z i x y v u Q g j d q)
def Ht{op:UnaryOp}{r:V->Hp->VK->Prop}(ho:UnR X (unaryOp op) r)(j:PE X a ta):PE X (.UnaryOp op a pos) (tUn r ta):=by
 intro d s Z H Q I h;show UnaryOp_ (thn (j d s Z H _ I h) λv e ⟨x,f,i,k,g⟩=>ho d e Z f x v Q i k g)
def opI{f:Oa->Oa->Sem Oa}{C:Int->Int->Prop}{g:Int->Int->Int}
  (rule:∀(i j:Int) (t u:Tok) (s:Od) (Q:Oa->Od->Prop) (E:Oa->Od->Prop),C i j->Q (.int (g i j) s.toks) {s with toks:=s.toks+1}->Oj (Ol X.prog X.w) X.A (f (.int i t) (.int j u)) Q E s) :
  OpR X f (rI C λi j=>.int (g i j)):=by
 intro o s Z H x y v u Q I m l h;have(i,j,rfl,rfl,k,q):=h;have(t,rfl):=m;have(e,rfl):=l;show rule i j t e s _ _ k {.int (g i j),H,I.tok _,{_,Xr},q}
def GX{f:Oa->Oa->Sem Oa}{g:Int->Int->Int}
  (rule:∀(i j:Int) (t u:Tok) (s:Od) (Q:Oa->Od->Prop) (E:Oa->Od->Prop),Q (.int (g i j) s.toks) {s with toks:=s.toks+1}->Oj (Ol X.prog X.w) X.A (f (.int i t) (.int j u)) Q E s) :
  OpR X f (rI0 λi j=>.int (g i j)):=by
 intro m s Z H x y v u Q I l k h;have(i,j,rfl,rfl,q):=h;have(t,rfl):=l;have(e,rfl):=k;show rule i j t e s _ _ {.int (g i j),H,I.tok _,{_,Xr},q}
def Es{f:Oa->Oa->Sem Oa}{g:Int->Int->Bool}
  (rule:∀(i j:Int) (t u:Tok) (s:Od) (Q:Oa->Od->Prop) (E:Oa->Od->Prop),Q (.bool (g i j)) s->Oj (Ol X.prog X.w) X.A (f (.int i t) (.int j u)) Q E s) :
  OpR X f (rI0 λi j=>.bl (g i j)):=by
 intro l s Z H x y v u Q I k e h;have(i,j,rfl,rfl,q):=h;have(t,rfl):=k;have(d,rfl):=e;show rule i j t d s _ _ {.bl (g i j),H,I,Xr,q}
abbrev IJ(i j:Int):Prop:=0<j/\j<1073741824
abbrev DF(i j:Int):Prop:=0<=j/\j<=1000000/\i.natAbs<2^64
abbrev Pb(i j:Int):Prop:=(-(2^64)<i/\i<2^64)\/(-(2^64)<j/\j<2^64)
def Pb.ok{i j:Int}(h:Pb i j):IntMulOk i j:=by
 rcases h with⟨e,d⟩|⟨e,d⟩;show .of_left (intBits_le_64 e d);show .of_right (intBits_le_64 e d)
def op_add:OpR X (OQ .Add) (rI0 λi j=>.int (i+j)):=GX λ_ _ _ _ _ _ _ q=>add_int q
def ED:OpR X (OQ .Sub) (rI0 λi j=>.int (i-j)):=GX λ_ _ _ _ _ _ _ q=>sub_int q
def op_mul:OpR X (OQ .Mult) (rI Pb λi j=>.int (i*j)):=opI λ_ _ _ _ _ _ _ d q=>mul_int q d.ok
def op_fdiv:OpR X (OQ .FloorDiv) (rI IJ λi j=>.int (i / j)):=opI λi j _ _ _ _ _ d q=>by
 have f:(0:Int)<j:=d.1;have e:j<1073741824:=d.2;show floordiv_int (by lia) (by rw[L8 i (by lia)];show q) (.inl (PyProof.noPylong_small (by lia)))
def Ey:OpR X (OQ .Mod) (rI (λ_ j=>0<j) λi j=>.int (i % j)):=opI λi j _ _ _ _ _ d q=>by
 have e:(0:Int)<j:=d;show mod_int' (by lia) (by rw[Int.fmod_eq_emod_of_nonneg i (by lia)];show q)
def EC:OpR X (OQ .Pow) (rI DF λi j=>.int (i^j.toNat)):=opI λ_ _ _ _ _ _ _ d q=>pow_int_small d.1 d.2.1 d.2.2 q
def unI{f:Oa->Sem Oa}{g:Int->Int}
  (rule:∀(i:Int) (t:Tok) (s:Od) (Q:Oa->Od->Prop) (E:Oa->Od->Prop),Q (.int (g i) s.toks) {s with toks:=s.toks+1}->Oj (Ol X.prog X.w) X.A (f (.int i t)) Q E s) :
  UnR X f (rU λi=>.int (g i)):=by
 intro j s Z H x v Q I e h;have(i,rfl,q):=h;have(t,rfl):=e;show rule i t s _ _ {.int (g i),H,I.tok _,{_,Xr},q}
def FX:UnR X (unaryOp .USub) (rU λi=>.int (-i)):=unI λ_ _ _ _ _ q=>neg_int q
end
abbrev zT:V->V->Bool
 | .non,.non=>Ug|.non,.int _=>Ug|.int _,.non=>Ug|.non,.bl _=>Ug|.bl _,.non=>Ug|.non,.str _=>Ug|.str _,.non=>Ug
 | .int _,.int _=>Ug|.bl _,.bl _=>Ug|.str _,.str _=>Ug|.byt _,.byt _=>Ug
 | .int _,.str _=>Ug|.str _,.int _=>Ug|.bl _,.str _=>Ug|.str _,.bl _=>Ug
 | _,_=>Ue
abbrev rEq:R2:=λx y H Q=>zT x y=Ug/\Q (.bl (decide (x=y))) H
abbrev rNe:R2:=λx y H Q=>zT x y=Ug/\Q (.bl (~~~decide (x=y))) H
def tX{i j:Int}:decide (V.int i=V.int j)=(i==j):=by
 rw[KS];simp
def xf{i j:Bool}:decide (V.bl i=V.bl j)=(i==j):=by
 rw[KS];simp
def tY{i j:Str}:decide (V.str i=V.str j)=(i==j):=by
 rw[KS];simp
def tW{i j:Array UInt8}:decide (V.byt i=V.byt j)=(i.toList==j.toList):=by
 rw[KS];cases i;cases j;simp
section
variable {X:Cx}{a b c:Expr}{ta tb tc:TE}{pos:Pos}
def bd{d:!(Addr×Obj)}{Z:St}{H:Hp}{s:Od}{Q:VK}{k f:Bool}(I:Inv X d Z H s)(q:Q (.bl k) H)(e:k=f):EP X d Z Q (.bool f) s:=by
 subst e;show{.bl k,H,I,Xr,q}
def op_eq:OpR X (OH .Eq) rEq:=by
 intro k s Z H x y v u Q I g d h;have(f,q):=h;cases x with
 | non=>
  cases g;cases y with
  | non=>cases d;show PySem.EqNone.eq_none_none (bd I q ∅)
  | bl j=>cases d;show PySem.EqNone.eq_none_bool (bd I q ∅)
  | int j=>have(e,rfl):=d;show PySem.EqNone.eq_none_int (bd I q ∅)
  | str j=>have(e,rfl):=d;show PySem.EqNone.eq_none_str (bd I q ∅)
  | _=>show absurd (show Ue=Ug from f) JF
 | bl i=>
  cases g;cases y with
  | non=>cases d;show PySem.EqNone.eq_bool_none (bd I q ∅)
  | bl j=>cases d;show eq_bool (bd I q xf)
  | str j=>have(e,rfl):=d;show PySem.EqMixed.eq_bool_str (bd I q ∅)
  | _=>show absurd (show Ue=Ug from f) JF
 | int i=>
  have(t,rfl):=g;cases y with
  | non=>cases d;show PySem.EqNone.eq_int_none (bd I q ∅)
  | int j=>have(e,rfl):=d;show eq_int (bd I q tX)
  | str j=>have(e,rfl):=d;show PySem.EqMixed.eq_int_str (bd I q ∅)
  | _=>show absurd (show Ue=Ug from f) JF
 | str i=>
  have(t,rfl):=g;cases y with
  | non=>cases d;show PySem.EqNone.eq_str_none (bd I q ∅)
  | bl j=>cases d;show PySem.EqMixed.eq_str_bool (bd I q ∅)
  | int j=>have(e,rfl):=d;show PySem.EqMixed.eq_str_int (bd I q ∅)
  | str j=>have(e,rfl):=d;show eq_str (bd I q tY)
  | _=>show absurd (show Ue=Ug from f) JF
 | byt i=>
  have(t,rfl):=g;cases y with
  | byt j=>have(e,rfl):=d;show PySem.W.eq_bytes (bd I q tW)
  | _=>show absurd (show Ue=Ug from f) JF
 | _=>cases y<;>show absurd (show Ue=Ug from f) JF
def op_ne:OpR X (OH .NotEq) rNe:=by
 intro k s Z H x y v u Q I g d h;have(f,q):=h;cases x with
 | non=>
  cases g;cases y with
  | non=>cases d;show PySem.EqNone.ne_none_none (bd I q ∅)
  | bl j=>cases d;show PySem.EqNone.ne_none_bool (bd I q ∅)
  | int j=>have(e,rfl):=d;show PySem.EqNone.ne_none_int (bd I q ∅)
  | str j=>have(e,rfl):=d;show PySem.EqNone.ne_none_str (bd I q ∅)
  | _=>show absurd (show Ue=Ug from f) JF
 | bl i=>
  cases g;cases y with
  | non=>cases d;show PySem.EqNone.ne_bool_none (bd I q ∅)
  | bl j=>cases d;show ne_bool (bd I q (congrArg not xf))
  | str j=>have(e,rfl):=d;show PySem.EqMixed.ne_bool_str (bd I q ∅)
  | _=>show absurd (show Ue=Ug from f) JF
 | int i=>
  have(t,rfl):=g;cases y with
  | non=>cases d;show PySem.EqNone.ne_int_none (bd I q ∅)
  | int j=>have(e,rfl):=d;show ne_int (bd I q (congrArg not tX))
  | str j=>have(e,rfl):=d;show PySem.EqMixed.ne_int_str (bd I q ∅)
  | _=>show absurd (show Ue=Ug from f) JF
 | str i=>
  have(t,rfl):=g;cases y with
  | non=>cases d;show PySem.EqNone.ne_str_none (bd I q ∅)
  | bl j=>cases d;show PySem.EqMixed.ne_str_bool (bd I q ∅)
  | int j=>have(e,rfl):=d;show PySem.EqMixed.ne_str_int (bd I q ∅)
  | str j=>have(e,rfl):=d;show ne_str (bd I q (congrArg not tY))
  | _=>show absurd (show Ue=Ug from f) JF
 | byt i=>
  have(t,rfl):=g;cases y with
  | byt j=>have(e,rfl):=d;show PySem.W.ne_bytes (bd I q (congrArg not tW))
  | _=>show absurd (show Ue=Ug from f) JF
 | _=>cases y<;>show absurd (show Ue=Ug from f) JF
def G3:OpR X (OH .Lt) (rI0 λi j=>.bl (decide (i<j))):=Es λ_ _ _ _ _ _ _ q=>lt_int q
def GZ:OpR X (OH .Gt) (rI0 λi j=>.bl (decide (j<i))):=Es λ_ _ _ _ _ _ _ q=>gt_int q
def GY:OpR X (OH .GtE) (rI0 λi j=>.bl (decide (j<=i))):=Es λ_ _ _ _ _ _ _ q=>ge_int q
def op_in_str:OpR X (OH .In) (λx y H Q=>∃i j,x=.str i/\y=.str j/\Q (.bl (~~~(Pi j i 0 j.length 1).isEmpty)) H):=by
 intro g s Z H x y v u Q I e d h;have(i,j,rfl,rfl,q):=h;have(t,rfl):=e;have(f,rfl):=d;show in_str (bd I q rfl)
def OpR.or{f:Oa->Oa->Sem Oa}{r i:R2}(h:OpR X f r)(h':OpR X f i):OpR X f (λx y H Q=>r x y H Q\/i x y H Q):=by
 intro d s Z H x y v u Q I e g q;rcases q with q|q;show h d s Z H x y v u Q I e g q;show h' d s Z H x y v u Q I e g q
def eA(b:Expr){op:SU}(h:op ≠ .In:=by decide)(d:op ≠ .NotIn:=by decide):PJ op b=Ue:=by
 have f:(op==SU.In)=Ue:=by cases op<;>first|rfl|show absurd rfl h
 have e:(op==SU.NotIn)=Ue:=by cases op<;>first|rfl|show absurd rfl d
 cases b<;>simp[PJ,f,e]
def BE{op:SU}{r:R2}(ho:OpR X (OH op) r)(f:PE X a ta)(m:PE X b tb)(e:PJ op b=Ue):PE X (.Compare a [op] [b] pos) (tOp r ta tb):=by
 intro g s Z H Q I h;show wpAny_Compare1 (DO f m I h λv u l x y j i k d q=>ho g l Z j x y v u Q i k d q) e
abbrev DA(t:TE):TT:=λZ H Q=>t Z H λx d=>∃k,x=.bl k/\Q k d
def BW{op:SU}{r:R2}(ho:OpR X (OH op) r)(m:PE X a ta)(i:PE X b tb)(l:PJ op b=Ue):PT X (.Compare a [op] [b] pos) (DA (tOp r ta tb)):=by
 intro d s Z H Q I h;show Rs (thn (m d s Z H _ I h) λv g ⟨x,p,t,G,f⟩=>thn (i d g Z p _ t f) λu C ⟨y,w,o,A,j⟩=>
  thn (ho d C Z w x y v u _ o G A j) λc K ⟨z,q,E,B,k,e,J⟩=>?_) l
 subst e;cases B;show OW ⟨q,E,J⟩
abbrev AF(K:yF)(x:V)(H:Hp)(k:Bool):Prop:=
 match x with
 | .non=>k=Ue
 | .bl b=>k=b
 | .int i=>k=(i != 0)
 | .str y=>y.length<=sizeLine/\k=((y.length:Int) != 0)
 | .byt y=>y.size<=sizeLine/\k=((y.size:Int) != 0)
 | .ref p=>(∃d,SqL K H p d/\k =  ~~~d.isEmpty)\/(∃d,SqT K H p d/\k =  ~~~d.isEmpty) \/ ∃e,H p*>(.dK e)/\k =  ~~~e.isEmpty
 | _=>False
def sB{κ : Type}{kvs:!(κ×V)}{vs:!(κ×Oa)}(r:KV kvs vs):(~~~vs.isEmpty) =  ~~~kvs.isEmpty:=by
 cases r<;>rfl
def lY{e:!V}{d:!Oa}(r:Vals e d):(~~~d.toArray.isEmpty) =  ~~~e.isEmpty:=by
 cases r<;>simp
def jp:(sizeLine:Nat)<2^63:=by rw[Oe];decide
def FS:IM X (λx H Q=>∃k,AF X.K x H k/\Q k H):=by
 intro E s Z H x v Q I l h;have(k,e,q):=h;have G:=jp;have J:sizeLine=16777216:=Oe;cases x with
 | non=>
  cases l;have d:k=Ue:=e;subst d;show truthy_none ⟨H,I,q⟩
 | bl b=>
  cases l;have d:k=b:=e;subst d;show OW ⟨H,I,q⟩
 | int i=>
  have(t,rfl):=l;have d:k=(i != 0):=e;subst d;show PySem.P.truthy_int ⟨H,I,q⟩
 | str y=>
  have(t,rfl):=l;obtain⟨B,d⟩:y.length<=sizeLine/\k=((y.length:Int) != 0):=e;subst d;show PySem.P.truthy_str (by lia) {H,I.tok _,q}
 | byt y=>
  have(t,rfl):=l;obtain⟨B,d⟩:y.size<=sizeLine/\k=((y.size:Int) != 0):=e;subst d;show PySem.W.truthy_bytes (by lia) {H,I.tok _,q}
 | ref p=>
  cases l;have d:(∃j,SqL X.K H p j/\k =  ~~~j.isEmpty)\/(∃j,SqT X.K H p j/\k =  ~~~j.isEmpty) \/ ∃f,H p*>(.dK f)/\k =  ~~~f.isEmpty:=e;rcases d with⟨j,o,d⟩|⟨j,o,d⟩|⟨f,o,d⟩
  .subst d;have(u,r,z,A):=I.list o;have g:=r.length;show wpAny_truthy_list z.isList (by dsimp[Ju];lia) {H,I.tok _,by rw[lY r];show q}
  .subst d;have(u,r,z,A):=I.tuple o;have g:=r.length;show truthy_tuple z (by dsimp[Ju];lia) {H,I.tok _,by rw[lY r];show q}
  .subst d;obtain⟨A,C,vs,r,m⟩:f.length<=sizeLine/\(p==Ps)=Ue/\∃vs,KV f vs/\s.heap.DictOf (aU X.prog X.w) p vs:=I.hok p _ o;have g:f.length=vs.length:=Paired.length r;show wpAny_truthy_dict C m (by lia) {H,I.tok _,by rw[sB r];show q}
 | _=>show(show False from e).elim
def y4(i:PE X a ta)(j:∀d,RW a X.env d=(do let v <-d;Qq a.pos;OZ [v] (SV v))) :
  PT X a (λZ H Q=>ta Z H λx H'=>∃k,AF X.K x H' k/\Q k H'):=by
 intro e s Z H Q I h;show isTrue_plain (thn (i e s Z H _ I h) λv g ⟨x,l,m,o,f⟩=>FS e g Z l x v Q m o f) (j _)
def op_add_str:OpR X (OQ .Add) (λx y H Q=>∃i j,x=.str i/\y=.str j/\i.length+j.length<=sizeLine/\Q (.str (i++j)) H):=by
 intro k s Z H x y v u Q I g f h;have(i,j,rfl,rfl,e,q):=h;have(t,rfl):=g;have(d,rfl):=f;show add_str (λd l=>{.str (i++j),H,I.tok _,{_,Xr},q}) e
def ef{x:V}{us:!Oa}(r:Vals [x] us):∃u,us=[u]/\RelV x u:=by
 cases r with
 | cons e d=>cases d;show{_,Xr,e}
def rP{x y:V}{us:!Oa}(r:Vals [x,y] us):∃u d,us=[u,d]/\RelV x u/\RelV y d:=by
 cases r with
 | cons h f=>
  cases f with
  | cons g e=>cases e;show{_,_,Xr,h,g}
def uV(f:X.calm=Ug):NK X (.builtin "max") (λe H Q=>∃i j,e=[.int i,.int j]/\Q (.int (if j>i then j else i)) H):=by
 intro l s Z H e m Q I r h;have(i,j,rfl,q):=h;obtain⟨u,o,rfl,⟨t,rfl⟩,⟨g,rfl⟩⟩:=rP r;show max_two_ints (I.ok.hd f) λv p k=>{_,H,I.kept k,?_,q};by_cases d:j>i;rw[if_pos d,if_pos d];show{_,Xr};rw[if_neg d,if_neg d];show{_,Xr}
def uX(f:X.calm=Ug):NK X (.builtin "min") (λe H Q=>∃i j,e=[.int i,.int j]/\Q (.int (if j<i then j else i)) H):=by
 intro l s Z H e m Q I r h;have(i,j,rfl,q):=h;obtain⟨u,o,rfl,⟨t,rfl⟩,⟨g,rfl⟩⟩:=rP r;show min_two_ints (I.ok.hd f) λv p k=>{_,H,I.kept k,?_,q};by_cases d:j<i;rw[if_pos d,if_pos d];show{_,Xr};rw[if_neg d,if_neg d];show{_,Xr}
def uS:NK X (.type "int") (λd H Q=>(∃i,d=[.int i]/\Q (.int i) H) \/ ∃k,d=[.bl k]/\Q (.int (if k then 1 else 0)) H):=by
 intro f s Z H d g Q I r h;rcases h with⟨i,rfl,q⟩|⟨k,rfl,q⟩
 .have(u,rfl,t,rfl):=ef r;show call_int_int {.int i,H,I,{_,Xr},q}
 .have(u,rfl,e):=ef r;cases e;show call_int_bool {.int (if k then 1 else 0),H,I.tok _,{_,Xr},q}
end
structure ObjM(h:Heap)(x dx C:Addr)(mA:Str->↑Oa):Prop where
 obj:h.get? x*>(Nh C dx)
 ns:h.Ns1 dx mA
 ne:dx≠x
def RelO.some_of{v:V}{o:↑Oa}(r:RelO (Ud v) o):∃u,o*>u/\RelV v u:=by
 cases o with
 | none=>show(show False from r).elim
 | some u=>show⟨u,Xr,r⟩
structure Cls(K:yF)(C:Addr):Prop where
 pg:PySem.W.plainGet K C Str.empty=Ug
 hd:PySem.W.hasDictIn K C=Ug
 po:PySem.W.plainOver K C=Ug
 sa:L9 K (.ref C) "__setattr__" = Ud (Ud (.builtin "object.__setattr__"))
structure Con(K:yF)(C:Addr)(f:Str)(v:V)(u:Oa):Prop where
 at_:L9 K (.ref C) f*>(Ud u)
 rel:RelV v u
 get:M1 K u "__get__" = Ud Uc
 cp:PySem.W.copiedNames.contains f=Ue
structure Meth(K:yF)(C:Addr)(m:Str)(f:Addr):Prop where
 at_:L9 K (.ref C) m*>(Ud (.ref f))
 fn:Nw K (.ref f)=Ug
 kp:K4 K (.ref f)=Ug
section
variable {X:Cx}{Ub:!(Addr×Obj)}{Z:St}{H:Hp}{s:Od}{A:Ot}{E:Oa->Od->Prop}{Q:Oa->Od->Prop}{c:Oa}{b:Bool}
inductive NZ(K:yF) (H:Hp):V->Oa->Prop where
 | non:NZ K H .non (.type "NoneType")
 | bl (x:Bool):NZ K H (.bl x) (.type "bool")
 | int (i:Int):NZ K H (.int i) (.type "int")
 | str (x:Str):NZ K H (.str x) (.type "str")
 | flt (x:UInt64):NZ K H (.flt x) (.type "float")
 | lst {a:Addr} {xs:!V} (e:H a*>(.lst xs)):NZ K H (.ref a) (.type "list")
 | frz {a:Addr} {o:Obj} {xs:!V} (e:H a*>(.frz o (.lst xs))):NZ K H (.ref a) (.type "list")
 | tup {a:Addr} {xs:!V} (e:H a*>(.tup xs)):NZ K H (.ref a) (.type "tuple")
 | dK {a:Addr} {kvs:!(Key×V)} (e:H a*>(.dK kvs)):NZ K H (.ref a) (.type "dict")
 | dT {a:Addr} {kvs:!(!K1×Addr×V)} (e:H a*>(.dT kvs)):NZ K H (.ref a) (.type "dict")
 | ins {a C dx:Addr} {fs:!(Str×V)} (e:H a*>(.ins C dx fs)) (cl:Cls K C) (ha:L9 K (.ref C) "__class__" = Ud (Ud (.builtin "object.__class__")))
   (hn:M1 K (.builtin "object.__class__") "__get__" = Ud (Ud (.builtin "getset_descriptor.__get__"))) (htk:PySem.W.takesIn K (.builtin "object.__class__")*>Ug)
   (hm:PySem.W.mroIn K C (.type "object")*>Ug):NZ K H (.ref a) (.ref C)
end
structure NQ(k:Nat)(A:Ot):Prop where
 hd:A.handled=Uc
 gd:A.guards=Ud []
 dp:A.depth+3*k+5<Ta
 un:A.units+16*k+200<OV
def NQ.mono{j k:Nat}{A:Ot}(r:NQ k A)(h:j<=k):NQ j A:={r.hd,r.gd,by have:=r.dp;lia,by have:=r.un;lia}
def NQ.deeper{k:Nat}{A:Ot}(r:NQ (k+1) A)(env:Env):NQ k (A.deeper env):=
 {r.hd,r.gd,by have:=r.dp;change A.depth+1+3*k+5<_;lia,by have:=r.un;change A.units+3+16*k+200<_;lia}
def NQ.depth{k:Nat}{A:Ot}(r:NQ k A):A.depth<Ta:=by have:=r.dp;lia
def NQ.units{k:Nat}{A:Ot}(r:NQ k A):A.units+64<OV:=by have:=r.un;lia
abbrev Ii:TA:=λ_ H Q=>Q [] H
abbrev uI(c:TE)(f:TA):TA:=λZ H Q=>c Z H λx a=>f Z a λe d=>Q (x::e) d
section
variable {X:Cx}{e:Expr}{es:!Expr}{te:TE}{t:TA}{pos:Pos}
def sP:PA X [] Ii:=λ_ _ _ _ H Q I h=>Calls.spliced_nil {[],H,I,.nil,h}
def BB(i:PE X e te)(l:PA X es t)(hs:Ox (e::es) X.env=(Ue,eval e X.env)::Ox es X.env:=by rfl):PA X (e::es) (uI te t):=by
 intro pos a s Z H Q I h;rw[hs];change Oj _ _ (spliced ((Ue,eval e X.env)::P6 pos (Ox es X.env))) _ _ s;show Calls.spliced_cons (thn (i a s Z H _ I h) λu d f=>?_);have(x,k,m,r,c):=f;show thn (l pos a d Z k _ m c) λv w ⟨p,o,j,q,g⟩=>⟨x::p,o,j,.cons r q,g⟩
abbrev Iq(t:TA):TE:=λZ H Q=>t Z H λa c=>a.length<=sizeLine/\∀p,c p=Uc->Q (.ref p) (upd c p (.tup a))
abbrev Ih(t:TA):TE:=λZ H Q=>t Z H λa c=>a.length<=sizeLine/\∀p,c p=Uc->Q (.ref p) (upd c p (.lst a))
def E4{x1}(h:PA X es t):PE X (.Tuple es x1 pos) (Iq t):=by
 intro g s Z H Q I f;show wpAny_Tuple_spliced (thn (h pos g s Z H _ I f) λj a ⟨k,c,d,r,z,q⟩=>{by rw[<-r.length];show z,?_});have i:c a.heap.objs.size=Uc:=d.hok.fresh (JA _);show{.ref a.heap.objs.size,upd c a.heap.objs.size (.tup k),d.laid (t':=a.toks) (λb u e=>Oc _ e) (JA _) ?_,Xr,q _ i};show{z,j,r,{_,Og _ rfl,⟨Xr,Xr⟩,_,Xr}}
def EX(h:PA X es t):PE X (.List es pos) (Ih t):=by
 intro g s Z H Q I f;show wpAny_List_spliced (thn (h pos g s Z H _ I f) λj a ⟨k,c,d,r,z,q⟩=>{by rw[<-r.length];show z,?_});have i:c a.heap.objs.size=Uc:=d.hok.fresh (JA _);show{.ref a.heap.objs.size,upd c a.heap.objs.size (.lst k),d.laid (t':=a.toks) (λb u e=>Oc _ e) (JA _) ?_,Xr,q _ i};show{z,j,0,r,Og _ rfl}
end
protected def Sp:=!V->Hp->VK->XK->Prop
protected def CXT:=!Env->Hp->Od->XK->Oa->Od->Prop
structure Pd(P:On)(w:Oq)(K:yF)(mg:Str->↑Oa)(base:Heap)(A:Ot)(outer:!Env)(s:Od)(H:Hp):Prop where
 frames:A.frames*>outer
 mod:Mod K mg base
 bs:∀b o,base.get? b*>o->s.heap.get? b*>o/\H b=Uc
 bsz:base.objs.size<=s.heap.objs.size
 funs:s.heap.FunFrames base outer
 frf:∀b∈frs outer,H b=Uc
 hok:HOk P w H s.heap
 bare:QJ s.gens
abbrev CE(a:!Env)(P:On)(w:Oq)(H:Hp)(s:Od)(Q:VK)(u:Oa)(c:Od):Prop:=
 ∃v d,c.os=s.os/\QJ c.gens/\Un (frs a) [] H d s.heap c.heap/\HOk P w d c.heap/\RelV v u/\Q v d
abbrev CR(d:CXT)(a:!Env)(P:On)(w:Oq)(H:Hp)(s:Od)(Q:VK)(E:XK)(r:RX)(c:Od):Prop:=
 match r with
 | .ok (.ret u)=>CE a P w H s Q u c
 | .ok _=>False
 | .error e=>d a H s E e c
structure N7(P:On)(w:Oq)(K:yF)(mg:Str->↑Oa)(base:Heap)(CX:CXT)(k:Nat)(f:Addr)(fd:Pt)(ps:!Str)(sp:Sp):Prop where
 len:∀vs H Q E,sp vs H Q E->vs.length=ps.length
 run:∀(A:Ot) (outer:!Env) (s:Od) (H:Hp) (args:Args) (us:!Oa) (vs:!V) (Q:VK) (E:XK),NQ k A->Pd P w K mg base A outer s H->RE s fd args (ps.zip us)->Vals vs us->sp vs H Q E ->
  Pq (Ol P w) A (.call (.ref f) args) (CR CX outer P w H s Q E) s
section
variable {X:Cx}{Ub:!(Addr×Obj)}{Z:St}{H:Hp}{s s':Od}
def Inv.env0(I:Inv X Ub Z H s):Pd X.prog X.w X.K X.mg X.base X.A X.stack s H:=
 {I.ok.frames,I.ok.mod,I.bs,Ks I.ok.bsz I.sz,I.stack,I.stkFree,I.hok,I.bare}
def Inv.after{Q:VK}{u:Oa}(I:Inv X Ub Z H s)(h:CE X.stack X.prog X.w H s Q u s'):EP X Ub Z Q u s':=by
 have(v,f,os,a,j,c,r,q):=h;have(i,g,d,t,e):=s';obtain rfl:e=s.os:=os;show{v,f,I.call (h':=i) (g':=g) (d':=d) (t':=t) (ch:=[]) j c a (λb z=>absurd z ∅),r,q}
end
abbrev oS(d:Sp)(a:!V)(E:XK)(t:TA):TE:=λZ H Q=>t Z H λvs c=>d (vs++a) c Q E
abbrev N3(K:yF)(d:Pt)(ps:!Str)(c:!Oa):Prop:=
 ∀(s:Od) (a:!Oa),K.In s.heap->(a++c).length=ps.length->RE s d {a,[]} (ps.zip (a++c))
def N3.all{K:yF}{c:Pt}{ps:!Str}(h:∀us:!Oa,us.length=ps.length->Tb c {us,[]}=pure (ps.zip us)):N3 K c ps []:=λs us _ a=>by
 rw[Kg]at a|-;show .of_eq (h us a)
abbrev rY(d:CXT)(X:Cx)(E:XK):Prop:=∀(c:!(Addr×Obj)) (Z:St) (H:Hp) (s:Od) (e:Oa) (a:Od),Inv X c Z H s->d X.stack H s E e a->X.xe e a
section
variable {X:Cx}{CX:CXT}{k:Nat}{f C:Addr}{fd:Pt}{ps:!Str}{sp:Sp}{dvs:!V}{ds:!Oa}{E:XK}{x m:Str}{p pos apos:Pos}{e o:Expr}{es:!Expr}{ta:TE}{t:TA}
def FK{c:!(Addr×Obj)}{Z:St}{H:Hp}{s:Od}{Q:VK}{us:!Oa}{vs:!V}(F:N7 X.prog X.w X.K X.mg X.base CX k f fd ps sp)(y:NQ k X.A)(l:N3 X.K fd ps ds)(j:Vals dvs ds)(v:rY CX X E)
  (I:Inv X c Z H s) (r:Vals vs us) (h:sp (vs++dvs) H Q E):Oj (Ol X.prog X.w) X.A (call (.ref f) us) (EP X c Z Q) X.xe s:=by
 have d:Vals (vs++dvs) (us++ds):=r.append j;have g:(us++ds).length=ps.length:=by rw[<-d.length];show F.len _ _ _ _ h
 show wpAny_call (Rg (F.run X.A X.stack s H {us,[]} (us++ds) (vs++dvs) Q E y I.env0 (l s us I.kIn g) d h) λr q a=>?_);cases r with
 | error e=>show v c Z H s e q I a
 | ok i=>
  cases i with
  | ret u=>show I.after a
  | next=>show Pz a
  | brk=>show Pz a
  | cont=>show Pz a
def BD(F:N7 X.prog X.w X.K X.mg X.base CX k f fd ps sp)(z:NQ k X.A)(i:Gl X x)(l:X.mg x*>(.ref f))(B:K4 X.K (.ref f)=Ug)(G:N3 X.K fd ps ds)(g:Vals dvs ds)(j:rY CX X E)
  (u:PA X (e::es) t) (c:(x==("__debug__" : Str))=Ue:=by decide) (v:Ox (e::es) X.env=(Ue,eval e X.env)::Ox es X.env:=by rfl) (a:(P6 pos (Ox es X.env)).any (·.1)=Ue:=by rfl) :
  PE X (.Call (.Name x p) (e::es) [] pos) (oS sp dvs E t):=by
 intro y s Z H Q I h;show Qw (Ba I i l ?_ c);show PySem.W.callWith_K (h₀:=X.base) I.ok.mod.kin B (thn (u pos y s Z H _ I h) λL J ⟨vs,M,d,r,q⟩=>{d.kIn,?_}) v a;show FK F z G g j d r q
end
section
variable {X:Cx}{CX:CXT}{k:Nat}{f C:Addr}{fd:Pt}{ps ks:!Str}{sp:Sp}{E:XK}{x m:Str}{p pos apos kpos:Pos}{e o:Expr}{es:!Expr}{kws:!SQ}{te ta:TE}{t tk:TA}{nm:↑Str}
structure KBinds(K:yF)(fd:Pt)(ps ks:!Str)(g:!Oa->!Oa->!Oa)(gV:!V->!V->!V):Prop where
 to:∀(s:Od) (us ws:!Oa),K.In s.heap->(g us ws).length=ps.length->RE s fd {us,ks.zip ws} (ps.zip (g us ws))
 rel:∀{vs:!V} {us:!Oa} {zs:!V} {ws:!Oa},Vals vs us->Vals zs ws->Vals (gV vs zs) (g us ws)
variable {g:!Oa->!Oa->!Oa}{gV:!V->!V->!V}
end
structure p8(N P:!Str)(sc:P5):Prop where
 kind:sc.kind=.function
 co:sc.isCoroutine=Ue
 gen:sc.isGenerator=Ue
 nd:N.Nodup
 pre:N.take P.length=P
 par:∀x∈P,sc.names.lookup x*>.local\/sc.names.lookup x*>.cell
 nofree:∀y∈sc.names,y.2 ≠ .free
def nY{kindOf:Str->↑Oo}{x:Str}:∀{a:!(Str×Oa)} {m:Str->↑Oa},(∀v,(x,v)∉a)->Tc kindOf a m x=m x
 | [],_,_=>rfl
 | (n,v)::r,m,h=>by
  unfold Tc;rw[nY λw c=>h w (ymC _ c)];split
  .have:x≠n:=by rintro rfl;show h v ymS
   simp[this]
  .rfl
def nW{kindOf:Str->↑Oo}{x:Str}:∀{a:!(Str×Oa)} {m:Str->↑Oa},(∀v,(x,v)∉a)->Td kindOf a m x=m x
 | [],_,_=>rfl
 | (n,v)::r,m,h=>by
  unfold Td;rw[nW λw c=>h w (ymC _ c)];split;rfl
  .have:x≠n:=by rintro rfl;show h v ymS
   simp[this]
def nX{kindOf:Str->↑Oo}{x:Str}{v:Oa}:∀{P:!Str} {vs:!Oa} {i:Nat} {m:Str->↑Oa},P.Nodup->P[i]?*>x->vs[i]?*>v->kindOf x*>.local ->
  Tc kindOf (P.zip vs) m x*>v
 | [],_,_,_,_,h,_,_=>by simp at h
 | _::_,[],_,_,_,_,h,_=>by simp at h
 | p::P,w::vs,0,m,d,c,a,e=>by
  simp at c a;subst c;subst a;change Tc kindOf ((p,w)::P.zip vs) m p=_;unfold Tc;rw[nY λv f=>(JS.mp d).1 (My f).1,if_pos e];simp
 | p::P,w::vs,i+1,m,d,c,a,e=>by
  change Tc kindOf ((p,w)::P.zip vs) m x=_;unfold Tc;show nX (i:=i) (JS.mp d).2 (by exists c) (by exists a) e
def nV{kindOf:Str->↑Oo}{x:Str}{v:Oa}:∀{P:!Str} {vs:!Oa} {i:Nat} {m:Str->↑Oa},P.Nodup->P[i]?*>x->vs[i]?*>v->kindOf x≠Ud .local ->
  Td kindOf (P.zip vs) m x*>v
 | [],_,_,_,_,h,_,_=>by simp at h
 | _::_,[],_,_,_,_,h,_=>by simp at h
 | p::P,w::vs,0,m,d,c,a,e=>by
  simp at c a;subst c;subst a;change Td kindOf ((p,w)::P.zip vs) m p=_;unfold Td;rw[nW λv f=>(JS.mp d).1 (My f).1,if_neg e];simp
 | p::P,w::vs,i+1,m,d,c,a,e=>by
  change Td kindOf ((p,w)::P.zip vs) m x=_;unfold Td;show nV (i:=i) (JS.mp d).2 (by exists c) (by exists a) e
abbrev ci(N:!Str) (vs:!V):St:=vs.map Ud++Jw (N.length-vs.length) Uc
abbrev nH(CX:CXT) (P:On) (w:Oq) (K:yF) (mg:Str->↑Oa) (base:Heap) (N:!Str) (qual:Str) (scope:P5) (f:Addr) (cd:Oa) (A:Ot) (outer:!Env) (s:Od) (H:Hp) (E:XK):Cx where
 prog:=P
 w:=w
 K:=K
 mg:=mg
 base:=base
 A:=A.deeper (Ql qual scope s.heap.objs.size f cd)
 N:=N
 s₀:=s
 H₀:=H
 env:=Ql qual scope s.heap.objs.size f cd
 outer:=outer
 stack:=Ql qual scope s.heap.objs.size f cd::outer
 ex:=[]
 calm:=Ug
 fn:=λ_=>Ug
 pn:=[]
 xe:=λe s'=>Oj (Ol P w) (A.deeper (Ql qual scope s.heap.objs.size f cd)) (leaving (Ql qual scope s.heap.objs.size f cd) e) (λ_ s''=>CX outer H s E e s'') (λe' s''=>CX outer H s E e' s'') s'
def qj{a:P5}{n:Nat}{x:Str}(h:a.names.lookup x*>.cell):∃c,(Oz n a.names []).lookup x*>c:=by
 have q:=LO a.names n [] (.inl h);show LB.mp q
def vm{X:CXT}{P:On}{w:Oq}{K:yF}{O:Str->↑Oa}{m:Heap}{N ps:!Str}{j:Str}{d:P5}{f:Addr}{J:Oa}{A:Ot}{g:!Env}{s Q:Od}{H:Hp}{E:XK}{us:!Oa}{vs:!V}
  (S:p8 N ps d) (Z:A.handled=Uc) (gd:A.guards=Ud []) (o:Pd P w K O m A g s H) (hl:vs.length=ps.length) (r:Vals vs us)
  (x:InCallC s s.heap.objs.size (Tc (Ql j d s.heap.objs.size f J).kindOf (ps.zip us) λ_=>Uc) (Oz (s.heap.objs.size+1) d.names []) (Td (Ql j d s.heap.objs.size f J).kindOf (ps.zip us) λ_=>Uc) Q) :
  Inv (nH X P w K O m N j d f J A g s H E) [] (ci N vs) H Q:=by
 have hpl:ps.length<=N.length:=by have:=congrArg KC S.pre;rw[J1]at this;lia
 have(L,tk,rfl,Y):=x.done;have t:∀b:Addr,b∉(nH X P w K O m N j d f J A g s H E).ex:=λb z=>absurd (show b∈([]:!Addr)from z) ∅;show{{o.mod,S.kind,Xr,Xr,JA _,λy z c L l=>?_,λy B=>?_,λy c _ h=>?_,λ_=>Z,λ_=>gd,Ot.frames_deeper o.frames,.inr ⟨Xr,Xr⟩,λb z=>absurd z (t b),o.bs,o.bsz,λb _ _=>t b,λb z=>absurd z (t b),o.funs,o.frf},
  rfl,o.bare,Un.kept Y,{_,x.toInCall.ns,λi y v L l h3=>?_},λy c h=>{_,x.cell y c h},o.hok.fresh (JA _),λy c h=>?_,λp G=>absurd (show p∈([]:!(Addr×Obj))from G) ∅,o.hok.kept Y,?_}
 .show name_of_addr x.apart (K9 L) (K9 l)
 .have B:d.names.lookup y*>.cell\/d.names.lookup y*>.free:=B;rcases B with B|B;show qj B;show absurd rfl (S.nofree _ (K9 B))
 .show Li (x.above y c (K9 h))
 .have M:i<vs.length:=by
   unfold ci at l;by_cases M:i<vs.length;show M
   .rw[KP (by exists M)]at l;rw[Mj]at l;split at l<;>cases l
  have ha:vs[i]?*>v:=by
   unfold ci at l;rw[Kr (by exists M),JB]at l;cases e:vs[i]? with
   | none=>rw[e]at l;cases l
   | some a=>rw[e]at l;cases l;rfl
  have(u,U,rv):=r.get ha;have G:ps[i]?*>y:=by
   rw[<-S.pre,Lk (by lia)];show L
  have C:ps.Nodup:=by rw[<-S.pre];show S.nd.sublist (List.take_sublist _ _)
  show{u,rv,?_};rcases S.par y (ymG G)with k|k;show .inl {k,nX C G U k}
  .have(c,e):=qj (n:=s.heap.objs.size+1) k;show .inr {.inl k,c,e,?_};have q:=x.cell y c e;rw[nV C G U (by change d.names.lookup y≠_;rw[k];decide)]at q;show q
 .show o.hok.fresh (Li (x.above y c (K9 h)))
 .unfold ci;change _=N.length;rw[JP,Jr,List.length_replicate]
  lia
def GG{U:CXT}{P:On}{w:Oq}{K:yF}{M:Str->↑Oa}{i:Heap}{k:Nat}{f:Addr}{name d:Str}{h:Arguments}{j:!Stmt}{a:P5}{dV kV G pm g ct oc:Oa}{an od:↑Addr}
  {osl:Array ↑Oa} {N ps:!Str} {sp:Sp} (lk:K.lookup f*>{oc,od,.func (K3 name d h j a dV kV G pm an g ct),osl}) (hcd:Lz K g d=Ug) (S:p8 N ps a)
  (C:∀vs H Q E,sp vs H Q E->vs.length=ps.length)
  (l:∀(A:Ot) (c:!Env) (s:Od) (H:Hp) (vs:!V) (Q:VK) (E:XK),NQ k (A.deeper (Ql d a s.heap.objs.size f g))->sp vs H Q E ->
   ∃t,PSs (nH U P w K M i N d a f g A c s H E) j t/\t {nx:=λ_ H'=>Q .non H',rt:=Q} (ci N vs) H) :
  N7 P w K M i U (k+1) f (K3 name d h j a dV kV G pm an g ct) ps sp:=by
 show{C,λA c s H args us vs Q E X B hb r L=>?_};have hl:=C _ _ _ _ L;have KX:K.In s.heap:=B.mod.kin.keeps λb o e=>(B.bs b o e).1;have Y:s.heap.NoLimit:=B.mod.nolimit.keeps λb o e=>(B.bs b o e).1;have m:∀y∈ps.zip us,a.names.lookup y.1*>.local\/(a.names.lookup y.1*>.cell/\((Oz (s.heap.objs.size+1) a.names []).lookup y.1).isSome=Ug):=fun⟨n,v⟩ hy=>by
  rcases S.par n (My hy).1 with q|q;show .inl q;show .inr {q,LO _ _ _ (.inl q)}
 show codeAny_call_function X.depth (KX _ _ lk) rfl S.co S.gen rfl (PySem.W.codeRec_of KX hcd) (hb _ _ _ _ ?_);show wpAny_newFunctionEnv_cells S.kind m λenv he s1 x=>?_;subst he;show{Y.keeps x.toInCall.keep,codeAny_func ?_};have(t,ht,hq):=l A c s H vs Q E (X.deeper _) L;have I:Inv (nH U P w K M i N d a f g A c s H E) [] (ci N vs) H s1:=vm S X.hd X.gd B hl r x;show OB (ht [] s1 (ci N vs) H _ I hq) (λfl Z p=>?_) λe Z p=>p;have z:∀{O:St} {H':Hp} {v:V} {u:Oa},Inv (nH U P w K M i N d a f g A c s H E) [] O H' Z->RelV v u->Q v H'->CE c P w H s Q u Z:=
  λ{O H' v u} J rv q=>⟨v,H',J.os,J.bare,J.base,J.hok,rv,q⟩
 cases fl with
 | ret u=>
  have(v,O,H',J,rv,q):=p;show z J rv q
 | next=>
  have(O,H',J,q):=p;show z (v:=V.non) (u:=OL) J rfl q
 | brk=>
  have(_,_,_,q):=p;show Pz q
 | cont=>
  have(_,_,_,q):=p;show Pz q
section
variable {X:Cx}{x:Str}{p pos:Pos}{e:Expr}{es:!Expr}{t:TA}{id T:String}{r:!V->Hp->VK->Prop}
abbrev tCB(r:!V->Hp->VK->Prop)(t:TA):TE:=λZ H Q=>t Z H λvs a=>r vs a Q
def yr(j:NK X (.builtin id) r)(k:Gl X x)(m:X.mg x=Uc)(i:O7 x*>(.builtin id))(o:PA X (e::es) t)(l:x ≠ "__name__" :=by decide)(c:(x==("__debug__" : Str))=Ue:=by decide)
  (q:Ox (e::es) X.env=(Ue,eval e X.env)::Ox es X.env:=by rfl) (a:(P6 pos (Ox es X.env)).any (·.1)=Ue:=by rfl):PE X (.Call (.Name x p) (e::es) [] pos) (tCB r t):=by
 intro d s Z H Q I h;show Qw (jo I k m i ?_ l c);show M7 (thn (o pos d s Z H _ I h) λu g ⟨vs,v,w,y,f⟩=>j d g Z v vs u Q w y f) q a
def vR(j:NK X (.type T) r)(k:Gl X x)(m:X.mg x=Uc)(i:O7 x*>(.type T))(o:PA X (e::es) t)(l:x ≠ "__name__" :=by decide)(c:(x==("__debug__" : Str))=Ue:=by decide)
  (q:Ox (e::es) X.env=(Ue,eval e X.env)::Ox es X.env:=by rfl) (a:(P6 pos (Ox es X.env)).any (·.1)=Ue:=by rfl):PE X (.Call (.Name x p) (e::es) [] pos) (tCB r t):=by
 intro d s Z H Q I h;show Qw (jo I k m i ?_ l c);show KN (thn (o pos d s Z H _ I h) λu g ⟨vs,v,w,y,f⟩=>j d g Z v vs u Q w y f) q a
end
end L2
namespace HT
open PySem PyProof.Rows
section
variable {prog:On}{w:Oq}{A:Ot}{E:Oa->Od->Prop}{s:Od}
def cat_tup{t b:Addr}{vs ws:!Oa}{Q:Oa->Od->Prop}(z:TU s.heap t vs.toArray)(B:TU s.heap b ws.toArray)(v:vs≠[])
  (y:ws=[]->Q (.ref t) s) (x:ws≠[]->Q (.ref s.heap.objs.size) {s with heap:=s.heap.push {cls:=.type "tuple",data:=.seq (vs++ws).toArray}})
  (hsz:vs.length+ws.length<=sizeLine):Oj (Ol prog w) A (OQ .Add (.ref t) (.ref b)) Q E s:=by
 obtain⟨⟨k,u,d,o⟩,i,q,n,m⟩:=id z;obtain⟨⟨p,g,data2,f⟩,a,h,l,c⟩:=id B;simp only at q m h c;subst q m h c;have e:vs.toArray++ws.toArray=(vs++ws).toArray:=by simp
 by_cases j:ws=[]
 .show Sa {_,i,Xr} {_,a,Xr} Q4 RL PySem.F.slot_tuple_add PySem.F.entry_tuple_add (PySem.F.args_tuple_add_2 _ _)
   (tuple_addW1 t b vs.toArray ws.toArray n l u g o f (by exists v) (by simp[j])) {i,a,y j}
 .show Sa {_,i,Xr} {_,a,Xr} Q4 RL PySem.F.slot_tuple_add PySem.F.entry_tuple_add (PySem.F.args_tuple_add_2 _ _)
   (tuple_addW2 t b vs.toArray ws.toArray n l u g o f (by exists v) (by exists j) (by rw[Ju,Ju];show hsz)) {i,a,?_}
  rw[e];show x j
abbrev sIx(n d:Nat):↑Int->Nat
 | none=>d
 | some v=>if v<0 then(v+(n:Int)).toNat else min v.toNat n
def sIx_none(n d:Nat):sIx n d Uc=d:=rfl
def sIx_nat(n d k:Nat):sIx n d (Ud (k:Int))=min k n:=by
 change(if(k:Int)<0 then((k:Int)+(n:Int)).toNat else min (k:Int).toNat n)=min k n;rw[if_neg (by lia),JR]
def sIx_le(n d:Nat)(c:d<=n)(o:↑Int):sIx n d o<=n:=by
 cases o with
 | none=>show c
 | some v=>
  change(if v<0 then(v+(n:Int)).toNat else min v.toNat n)<=n;by_cases a:v<0;rw[if_pos a];lia;rw[if_neg a];show Nat.min_le_right _ _
def clip_eq(v:Int)(n d:Nat):(if v<0 then max (v+(n:Int)) 0 else min v (n:Int))=((sIx n d (Ud v):Nat):Int):=by
 change(if v<0 then max (v+(n:Int)) 0 else min v (n:Int))=(((if v<0 then(v+(n:Int)).toNat else min v.toNat n):Nat):Int);by_cases a:v<0;dsimp[if_pos a];lia;dsimp[if_neg a];lia
def adjust_gen(lo a:↑Int)(n:Nat):PQ lo a 1 (n:Int)=(((sIx n 0 lo:Nat):Int),((sIx n n a:Nat):Int)):=by
 have c:¬ ((1:Int)<0):=by lia
 unfold PQ;dsimp[c,if_false];show Prod.ext ?_ ?_
 .cases lo with
  | none=>rfl
  | some v=>show clip_eq v n 0
 .cases a with
  | none=>rfl
  | some v=>show clip_eq v n n
def places_gen(i j:Nat):Pn (i:Int) (j:Int) 1=j-i:=by
 unfold Pn;have a:(1:Int)>0:=by lia
 dsimp[a,if_true,Int.ediv_one];split<;>lia
def slicePart_{v:Oa}{o:↑Int}{Q:↑Int->Od->Prop}(p:QU v o)(h:Q o s):Oj (Ol prog w) A (SD v) Q E s:=by
 cases p with
 | none=>show Te h
 | int i t=>show slicePart_int h
def sliceApplied_gen{sl:Addr}{f e:Oa}{lo d:↑Int}{n:Nat}{Q:Int×Int×Nat->Od->Prop}(hs:s.heap.IsSliceOf sl f e .none)(i:QU f lo)(g:QU e d)
  (h:Q (((sIx n 0 lo:Nat):Int),1,sIx n n d-sIx n 0 lo) s):Oj (Ol prog w) A (Qx (.ref sl) (pure (n:Int))) Q E s:=by
 have(os,c,j,a):=id hs;unfold Qx Tv;show NO (NO (OG c a (x:=f) rfl (NO (OG c a (x:=e) rfl (NO (OG c a (x:=.none) rfl (Of ?_)))))));show NO (Te ?_);change Oj _ _ (if((1:Int)==0)=Ug then _ else _) _ _ s;rw[if_neg (by decide)];show NO (slicePart_ i (NO (slicePart_ g (NO (Of ?_)))));change Oj _ _ (match PQ lo d 1 (n:Int)with|(lo,d)=>pure (lo,(1:Int),Pn lo d 1)) _ _ s;rw[adjust_gen lo d n];change Oj _ _ (pure (((sIx n 0 lo:Nat):Int),(1:Int),Pn ((sIx n 0 lo:Nat):Int) ((sIx n n d:Nat):Int) 1)) _ _ s;rw[places_gen];show Of h
def pick_gen(a:Array Oa)(i k:Nat):((JE k).filterMap λ(m:Nat)=>a[((i:Int)+(m:Int)*1).toNat]?).toArray=((a.toList.drop i).take k).toArray:=by
 have e:(λ(m:Nat)=>a[((i:Int)+(m:Int)*1).toNat]?)=λm=>a[i+m]?:=by
  funext m;have:((i:Int)+(m:Int)*1).toNat=i+m:=by lia
  rw[this]
 rw[e];have:=TV a i k;rw[LI]at this;have c:((λx=>a[x]?)∘λx=>i+x)=λm=>a[i+m]?:=rfl;rw[c]at this;rw[this]
def getItem_tuple_cut{t sl:Addr}{items:Array Oa}{l j:Oa}{lo c:↑Int}{Q:Oa->Od->Prop}(d:TU s.heap t items)(hs:s.heap.IsSliceOf sl l j .none)(r:QU l lo)(p:QU j c)
  (u:¬ (sIx items.size 0 lo=0/\sIx items.size items.size c=items.size))
  (h:Q (.ref s.heap.objs.size) {s with heap:=s.heap.push {cls:=.type "tuple",data:=.seq ((items.toList.drop (sIx items.size 0 lo)).take (sIx items.size items.size c-sIx items.size 0 lo)).toArray}})
  (hsz:items.size<=sizeLine):Oj (Ol prog w) A (Rh (.ref t) (.ref sl)) Q E s:=by
 have a:sizeOk (.seq ((items.toList.drop (sIx items.size 0 lo)).take (sIx items.size items.size c-sIx items.size 0 lo)).toArray):=by
  change((items.toList.drop (sIx items.size 0 lo)).take (sIx items.size items.size c-sIx items.size 0 lo)).toArray.size<=sizeLine;rw[Ju,J1,Kt,Ki]
  lia
 have x:sIx items.size items.size c<=items.size:=sIx_le _ _ (JA _) c;have(os,g,i,o):=id hs;have e:s.TypeIs (.ref sl) "slice" :=⟨os,g,i⟩;unfold Rh;try with_reducible refine OI ?_
 first|refine NO (Of ?_)|skip
 show NO (Sb d.typeIs (by decide) ?_);show NO (OJ (name:=Oy "__getitem__") d.typeIs Ln
  (OP Ln d.typeIs entry_tuple_getitem ?_ (args_tuple_getitem _ _)))
 change Oj _ _ (Tf (.ref t) >>= _) _ _ s;show NO (tupleItemsOf_ d ?_);show NO (P7 e ?_);rw[if_pos (by decide)];show NO (sliceApplied_gen hs r p ?_);have f:¬ ((((sIx items.size 0 lo:Nat):Int)==0&&(1:Int)==1&&(sIx items.size items.size c-sIx items.size 0 lo)==items.size)=Ug):=by
  intro q;rw[Jv,Jv]at q;have v:((sIx items.size 0 lo:Nat):Int)=0:=eq_of_beq q.1.1;have y:sIx items.size items.size c-sIx items.size 0 lo=items.size:=eq_of_beq q.2;show u {by lia,by lia}
 change Oj _ _ (if(((sIx items.size 0 lo:Nat):Int)==0&&(1:Int)==1&&(sIx items.size items.size c-sIx items.size 0 lo)==items.size)=Ug then _ else _) _ _ s;rw[if_neg f,pick_gen];first
  | show NO (m:=OS _) (OC (Of ⟨_,rfl,Of h⟩) a)
  | show NO (m:=OS _) (OC (NO (Of (Of ⟨_,rfl,Of h⟩))) a)
  | show NO (NO (m:=OS _) (OC (Of (Of ⟨_,rfl,Of h⟩)) a))
  | show NO (NO (m:=OS _) (OC (Of ⟨_,rfl,Of h⟩) a))
end
end HT
namespace L2
open PySem PySem.Spec PyProof.Rows
protected def TO:=St->Hp->(↑Int->Hp->Prop)->Prop
abbrev PO(X:Cx)(e:↑Expr)(t:TO):Prop:=
 ∀(a:!(Addr×Obj)) (s:Od) (Z:St) (H:Hp) (Q:↑Int->Hp->Prop),Inv X a Z H s->t Z H Q ->
  Oj (Ol X.prog X.w) X.A (evalPart e X.env) (λu d=>∃o c,Inv X a Z c d/\QU u o/\Q o c) X.xe s
abbrev uJ:TO:=λ_ H Q=>Q Uc H
abbrev uK(t:TE):TO:=λZ H Q=>t Z H λx a=>∃i,x=.int i/\Q (Ud i) a
section
variable {X:Cx}{e:Expr}{te:TE}{lo hi:↑Expr}{tl th:TO}{pos p2:Pos}
def BN:PO X Uc uJ:=by
 intro a s Z H Q I h;rw[RM];show Of {Uc,H,I,.none,h}
def pH(h:PE X e te):PO X (Ud e) (uK te):=by
 intro d s Z H Q I j;rw[evalPart_some];show thn (h d s Z H _ I j) λu l c=>?_;have(x,f,g,k,a):=c;have(i,rfl,q):=a;have(t,rfl):=k;show{Ud i,f,g,.int i t,q}
abbrev SlR(X:Cx)(r:V->↑Int->↑Int->Hp->VK->Prop):Prop:=
 ∀(d:!(Addr×Obj)) (s:Od) (Z:St) (H:Hp) (x:V) (v f c:Oa) (lo hi:↑Int) (a:Addr) (Q:VK),Inv X d Z H s->RelV x v->s.heap.IsSliceOf a f c .none->QU f lo->QU c hi->r x lo hi H Q ->
  ∃T id,RY (.type T) "__getitem__" = pure (Ud (.builtin id))/\s.TypeIs v T/\Oj (Ol X.prog X.w) X.A (Rh v (.ref a)) (EP X d Z Q) X.xe s
def SlR.or{r f:V->↑Int->↑Int->Hp->VK->Prop}(h:SlR X r)(h':SlR X f):SlR X (λx lo hi H Q=>r x lo hi H Q\/f x lo hi H Q):=by
 intro g s Z H x v k c lo hi a Q I j l i d q;rcases q with q|q;show h g s Z H x v k c lo hi a Q I j l i d q;show h' g s Z H x v k c lo hi a Q I j l i d q
abbrev tSl(r:V->↑Int->↑Int->Hp->VK->Prop)(te:TE)(tl th:TO):TE:=λZ H Q=>te Z H λx a=>tl Z a λl d=>th Z d λu c=>r x l u c Q
def yx{r:V->↑Int->↑Int->Hp->VK->Prop}(z:SlR X r)(p:PE X e te)(J:PO X lo tl)(o:PO X hi th):PE X (.Subscript e (.Slice lo hi Uc p2) pos) (tSl r te tl th):=by
 intro d s Z H Q I h;show Tg (thn (p d s Z H _ I h) λv m i=>?_);have(x,y,B,U,k):=i;show wpAny_Slice (thn (J d m Z y _ B k) λg S ⟨l,C,t,P,N⟩=>thn (o d S Z C _ t N) λf a i=>?_);have(u,j,G,M,Y):=i;rw[RM];show Of ?_;have E:Inv X d Z j {a with heap:=a.heap.push {cls:=.type "slice",data:=.fields #[g,f,.none]}}:=G.kept (t':=a.toks) λb ob q=>Oc _ q;have(T,id,K,O,L):=z d {a with heap:=a.heap.push {cls:=.type "slice",data:=.fields #[g,f,.none]}} Z j x v g f l u a.heap.objs.size Q E U (RZ ..) P M Y;change Oj (Ol X.prog X.w) X.A (RN e (.Slice lo hi Uc p2) v (.ref a.heap.objs.size)) (EP X d Z Q) X.xe {a with heap:=a.heap.push {cls:=.type "slice",data:=.fields #[g,f,.none]}};show tail_any (ops:=[.ref a.heap.objs.size,v]) O K L (by unhygienic rfl)
abbrev lU(a:!V) (lo hi:↑Int):!V:=(a.drop (HT.sIx a.length 0 lo)).take (HT.sIx a.length a.length hi-HT.sIx a.length 0 lo)
def kY(a:!V)(lo hi:↑Int):(lU a lo hi).length<=a.length:=by
 unfold lU;rw[J1,Kt]
 lia
abbrev HU(K:yF):V->↑Int->↑Int->Hp->VK->Prop:=λx lo hi H Q=>∃a c,x=.ref a/\SqT K H a c /\
 ¬ (HT.sIx c.length 0 lo=0/\HT.sIx c.length c.length hi=c.length)/\∀p,H p=Uc->Q (.ref p) (upd H p (.tup (lU c lo hi)))
def sl_tup:SlR X (HU X.K):=by
 intro y s Z H x v A w lo hi u Q I m t l j h;have(a,d,rfl,k,p,q):=h;cases m;have(f,r,i,g):=I.tuple k;have c:f.toArray.size=d.length:=by rw[Ju];show r.length.symm
 show{"tuple",_,Ln.lookup,i.typeIs,?_};show HT.getItem_tuple_cut i t l j (by rw[c];show p) ?_ (by rw[c];show g);rw[c];show{.ref s.heap.objs.size,_,I.laid (t':=s.toks) (o:=.tup (lU d lo hi)) (λb z q=>Oc _ q) (JA _) ?_,Xr,q _ (I.hok.fresh (JA _))};show{Ks (kY d lo hi) g,_,(r.drop (HT.sIx d.length 0 lo)).take (HT.sIx d.length d.length hi-HT.sIx d.length 0 lo),NR.new _ _}
abbrev Dj(K:yF):R2:=λx y H Q=>∃a b d c,x=.ref a/\y=.ref b/\SqT K H a d/\SqT K H b c/\d≠[]/\d.length+c.length<=sizeLine /\
 (c=[]->Q (.ref a) H)/\(c≠[]->∀p,H p=Uc->Q (.ref p) (upd H p (.tup (d++c))))
def Vals.nil_iff{a:!V}{us:!Oa}(r:Vals a us):us=[]↔a=[]:=by
 cases r with
 | nil=>simp
 | cons _ _=>simp
def Bq:OpR X (OQ .Add) (Dj X.K):=by
 intro E s Z H x y v u Q I r p h;obtain⟨a,b,t,j,rfl,rfl,C,A,m,f,i,B⟩:=h;cases r;cases p;have(k,d,l,_):=I.tuple C;have(g,c,p2,_):=I.tuple A;show HT.cat_tup l p2 (λz=>m (d.nil_iff.mp z)) (λz=>{.ref a,H,I,Xr,i (c.nil_iff.mp z)}) (λz=>?_) (by rw[<-d.length,<-c.length];show f);show{.ref s.heap.objs.size,_,I.laid (t':=s.toks) (o:=.tup (t++j)) (λb G q=>Oc _ q) (JA _) ?_,Xr,B (λw=>z (c.nil_iff.mpr w)) _ (I.hok.fresh (JA _))};show{by rw[JP];show f,_,d.append c,NR.new _ _}
end
abbrev ixN(n:Nat) (i:Int):↑Nat:=if 0<=i then(if i<n then Ud i.toNat else Uc)else if -(n:Int)<=i then Ud (i+n).toNat else Uc
abbrev atI{c:Type} (a:!c) (i:Int):↑c:=(ixN a.length i).bind λj=>a[j]?
def pA{n:Nat}{i:Int}{j:Nat}(h:ixN n i*>j):TB i n*>j/\j<n/\-(n:Int)<=i/\i<n:=by
 unfold ixN at h;by_cases c:0<=i
 .rw[if_pos c]at h;by_cases a:i<n
  .rw[if_pos a]at h;have e:i.toNat=j:=JT.inj h;show{by rw[SA c a,e],by lia,by lia,a}
  .rw[if_neg a]at h;cases h
 .rw[if_neg c]at h;by_cases a : -(n:Int)<=i
  .rw[if_pos a]at h;have e:(i+n).toNat=j:=JT.inj h;show{by rw[seqIndex_neg (by lia) a,e],by lia,a,by lia}
  .rw[if_neg a]at h;cases h
def oX{c:Type}{a:!c}{i:Int}{v : c}(h:atI a i*>v):∃j,TB i a.length*>j/\a[j]?*>v/\j<a.length/\-(a.length:Int)<=i/\i<a.length:=by
 unfold atI at h;cases e:ixN a.length i with
 | none=>rw[e]at h;cases h
 | some j=>
  rw[e]at h;have(k,f,d,g):=pA e;show⟨j,k,h,f,d,g⟩
abbrev tO(b:Expr):Prop:=∀o i,Rx b Ue o i=operate [o,i] (Rh o i)
abbrev IxR(X:Cx)(r:R2):Prop:=
 ∀(a slice:Expr) (c:!(Addr×Obj)) (s:Od) (Z:St) (H:Hp) (x y:V) (v u:Oa) (Q:VK),Inv X c Z H s->RelV x v->RelV y u->r x y H Q ->
  Rx slice Ue v u=operate [v,u] (Rh v u)->Oj (Ol X.prog X.w) X.A (RN a slice v u) (EP X c Z Q) X.xe s
abbrev MtR(X:Cx)(id:String)(r:V->!V->Hp->VK->Prop):Prop:=
 ∀(a:!(Addr×Obj)) (s:Od) (Z:St) (H:Hp) (x:V) (d:!V) (v:Oa) (c:!Oa) (Q:VK),Inv X a Z H s->RelV x v->Vals d c->r x d H Q ->
  Oj (Ol X.prog X.w) X.A (call (.builtin id) (v::c)) (EP X a Z Q) X.xe s
section
variable {X:Cx}{a b:Expr}{ta tb:TE}{pos:Pos}
def IxR.or{r d:R2}(h:IxR X r)(h':IxR X d):IxR X (λx y H Q=>r x y H Q\/d x y H Q):=by
 intro c slice f s Z H x y v u Q I g e q i;rcases q with q|q;show h c slice f s Z H x y v u Q I g e q i;show h' c slice f s Z H x y v u Q I g e q i
def Hr{r:R2}(g:IxR X r)(d:PE X a ta)(l:PE X b tb)(hs:tO b):PE X (.Subscript a b pos) (tOp r ta tb):=by
 intro e s Z H Q I h;show Tg (DO d l I h λv u k x y i f j c q=>g a b e k Z i x y v u Q f j c q (hs _ _))
abbrev HL(K:yF):R2:=λx y H Q=>∃p c i v,x=.ref p/\y=.int i/\SqL K H p c/\atI c i*>v/\Q v H
abbrev HN(K:yF):R2:=λx y H Q=>∃p c i v,x=.ref p/\y=.int i/\SqT K H p c/\atI c i*>v/\Q v H
abbrev HM:R2:=λx y H Q=>∃z i c,x=.str z/\y=.int i/\z.length<=sizeLine/\atI z.cps.toList i*>c/\Q (.str {#[c]}) H
def ix_list:IxR X (HL X.K):=by
 intro f slice m s Z H x y v u Q I M G h B;have(p,xs,i,z,rfl,rfl,C,J,q):=h;cases M;have(t,rfl):=G;have(e,r,l,Y):=I.list C;have(j,d,E,S,O,L):=oX J;have(w,A,k):=r.get E;have N:=r.length;have U:=jp;have c:EP X m Z Q w s:=⟨z,H,I,k,q⟩;by_cases o:0<=i
 .have g:i.toNat=j:=by
   rw[SA o L]at d;show JT.inj d
  show item_listR l.isList o (by lia) (by rw[g];exists A) c B
 .have g:(i+(e.toArray.size:Int)).toNat=j:=by
   rw[seqIndex_neg (by lia) O]at d;rw[Ju,<-N];show JT.inj d
  show Ri (x:=w) l.isList.typeIs Sc.lookup
   (wpAny_getItem_list_neg (Q:=λr P=>r=w/\EP X m Z Q r P) l.isList (by lia) (by rw[Ju]<;>lia) (by lia) (by rw[g];exists A) ⟨Xr,c⟩) B
def ix_tup:IxR X (HN X.K):=by
 intro c slice f s Z H x y v u Q I B o h L;have(p,S,i,z,rfl,rfl,l,A,q):=h;cases B;have(t,rfl):=o;have(k,r,g,O):=I.tuple l;have(j,G,m,M,U,P):=oX A;have(w,J,e):=r.get m;have C:=r.length;have N:=jp;have d:EP X f Z Q w s:=⟨z,H,I,e,q⟩;show Ri (x:=w) g.typeIs slot_tuple_getitem.lookup
  (getItem_tuple (j:=j) (Q:=λr E=>r=w/\EP X f Z Q r E) g (by lia) (by lia) (by rw[Ju,<-C];show G) (by exists J) ⟨Xr,d⟩) L
def Ec:IxR X HM:=by
 intro d slice J s Z H x y v u Q I m g h A;have(z,i,c,rfl,rfl,G,k,q):=h;have(t,rfl):=m;have(B,rfl):=g;have(j,e,f,C,p,l):=oX k;have o:z.cps.toList.length=z.length:=by simp[T2]
 rw[o]at e p l;have E:=jp;show tail_any (Th s z t) slot_str_getitem.lookup (getItem_str (c:=c) (by
  have r:decide (i < -(2^63:Int))=Ue:=decide_eq_false (by lia);have w:decide (i≥2^63)=Ue:=decide_eq_false (by lia);rw[r,w,Bool.or_false]) (by rw[e];exists f) {.str {#[c]},H,I.tok _,{_,Xr},q}) A
abbrev rIx(K:yF):R2:=λx y H Q=>HL K x y H Q\/HN K x y H Q\/HM x y H Q
def Eb:IxR X (rIx X.K):=ix_list.or (ix_tup.or Ec)
def sG(c:!Oa)(n j:Nat)(u:Oa):PB (·.setIfInBounds j u) {cls:=.type "list",data:=.seq c.toArray n}={cls:=.type "list",data:=.seq (c.set j u).toArray n}:=by
 simp[PB]
def Inv.lst{f:!(Addr×Obj)}{Z:St}{H:Hp}{s:Od}{p:Addr}{d:!V}(I:Inv X f Z H s)(h:H p*>(.lst d)) :
  ∃(c:!Oa) (n:Nat),Vals d c/\s.heap.get? p=Ud {cls:=.type "list",data:=.seq c.toArray n}/\d.length<=sizeLine:=by
 have(z,c,n,r,e):=I.hok p _ h;show⟨c,n,r,e,z⟩
def Inv.lstUpd{i:!(Addr×Obj)}{Z:St}{H:Hp}{s:Od}{p:Addr}{l d:!V}{c its':!Oa}{n g:Nat}{f:Obj->Obj}(I:Inv X i Z H s)(h:H p*>(.lst l))
  (ho:s.heap.get? p=Ud {cls:=.type "list",data:=.seq c.toArray n}) (j:f {cls:=.type "list",data:=.seq c.toArray n}={cls:=.type "list",data:=.seq its'.toArray g}) (r:Vals d its') (hz:d.length<=sizeLine) (t:Nat) :
  Inv X i Z (upd H p (.lst d)) {s with heap:=s.heap.update p f,toks:=t}:=by
 have e:(s.heap.update p f).get? p=Ud {cls:=.type "list",data:=.seq its'.toArray g}:=by
  rw[O6 f ho (by rw[j]<;>rfl),j]
 show I.write (x:=p) (e:=p) (by rw[h];trivial) (.inl rfl) (λb u m q=>(P8 _ _ (Op m)).trans q) {_,e} ?_;show⟨hz,its',g,r,e⟩
abbrev Dq:V->V->V->Hp->(Hp->Prop)->Prop:=λo i v H Q=>∃p c k j,o=.ref p/\i=.int k/\H p*>(.lst c)/\ixN c.length k*>j/\Q (upd H p (.lst (c.set j v)))
def zW:DG X Dq:=by
 intro C s Z H o i v O N u Q I E J K h;have(p,G,k,j,rfl,rfl,z,A,q):=h;cases E;have(t,rfl):=J;have(c,n,r,e,B):=I.lst z;have(d,L,l,x):=pA A;have f:=r.length;have M:=jp;have w:Inv X C Z (upd H p (.lst (G.set j v))) {s with heap:=s.heap.update p (PB (·.setIfInBounds j u))}:=
  I.lstUpd z e (sG c n j u) (r.set K j) (by rw[K8];show B) s.toks
 by_cases m:0<=k
 .have g:k.toNat=j:=by
   rw[SA m x]at d;show JT.inj d
  show PySem.W.ki_setAt e m (by lia) (by rw[Ju,<-f];show x) (by rw[g];show{_,w,q})
 .have g:(k+(c.toArray.size:Int)).toNat=j:=by
   rw[seqIndex_neg (by lia) l]at d;rw[Ju,<-f];show JT.inj d
  show PySem.W.ki_setBack e (by lia) (by rw[Ju,<-f];show l) (by lia) (by rw[g];show{_,w,q})
def qa(lo c:↑Int)(n:Nat):(Px lo c Uc n).1=((HT.sIx n 0 lo:Nat):Int)/\(Px lo c Uc n).2.1=((HT.sIx n n c:Nat):Int)/\(Px lo c Uc n).2.2=1:=by
 show{?_,?_,Xr}
 .cases lo with
  | none=>simp[Px,HT.sIx]
  | some i=>
   dsimp[Px,HT.sIx,Mk,show(1:Int)>0 by decide,if_true];by_cases h:i<0;dsimp[h,if_true]<;>lia;dsimp[h,if_false]<;>lia
 .cases c with
  | none=>simp[Px,HT.sIx]
  | some i=>
   dsimp[Px,HT.sIx,Mk,show(1:Int)>0 by decide,if_true];by_cases h:i<0;dsimp[h,if_true]<;>lia;dsimp[h,if_false]<;>lia
def nS(c:!Oa)(lo d:↑Int):slicePick c.toArray lo d Uc=((c.drop (HT.sIx c.length 0 lo)).take (HT.sIx c.length c.length d-HT.sIx c.length 0 lo)).toArray:=by
 have(g,e,f):=qa lo d c.toArray.size;unfold slicePick;rw[g,e,f];dsimp[Ti,TV,Ju]<;>rfl
abbrev HS(K:yF):V->↑Int->↑Int->Hp->VK->Prop:=λx lo d H Q=>∃a c,x=.ref a/\SqL K H a c/\∀p,H p=Uc->Q (.ref p) (upd H p (.lst (lU c lo d)))
def sl_list:SlR X (HS X.K):=by
 intro w s Z H x v z u lo e t Q I m p l i h;have(a,c,rfl,j,q):=h;cases m;have(g,r,f,k):=I.list j;have d:=r.length;show{"list",_,Sc.lookup,f.isList.typeIs,?_};show wpAny_getItem_list_slice f.isList p l i .none ∅ ?_ (by rw[Ju]<;>lia);rw[nS,<-d];show{.ref s.heap.objs.size,_,I.laid (t':=s.toks) (o:=.lst (lU c lo e)) (λb y q=>Oc _ q) (JA _) ?_,Xr,q _ (I.hok.fresh (JA _))};show{Ks (kY c lo e) k,_,0,(r.drop (HT.sIx c.length 0 lo)).take (HT.sIx c.length c.length e-HT.sIx c.length 0 lo),Og _ rfl}
abbrev k6:V->Bool
 | .non=>Ug
 | .bl _=>Ug
 | .int _=>Ug
 | .str _=>Ug
 | _=>Ue
abbrev eqV:V->V->Bool
 | .non,.non=>Ug
 | .bl a,.bl b=>a==b
 | .bl a,.int b=>(if a then 1 else 0)==b
 | .int a,.bl b=>a==(if b then 1 else 0)
 | .int a,.int b=>a==b
 | .str a,.str b=>a==b
 | _,_=>Ue
def DS{A:Ot}{s:Od}{y x:V}{u v:Oa}(f:RelV y u)(c:RelV x v)(g:k6 y=Ug)(e:k6 x=Ug):OA A s u v (eqV y x):=by
 cases y with
 | non=>
  cases f;cases x with
  | non=>cases c;show SE _
  | bl b=>cases c;show OA.none_bool b
  | int b=>have(t,rfl):=c;show OA.none_int b t
  | str b=>have(t,rfl):=c;show OA.none_str b t
  | _=>show absurd (show Ue=Ug from e) JF
 | bl a=>
  cases f;cases x with
  | non=>cases c;show OA.bool_none a
  | bl b=>cases c;show OA.bool_bool a b
  | int b=>have(t,rfl):=c;show OA.bool_int a b t
  | str b=>have(t,rfl):=c;show OA.bool_str a b t
  | _=>show absurd (show Ue=Ug from e) JF
 | int a=>
  have(d,rfl):=f;cases x with
  | non=>cases c;show OA.int_none a d
  | bl b=>cases c;show OA.int_bool a d b
  | int b=>have(t,rfl):=c;show OA.int_int a d b t
  | str b=>have(t,rfl):=c;show RS a d b t
  | _=>show absurd (show Ue=Ug from e) JF
 | str a=>
  have(d,rfl):=f;cases x with
  | non=>cases c;show OA.str_none a d
  | bl b=>cases c;show OA.str_bool a d b
  | int b=>have(t,rfl):=c;show RT a d b t
  | str b=>have(t,rfl):=c;show OA.str_str a d b t
  | _=>show absurd (show Ue=Ug from e) JF
 | _=>show absurd (show Ue=Ug from g) JF
abbrev eqU(x:V) (u:Oa):Bool:=match u with
 | .none=>eqV .non x
 | .bool b=>eqV (.bl b) x
 | .int i _=>eqV (.int i) x
 | .str z _=>eqV (.str z) x
 | _=>Ue
def xl{x y:V}{u:Oa}(r:RelV y u)(f:k6 y=Ug):eqU x u=eqV y x:=by
 cases y with
 | non=>cases r;rfl
 | bl b=>cases r;rfl
 | int i=>have(t,rfl):=r;rfl
 | str z=>have(t,rfl):=r;rfl
 | _=>show absurd (show Ue=Ug from f) JF
def jB{x:V}:∀{c:!V} {us:!Oa},Vals c us->c.all k6=Ug->us.any (eqU x)=c.any λy=>eqV y x
 | _,_,.nil,_=>rfl
 | y::c,u::us,.cons r t,f=>by
  rw[Ll,Jv]at f;rw[Mg,Mg,xl r f.1,jB t f.2]
def iy{A:Ot}{s:Od}{x:V}{v:Oa}(e:RelV x v)(g:k6 x=Ug):∀{d:!V} {us:!Oa},Vals d us->d.all k6=Ug->∀u∈us,OA A s u v (eqU x u)
 | _,_,.nil,_=>λu c=>by cases c
 | y::d,u::us,.cons r t,f=>λh c=>by
  rw[Ll,Jv]at f;rcases ycM c with rfl|c;rw[xl r f.1];show DS r e f.1 g;show iy e g t f.2 h c
abbrev inV(x:V) (c:!V):Bool:=c.any λy=>eqV y x
abbrev rIn(K:yF)(d:Bool):R2:=λx y H Q=>∃p c,y=.ref p/\(SqL K H p c\/SqT K H p c)/\k6 x=Ug/\c.all k6=Ug/\Q (.bl (if d then ~~~inV x c else inV x c)) H
def op_in_seq:OpR X (OH .In) (rIn X.K Ue):=by
 intro m s Z H x y v u Q I j k h;have(p,o,rfl,d,i,e,q):=h;cases k;rcases d with d|d
 .have(c,r,f,l):=I.list d;show SF (eqU x) f.isList (λw g=>iy j i r e w (by exists g)) {.bl _,H,I,Xr,?_};rw[show c.toArray.any (eqU x)=c.any (eqU x) by simp,jB r e];show q
 .have(c,r,f,l):=I.tuple d;show Sr (eqU x) f (λw g=>iy j i r e w (by exists g)) {.bl _,H,I,Xr,?_};rw[show c.toArray.any (eqU x)=c.any (eqU x) by simp,jB r e];show q
def op_notIn_seq:OpR X (OH .NotIn) (rIn X.K Ug):=by
 intro m s Z H x y v u Q I j k h;have(p,o,rfl,d,i,e,q):=h;cases k;rcases d with d|d
 .have(c,r,f,l):=I.list d;show R0 (eqU x) f.isList (λw g=>iy j i r e w (by exists g)) {.bl _,H,I,Xr,?_};rw[show c.toArray.any (eqU x)=c.any (eqU x) by simp,jB r e];show q
 .have(c,r,f,l):=I.tuple d;show RG (eqU x) f (λw g=>iy j i r e w (by exists g)) {.bl _,H,I,Xr,?_};rw[show c.toArray.any (eqU x)=c.any (eqU x) by simp,jB r e];show q
def op_notIn_str:OpR X (OH .NotIn) (λx y H Q=>∃i j,x=.str i/\y=.str j/\Q (.bl (~~~(~~~(Pi j i 0 j.length 1).isEmpty))) H):=by
 intro f s Z H x y v u Q I d c h;have(i,j,rfl,rfl,q):=h;have(t,rfl):=d;have(e,rfl):=c;show notIn_str {.bl _,H,I,Xr,q}
def o5:NK X (.builtin "len") (λj H Q=>∃p d,j=[.ref p]/\(SqL X.K H p d\/SqT X.K H p d)/\Q (.int d.length) H):=by
 intro o s Z H j t Q I r h;have(p,d,rfl,e,q):=h;have(u,rfl,l):=ef r;cases l;have m:=jp;rcases e with e|e
 .have(f,g,i,k):=I.list e;have c:=g.length;show Calls.call_len_list i.isList (by dsimp[Ju]<;>lia) {.int d.length,H,I.tok _,{s.toks+1,by rw[Ju,c]},q}
 .have(f,g,i,k):=I.tuple e;have c:=g.length;show len_tuple i (by dsimp[Ju]<;>lia) {.int d.length,H,I.tok _,{s.toks+1,by rw[Ju,c]},q}
def o6:NK X (.builtin "len") (λc H Q=>∃z,c=[.str z]/\z.length<=sizeLine/\Q (.int z.length) H):=by
 intro f s Z H c g Q I r h;have(z,rfl,e,q):=h;have(u,rfl,t,rfl):=ef r;have d:=jp;show len_str (by lia) {.int z.length,H,I.tok _,{_,Xr},q}
def NK.or{f:Oa}{r i:!V->Hp->VK->Prop}(h:NK X f r)(h':NK X f i):NK X f (λc H Q=>r c H Q\/i c H Q):=by
 intro d s Z H c e Q I g q;rcases q with q|q;show h d s Z H c e Q I g q;show h' d s Z H c e Q I g q
def o7:NK X (.type "list") (λC H Q=>∃p f,C=[.ref p]/\(SqL X.K H p f\/SqT X.K H p f)/\∀l,H l=Uc->Q (.ref l) (upd H l (.lst f))):=by
 intro G s Z H C L Q I r h;have(p,f,rfl,j,q):=h;have(u,rfl,J):=ef r;cases J;have m:∀(c:!Oa),Vals f c->f.length<=sizeLine->∀(d:Heap) (i:Nat),(∀b B,s.heap.get? b*>B->d.get? b*>B) ->
   d.get? s.heap.objs.size=Ud {cls:=.type "list",dict:=Uc,data:=.seq c.toArray i,slots:=#[]}->EP X G Z Q (.ref s.heap.objs.size) {s with heap:=d}:=λc g k d i t e=>
  {.ref s.heap.objs.size,_,I.laid (t':=s.toks) t (JA _) (show NI X.prog X.w _ d _ (.lst f)from⟨k,c,i,g,e⟩),Xr,q _ (I.hok.fresh (JA _))}
 rcases j with j|j
 .have(c,g,A,k):=I.list j;have v:=g.length;have(o,x,z,n,y):=A.isList;show call_list_seq p (.inl rfl) x z y (λd i t e=>m c g k d i t e) (by dsimp[Ju]<;>lia)
 .have(c,g,A,k):=I.tuple j;have v:=g.length;have(o,x,z,n,y):=A;show call_list_seq p (.inr rfl) x z y (λd i t e=>m c g k d i t e) (by dsimp[Ju]<;>lia)
def nF:NK X (.type "tuple") (λx H Q=>∃p d,x=[.ref p]/\((SqL X.K H p d/\∀l,H l=Uc->Q (.ref l) (upd H l (.tup d)))\/(SqT X.K H p d/\Q (.ref p) H))):=by
 intro t s Z H x C Q I r h;have(p,d,rfl,h):=h;have(u,rfl,B):=ef r;cases B;rcases h with⟨i,q⟩|⟨i,q⟩
 .have(c,j,k,m):=I.list i;have y:=j.length;show call_tuple_list k.isList (λg z=>?_) (by dsimp[Ju]<;>lia);have v:Inv X t Z H {s with heap:=g}:=I.kept (t':=s.toks) z;have A:Inv X t Z (upd H g.objs.size (.tup d)) {s with heap:=g.push {cls:=.type "tuple",data:=.seq c.toArray}}:=
   v.laid (t':=s.toks) (λb o e=>Oc _ e) (JA _) (show NI X.prog X.w _ _ _ (.tup d)from{m,c,j,NR.new _ _})
  show{.ref g.objs.size,_,A,Xr,q _ (v.hok.fresh (JA _))}
 .have(c,j,k,m):=I.tuple i;show call_tuple_same k {.ref p,H,I,Xr,q}
abbrev tyV(K:yF)(T:String)(x:V)(H:Hp):Prop:=match x with
 | .str _=>T = "str"
 | .int _=>T = "int"
 | .ref p=>(T = "list" /\ ∃d,SqL K H p d)\/(T = "tuple" /\ ∃o,K.lookup p*>o/\o.cls=.type "tuple" /\ o.dict=Uc) \/
   (T = "dict" /\ ((∃c,H p*>(.dK c)) \/ ∃c,H p*>(.dT c)))\/(T = "set" /\ ∃S n,H p*>(.set S n))
 | _=>False
def Ae{y:!(Addr×Obj)}{Z:St}{H:Hp}{s:Od}{T:String}{x:V}{v:Oa}(I:Inv X y Z H s)(r:RelV x v)(g:tyV X.K T x H) :
  s.TypeIs v T/\∀a,v=.ref a->∃m,s.heap.get? a*>m/\m.dict=Uc:=by
 cases x with
 | str z=>
  have(t,rfl):=r;cases (show T = "str" from g);show{Th s z t,λ_ e=>nomatch e}
 | int i=>
  have(t,rfl):=r;cases (show T = "int" from g);show{Qd s i t,λ_ e=>nomatch e}
 | ref p=>
  cases r;rcases g with⟨rfl,A,u⟩|⟨rfl,o,d,w,h⟩|⟨rfl,d⟩|⟨rfl,S,n,d⟩
  .have(q,_,l,_):=I.list u;show{l.isList.typeIs,λa e=>?_};cases e;have(o,n,e,c,h,_):=l;show⟨o,e,h⟩
  .show{{o,I.kIn p o d,w},λa e=>?_};cases e;show{o,I.kIn _ o d,h}
  .have z:∃o,s.heap.get? p*>o/\o.ExactDict:=by
    rcases d with⟨k,d⟩|⟨k,d⟩
    .obtain⟨_,_,_,_,o,_,_,e,f,_⟩:=I.hok p _ d;show⟨o,e,f⟩
    .obtain⟨_,_,_,_,o,_,_,e,f,_⟩:=I.hok p _ d;show⟨o,e,f⟩
   have(o,e,f):=z;show{⟨o,e,f.1⟩,λa j=>?_};cases j;show⟨o,e,f.2.1⟩
  .have(o,_,_,_,e,f,_):=I.hok p _ d;show{⟨o,e,f.1⟩,λa j=>?_};cases j;show⟨o,e,f.2.1⟩
 | _=>show Pz g
abbrev FP(K:yF)(T:String)(r:V->!V->Hp->VK->Prop)(d:TE):TE:=λZ H Q=>d Z H λx c=>tyV K T x c/\r x [] c Q
abbrev tBM(K:yF)(T:String)(r:V->!V->Hp->VK->Prop)(d:TE)(t:TA):TE:=λZ H Q=>d Z H λx c=>tyV K T x c/\t Z c λf e=>r x f e Q
variable {o e:Expr}{es:!Expr}{to:TE}{t:TA}{name:Str}{apos cpos:Pos}{T id:String}{r:V->!V->Hp->VK->Prop}
def EV(p:Qe T)(f:Slot T name id)(g:R3 (.builtin id)=pure (.type "method_descriptor"))(y:MtR X id r)(ho:PE X o to)
  (c:O8 o name X.env (eval o X.env)=eval o X.env:=by rfl) (d:(apos.endLine==cpos.line)=Ug:=by rfl):PE X (.Call (.Attribute o name apos) [] [] cpos) (FP X.K T r to):=by
 intro i s Z H Q I h;show Q5 c d (thn (ho i s Z H _ I h) λv m q=>?_);have(x,A,j,k,z,l):=q;have(w,u):=Ae j k z;show{T,id,p,f,g,w,u,P9 rfl (MQ (y i m Z A x [] v [] Q j k .nil l))}
def Hn(w:Qe T)(i:Slot T name id)(k:R3 (.builtin id)=pure (.type "method_descriptor"))(C:MtR X id r)(ho:PE X o to)(G:PA X (e::es) t)
  (d:O8 o name X.env (eval o X.env)=eval o X.env:=by rfl)
  (g:((P6 cpos (Ox (e::es) X.env)).all (λx=> ~~~x.1)&&(backToKw cpos (keywordEach [] X.env)).all (λx=>x.1.isSome)
   && decide ((e::es).length+([]:!SQ).length+(if([]:!SQ).isEmpty then 0 else 1)<30))=Ug:=by rfl)
  (f:(apos.endLine==cpos.line)=Ug:=by rfl) (hs:Ox (e::es) X.env=(Ue,eval e X.env)::Ox es X.env:=by rfl) (c:(P6 cpos (Ox es X.env)).any (·.1)=Ue:=by rfl) :
  PE X (.Call (.Attribute o name apos) (e::es) [] cpos) (tBM X.K T r to t):=by
 intro j s Z H Q I h;show wpAny_Call_method_late d g f rfl (thn (ho j s Z H _ I h) λv u y=>?_);have(x,M,l,p,E,q):=y;have(B,z):=Ae l p E;show{T,id,w,i,k,B,z,?_};have m:=G cpos j u Z M _ l q;rw[hs]at m|-;show P9 (by change(Ue||(P6 cpos (Ox es X.env)).any (·.1))=Ue;rw[c]<;>rfl) (Calls.evalArgs_plain ?_);show thn m λJ P ⟨vs,N,L,O,A⟩=>C j P Z N x vs v J Q L p O A
end
abbrev MtM(X:Cx)(id:String)(r:V->!V->Hp->VK->Prop):Prop:=
 ∀(a:!(Addr×Obj)) (s:Od) (Z:St) (H:Hp) (x:V) (d:!V) (v:Oa) (c:!Oa) (Q:VK),Inv X a Z H s->RelV x v->Vals d c->r x d H Q ->
  Oj (Ol X.prog X.w) X.A (call (.builtin id) (v::c)) (EP X a Z Q) X.xe s
def Vals.one:∀{x:V} {us:!Oa},Vals [x] us->∃u,us=[u]/\RelV x u:=by
 intro x us h;cases h with
 | cons r t=>cases t;show{_,Xr,r}
def Vals.zero:∀{us:!Oa},Vals [] us->us=[]
 | _,.nil=>rfl
def Vals.dropLast{a:!V}{us:!Oa}(h:Vals a us):Vals a.dropLast us.dropLast:=by
 induction h with
 | nil=>show .nil
 | cons r t c=>
  cases t with
  | nil=>show .nil
  | cons q d=>show .cons r c
def Vals.eraseIdx:∀{a:!V} {us:!Oa} (i:Nat),Vals a us->Vals (a.eraseIdx i) (us.eraseIdx i)
 | _,_,_,.nil=>.nil
 | _,_,0,.cons _ t=>t
 | _,_,i+1,.cons r t=>.cons r (Vals.eraseIdx i t)
def Vals.rep{a:!V}{us:!Oa}(h:Vals a us):∀k:Nat,Vals (Jw k a).flatten (Jw k us).flatten
 | 0=>.nil
 | k+1=>by
  rw[Kj,Kj,KR,KR];show Vals.append h (Vals.rep h k)
def sw{d:Type}(l:!d):l.eraseIdx (l.length-1)=l.dropLast:=by
 induction l with
 | nil=>rfl
 | cons a r c=>
  cases r with
  | nil=>rfl
  | cons b r=>
   have e:(a::b::r).length-1=((b::r).length-1)+1:=by
    have g:(a::b::r).length=r.length+2:=rfl;have f:(b::r).length=r.length+1:=rfl
    lia
   rw[e,LL,c];all_goals rfl
def oo{a:Type}:∀(l:!a) (i:Nat),(l.eraseIdx i).length<=l.length
 | [],_=>JA _
 | _::_,0=>LM _
 | _::r,i+1=>M8 (oo r i)
def gv(a:!Oa):∀(k:Nat) (c:!Oa),
  Mq (λd f=>d++f) c.toArray (Jw k a.toArray)=(c++(Jw k a).flatten).toArray
 | 0,c=>by simp
 | k+1,c=>by
  have e:c.toArray++a.toArray=(c++a).toArray:=by simp
  have g:(c++a)++(Jw k a).flatten=c++(Jw (k+1) a).flatten:=by
   rw[Kj,KR,JK]
  rw[<-g,<-gv a k (c++a),<-e,Kj,Mz]
section
variable {X:Cx}{Ub:!(Addr×Obj)}{Z:St}{H:Hp}{s:Od}{l b:Addr}{xs ys zs:!V}
def Inv.lset{a its':!Oa}{n:Nat}{f:Array Oa->Array Oa}{t':Nat}(I:Inv X Ub Z H s)(d:H l*>(.lst xs))
  (e:s.heap.get? l=Ud {cls:=.type "list",data:=.seq a.toArray n}) (h:f a.toArray=its'.toArray) (j:Vals ys its') (hz:ys.length<=sizeLine) :
  Inv X Ub Z (upd H l (.lst ys)) {s with heap:=s.heap.update l (PB f),toks:=t'}:=by
 have q:=PySem.IsL.update e f;rw[h]at q;show I.write (x:=l) (e:=l) (by rw[d];show trivial) (.inl rfl) (λk u i g=>(P8 s.heap (PB f) (Op i)).trans g) {_,q} ?_;show{hz,its',_,j,q}
def Inv.lnew{a:!Oa}{t':Nat}(I:Inv X Ub Z H s)(d:Vals ys a)(hz:ys.length<=sizeLine) :
  Inv X Ub Z (upd H s.heap.objs.size (.lst ys)) {s with heap:=s.heap.push {cls:=.type "list",data:=.seq a.toArray},toks:=t'}:=
 I.laid (λ_ _ q=>Oc _ q) (JA _) {hz,a,0,d,Og _ rfl}
def Inv.fresh(I:Inv X Ub Z H s):H s.heap.objs.size=Uc:=I.hok.fresh (JA _)
def Inv.lstM(I:Inv X Ub Z H s)(c:H l*>(.lst xs)):xs.length<=sizeLine/\∃(a:!Oa) (n:Nat),Vals xs a/\xs.length=a.length/\s.heap.get? l=Ud {cls:=.type "list",data:=.seq a.toArray n}:=by
 have(z,a,n,r,e):=I.hok l _ c;show⟨z,a,n,r,r.length,e⟩
def iB{n:Nat}(h:n<=sizeLine):O9 n=Ue:=by
 unfold O9;show decide_eq_false (by lia)
end
section
variable {X:Cx}
abbrev pM:V->!V->Hp->VK->Prop:=λx vs H Q=>∃l a y,x=.ref l/\vs=[y]/\H l*>(.lst a)/\a.length<sizeLine/\Q .non (upd H l (.lst (a++[y])))
def vF:MtM X "list.append" pM:=by
 intro k s Z H x vs v m Q I g f h;have(l,o,y,rfl,rfl,c,j,q):=h;cases g;have(u,rfl,d):=f.one;have(z,a,n,r,i,e):=I.lstM c;show Pk F.slot_list_append {_,e,Xr} F.entry_list_append (F.args_list_append_2 _ _) (PySem.list_append l a.toArray n u (by rw[Ju];lia)) {e,?_};show{.non,_,I.lset (its':=a++[u]) c e ∅ (r.append (.cons d .nil)) ?_,Xr,q};rw[JP,List.length_singleton]
 lia
abbrev B1:V->!V->Hp->VK->Prop:=λx vs H Q=>∃l b c a,x=.ref l/\vs=[.ref b]/\H l*>(.lst c)/\H b*>(.lst a)/\c.length+a.length<=sizeLine/\Q .non (upd H l (.lst (c++a)))
def mt_extend:MtM X "list.extend" B1:=by
 intro A s Z H x vs v G Q I k p h;obtain⟨l,b,B,E,rfl,rfl,g,i,y,q⟩:=h;cases k;have(u,rfl,j):=p.one;cases j;have(z,c,n,r,C,e):=I.lstM g;have(J,a,o,w,m,t):=I.lstM i;have f:c.toArray.size+a.toArray.size<=sizeLine:=by rw[Ju,Ju];lia
 have d:¬ (~~~c.toArray.isEmpty&&O9 (c.toArray.size+a.toArray.size))=Ug:=by
  rw[iB f,Bool.and_false];show JF
 show Pk F.slot_list_extend {_,e,Xr} F.entry_list_extend (F.args_list_extend_2 _ _)
  (AutoSeq1.list_extend_list_list_0 l c.toArray n b a.toArray o d (by rw[Ju];lia) (by lia)) {e,t,?_}
 show{.non,_,I.lset (its':=c++a) g e ∅ (r.append w) ?_,Xr,q};rw[JP]
 lia
abbrev Jf:V->!V->Hp->VK->Prop:=λx vs H Q=>∃l a y,x=.ref l/\vs=[]/\H l*>(.lst a)/\a[a.length-1]?*>y/\Q y (upd H l (.lst a.dropLast))
def mt_pop:MtM X "list.pop" Jf:=by
 intro p s Z H x vs v t Q I m k h;have(l,w,y,rfl,rfl,f,o,q):=h;cases m;have d:=k.zero;subst d;have(z,a,n,r,g,e):=I.lstM f;have(u,i,j):=r.get o;have c:a.toArray[a.toArray.size-1]?*>u:=by
  change a.toArray[a.length-1]?*>u;rw[<-Lg,<-g];show i
 show Pk SG {_,e,Xr} Ss (F.args_list_pop_1 _) (MeetsSeq.list_pop_last l a.toArray n u c (by rw[Ju];lia)) {e,?_};show{y,_,I.lset (its':=a.dropLast) f e ?_ r.dropLast ?_,j,q}
 .change a.toArray.eraseIdxIfInBounds (a.toArray.size-1)=a.dropLast.toArray;rw[Ju,LS,sw]
 .rw[List.length_dropLast]
  lia
abbrev sZ:V->!V->Hp->VK->Prop:=λx vs H Q=>∃l a i k y,x=.ref l/\vs=[.int i]/\H l*>(.lst a)/\-(2^63)<=i/\i<2^63/\TB i a.length*>k/\a[k]?*>y/\Q y (upd H l (.lst (a.eraseIdx k)))
def xT:MtM X "list.pop" sZ:=by
 intro G s Z H x vs v J Q I j C h;obtain⟨l,m,i,k,y,rfl,rfl,d,B,f,E,p,q⟩:=h;cases j;have(u,rfl,g):=C.one;have(t,rfl):=g;have(z,a,n,r,A,e):=I.lstM d;have(w,o,c):=r.get p;show Pk SG {_,e,Xr} Ss (F.args_list_pop_2 _ _)
  (MeetsSeq.list_pop_at l a.toArray n i t k w (Qy B f) (by rw[Ju,<-A];show E) (by rw[<-Lg];show o) (by rw[Ju];lia)) {e,?_}
 show{y,_,I.lset (its':=a.eraseIdx k) d e ?_ (r.eraseIdx k) ?_,c,q}
 .change a.toArray.eraseIdxIfInBounds k=(a.eraseIdx k).toArray;rw[LS]
 .have:=oo m k
  lia
abbrev HI:R2:=λx y H Q=>∃l b c a,x=.ref l/\y=.ref b/\H l*>(.lst c)/\H b*>(.lst a)/\c.length+a.length<=sizeLine/\∀p,H p=Uc->Q (.ref p) (upd H p (.lst (c++a)))
def op_cat:OpR X (OQ .Add) HI:=by
 intro t s Z H x y v u Q I i g h;obtain⟨l,b,w,C,rfl,rfl,k,d,p,q⟩:=h;cases i;cases g;have(z,c,n,r,A,e):=I.lstM k;have(E,a,B,o,j,m):=I.lstM d;show PySem.P.add_list e m ?_ (by rw[Ju,Ju];lia);have f:c.toArray++a.toArray=(c++a).toArray:=by simp
 rw[f];show{.ref _,_,I.lnew (t':=s.toks) (r.append o) (by rw[JP];lia),Xr,q _ I.fresh}
abbrev HR:R2:=λx y H Q=>∃l k a,x=.ref l/\y=.int k/\H l*>(.lst a)/\-(2^63)<=k/\k<2^63/\a.length*k.toNat<=sizeLine /\
 ∀p,H p=Uc->Q (.ref p) (upd H p (.lst (Jw k.toNat a).flatten))
def jN{c:Type}(a:!c)(k:Nat):(Jw k a).flatten.length=k*a.length:=by
 induction k with
 | zero=>simp
 | succ k d=>rw[Kj,KR,JP,d,Nx,Nat.add_comm]
def op_rep:OpR X (OQ .Mult) HR:=by
 intro N s Z H x y v u Q I C B h;obtain⟨l,k,O,rfl,rfl,L,K,A,w,q⟩:=h;cases C;have(t,rfl):=B;have(z,c,n,r,G,e):=I.lstM L;have i:c.toArray.size*k.toNat<=sizeLine:=by rw[Ju,<-G];show w
 have j:¬ c.toArray.size*k.toNat>(2^63-1) / 8:=by
  have:(sizeLine:Nat)<=(2^63-1) / 8:=by decide
  lia
 have g:¬ (~~~Builtin.List.listFitsIndex k)=Ug:=by
  rw[Qy K A];show JF
 have d:¬ O9 (c.toArray.size*k.toNat)=Ug:=by
  rw[iB i];show JF
 have f:Mq (λp o=>p++o) #[] (Jw (if c.toArray.isEmpty=Ug then 0 else k.toNat) c.toArray)=(Jw k.toNat c).flatten.toArray:=by
  have E:∀m:Nat,Mq (λp o=>p++o) #[] (Jw m c.toArray)=(Jw m c).flatten.toArray:=λm=>by
   have:=gv c m [];rw[KT]at this;show this
  rw[E];cases c with
  | nil=>simp
  | cons a M=>rw[if_neg ∅]
 show PR (T:="list") (U:="int") (by decide) {_,e,Xr} (λJ=>Qd J k t) SH Rn PF repeat_list Q6.lookup
  (Pk PF (Qd s k t) Q7 (QL _ _) (Rv k t l c.toArray n)
   {e,Xr,{_,e,Xr},Pk SI {_,e,Xr} Su (Sd _ _) (P4 l c.toArray n k t g j d) {e,?_}})
 rw[f];show{.ref _,_,I.lnew (t':=s.toks) (r.rep k.toNat) (by rw[jN,M2];show w),Xr,q _ I.fresh}
end
section
variable {prog:On}{w:Oq}{A:Ot}{E:Oa->Od->Prop}{s:Od}
def wz(d e:!Oa)(a c:Nat):d.toArray.extract 0 a++e.toArray++d.toArray.extract c d.toArray.size=(d.take a++e++d.drop c).toArray:=by
 apply Array.toList_inj.mp;first
  | (simp
     show Kc ∅)
  | simp[Kc]
  | simp
def sd{a c n:Nat}(e:a<=c)(g:c<=n):Px (Ud (a:Int)) (Ud (c:Int)) Uc n=((a:Int),(c:Int),1):=by
 dsimp[Px,Mk];have f:¬ ((a:Int)<0):=by lia
 have d:¬ ((c:Int)<0):=by lia
 dsimp[f,d,if_false,show(1:Int)>0 by decide,if_true];congr 1
 .lia
 .congr 1;lia
set_option maxRecDepth 100000 in
def nR{l b sl:Addr}{items new:Array Oa}{n G:Nat}{r q:Oa}{a c:Nat}{Q:Unit->Od->Prop}
  (e:s.heap.get? l=Ud {cls:=.type "list",data:=.seq items n}) (B:s.heap.get? b=Ud {cls:=.type "list",data:=.seq new G}) (p:l≠b)
  (hs:s.heap.IsSliceOf sl r q .none) (K:QU r (Ud (a:Int))) (J:QU q (Ud (c:Int))) (u:a<=c) (H:c<=items.size)
  (hsz:items.size+new.size<=sizeLine) (h:Q () {s with heap:=s.heap.update l (PB λf=>f.extract 0 a++new++f.extract c f.size)}) :
  Oj (Ol prog w) A (QK (.ref l) (.ref sl) (.ref b)) Q E s:=by
 have t:s.heap.IsList l items:=PySem.IsL.isList e;have C:s.heap.IsList b new:=PySem.IsL.isList B;have(os,g,y,i):=id hs;have o:s.TypeIs (.ref sl) "slice" :=⟨os,g,y⟩;have j:¬ ((rawPart Uc==PV 0)=Ug):=JF;have d:QV (.ref l) (.ref b)=Ue:=by
  unfold QV;show beq_eq_false_iff_ne.mpr p
 have k:(max (a:Int) (c:Int)).toNat=c:=by lia
 have v:((λf:Array Oa=>f.extract 0 a++new++f.extract c f.size) items).size<=sizeLine+1:=by
  dsimp[Array.size_append,Array.size_extract]
  lia
 unfold QK;try with_reducible refine OI ?_
 first|refine NO (Of ?_)|skip
 show NO (Sb t.typeIs (by decide) ?_);show NO (OJ (name:=Oy "__setitem__") t.typeIs Se
  (OP Se t.typeIs entry_list_setitem ?_ (args_list_setitem _ _ _)))
 change Oj _ _ (Qr (.ref sl) >>= _) _ _ s;show NO ?_;unfold Qr;show NO (SJ o slice_no_index ?_);dsimp[Option.isNone_none,if_true];show Of ?_;change Oj _ _ (R3 (.ref sl) >>= _) _ _ s;show NO (P7 o ?_);first
  | rw[if_neg (by decide)]
  | refine PySem.W.KFB.if_not (by decide) ?_
 rw[listSliceParts_eq];show NO (NO (OG g i (x:=.none) rfl (NO (Ry .none ?_))));rw[if_neg j];show NO (OG g i (x:=r) rfl (NO (Ry K ?_)));show NO (OG g i (x:=q) rfl (NO (Ry J (Of ?_))));first
  | dsimp[d,Lr,if_false]
  | refine PySem.W.KFB.if_not d ?_
  | (dsimp only
     rw[if_neg (by rw[d];show JF)])
 show NO (m:=QD (.ref b) "must assign iterable to extended slice") ?_;unfold QD;show NO (P7 C.typeIs ?_);first
  | refine PySem.W.KFB.if_so (by decide) ?_
  | rw[if_pos (by decide)]
  | dsimp[beq_self_eq_true,Ny,if_true]
 unfold TH;show NO (OT B rfl (Of ?_));show NO (NO (OT e rfl (Of ?_)));show NO (wpAny_of_eq ((sliceIndices_raw (Ud (a:Int)) (Ud (c:Int)) Uc items.size ∅).trans (congrArg (pure:Int×Int×Int->Sem (Int×Int×Int)) (sd u H))) ?_);change Oj _ _ (if((1:Int)==1)=Ug then _ else _) _ _ s;rw[if_pos (by decide)];show NO (Qc ?_);first
  | dsimp[iB hsz,Lr,if_false]
  | refine PySem.W.KFB.if_not (iB hsz) ?_
 first|refine NO (Of ?_)|skip
 change Oj _ _ (updateSeq l (λf=>f.extract 0 ((a:Int)).toNat++new++f.extract (max (a:Int) (c:Int)).toNat f.size) >>= _) _ _ s;rw[k,JR];show NO (wpAny_updateSeq (hz:=Ks (KD _ _) hsz) (_hz':=v) e rfl ?_);show NO (Rz ?_);first
  | show NO (Of (Of ⟨.none,rfl,Of h⟩))
  | show Of ⟨.none,rfl,Of h⟩
end
section
variable {X:Cx}
def wv{q:!(Addr×Obj)}{s:Od}{Z:St}{H:Hp}{l b sl:Addr}{g i:!V}{a c:Int}{u p:Oa}{Q:Unit->Od->Prop}(I:Inv X q Z H s)
  (x:H l*>(.lst g)) (y:H b*>(.lst i)) (j:l≠b) (hs:s.heap.IsSliceOf sl u p .none) (B:RelV (.int a) u) (G:RelV (.int c) p) (t:0<=a) (k:a<=c) (O:c<=g.length)
  (hz:g.length+i.length<=sizeLine) (h:∀v,Inv X q Z (upd H l (.lst (g.take a.toNat++i++g.drop c.toNat))) v->Q () v) :
  Oj (Ol X.prog X.w) X.A (QK (.ref l) (.ref sl) (.ref b)) Q X.xe s:=by
 have(K,rfl):=B;have(L,rfl):=G;have(z,f,n,r,M,e):=I.lstM x;have(P,d,N,J,C,E):=I.lstM y;have(o,rfl):=Ml t;have(m,rfl):=Ml (Int.le_trans t k);dsimp[JR]at h;show nR (a:=o) (c:=m) e E j hs (.int _ _) (.int _ _) (by lia) (by rw[Ju];lia) (by rw[Ju,Ju];lia) (h _ ?_);show I.lset (its':=f.take o++d++f.drop m) (t':=s.toks) x e ?_ (Vals.append (Vals.append (r.take _) J) (r.drop _)) ?_;show wz f d o m
 .rw[JP,JP,J1,Kt]
  lia
end
end L2
namespace Att
open PySem PySem.W PySem.Calls PyProof.Rows
def ints_of_wellAll{P:TJ}{h:Heap}:∀(ns:!Int) (vs:!Oa),WellAll P h vs (ns.map T9)->SR vs ns:=by
 intro ns
 induction ns with
 | nil=>
  intro vs w;rw[Kl]at w;cases w;show .nil
 | cons n ns c=>
  intro vs w;rw[Jt]at w;cases w with
  | cons a b=>
   cases a;show .cons _ _ (c _ b)
def script_of{l:TK}{n:Nat}(v:l.most*>n){P:TJ}{h:Heap}{c:!T7}{f:!Oa}
  (e:l.row.toRowW.claim.pre c=Ug) (o:WellAll P h f c) :
  ∃a vs ns,f=[OR a]/\c=[T7.list (ns.map T9)]/\h.get? a=Ud {cls:=.type "list",data:=.seq vs.toArray}/\SR vs ns/\ns.length<=n:=by
 have m:TL.hasAll [] c [.list .int]=Ug:=(pre_splitW e).1;have p:l.pre.holds [] {args:=c}=Ug:=(pre_splitW e).2;have(d,r,rfl,w,t):=hasAllW_cons m;obtain rfl:=hasAllW_nil t;have(z,rfl,s):=hasW_list w;have(ns,rfl):=items_int s;have i:ns.length<=n:=by
  unfold TK.pre at p;have j:(WTm.not (.lt (.lit (.int (n:Int))) (.len (.arg 0)))).holds [] {args:=[.list (ns.map .int)]}=Ug:=by
   have j:=(holds_andW p).1;rw[v]at j;show j
  have k:=condW_of j (w_not (w_lt w_lit (w_len_list (w_arg rfl))));rw[Jr]at k;show Nat.le_of_not_lt λq=>?_;have u:(n:Int)<((ns.length:Nat):Int):=by lia
  first
   | (rw[decide_eq_true u]at k;show absurd k (by decide))
   | (simp at k;lia)
 cases o with
 | cons w1 x=>
  cases x;cases w1 with
  | list y g=>show{_,_,ns,Xr,Xr,y,ints_of_wellAll ns _ g,i}
def post_true(l:TK)(a:!T7):l.row.toRowW.claim.post a (.bool Ug) a=Ug:=
 postW_of (r:=l.row.toRowW) (X:=(Ug==Ug))
  (show T3 [] (.bool Ug) .bool=Ug by first|rfl|decide|simp[T3,TL.arms,TL.armsAll])
  (show(WTm.eq .res (.lit (.bool Ug))).value [] {args:=a,res:=Ud (.bool Ug),after:=a}*>(.bool (Ug==Ug))from w_eq_bool (w_res rfl) w_lit) rfl
def attach_call{l:TK}{n:Nat}{q:On}{loose:!Str}{XP:(Str->↑Oa)->Heap->Prop}{YP:Oq->Heap->Prop}{d:DefRec}
  (M:l.most*>n) (z:d.params.defaults=[])
  (call:∀(w:Oq) (e c : Od) (p A:Str->↑Oa) (i:Addr) (o:Obj) (u s h:Oa) (a:Addr) (vs:!Oa) (ns:!Int),
   Ground q loose [] XP w e p A c.heap->YP w c.heap ->
   c.heap.get? i*>o->o.data=.func (docDef d.name d.params d.body d.scope u s h)->c.heap.CodeRec s d.name->p d.name*>(.ref i) ->
   c.heap.get? a=Ud {cls:=.type "list",data:=.seq vs.toArray}->SR vs ns->ns.length<=n->c.gens = #[] ->
   Pq (Ol l.prog w) RF (.call (.ref i) {[.ref a],[]}) (λr t=>r=.ok (.ret (.bool Ug))/\OldK c.heap t.heap/\t.os=c.os/\QJ t.gens) c) :
  WalkO q loose XP YP l.row.toRowW d [] (λf vs=>PySem.call f vs):=by
 intro w e c p A G Y i o u s h Z kV O Q x H v U E C as j B P y X;obtain rfl:Z=.none:=Dflts.none H z;obtain rfl:kV=.none:=Dflts.noKw H;have(a,vs,ns,rfl,rfl,m,g,k):=script_of M j y;show enter_call (Rg (call w e c p A i o u s h a vs ns G Y O (fd_plain Q) x v m g k U) λr t K=>?_);have(rfl,L,J,S):=K;show{.inl {.bool Ug,.bool Ug,[],Xr,λ_=>rfl,.bool Ug,post_true l _,λ_=>{List.Pairwise.nil,λ_ N=>(nomatch N)}},L,J,S}
end Att
namespace L2
open PySem PySem.Spec PyProof.Rows
def oU:∀{vs:!Oa} {ns:!Int},SR vs ns->Vals (ns.map V.int) vs
 | _,_,.nil=>.nil
 | _,_,.cons n t h=>.cons ⟨t,Xr⟩ (oU h)
abbrev Gr(H:Hp):Prop:=∀b,H b=Uc \/ ∃o a,H b*>(.frz o (.lst a))
def xJ{P:On}{w:Oq}{K:yF}{y mb:Str->↑Oa}{CX:CXT}{k:Nat}{fa a:Addr}{fd:Pt}{x:Str}{sp:Sp}{c : Od}{vs:!Oa}{ns:!Int}
  (KX:K.In c.heap) (M:c.heap.Ns OM y) (g:c.heap.Ns RV mb) (S:∀x:Str,x ≠ "__name__" -> mb x=O7 x) (L:c.heap.NoLimit) (hg:c.gens = #[])
  (Q:c.heap.get? a=Ud {cls:=.type "list",data:=.seq vs.toArray}) (hi:SR vs ns) (hl:ns.length<=sizeLine) (hr:NQ k RF)
  (F:∀j:Heap,K.In j->j.Ns OM y->N7 P w K y j CX k fa fd [x] sp) (t:∀(s:Od) (u:Oa),RE s fd {[u],[]} [(x,u)])
  (Y:∀H:Hp,Gr H->SqL K H a (ns.map V.int)->sp [.ref a] H (λv _=>v=.bl Ug) λ_ _ _=>False)
  (X:∀H e i,CX [] H c (λ_ _ _=>False) e i->False) :
  Pq (Ol P w) RF (.call (.ref fa) {[.ref a],[]}) (λr i=>r=.ok (.ret (.bool Ug))/\OldK c.heap i.heap/\i.os=c.os/\QJ i.gens) c:=by
 have rv:=oU hi;have N:=hi.length;have p:∀H:Hp,Gr H->SqL K H a (ns.map V.int)->HOk P w H c.heap->(∀b,H b≠Uc->b=a)->(H a≠Uc->K.lookup a=Uc) ->
   Pq (Ol P w) RF (.call (.ref fa) {[.ref a],[]}) (λr i=>r=.ok (.ret (.bool Ug))/\OldK c.heap i.heap/\i.os=c.os/\QJ i.gens) c:=by
  intro H hO hS G hA hK;have f:∀{b:Addr} {o:Obj},c.heap.get? b*>o->H b=Uc->(pj c.heap H).get? b*>o:=λe n=>xy e n;have U:∀{b:Addr} {o:Obj} {B:Array RD} {A:Nat},c.heap.get? b*>o->o.data=.dict B A->H b=Uc:=λ{b o B A} e d=>by
   cases q:H b with
   | none=>rfl
   | some u=>
    have Z:b=a:=hA b (by rw[q];simp);subst Z;rw[Q]at e;cases e;have d':Data.seq vs.toArray _=Data.dict B A:=d;cases d'
  have l:∀{b:Addr} {m:Str->↑Oa},c.heap.Ns b m->(pj c.heap H).Ns b m:=λ{b m} ⟨o,B,A,e,d,r⟩=>{o,B,A,f e (U e d),d,r};have O:K.In (pj c.heap H):=λb o e=>f (KX b o e) (by
   cases q:H b with
   | none=>rfl
   | some u=>
    have Z:b=a:=hA b (by rw[q];simp);subst Z;rw[hK (by rw[q];simp)]at e;cases e)
  have hM:Mod K y (pj c.heap H):={O,l M,{mb,l g,S},let ⟨mc,h1,h2⟩:=L;{mc,l h1,h2}};have e0:Pd P w K y (pj c.heap H) RF [] c H:={Xr,hM,λb o e=>Bn e,Nat.le_of_eq (vj _ _),trivial,λb g=>absurd (show b∈([]:!Addr)from g) ∅,G,.of_eq hg};show Rg ((F _ O (l M)).run RF [] c H {[.ref a],[]} [.ref a] [.ref a] _ _ hr e0 (t c (.ref a)) (.cons rfl .nil) (Y H hO hS)) λr i h=>?_;cases r with
  | error e=>show(X H e i h).elim
  | ok fl=>
   cases fl with
   | next=>show Pz h
   | brk=>show Pz h
   | cont=>show Pz h
   | ret u=>
    have(v,H',os,J,un,E,r',q):=h;have q':v=.bl Ug:=q;subst q';obtain rfl:u=Py Ug:=r';show{Xr,OldK.of_keep λb o e=>?_,os,J};cases q:H b with
    | none=>show un.keep b o e q (by intro z;show absurd (show b∈([]:!Addr)from z) ∅) ∅
    | some u=>
     rcases hO b with z|⟨ob,xs,z⟩;rw[q]at z;cases z
     .have z2:=un.frzs b ob _ z;have(e1,_):=G b _ z;have(e2,_):=E b _ z2;rw[e]at e1;cases e1;show e2
 cases hk:K.lookup a with
 | some o=>
  have e:=KX a o hk;rw[Q]at e;cases e;show p (λ_=>Uc) (λ_=>.inl rfl) (.inr {_,vs.toArray,_,hk,Xr,Xr,Xr,by rw[Ju,N];show hl,by simpa using rv}) (λb u z=>by have C:(Uc:↑HO)*>u:=z;cases C) (λb z=>absurd rfl z) λz=>absurd rfl z
 | none=>
  show p (λb=>if b=a then Ud (.frz {cls:=.type "list",data:=.seq vs.toArray} (.lst (ns.map V.int)))else Uc) (λb=>?_) (.inl (.inr {{cls:=.type "list",data:=.seq vs.toArray},if_pos rfl})) (λb u z=>?_) (λb z=>?_) λ_=>hk
  .by_cases g:b=a;show .inr {_,_,if_pos g};show .inl (if_neg g)
  .by_cases g:b=a
   .have C:=(if_pos g).symm.trans z;cases C;subst g;show{Q,by rw[Jr];show hl,vs,_,rv,Q}
   .have C:=(if_neg g).symm.trans z;cases C
  .by_cases g:b=a;show g;show absurd (if_neg g) z
abbrev eU(s:Stmt):Arguments:=match s with
 | .FunctionDef _ a _ _ _ _ _ _ _ _=>a
 | _=>{posonlyargs:=[],args:=[],vararg:=Uc,kwonlyargs:=[],kw_defaults:=[],kwarg:=Uc,defaults:=[]}
abbrev bO(s:Stmt):!Stmt:=match s with
 | .FunctionDef _ _ b _ _ _ _ _ _ _=>b
 | _=>[]
abbrev ak(s:Stmt):P5:=match s with
 | .FunctionDef _ _ _ _ _ _ a _ _ _=>a
 | _=>{kind:=.function,names:=[],isGenerator:=Ue,isCoroutine:=Ue}
protected def CX0:CXT:=λ_ _ _ _ _ _=>False
protected def E0:XK:=λ_ _ _=>False
def Hl{X:Cx}:rY CX0 X E0:=λ_ _ _ _ _ _ _ h=>h.elim
structure Fun(K:yF)(x qual:Str)(st:Stmt)(f:Addr)(fd:Pt):Prop where
 ex:∃(oc:Oa) (od:↑Addr) (kV doc pm:Oa) (an:↑Addr) (cdv ct:Oa) (osl:Array ↑Oa),
  fd=K3 x qual (eU st) (bO st) (ak st) .none kV doc pm an cdv ct/\K.lookup f*>{oc,od,.func fd,osl}/\Lz K cdv qual=Ug
 kp:K4 K (.ref f)=Ug
section
variable {P:On}{w:Oq}{K:yF}{mg:Str->↑Oa}{base:Heap}
def Fun.ok{x c:Str}{st:Stmt}{f:Addr}{m:Pt}{N ps:!Str}{k:Nat}{l:Sp}(F:Fun K x c st f m)(S:p8 N ps (ak st))(j:∀vs H Q E,l vs H Q E->vs.length=ps.length)
  (e:∀(d:Oa) (A:Ot) (a:!Env) (s:Od) (H:Hp) (vs:!V) (Q:VK) (E:XK),NQ k (A.deeper (Ql c (ak st) s.heap.objs.size f d))->l vs H Q E ->
   ∃t,PSs (nH CX0 P w K mg base N c (ak st) f d A a s H E).nox (bO st) t/\t {nx:=λ_ H'=>Q .non H',rt:=Q} (ci N vs) H):N7 P w K mg base CX0 (k+1) f m ps l:=by
 obtain⟨oc,B,kV,u,v,y,d,z,r,rfl,o,i⟩:=F.ex;show GG o i S j λA a s H vs Q E p g=>?_;have(t,h,q):=e d A a s H vs Q E p g;show⟨t,h.nox,q⟩
def DZ{x a:Str}{st:Stmt}{f:Addr}{oc:Oa}{m i:↑Addr}{g:Array ↑Oa}{kV e h d j:Oa}(l:K.lookup f*>{oc,m,.func (K3 x a (eU st) (bO st) (ak st) .none kV e h i d j),g})
  (c:Lz K d a=Ug) (k:K4 K (.ref f)=Ug):Fun K x a st f (K3 x a (eU st) (bO st) (ak st) .none kV e h i d j):={⟨oc,m,kV,e,h,i,d,j,g,Xr,l,c⟩,k}
end
def xB{A:Ot}{k:Nat}(a:NQ k A):A.units+1<OV:=KZ (MR (by decide:1<=64) _) a.units
def qC{A B:Prop}(h:B):if Ue=Ug then A else B:=by
 rw[if_neg JF];show h
def qD{A B:Prop}(h:A):if Ug=Ug then A else B:=by
 rw[if_pos rfl];show h
abbrev NP(H H':Hp):Prop:=∀b o,H b*>o->H' b*>o
def NP.refl(H:Hp):NP H H:=λ_ _ h=>h
def NP.trans{H d e:Hp}(a:NP H d)(b:NP d e):NP H e:=λc o h=>b c o (a c o h)
def NP.free{H H':Hp}(e:NP H H'){l:Addr}(h:H' l=NE):H l=NE:=by
 cases q:H l with
 | none=>rfl
 | some o=>
  rw[e l o q]at h;cases h
def NP.seq{K:yF}{H H':Hp}{a:Addr}{c:!V}(e:NP H H')(h:SqL K H a c):SqL K H' a c:=by
 rcases h with(h|⟨o,h⟩)|h;show .inl (.inl (e _ _ h));show .inl (.inr {o,e _ _ h});show .inr h
abbrev bT(env:Env):!(Str×Oo)->!(Str×Addr)->!(Str×Addr)
 | [],a=>a
 | (n,k)::r,a=>if k == .free then bT env r ((n,(env.cells.lookup n).getD 0)::a)else bT env r a
def j7:∀(a:!(Str×Oo)) (d:!(Str×Addr)),(∀x∈a,x.2=.free->∃c,env.cells.lookup x.1*>c) ->
  (forIn a d λ(x:Str×Oo) (j:!(Str×Addr))=>if x.2 == .free then(do let c <-cellOf env x.1;pure (Qm ((x.1,c)::j)):Sem _)else pure (Qm j))=(pure (bT env a d):Sem _)
 | [],d,_=>rfl
 | (n,k)::r,d,h=>by
  have l:∀x∈r,x.2=.free->∃c,env.cells.lookup x.1*>c:=λx o=>h x (ymC _ o);rw[LD];unfold bT;by_cases i:(k==Pl)=Ug
  .have(c,m):=h (n,k) ymS (by exists i);have f:env.cells.lookup n*>c:=m;have e:cellOf env n=pure c:=by unfold cellOf;rw[f]
   dsimp[i,if_true,e,f,Option.getD_some,pure_bind];show j7 r _ l
  .have g:(k==Pl)=Ue:=by exists i
   dsimp[g,Lr,if_false,pure_bind];show j7 r _ l
def gb(h:∀x∈scope.names,x.2=.free->∃c,env.cells.lookup x.1*>c):closureFor scope env=pure (bT env scope.names []):=by
 have:=j7 (env:=env) scope.names [] h;dsimp[closureFor];rw[this,pure_bind]
def j6:∀(d:!(Str×Oo)) (a:!(Str×Addr)),(∀y∈d,y.2=.free->∃c,env.cells.lookup y.1*>c)->(a.lookup x*>c->env.cells.lookup x*>c) ->
  (bT env d a).lookup x*>c->env.cells.lookup x*>c
 | [],a,_,g,h=>g h
 | (n,k)::r,a,p,g,h=>by
  have q:∀y∈r,y.2=.free->∃c,env.cells.lookup y.1*>c:=λy t=>p y (ymC _ t);unfold bT at h;by_cases o:(k==Pl)=Ug
  .rw[if_pos o]at h;show j6 r _ q (λe=>?_) h;have(s,m):=p (n,k) ymS (by exists o);have f:env.cells.lookup n*>s:=m;rw[Kk]at e;by_cases l:(x==n)=Ug
   .rw[l]at e;have j:x=n:=by exists l
    subst j;rw[f]at e|-;show e
   .have i:(x==n)=Ue:=by exists l
    rw[i]at e;show g e
  .rw[if_neg o]at h;show j6 r a q g h
def j5:∀(c:!(Str×Oo)) (a:!(Str×Addr)),(a.lookup x).isSome=Ug->((bT env c a).lookup x).isSome=Ug
 | [],_,h=>h
 | (n,k)::r,a,h=>by
  unfold bT;by_cases d:(k==Pl)=Ug
  .rw[if_pos d];show j5 r _ ?_;rw[Kk];cases hx:(x==n)with
   | true=>rfl
   | false=>show h
  .rw[if_neg d];show j5 r a h
def gD:∀(a:!(Str×Oo)) (c:!(Str×Addr)),(x,Pl)∈a->((bT env a c).lookup x).isSome=Ug
 | [],_,h=>by cases h
 | (n,k)::r,c,h=>by
  unfold bT;rcases ycM h with e|h
  .cases e;rw[if_pos (by rfl)];show j5 r _ ?_;rw[Kk,beq_self_eq_true];rfl
  .by_cases d:(k==Pl)=Ug
   .rw[if_pos d];show gD r _ h
   .rw[if_neg d];show gD r _ h
def lP:∀(a:!(Str×Oo)) (n:Nat) (e:!(Str×Addr)),(Oz n a e).lookup x*>c->(n<=c/\(x,Ov)∈a)\/e.lookup x*>c
 | [],_,_,h=>.inr h
 | (y,k)::r,n,e,h=>by
  unfold Oz at h;by_cases l:(k==Ov)=Ug
  .rw[if_pos l]at h;rcases lP r (n+1) _ h with⟨d,f⟩|d;show .inl {by omega,ymC _ f}
   .rw[Kk]at d;by_cases i:(x==y)=Ug
    .rw[i]at d;have m:x=y:=by exists i
     have j:k=.cell:=by exists l
     subst m j;cases d;show .inl {JA _,ymS}
    .have g:(x==y)=Ue:=by exists i
     rw[g]at d;show .inr d
  .rw[if_neg l]at h;rcases lP r n _ h with⟨d,f⟩|d;show .inl {d,ymC _ f};show .inr d
def sf:∀(g:!(Str×Oo)) (n:Nat) (f:!(Str×Addr)),(∀x c,f.lookup x*>c->c<n)->(∀x y c,f.lookup x*>c->f.lookup y*>c->x=y) ->
  ∀x y c,(Oz n g f).lookup x*>c->(Oz n g f).lookup y*>c->x=y
 | [],_,_,_,m,x,y,c,i,h=>m x y c i h
 | (z,k)::r,n,f,o,m,x,y,c,i,h=>by
  unfold Oz at i h;by_cases p:(k==Ov)=Ug
  .rw[if_pos p]at i h;show sf r (n+1) ((z,n)::f) (λa b e=>?_) (λa b d j l=>?_) x y c i h
   .rw[Kk]at e;cases q:(a==z)with
    | true=>rw[q]at e;cases e;show LA _
    | false=>rw[q]at e;show Lj (o a b e)
   .rw[Kk]at j l;cases q1:(a==z)with
    | true=>
     cases q2:(b==z)with
     | true=>rw[beq_iff_eq.mp q1,beq_iff_eq.mp q2]
     | false=>rw[q1]at j;rw[q2]at l;cases (j);show absurd (o b n l) (KA _)
    | false=>
     cases q2:(b==z)with
     | true=>rw[q1]at j;rw[q2]at l;cases (l);show absurd (o a n j) (KA _)
     | false=>rw[q1]at j;rw[q2]at l;show m a b d j l
  .rw[if_neg p]at i h;show sf r n f o m x y c i h
def lQ:∀(a:!(Str×Oo)) (n:Nat) (c:!(Str×Addr)),(x,Ov)∉a->(Oz n a c).lookup x=c.lookup x
 | [],_,_,_=>rfl
 | (y,k)::r,n,c,h=>by
  unfold Oz;by_cases e:(k==Ov)=Ug
  .rw[if_pos e,lQ r _ _ (λz=>h (ymC _ z)),Kk];have d:k=.cell:=by exists e
   have f:(x==y)=Ue:=by
    cases q:(x==y)with
    | false=>rfl
    | true=>show absurd (by rw[beq_iff_eq.mp q,d];show ymS) h
   rw[f]
  .rw[if_neg e];show lQ r _ _ λz=>h (ymC _ z)
def o8:∀(i:!(Str×Oo)) (n:Nat) (f:!(Str×Addr)),((x,Ov)∈i \/ ∀g,f.lookup x*>g->n<=g)->(Oz n i f).lookup x*>c->∀lo,lo<=n->(∀g,f.lookup x*>g->lo<=g)\/(x,Ov)∈i->lo<=c
 | [],n,f,_,h,lo,l,d=>by
  rcases d with d|d;show d c h;cases d
 | (y,k)::r,n,f,_,h,lo,l,d=>by
  unfold Oz at h;by_cases p:(k==Ov)=Ug
  .rw[if_pos p]at h;have a:(∀g,((y,n)::f).lookup x*>g->lo<=g)\/(x,Ov)∈r:=by
    by_cases o:(x==y)=Ug
    .show .inl λg e=>?_;rw[Kk,o]at e;cases e;show l
    .have m:(x==y)=Ue:=by exists o
     rcases d with d|d
     .show .inl λg e=>?_;rw[Kk,m]at e;show d g e
     .rcases ycM d with e|d
      .cases e;simp at o
      .show .inr d
   have q:(x,Ov)∈r \/ ∀g,((y,n)::f).lookup x*>g->n+1<=g\/True:=.inr λ_ _=>.inr trivial;rcases a with a|a
   .by_cases j:(x,Ov)∈r;show o8 r (n+1) _ (.inl j) h lo ⋯ (.inr j)
    .rw[lQ r _ _ j]at h;show a c h
   .show o8 r (n+1) _ (.inl a) h lo ⋯ (.inr a)
  .rw[if_neg p]at h;have a:(∀g,f.lookup x*>g->lo<=g)\/(x,Ov)∈r:=by
    rcases d with d|d;show .inl d
    .rcases ycM d with e|d
     .cases e;show absurd rfl p
     .show .inr d
   by_cases j:(x,Ov)∈r;show o8 r n _ (.inl j) h lo l (.inr j)
   .rcases a with a|a
    .rw[lQ r _ _ j]at h;show a c h
    .show absurd a j
def ge:∀(d:!(Str×Oo)) (h:Heap) (a:!(Str×Addr)),(Oz h.objs.size d a).lookup x*>c->(pushCells h d).IsCell c Uc\/a.lookup x*>c
 | [],_,_,e=>.inr e
 | (y,k)::r,h,a,e=>by
  unfold Oz at e;unfold pushCells;by_cases f:(k==Ov)=Ug
  .rw[if_pos f]at e|-;have g:(Oz (h.push {cls:=.type "cell",data:=.cell Uc}).objs.size r ((y,h.objs.size)::a)).lookup x*>c:=by rw[OD];show e
   rcases ge r (h.push {cls:=.type "cell",data:=.cell Uc}) ((y,h.objs.size)::a) g with q|q;show .inl q
   .rw[Kk]at q;cases hx:(x==y)with
    | true=>
     rw[hx]at q;cases q;show .inl {_,Ro r _ _ _ (Og _ rfl),Xr}
    | false=>rw[hx]at q;show .inr q
  .rw[if_neg f]at e|-;show ge r h a e
def iK
  (h:∀h',h'.Ns s.heap.objs.size (λ_=>Uc)->(∀b o,s.heap.get? b*>o->h'.get? b*>o)->(∀x c,(Oz (s.heap.objs.size+1) scope.names cl).lookup x*>c->h'.IsCell c Uc\/cl.lookup x*>c) ->
   Q (newEnv scope s.heap.objs.size globals (Oz (s.heap.objs.size+1) scope.names cl) qual Uc .none (Ud env) RV) {s with heap:=h'}) :
  Oj M A (Qa scope globals cl [] qual Uc .none (Ud env)) Q E s:=by
 dsimp[Qa,Option.isSome_some,if_true];show NO (wpAny_alloc ?_);show NO (wpAny_layCells _ (λg a f=>by cases hkc:a==Ov<;>simp[hkc]) _ _ _ _ ?_);rw[show({s with heap:=s.heap.push {cls:=.type "dict",data:=.dict #[]}}:Od).heap.objs.size=s.heap.objs.size+1 from OD ..];rw[Nk];show NO (Of (Of (h _ ?_ ?_ ?_)));show(Heap.Ns.new s.heap (.type "dict")).keeps (Ro _ _);show λb o e=>Ro _ _ b o (Oc _ e)
 .intro x c e;have i:(Oz (s.heap.push {cls:=.type "dict",data:=.dict #[]}).objs.size scope.names cl).lookup x*>c:=by rw[OD];show e
  show ge _ _ _ i
abbrev rlK(env:Env) (n:Str) (k:Oo):Oo:=if(k == .free&&env.scope.kind == .function&&env.kindOf n==Ud .cell)then .cell else k
def oq:∀(a:!(Str×Oo)),
  (a.map λ(n,k)=>if(k==Pl&&env.scope.kind == .function&&env.kindOf n==Ud .cell)then(n,Ov)else(n,k)).lookup x=(a.lookup x).map (rlK env x)
 | []=>rfl
 | (n,k)::r=>by
  have c:=oq (env:=env) (x:=x) r;rw[Jt,Kk];have d:(if(k==Pl&&env.scope.kind == .function&&env.kindOf n==Ud .cell)then(n,Ov)else(n,k))=(n,rlK env n k):=by
   unfold rlK;split<;>rfl
  change LW x ((if(k==Pl&&env.scope.kind == .function&&env.kindOf n==Ud .cell)then(n,Ov)else(n,k))::_)=_;rw[d,Kk,Kk];cases hx:(x==n)with
  | true=>
   have e:=beq_iff_eq.mp hx;subst e;rfl
  | false=>show c
def ip:(Rj scope env).names.lookup x=(scope.names.lookup x).map (rlK env x):=oq scope.names
structure Blk(osc sc:P5)(N N':!Str)(fr:! ↑Nat):Prop where
 kind:sc.kind=.function
 nd:N'.Nodup
 len:fr.length=N'.length
 free:∀(i j:Nat) (x:Str),fr[i]?*>(Ud j)->N'[i]?*>x->N[j]?*>x/\sc.names.lookup x*>.free
 out:∀x∈sc.names,x.2=.free->(osc.names.lookup x.1*>.cell\/osc.names.lookup x.1*>.free)/\(x.1,Ov)∉sc.names
 locl:∀x∈sc.names,x.2=.local->sc.names.lookup x.1*>.local
abbrev Gw(c a:P5) (N N':!Str) (fr:! ↑Nat):Bool:=
 (a.kind == .function)&&decide N'.Nodup&&(fr.length==N'.length) &&
 (fr.zip N').all (λp=>match p.1 with|none=>Ug|some j=>N[j]? == Ud p.2&&a.names.lookup p.2==Ud .free) &&
 a.names.all (λp=>(p.2 != .free||((c.names.lookup p.1==Ud .cell||c.names.lookup p.1==Ud .free) &&  ~~~a.names.contains (p.1,.cell)))&&(p.2 != .local||a.names.lookup p.1==Ud .local))
def Blk.of(h:Gw osc sc N N' fr=Ug):Blk osc sc N N' fr:=by
 unfold Gw at h;dsimp[Jv]at h;obtain⟨⟨⟨⟨o,l⟩,k⟩,m⟩,f⟩:=h;show{by simpa using o,of_decide_eq_true l,by simpa using k,λi j x p q=>?_,λx c e=>?_,λx c e=>?_}
 .have d:(Ud j,x)∈fr.zip N':=by
   show KW.mpr {i,?_};rw[Ky];show⟨p,q⟩
  have:=K0.mp m _ d;dsimp[Jv]at this;show{by simpa using this.1,by simpa using this.2}
 .have:=K0.mp f x c;dsimp[Jv]at this;have a:=this.1;rw[e]at a;dsimp[bne_self_eq_false,MW,Jv,LF,Kf]at a;show{a.1.imp (λz=>by exists z) (λz=>by exists z),λd=>?_};have g:=a.2;rw[List.contains_iff_mem.mpr d]at g;cases g
 .have:=K0.mp f x c;dsimp[Jv]at this;have a:=this.2;rw[e]at a;dsimp[bne_self_eq_false,MW]at a;exists a
abbrev bG(fr:! ↑Nat) (Z:St):St:=fr.map λo=>match o with
 | none=>Uc
 | some j=>Z.getD j Uc
def gx(fr:! ↑Nat)(Z:St):(bG fr Z).length=fr.length:=by unfold bG;rw[Jr]
abbrev DQ(X:Cx) (scope:P5) (N':!Str) (cells:!(Str×Addr)) (C:Addr) (s:Od) (H:Hp) (ex:!Addr) (pn:!(Addr×Obj)) (xe:Oa->Od->Prop):Cx where
 prog:=X.prog
 w:=X.w
 K:=X.K
 mg:=X.mg
 base:=X.base
 A:=X.A
 N:=N'
 s₀:=s
 H₀:=H
 env:=TW scope cells C X.env
 outer:=X.stack
 stack:=X.stack
 ex:=ex
 fn:=λx=>scope.names.lookup x==Ud .cell
 calm:=X.calm
 pn:=pn
 xe:=xe
section
variable {X:Cx}{Ub:!(Addr×Obj)}{Z:St}{H H':Hp}{s:Od}{scope:P5}{N':!Str}{fr:! ↑Nat}{ex:!Addr}{xe:Oa->Od->Prop}
def fq{a:P5}{x:Str}{k:Oo}(h:a.names.lookup x*>k):(x,k)∈a.names:=K9 h
def Inv.freeCells(I:Inv X Ub Z H s)(B:Blk X.env.scope scope X.N N' fr):∀x∈scope.names,x.2=.free->∃c,X.env.cells.lookup x.1*>c:=λx d a=>I.ok.has x.1 (B.out x d a).1
def Inv.enter{h':Heap}(I:Inv X Ub Z H s)(B:Blk X.env.scope scope X.N N' fr)(w:∀b∈ex,dU X Ub H b/\∃o,s.heap.get? b*>o)
  (hns:h'.Ns s.heap.objs.size (λ_=>Uc)) (K:∀b o,s.heap.get? b*>o->h'.get? b*>o)
  (L:∀x c,(Oz (s.heap.objs.size+1) scope.names (bT X.env scope.names [])).lookup x*>c->h'.IsCell c Uc\/(bT X.env scope.names []).lookup x*>c) :
  Inv (DQ X scope N' (Oz (s.heap.objs.size+1) scope.names (bT X.env scope.names [])) s.heap.objs.size s H ex (X.pn++Ub) xe) [] (bG fr Z) H {s with heap:=h'}:=by
 have O:=I.freeCells B;have f:∀x c,(bT X.env scope.names []).lookup x*>c->X.env.cells.lookup x*>c:=λx c e=>j6 scope.names [] O (λz=>by cases z) e;have lt:∀x c,X.env.cells.lookup x*>c->c<s.heap.objs.size:=λx c e=>by
  have(v,q):=I.cell x c e;show q.lt
 have a:∀x c,(Oz (s.heap.objs.size+1) scope.names (bT X.env scope.names [])).lookup x*>c->s.heap.objs.size+1<=c\/X.env.cells.lookup x*>c:=λx c e=>
  (lP _ _ _ e).imp (λz=>z.1) (f x c)
 have E:∀b∈ex,b<s.heap.objs.size:=λb t=>by
  have(o,e):=(w b t).2;show Oh e
 have has:∀x,scope.names.lookup x*>.cell\/scope.names.lookup x*>.free->∃c,(Oz (s.heap.objs.size+1) scope.names (bT X.env scope.names [])).lookup x*>c:=λx Y=>by
  show LB.mp (LO _ _ _ (Y.imp id λz=>gD _ _ (fq z)))
 show{{I.ok.mod,?_,I.ok.glob,I.ok.blt,JA _,?_,?_,?_,I.ok.hd,I.ok.gd,I.ok.frames,.inl rfl,?_,I.bs,Ks I.ok.bsz I.sz,?_,?_,I.stack,I.stkFree},Xr,I.bare,Un.kept K,{_,hns,?_},?_,?_,?_,?_,I.hok.kept K,?_};show B.kind;show sf _ _ _ (λx c e=>Lj (lt x c (f x c e))) (λx y c P A=>I.ok.inj x y c (f x c P) (f y c A))
 .intro x Y;show has x ?_;have h:(Rj scope X.env).names.lookup x*>.cell\/(Rj scope X.env).names.lookup x*>.free:=Y;rw[ip]at h;cases q:scope.names.lookup x with
  | none=>rw[q]at h;rcases h with z|z<;>cases z
  | some k=>
   rw[q]at h;have C:rlK X.env x k=.cell\/rlK X.env x k=.free:=h.imp (λz=>JT.inj z) (λz=>JT.inj z);unfold rlK at C;split at C
   .delta L;dsimp[Jv]at L;have:k=.free:=by exists L.1.1
    rw[this];show .inr rfl
   .rcases C with z|z<;>rw[z];show .inl rfl;show .inr rfl
 .intro x c hf e;have G:scope.names.lookup x*>.cell:=by
   have:(scope.names.lookup x==Ud Ov)=Ug:=hf;exists this
  show o8 _ _ _ (.inl (fq G)) e _ (LM _) (.inr (fq G))
 .intro b t;obtain⟨⟨_,_,_,_,f4,_⟩,_⟩:=w b t;show{JG (E b t),λx c e z=>?_};rcases a x c e with q|q
  .rw[z]at q;show absurd (JN (E b t) (Nat.le_of_succ_le q)) (KA _)
  .show f4 x c q z
 .intro b o e t;obtain⟨⟨_,_,_,f3,_,_⟩,_⟩:=w b t;rcases f3 with z|z;show I.ok.noex b o e z;show absurd (JN (Oh e) (Ks I.ok.bsz z)) (KA _)
 .intro b t hf;obtain⟨⟨_,f1,f2,_,_,_⟩,_⟩:=w b t;rcases ycM (I.stkSub b hf)with z|z;show f1 z;show f2 z
 .intro i x v P A e3;unfold bG at A;rw[JB]at A;cases q:fr[i]? with
  | none=>rw[q]at A;cases A
  | some o=>
   rw[q]at A;cases o with
   | none=>simp at A
   | some j=>
    have g:Z.getD j Uc*>v:=by exists A
    have(b1,b2):=B.free i j x q P;have e4:Z[j]?*>(Ud v):=by
     rw[JO]at g;cases q2:Z[j]? with
     | none=>rw[q2]at g;cases g
     | some y=>rw[q2]at g;simp at g;rw[g]
    have(o1,o2):=B.out (x,.free) (fq b2) rfl;have(m,hn,hl):=I.loc;have M:Vis X.env.scope x:=o1.elim (λz=>.inr (.inl z)) λz=>.inr (.inr z);have(u,r,l):=hl j x v b1 e4 M;show{u,r,.inr ?_};have nl:∃c,X.env.cells.lookup x*>c/\s.heap.IsCell c (Ud u):=by
     rcases l with⟨kl,_⟩|⟨_,c,h1,U⟩
     .have Q:X.env.scope.names.lookup x*>.local:=kl;rcases o1 with z|z<;>· have z':X.env.scope.names.lookup x=_:=z;rw[Q]at z';cases z'
     .show⟨c,h1,U⟩
    have(c,h1,U):=nl;have kd:(TW scope (Oz (s.heap.objs.size+1) scope.names (bT X.env scope.names [])) s.heap.objs.size X.env).kindOf x*>.cell\/(TW scope (Oz (s.heap.objs.size+1) scope.names (bT X.env scope.names [])) s.heap.objs.size X.env).kindOf x*>.free:=by
     change(Rj scope X.env).names.lookup x*>.cell\/(Rj scope X.env).names.lookup x*>.free;rw[ip,b2];change Ud (rlK X.env x .free)=_\/Ud (rlK X.env x .free)=_;unfold rlK;split;show .inl rfl;show .inr rfl
    show{kd,c,?_,U.keeps K};change(Oz (s.heap.objs.size+1) scope.names (bT X.env scope.names [])).lookup x*>c;rw[lQ _ _ _ o2];have(c',J):=LB.mp (gD (env:=X.env) scope.names [] (fq b2));rw[J];have:=f x c' J;rw[h1]at this;show this.symm
 .intro x c e;rcases L x c e with q|q;show{_,q}
  .have(v,z):=I.cell x c (f x c q);show{v,z.keeps K}
 .show I.hok.fresh (JA _)
 .intro x c e;rcases a x c e with q|q
  .show I.hok.fresh ⋯
  .show I.freeC x c q
 .intro p hp;have S:p∈X.pn++Ub:=by
   have:p∈(X.pn++Ub)++[]:=hp;rwa [Kg]at this
  have(e,n,ne,nf,d):=I.pin p S;show{K _ _ e,n,JG (Oh e),λz=>?_,d};rcases ycM (I.stkSub p.1 z)with q|q;show ne q;show nf q
 .change(bG fr Z).length=N'.length;rw[gx,B.len]
def Inv.leave(I:Inv X Ub Z H s)(a:∀b∈ex,dU X Ub H b)
  (J:Inv (DQ X scope N' cells C s H ex pn xe) pins' Z' H' s'):Inv X Ub Z H' s':=
 I.call' J.os J.base J.hok J.bare λb f=>by
  have(_,c,_,g,e,d):=a b f;show⟨g,c,e,d⟩
def Inv.track(I:Inv X Ub Z H s)(j:dU X Ub H d)(E:d∉X.ex\/X.s₀.heap.objs.size<=d)(B:X.s₀.heap.objs.size<=d)(new:NI X.prog X.w (upd H d o) s.heap d o):Inv X Ub Z (upd H d o) s:=by
 have(a,i,C,G,t,l):=j;show{I.ok,I.os,I.bare,{I.base.keep,I.base.slot,λb u q n v=>?_,I.base.there,λb f q=>?_,λb u f q=>?_,λb y q=>?_},I.loc,I.cell,?_,λx c e=>?_,λp g=>?_,λb u q=>?_,I.len}
 .rw[aT (JG (JN (Oh q) B))];show I.base.free b u q n v
 .have:=I.base.tups b f q;rw[aT (bH this a)];show this
 .have:=I.base.frzs b u f q;rw[aT (bH this a)];show this
 .have(m,this):=I.base.tbls b y q;show{m,by rw[aT (bH this a)];show this}
 .rw[aT (Op i)];show I.free
 .rw[aT (t x c e)];show I.freeC x c e
 .have(e,n,r,k,A):=I.pin p g;show{e,by rw[aT (l p g)];show n,r,k,A}
 .by_cases h:b=d
  .subst h;rw[aA]at q;cases q;show new
  .rw[aT h]at q;show(I.hok b u q).stay (λ_ _ _ z=>z) (λc z=>by rw[aT (bH z a)];show z) λc f z=>by rw[aT (bH z a)];show z
end
noncomputable abbrev lI(ifs:!Expr) (env:Env):Sem Bool:=forIn ifs Ug λc r=>if r=Ug then do let ok <-RW c env (eval c env);pure (Qm ok)else pure (Qm r)
def ie(I:Nat->Od->Prop)
  (l:∀n s,I n s->Oj (Ol prog w) A (Qk it) (λr a=>match r with
   | none=>R (.ok .next) a
   | some v=>Oj (Ol prog w) A (PD target it v) (λ_ d=>Oj (Ol prog w) A (P0 target env v) (λ_ f=>
     Oj (Ol prog w) A (lI ifs env) (λt c=>
      if t=Ug then Oj (Ol prog w) A (eval elt env) (λx i=>
       Oj (Ol prog w) A (call (.builtin "list.append") [acc,x]) (λ_ g=>∃m,m<n/\I m g) (λ_ _=>False) i) (λ_ _=>False) c
      else∃m,m<n/\I m c) (λ_ _=>False) f) (λ_ _=>False) d) (λ_ _=>False) a) (λ_ _=>False) s)
  (n:Nat) (h:I n s):Pq (Ol prog w) A (.compLoop (.ListComp elt [{target,iter,ifs,0}] scope pos) 0 it acc env) R s:=by
 show codeAny_loop rfl I (λn s u=>?_) n h;change Oj _ A ((compTurn (.ListComp elt [{target,iter,ifs,0}] scope pos) 0 it acc env).onRaise (λx=>do noteFrame x env;SK x)) _ _ s;show wpAny_noted ?_;rw[compTurn_list];show NO (PK (NO (OB (l n s u) (λr a j=>?_) λ_ _ z=>z.elim)));cases r with
 | none=>show Of j
 | some v=>
  show NO (OB j (λ_ d k=>?_) λ_ _ z=>z.elim);show NO (OB k (λ_ f o=>NO (OB o (λt c e=>?_) λ_ _ z=>z.elim)) λ_ _ z=>z.elim);cases t with
  | false=>show Of ⟨Xr,e⟩
  | true=>
   show NO (NO (OB e (λx i q=>NO (OB q (λ_ g p=>Of (Of ⟨Xr,p⟩)) λ_ _ z=>z.elim)) λ_ _ z=>z.elim))
abbrev PTs(X:Cx)(a:!Expr)(t:TT):Prop:=
 ∀(c:!(Addr×Obj)) (s:Od) (Z:St) (H:Hp) (Q:Bool->Hp->Prop),Inv X c Z H s->t Z H Q->Oj (Ol X.prog X.w) X.A (lI a X.env) (TP X c Z Q) X.xe s
abbrev Ir:TT:=λ_ H Q=>Q Ug H
def BX:PTs X [] Ir:=λ_ _ _ H _ I h=>wpAny_tests_nil ⟨H,I,h⟩
abbrev Kp(fr:! ↑Nat)(Z a:St):Prop:=a.length=Z.length/\∀i j:Nat,fr[i]?*>(Ud j)->a[i]?=Z[i]?
def Kp.refl(fr:! ↑Nat)(Z:St):Kp fr Z Z:={Xr,λ_ _ _=>rfl}
def Kp.trans(a:Kp fr Z Z')(b:Kp fr Z' Z''):Kp fr Z Z'':={b.1.trans a.1,λi j e=>(b.2 i j e).trans (a.2 i j e)}
abbrev fR(fr:! ↑Nat)(g:TG):Prop:=∀v Z H (Q d:St->Hp->Prop),(∀a c,Q a c->Kp fr Z a->d a c)->g v Z H Q->g v Z H d
abbrev lK(fr:! ↑Nat)(g:TGs):Prop:=∀v Z H (Q d:St->Hp->Prop),(∀a c,Q a c->Kp fr Z a->d a c)->g v Z H Q->g v Z H d
def AZ(h:fr[i]?*>Uc):fR fr (oe i):=λv Z H Q c k q=>by
 show k _ _ q {K8,λa j e=>?_};have:i≠a:=λz=>by subst z;rw[h]at e;cases e
 show JM this
def D4:lK fr D0:=λv Z H Q a k q=>{q.1,k _ _ q.2 (Kp.refl _ _)}
def AY(i:fR fr g)(f:lK fr gs):lK fr (xr g gs):=λvs Z H Q p k q=>by
 obtain⟨v,r,e,q⟩:=q;show{v,r,e,i v Z H _ _ (λm l a j=>f r m l _ _ (λd o h c=>k d o h (j.trans c)) a) q}
def D5{fr:! ↑Nat}{K:yF}{n:Nat}{d:TGs}(h:lK fr d):fR fr (AX K n d):=λv Z H Q i k q=>by
 obtain⟨a,c,f,g,e,q⟩:=q;show{a,c,f,g,e,h c Z H Q i k q}
structure Bk where
 cells:!(Str×Addr)
 C:Addr
 s:Od
 H:Hp
 ex:!Addr
 pn:!(Addr×Obj)
noncomputable abbrev cxB(X:Cx) (scope:P5) (N':!Str) (b:Bk):Cx:=DQ X scope N' b.cells b.C b.s b.H b.ex b.pn λ_ _=>False
abbrev z7(l:TI)(fr:! ↑Nat)(g:TG)(o:TT)(k:TE):TE:=λZ H Q=>
 l Z H λJ q=>∃W:Nat->Nat->!V->Hp->Prop,(∃m,W 0 m [] q)/\∀i m a H,W i m a H->a.length<sizeLine /\
  ((J.stop i H/\∀d,H d=Uc->Q (.ref d) (upd H d (.lst a))) \/
  (J.go i H/\∃N:!V->Hp->Prop,(∀c e,N c e->∃j,j<m/\W (i+1) j c e) /\
   ∀x e,J.yld i H x e->g x (bG fr Z) e λf r=>o f r λb h=>if b=Ug then k f h λv p=>N (a++[v]) p else N a h))
noncomputable abbrev lO(its:!Oa) (n:Nat):Obj:={cls:=.type "list",data:=.seq its.toArray n}
abbrev Wk(Ob : α->Obj->Prop)(Y:Cx)(f:!(Addr×Obj))(fr:! ↑Nat)(g:St)(e:!Addr)(c:Nat->Heap->Prop)(d:Addr)(W:Nat->Nat->α->Hp->Prop)(n:Nat)(s:Od):Prop:=
 ∃i a o H Z,Inv Y f Z H s/\Kp fr g Z/\c i s.heap/\(∀b∈e,H b=Uc)/\H d=Uc/\s.heap.get? d*>o/\Ob a o/\W i n a H
structure Wa(Y:Cx)(pp:!(Addr×Obj))(tg:Expr)(J:It)(fp:!Addr)(it:Addr)(tn:Nat->Heap->Prop)(d:Addr):Prop where
 hc:Y.calm=Ug
 T:N5 Y.prog Y.w Y.K tg J fp it tn
 df:∀{Hx:Hp},Hx d=Uc->dU Y pp Hx d
 fpk:∀{Hx:Hp} {o:Obj},(∀b∈fp,Hx b=Uc)->∀b∈fp,dU Y ((d,o)::pp) Hx b
def CM(a:Kp fr (bG fr Z) Z5):∀(k:Nat) v,(bG fr Z)[k]?*>(Ud v)->Z5[k]?*>(Ud v):=λk v e=>by
 cases q:fr[k]? with
 | none=>
  unfold bG at e;rw[JB,q]at e;cases e
 | some o=>
  cases o with
  | none=>
   unfold bG at e;rw[JB,q]at e;simp at e
  | some j=>rw[a.2 k j q];show e
def Wa.kept(A:Wa Y pp tg J fp it tn d)(f:tn i h7)(c:Inv Y (((d,o)::pp)++eB fp h7) Z H s):tn i s.heap/\(∀b∈fp,H b=Uc)/\s.heap.get? d*>o/\H d=Uc/\Inv Y pp Z H s:=by
 have g:∀p∈(d,o)::pp,p∈Y.pn++(((d,o)::pp)++eB fp h7):=λp j=>yaR _ (yaL _ j);have h:∀b∈fp,∀u,h7.get? b*>u->(b,u)∈Y.pn++(((d,o)::pp)++eB fp h7):=λb a u e=>yaR _ (yaR _ (ft a e));have k:=c.pin _ (g _ ymS);show{A.T.keep _ _ _ f λb a u e=>(c.pin _ (h b a u e)).1,λb a=>?_,k.1,k.2.1,c.pins_of λp j=>c.pin p (g p (ymC _ j))};have(u,e,_):=A.T.obj _ _ f b a;show(c.pin _ (h b a u e)).2.1
def Wa.turn{Ob : α->Obj->Prop}{Sz : α->Prop}(hO:∀c o,Ob c o->∀v,o.data ≠ .cell v)(A:Wa Y pp tg J fp it tn d)(hg:PG Y tg g)(hgk:fR fr g){P : α->Hp->Prop}{B : α->(α->Hp->Prop)->St->Hp->Prop}{R e:Od->Prop}
  (hW:∀i m c H,W i m c H->Sz c/\((J.stop i H/\P c H)\/(J.go i H/\∃N : α->Hp->Prop,(∀acc' H',N acc' H'->∃L,L<m/\W (i+1) L acc' H')/\∀x H',J.yld i H x H'->g x (bG fr Z) H' (B c N))))
  (hw:Wk Ob Y pp fr (bG fr Z) fp tn d W n s)
  (Q:∀c o t H O,Inv Y ((d,o)::pp) t H O->Kp fr (bG fr Z) t->Ob c o->Sz c->H d=Uc->P c H->R O)
  (K:∀i c o N h7 t H O,Inv Y (((d,o)::pp)++eB fp h7) t H O->tn (i+1) h7->Kp fr (bG fr Z) t->Ob c o->Sz c->(∀acc' H',N acc' H'->∃L,L<n/\W (i+1) L acc' H')->B c N t H->e O) :
  Oj (Ol Y.prog Y.w) Y.A (Qk (.ref it)) (λr h=>match r with
   | none=>R h
   | some v=>Oj (Ol Y.prog Y.w) Y.A (PD tg (.ref it) v) (λ_ y=>Oj (Ol Y.prog Y.w) Y.A (P0 tg Y.env v) (λ_ U=>e U) Y.xe y) Y.xe h) Y.xe s:=by
 obtain⟨i,c,o,E,Z5,J5,C,X,fr5,j,pl5,l,w5⟩:=hw;have(hz,cs):=hW i n c E w5;have S:Inv Y ((d,o)::pp) Z5 E s:=J5.pins_of λp hp=>by
  rcases ycM hp with z|z
  .subst z;have f:=A.df j;show{pl5,j,f.2.1,f.2.2.1,hO c o l}
  .show J5.pin p (yaR _ z)
 rcases cs with⟨st,q⟩|⟨go,N,hN,step⟩
 .show thn (A.T.done Y rfl rfl rfl A.hc i _ s Z5 E _ S (A.fpk fr5) X st) λr s6 k=>?_;have(hr,J6):=k;subst hr;show Q c o Z5 E s6 J6 C l hz j q
 .show thn (A.T.item Y rfl rfl rfl A.hc i _ s Z5 E _ S (A.fpk fr5) X go) λr s6 k=>?_;have(u,hr,h6):=k;subst hr;show thn h6 λ_ s7 k=>?_;have(x,H7,J7,r7,y7,M,fr7):=k;have J7p:=(J7.weak C.1.symm (CM C)).pinned (A.fpk fr7) (A.T.obj _ _ M);have G:=hgk x (bG fr Z) H7 _ (λZ2 H2=>B c N Z2 H2/\Kp fr (bG fr Z) Z2) (λt H' a b=>⟨a,b⟩) (step x H7 y7);show thn (hg _ s7 (bG fr Z) H7 x u _ J7p r7 G) λ_ s8 k=>?_;have(Z8,H8,J8,q8,kp8):=k;show K i c o N s7.heap Z8 H8 s8 J8 M kp8 l hz hN q8
def Wa.grown{Ob : α->Obj->Prop}{N : α->Hp->Prop}{acc' : α}(A:Wa Y pp tg J fp it tn d)(h:tn (i+1) h7)(j:Kp fr Z0 Z8)(J:Inv Y (((d,o)::pp)++eB fp h7) Z8 H s)(r:∀acc' H',N acc' H'->∃c,c<n/\W (i+1) c acc' H')(w:N acc' H)
  (l:Ou d s.heap h') (e:h'.get? d*>o') (ho:Ob acc' o'):∃m,m<n/\Wk Ob Y pp fr Z0 fp tn d W m {s with heap:=h',toks:=t'}:=by
 have(c,t,w):=r _ _ w;have(u,k,x,g,v):=A.kept h J;have f:=A.df g;have q:∀b∈fp,b≠d:=λb a z=>(A.fpk (o:=o) k b a).2.2.2.2.2 _ (yaR _ ymS) z.symm;show{c,t,i+1,acc',o',H,Z8,v.turned (it:=d) (t':=t') (λb o a e=>(l.2 b a).trans e) g f.2.1 f.2.2.2.1 f.2.2.2.2.1 f.2.2.2.2.2,j,A.T.keep _ _ _ u (λb a o e=>(l.2 b (q b a)).trans e),k,g,e,ho,w}
def Wa.stays{Ob : α->Obj->Prop}{N : α->Hp->Prop}(A:Wa Y pp tg J fp it tn d)(c:tn (i+1) h7)(e:Kp fr Z0 Z8)(J:Inv Y (((d,o)::pp)++eB fp h7) Z8 H s)(h:∀acc' H',N acc' H'->∃a,a<n/\W (i+1) a acc' H')(w:N acc H)
  (ho:Ob acc o):∃m,m<n/\Wk Ob Y pp fr Z0 fp tn d W m s:=by
 have(a,j,w):=h _ _ w;have(k,f,l,g,p):=A.kept c J;show{a,j,i+1,acc,o,H,Z8,p,e,k,f,g,l,ho,w}
abbrev obL(c:!V)(o:Obj):Prop:=∃a n,o=lO a n/\Vals c a
abbrev szL(a:!V):Prop:=a.length<sizeLine
def Er(a:!V)(o:Obj)(h:obL a o):∀v,o.data ≠ .cell v:=by
 have(c,n,rfl,_):=h;show λv z=>by cases z
def Wa.app{N:!V->Hp->Prop}(A:Wa Y pp tg J fp it tn d)(X:PTs Y ifs tc)(L:PE Y elt te)
  (U:Inv Y (((d,o)::pp)++eB fp h7) Z8 H8 s8) (g:tn (i+1) h7) (l:Kp fr Z0 Z8) (a:obL acc o) (hz:szL acc) (C:∀acc' H',N acc' H'->∃E,E<n/\W (i+1) E acc' H')
  (K:tc Z8 H8 λb G=>if b=Ug then te Z8 G λv S=>N (acc++[v]) S else N acc G) :
  Oj (Ol Y.prog Y.w) Y.A (lI ifs Y.env) (λB f=>
   if B=Ug then Oj (Ol Y.prog Y.w) Y.A (eval elt Y.env) (λx j=>
    Oj (Ol Y.prog Y.w) Y.A (call (.builtin "list.append") [.ref d,x]) (λ_ p=>∃m,m<n/\Wk obL Y pp fr Z0 fp tn d W m p) Y.xe j) Y.xe f
   else∃m,m<n/\Wk obL Y pp fr Z0 fp tn d W m f) Y.xe s8:=by
 show thn (X _ s8 Z8 H8 _ U K) λB M u=>?_;have(H9,H,r):=u;cases B with
 | false=>
  rw[if_neg (by decide)]at r|-;show A.stays g l H C r a
 | true=>
  rw[if_pos rfl]at r|-;show thn (L _ M Z8 H9 _ H r) λy P u=>?_;have(v,O,q,s,t):=u;have(e,k,rfl,a):=a;have z:e.toArray.size<=sizeLine:=by rw[Ju,<-a.length];show Li hz
  show wpAny_list_append_plain (hsz:=z) {k,(A.kept g q).2.2.1} λQ c h=>?_;have(Z,c):=c;show A.grown (acc':=acc++[v]) g l q C t h c {e++[y],Z,?_,a.append (.cons s .nil)};have:(e++[y]).toArray=e.toArray.push y:=by simp
  unfold lO;rw[this]
section
variable {X:Cx}{elt tg iter:Expr}{ifs:!Expr}{scope:P5}{pos:Pos}{N':!Str}{fr:! ↑Nat}{wi:TI}{g:TG}{tc:TT}{te:TE}
def sk{Ob : α->Obj->Prop}{Sz : α->Prop}{ho : α->HO}{a0 : α}{o0:Obj}{C:Expr}{new:Sem Oa}(hc:X.calm=Ug)(B:Blk X.env.scope scope X.N N' fr)
  {k:!(Addr×Obj)} {Z:St} {Q:VK} {RI:It->Hp->Prop} {itv:Oa} {f:Od} {E:Oa->Od->Prop} {RR:Oa->Addr->RX->Od->Prop}
  (hnew:∀{Q:Oa->Od->Prop},Q (.ref f.heap.objs.size) {f with heap:=f.heap.push o0}->Oj (Ol X.prog X.w) X.A new Q E f)
  (hst:∀{it a:Oa} {env:Env} {R:RX->Od->Prop} {s:Od},Pq (Ol X.prog X.w) X.A (.compLoop C 0 it a env) R s->Oj (Ol X.prog X.w) X.A (SY it) (λit' m=>Pq (Ol X.prog X.w) X.A (.compLoop C 0 it' a env) R m) (Rk (Ol X.prog X.w) X.A env λx m=>R (.error x) m) s->Pq (Ol X.prog X.w) X.A (.compStart C 0 it a env) R s)
  (h0:Ob a0 o0) (hf:(f.heap.push o0).get? f.heap.objs.size*>o0) (hho:∀{a o H h d},Ob a o->Sz a->(d==Ps)=Ue->h.get? d*>o->NI X.prog X.w H h d (ho a))
  (h2:PIE X k Z tg RI itv f)
  (hRR:∀(d C:Addr) (v:V) (H':Hp) (m:Od) m',Inv X k Z H' m->v=.ref d->Q v H'->m.heap.Ns C m'->dU X k H' C->C≠d->RR (.ref d) C (.ok .next) m)
  (loop:∀(L:Bk) (it:Addr) (l:!Addr) (K:Nat->Heap->Prop) (J:It) (j:Hp) (d:Addr) (s4:Od),Wa (cxB X scope N' L) [] tg J l it K d->RI J j ->
   (∀W n,W 0 n a0 j->Wk Ob (cxB X scope N' L) [] fr (bG fr Z) l K d W n s4) ->
   (∀a o Z' H m,Inv (cxB X scope N' L) [(d,o)] Z' H m->Kp fr (bG fr Z) Z'->Ob a o->Sz a->H d=Uc->(∀d,H d=Uc->Q (.ref d) (upd H d (ho a)))->RR (.ref d) L.C (.ok .next) m) ->
   Pq (Ol X.prog X.w) X.A (.compLoop C 0 (.ref it) (.ref d) (cxB X scope N' L).env) (RR (.ref d) L.C) s4) :
  Oj (Ol X.prog X.w) X.A new (λa U=>Oj (Ol X.prog X.w) X.A (Qa scope X.env.globals (bT X.env scope.names []) [] X.env.qual Uc .none (Ud X.env)) (λy S=>
   Pq (Ol X.prog X.w) X.A (.compStart C 0 itv a {y with scope:=Rj scope X.env}) (RR a y.locals) S) E U) E f:=by
 obtain⟨it,l,K,J,j,rfl,M,T,st2,f2,w0⟩:=h2;show hnew ?_;have u:(f.heap.objs.size==Ps)=Ue:=beq_eq_false_iff_ne.mpr (Op (JG (Mr (by decide) (M.mod.glob.keeps M.bk).lt)));generalize hd:f.heap.objs.size=d at u hf;have fd:dU X k j d:=M.fpOk (by rw[hd];show JA _) (M.hok.fresh (by rw[hd];show JA _));have Y:∀b∈l,b≠d:=λb c=>by
  have(o,e,_):=T.obj _ _ st2 b c;rw[<-hd];show JG (Oh e)
 have hd0:X.s₀.heap.objs.size<=d:=by rw[<-hd];show M.sz
 have P:∀b o,f.heap.get? b*>o->(f.heap.push o0).get? b*>o:=λb o e=>Oc _ e;have I3:Inv X k Z j {f with heap:=f.heap.push o0}:=M.kept (t':=f.toks) P;have t:K 0 (f.heap.push o0):=T.keep _ _ _ st2 λb _ o e=>P b o e;generalize hs3:({f with heap:=f.heap.push o0}:Od)=s3 at I3;have G:s3.heap.get? d*>o0:=by rw[<-hs3];show hf
 replace t:K 0 s3.heap:=by rw[<-hs3];show t
 have hex:∀b∈d::l,dU X k j b/\∃o,s3.heap.get? b*>o:=λb c=>by
  rcases ycM c with e|c;subst e;show{fd,_,G}
  .have(o,e,_):=T.obj _ _ t b c;show{f2 b c,o,e}
 show iK λh4 hns hk hcl=>?_;have J0:=I3.enter (ex:=d::l) (xe:=λ_ _=>False) B hex hns hk hcl;generalize hCs:Oz (s3.heap.objs.size+1) scope.names (bT X.env scope.names [])=cells at J0;have hCd:s3.heap.objs.size≠d:=λz=>by have:=Oh G;rw[z]at this;show KA _ this
 have r:Inv (cxB X scope N' {cells,s3.heap.objs.size,s3,j,d::l,X.pn++k}) [] (bG fr Z) j {s3 with heap:=h4}:=J0;have fpk:∀{Hx:Hp} {pq:!(Addr×Obj)} (b),b∈d::l->Hx b=Uc->(∀p∈(X.pn++k)++pq,p.1≠b)->dU (cxB X scope N' {cells,s3.heap.objs.size,s3,j,d::l,X.pn++k}) pq Hx b:=λb c hn hp=>
  {hn,(r.ok.exf b c).1,r.ok.exfs b c,.inl c,(r.ok.exf b c).2,hp}
 have st4:K 0 h4:=T.keep _ _ _ t λb _ o e=>hk b o e;have L4:=loop {cells,s3.heap.objs.size,s3,j,d::l,X.pn++k} it l K J j d {s3 with heap:=h4} {hc,T,λ{Hx} hn=>fpk d ymS hn λp hp=>fd.2.2.2.2.2 p (by rwa [Kg]at hp),λ{Hx o} hn b c=>fpk b (ymC _ c) (hn b c) λp hp=>by
   rcases yaM hp with z|z;show(f2 b c).2.2.2.2.2 p z
   .rw[ysM z];show Op (Y b c)} w0
  (λW n w=>{0,a0,o0,j,bG fr Z,r,Kp.refl _ _,st4,λb c=>(f2 b c).1,fd.1,hk d _ G,h0,w}) λa o Z' H5 s6 J6 _ va5 hz O q=>by
   have(e6,n6,_):=J6.pin (d,o) (yaR _ ymS);have I6:Inv X k Z H5 s6:=I3.leave (λb c=>(hex b c).1) J6;have I6t:Inv X k Z (upd H5 d (ho a)) s6:=I6.track ⟨O,fd.2⟩ (.inr hd0) hd0 (hho va5 hz u e6);have(m6,hn6,_):=J6.loc;show hRR d s3.heap.objs.size (.ref d) _ s6 m6 I6t rfl (q d O) hn6 ?_ hCd;show I3.fpOk (JA _) (by rw[aT hCd];show J6.free)
 show hst L4 (T.self X.A 0 _ _ _ st4 L4)
def GU{acc o H h d}(i:obL acc o)(c:szL acc)(_:(d==Ps)=Ue)(e:h.get? d*>o):NI X.prog X.w H h d (.lst acc):=by
 have(a,n,rfl,f):=i;show{Li c,a,n,f,e}
def lS(hc:X.calm=Ug)(B:Blk X.env.scope scope X.N N' fr)
  (hg:∀b,PG (cxB X scope N' b) tg g) (L:fR fr g) (ht:∀b,PTs (cxB X scope N' b) ifs tc) (he:∀b,PE (cxB X scope N' b) elt te)
  {t:!(Addr×Obj)} {Z:St} {Q:VK} {k:Oa} {U:Od} {E:Oa->Od->Prop} {RR:Oa->Addr->RX->Od->Prop}
  (h2:PIE X t Z tg (λJ H1=>∃W:Nat->Nat->!V->Hp->Prop,(∃m,W 0 m [] H1)/\∀i m c H,W i m c H->c.length<sizeLine /\
   ((J.stop i H/\∀d,H d=Uc->Q (.ref d) (upd H d (.lst c))) \/
   (J.go i H/\∃N:!V->Hp->Prop,(∀acc' H',N acc' H'->∃l,l<m/\W (i+1) l acc' H') /\
    ∀x H',J.yld i H x H'->g x (bG fr Z) H' λP M=>tc P M λb S=>if b=Ug then te P S λv H4=>N (c++[v]) H4 else N c S))) k U)
  (G:∀(d C:Addr) (v:V) (H':Hp) (p:Od) l,Inv X t Z H' p->v=.ref d->Q v H'->p.heap.Ns C l->dU X t H' C->C≠d->RR (.ref d) C (.ok .next) p) :
  Oj (Ol X.prog X.w) X.A (newList []) (λc j=>Oj (Ol X.prog X.w) X.A (Qa scope X.env.globals (bT X.env scope.names []) [] X.env.qual Uc .none (Ud X.env)) (λe h=>
   Pq (Ol X.prog X.w) X.A (.compStart (.ListComp elt [{tg,iter,ifs,0}] scope pos) 0 k c {e with scope:=Rj scope X.env}) (RR c e.locals) h) E j) E U:=
 sk (Ob:=obL) (Sz:=szL) (ho:=.lst) (a0:=[]) (o0:=lO [] 0) hc B (λq=>OC q) (λa b=>codeAny_compStart_list a b) {[],0,Xr,.nil} (Og _ rfl) GU h2 G λr it fp tn J M d s4 A z wk u=>by
  obtain⟨W,⟨O,z⟩,f⟩:=z;show ie (Wk obL (cxB X scope N' r) [] fr (bG fr Z) fp tn d W) (λn s hw=>A.turn Er (hg r) L f hw u λi c o N h7 Z' H p J8 K y va hz hN Y=>A.app (ht r) (he r) J8 K y va hz hN Y) O (wk W O z)
def BF(z:X.calm=Ug)(B:Blk X.env.scope scope X.N N' fr)(O:PI X tg iter wi)
  (G:∀b,PG (cxB X scope N' b) tg g) (c:fR fr g) (L:∀b,PTs (cxB X scope N' b) ifs tc) (l:∀b,PE (cxB X scope N' b) elt te)
  (hs:∀x,OX iter X.env x=pure x:=by intro _;rfl):PE X (.ListComp elt [{tg,iter,ifs,0}] scope pos) (z7 wi fr g tc te):=by
 intro f s Z H Q I h;rw[eval_ListComp];show PX (use:=Uc) rfl hs (gb (I.freeCells B)) B.kind B.locl (thn (O f s Z H _ I h) λv S J=>thn J λP U i=>?_);show lS (RR:=λa C=>TX (Ol X.prog X.w) X.A X.xe Uc (EP X f Z Q) a C) z B G c L l i ?_;intro d C v u E m y r q j p M;show{m,j,λk K=>?_};have(c0,c1,c2,c3,c4,c5):=p;show{v,u,y.turned (it:=C) (t':=E.toks) (λb o t e=>(K.2 b t).trans e) c0 c1 c3 c4 c5,by rw[r];rfl,q}
def sS(hc:X.calm=Ug)(E:X.N.Nodup)(m:X.N[i]?*>x)(r:X.env.scope.names.lookup x*>.local)(B:Blk X.env.scope scope X.N N' fr)(hi:PI X tg iter wi)
  (hg:∀b,PG (cxB X scope N' b) tg g) (p:fR fr g) (ht:∀b,PTs (cxB X scope N' b) ifs tc) (J:∀b,PE (cxB X scope N' b) elt te)
  (f:Q0 (.ListComp elt [{tg,iter,ifs,0}] scope pos) (Ud (.Name x pos')) spos.line X.env=pure Ug:=by rfl)
  (hs:∀x,OX iter X.env x=pure x:=by intro _;rfl):PS X (.Assign [.Name x pos'] (.ListComp elt [{tg,iter,ifs,0}] scope pos) spos) (Cz (z7 wi fr g tc te) (oe i)):=by
 intro k s Z H D I h;rw[exec_Assign_Name_used _ _ _ _ f];show NO (PK (NO ?_));change Oj _ _ (do let _ <-comprehension (.ListComp elt [{tg,iter,ifs,0}] scope pos) scope X.env _ (newList []) Ue (eval iter X.env) (Ud (P0 (.Name x pos') X.env))) _ _ s;show NO (OB (PX (use:=Ud (P0 (.Name x pos') X.env)) (Q:=λ_ c=>SP X k D .next c) rfl hs (gb (I.freeCells B)) B.kind B.locl (thn (hi k s Z H _ I h) λv s1 h1=>thn h1 λitv s2 u=>?_)) (λ_ c t=>Of (Of t)) λ_ _ e=>e);show lS (Q:=λv K=>oe i v Z K D.nx) (RR:=λj C=>TX (Ol X.prog X.w) X.A X.xe (Ud (P0 (.Name x pos') X.env)) (λ_ c=>SP X k D .next c) j C) hc B hg p ht J u ?_;intro d C v H' c L I' O q y M hCd;have(c0,c1,c2,c3,c4,c5):=M;subst O;show R8 (oQ I' E m (.inl r) (show RelV (.ref d) (.ref d)from rfl) (λU Y ⟨a,sa,ha⟩=>?_) (.inr r));have l:C≠a:=by
  rcases ha with z|z;rw[z];show c1;show λP=>c4 x a z P.symm
 show{L,y.sameBut sa l,λG sb=>?_};show{_,H',Y.turned (it:=C) (t':=U.toks) (λb o S e=>(sb.2 b S).trans e) c0 c1 c3 c4 c5,q}
end
inductive D where
 | int (i:Int)|str (x:Str)|tup (ds:!D)
mutual
def Rep(K:yF)(H:Hp):D->V->Prop
 | .int i,v=>v=.int i
 | .str x,v=>v=.str x
 | .tup d,v=>∃a c,v=.ref a/\SqT K H a c/\NM K H d c
def NM(K:yF)(H:Hp):!D->!V->Prop
 | [],a=>a=[]
 | d::c,a=>∃x r,a=x::r/\Rep K H d x/\NM K H c r
end
mutual
noncomputable def D.depth:D->Nat
 | .int _=>0
 | .str _=>0
 | .tup ds=>aX ds+1
noncomputable def aX:!D->Nat
 | []=>0
 | d::ds=>max d.depth (aX ds)
end
def nZ:∀{a:!D},d∈a->d.depth<=aX a
 | [],h=>by cases h
 | e::a,h=>by
  rw[aX];rcases ycM h with z|z;rw[z];show MB _ _;show Ks (nZ z) (Mm _ _)
abbrev Ext(H H':Hp):Prop:=∀b o,H b*>o->(∃a,o=.tup a \/ ∃c,o=.frz c (.tup a))->H' b*>o
def Ext.trans(a:Ext H H1)(b:Ext H1 H2):Ext H H2:=λc o h k=>b c o (a c o h k) k
def NM.length{K:yF}{H:Hp}:∀{c:!D} {a:!V},NM K H c a->a.length=c.length
 | [],a,h=>by rw[NM]at h;rw[h];rfl
 | d::c,a,h=>by
  rw[NM]at h;have(x,r,rfl,_,e):=h;rw[JH,JH,e.length]
def Rep.tup_iff{K:yF}{H:Hp}{d:!D}{v:V}:Rep K H (.tup d) v ↔ ∃a c,v=.ref a/\SqT K H a c/\NM K H d c:=by rw[Rep]
def NP.laid(a:H p=Uc):NP H (upd H p o):=λb u e=>by rw[aT (bH e a)];show e
section
section
variable {X:Cx}{Ub:!(Addr×Obj)}{Z:St}{H:Hp}{s:Od}
mutual
theorem Rep.inj(I:Inv X Ub Z H s):∀{d e:D} {v:V},Rep X.K H d v->Rep X.K H e v->d=e
 | .int i,.int j,v,h,c=>by dsimp[Rep]at h c;subst h;cases c;rfl
 | .int i,.str j,v,h,c=>by dsimp[Rep]at h c;subst h;cases c
 | .int i,.tup j,v,h,c=>by dsimp[Rep]at h c;subst h;have(_,_,z,_):=c;cases z
 | .str i,.int j,v,h,c=>by dsimp[Rep]at h c;subst h;cases c
 | .str i,.str j,v,h,c=>by dsimp[Rep]at h c;subst h;cases c;rfl
 | .str i,.tup j,v,h,c=>by dsimp[Rep]at h c;subst h;have(_,_,z,_):=c;cases z
 | .tup i,.int j,v,h,c=>by dsimp[Rep]at h c;subst c;have(_,_,z,_):=h;cases z
 | .tup i,.str j,v,h,c=>by dsimp[Rep]at h c;subst c;have(_,_,z,_):=h;cases z
 | .tup o,.tup q,v,h,c=>by
  dsimp[Rep]at h c;have(a,p,rfl,k,g):=h;have(b,m,z,l,f):=c;cases z;rw[I.tuple_inj l k]at f;rw[NM.inj I g f]
theorem NM.inj(I:Inv X Ub Z H s):∀{f g:!D} {c:!V},NM X.K H f c->NM X.K H g c->f=g
 | [],[],c,h,a=>rfl
 | [],e::g,c,h,a=>by dsimp[NM]at h a;subst h;have(_,_,z,_):=a;cases z
 | d::f,[],c,h,a=>by dsimp[NM]at h a;subst a;have(_,_,z,_):=h;cases z
 | d::f,e::g,c,h,a=>by
  dsimp[NM]at h a;have(x,r,rfl,j,i):=h;have(y,q,z,k,l):=a;cases z;rw[Rep.inj I j k,NM.inj I i l]
end
open SeqAt in
mutual
theorem su(I:Inv X Ub Z H s):∀(d e:D) {x y:V} {u v:Oa} {A:Ot},Rep X.K H d x->Rep X.K H e y->RelV x u->RelV y v->A.units+d.depth<OV->∃b,(b=Ug↔d=e)/\EqAt A s u v b
 | .int i,.int j,x,y,u,v,A,h,c,r,g,_=>by
  dsimp[Rep]at h c;subst h c;have(t,rfl):=r;have(q,rfl):=g;show{_,by simp,EqAt.int_int i t j q}
 | .int i,.str j,x,y,u,v,A,h,c,r,g,_=>by
  dsimp[Rep]at h c;subst h c;have(t,rfl):=r;have(q,rfl):=g;show{_,by simp,EqAt.int_str i t j q}
 | .str i,.int j,x,y,u,v,A,h,c,r,g,_=>by
  dsimp[Rep]at h c;subst h c;have(t,rfl):=r;have(q,rfl):=g;show{_,by simp,EqAt.str_int i t j q}
 | .str i,.str j,x,y,u,v,A,h,c,r,g,_=>by
  dsimp[Rep]at h c;subst h c;have(t,rfl):=r;have(q,rfl):=g;show{_,by simp,EqAt.str_str i t j q}
 | .int i,.tup j,x,y,u,v,A,h,c,r,g,o=>by
  dsimp[Rep]at h c;subst h;have(t,rfl):=r;have(a,E,rfl,m,_):=c;cases g;have(f,_,p,_):=I.tuple m;show{Ue,by simp,EqAt.int_tuple i t (show s.heap.IsTuple a f.toArray from p) (KZ (KD _ _) o)}
 | .str i,.tup j,x,y,u,v,A,h,c,r,g,o=>by
  dsimp[Rep]at h c;subst h;have(t,rfl):=r;have(a,E,rfl,m,_):=c;cases g;have(f,_,p,_):=I.tuple m;show{Ue,by simp,EqAt.str_tuple i t (show s.heap.IsTuple a f.toArray from p) (KZ (KD _ _) o)}
 | .tup j,.int i,x,y,u,v,A,h,c,r,g,o=>by
  dsimp[Rep]at h c;subst c;have(t,rfl):=g;have(a,E,rfl,m,_):=h;cases r;have(f,_,p,_):=I.tuple m;show{Ue,by simp,EqAt.tuple_int i t (show s.heap.IsTuple a f.toArray from p) (KZ (KD _ _) o)}
 | .tup j,.str i,x,y,u,v,A,h,c,r,g,o=>by
  dsimp[Rep]at h c;subst c;have(t,rfl):=g;have(a,E,rfl,m,_):=h;cases r;have(f,_,p,_):=I.tuple m;show{Ue,by simp,EqAt.tuple_str i t (show s.heap.IsTuple a f.toArray from p) (KZ (KD _ _) o)}
 | .tup C,.tup O,x,y,u,v,A,h,c,r,g,o=>by
  by_cases w:u=v
  .subst w;have L:x=y:=r.inj g;subst L;show{Ug,by simp[Rep.inj I h c],EqAt.same u}
  .dsimp[Rep]at h c;have(a,E,rfl,m,M):=h;have(b,ys,rfl,Y,N):=c;cases r;cases g;have(f,P,p,_):=I.tuple m;have(k,B,Q,_):=I.tuple Y;have G:a≠b:=λz=>w (by rw[z]);have J:A.in1.units+aX C<OV:=by
    have:A.units+(aX C+1)<OV:=by rw[D.depth]at o;show o
    change A.units+1+aX C<OV;omega
   have(e,U,S):=iR I C O (A:=A.in1) M N P B J;have R:=RcAt.tuples (A:=A) (s:=s) (l:=a) (b:=b) (items:=f.toArray) (items2:=k.toArray) (e:=e) (show s.heap.IsTuple a f.toArray from p) (show s.heap.IsTuple b k.toArray from Q) (KZ (KD _ _) o) (λj h1 m=>by
    simpa using S j (f[j]'(by exists h1)) (k[j]'(by exists m)) ∅ ∅)
   show{_,?_,EqAt.of_refs G R};rw[U.symm];have l1:f.toArray.size=C.length:=by rw[Ju,<-P.length,M.length]
   have l2:k.toArray.size=O.length:=by rw[Ju,<-B.length,N.length]
   rw[l1,l2];simp
theorem iR(I:Inv X Ub Z H s):∀(a c:!D) {k i:!V} {us vs:!Oa} {A:Ot},NM X.K H a k->NM X.K H c i->Vals k us->Vals i vs->A.units+aX a<OV ->
  ∃e:Nat->Bool,(((JE (min a.length c.length)).all e=Ug/\a.length=c.length)↔D.tup a=D.tup c)/\∀(j:Nat) u v,us[j]?*>u->vs[j]?*>v->EqAt A s u v (e j)
 | [],c,k,i,us,vs,A,h,g,r,l,_=>by
  rw[NM]at h;subst h;cases r;show{λ_=>Ug,?_,λj u v e=>by simp at e};cases c<;>simp
 | d::a,[],k,i,us,vs,A,h,g,r,l,_=>by
  rw[NM]at g;subst g;cases l;show{λ_=>Ug,by simp,λj u v _ e=>by simp at e}
 | d::a,e::c,k,i,us,vs,A,h,g,r,l,G=>by
  dsimp[NM]at h g;have(x,q,rfl,E,B):=h;have(y,Y,rfl,P,L):=g;cases r with
  | cons U S=>
   cases l with
   | cons M Q=>
    rw[aX]at G;have m1:=MB d.depth (aX a);have m2:=Mm d.depth (aX a);have(b,N,C):=su I d e (A:=A) E P U M ⋯;have(f,J,O):=iR I a c (A:=A) B L S Q ⋯;show{λj=>match j with|0=>b|j+1=>f j,?_,λj u v w z=>?_}
    .have m:((JE (min a.length c.length)).all f=Ug/\a.length=c.length)↔a=c:=by rw[J];simp
     rw[JH,JH,Nat.succ_min_succ,Ms,Ll,Nz];dsimp[D.tup.injEq,Kw.injEq,Jv,Nat.add_right_cancel_iff];rw[<-m,<-N];constructor;rintro⟨⟨o,p⟩,t⟩;show⟨o,p,t⟩;rintro⟨o,p,t⟩;show{⟨o,p⟩,t}
    .cases j with
     | zero=>simp at w z;subst w z;show C
     | succ j=>show O j u v (by exists w) (by exists z)
end
end
end
section
variable {X:Cx}
abbrev HJ(K:yF):R2:=λx y H Q=>∃a c,Rep K H (.tup a) x/\Rep K H (.tup c) y/\aX a<=50/\∀b,(b=Ug↔a=c)->Q (.bl b) H
abbrev HP(K:yF):R2:=λx y H Q=>∃a c,Rep K H (.tup a) x/\Rep K H (.tup c) y/\aX a<=50/\∀b,(b=Ug↔a≠c)->Q (.bl b) H
def Et(S:X.A.units+64<OV):OpR X (OH .Eq) (HJ X.K):=by
 intro P s Z H x y v u Q I N G h;have(f,g,m,k,Y,q):=h;rw[Rep.tup_iff]at m k;have(a,U,rfl,C,t):=m;have(b,O,rfl,M,B):=k;cases N;cases G;have(d,z,p,_):=I.tuple C;have(c,i,E,_):=I.tuple M;have o:X.A.in1.units+aX f<OV:=by change X.A.units+1+aX f<OV;omega
 have(e,L,J):=iR I f g (A:=X.A.in1) t B z i o;have R:=Tj.tuples (A:=X.A) (s:=s) (l:=a) (b:=b) (items:=d.toArray) (items2:=c.toArray) (e:=e) (show s.heap.IsTuple a d.toArray from p) (show s.heap.IsTuple b c.toArray from E) ⋯ (λj m k=>by
  simpa using J j (d[j]'(by exists m)) (c[j]'(by exists k)) ∅ ∅)
 show R X.prog X.w X.xe _ {.bl _,H,I,Xr,q _ ?_};have l1:d.toArray.size=f.length:=by rw[Ju,<-z.length,t.length]
 have l2:c.toArray.size=g.length:=by rw[Ju,<-i.length,B.length]
 have r:((JE (min f.length g.length)).all e=Ug/\f.length=g.length)↔f=g:=by rw[L];simp
 rw[l1,l2,<-r];simp
def Ez(S:X.A.units+64<OV):OpR X (OH .NotEq) (HP X.K):=by
 intro P s Z H x y v u Q I N G h;have(f,g,m,k,Y,q):=h;rw[Rep.tup_iff]at m k;have(a,U,rfl,C,t):=m;have(b,O,rfl,M,B):=k;cases N;cases G;have(d,z,p,_):=I.tuple C;have(c,i,E,_):=I.tuple M;have o:X.A.in1.units+aX f<OV:=by change X.A.units+1+aX f<OV;omega
 have(e,L,J):=iR I f g (A:=X.A.in1) t B z i o;have R:=TZ (A:=X.A) (s:=s) (l:=a) (b:=b) (items:=d.toArray) (items2:=c.toArray) (e:=e) (show s.heap.IsTuple a d.toArray from p) (show s.heap.IsTuple b c.toArray from E) ⋯ (λj m k=>by
  simpa using J j (d[j]'(by exists m)) (c[j]'(by exists k)) ∅ ∅)
 show R X.prog X.w X.xe _ {.bl _,H,I,Xr,q _ ?_};have l1:d.toArray.size=f.length:=by rw[Ju,<-z.length,t.length]
 have l2:c.toArray.size=g.length:=by rw[Ju,<-i.length,B.length]
 have r:((JE (min f.length g.length)).all e=Ug/\f.length=g.length)↔f=g:=by rw[L];simp
 rw[l1,l2,ne_eq,<-not_congr r,Kf,<-M9,Jv,beq_iff_eq]
abbrev HK(K:yF):R2:=λx y H Q=>∃a b f e d g,x=.ref a/\y=.ref b/\SqL K H a f/\SqL K H b e/\NM K H d f/\NM K H g e/\aX d<=50/\∀c,(c=Ug↔d=g)->Q (.bl c) H
abbrev HQ(K:yF):R2:=λx y H Q=>∃a b f e d g,x=.ref a/\y=.ref b/\SqL K H a f/\SqL K H b e/\NM K H d f/\NM K H g e/\aX d<=50/\∀c,(c=Ug↔d≠g)->Q (.bl c) H
def Eu(Y:X.A.units+64<OV):OpR X (OH .Eq) (HK X.K):=by
 intro U s Z H x y v u Q I O J h;obtain⟨a,b,xs,S,f,g,rfl,rfl,E,N,t,C,hd,q⟩:=h;cases O;cases J;have(d,B,p,_):=I.list E;have(c,i,r,_):=I.list N;have m:X.A.in1.units+aX f<OV:=by change X.A.units+1+aX f<OV;omega
 have(e,M,L):=iR I f g (A:=X.A.in1) t C B i m;have l1:d.toArray.size=f.length:=by rw[Ju,<-B.length,t.length]
 have l2:c.toArray.size=g.length:=by rw[Ju,<-i.length,C.length]
 have o:((JE (min f.length g.length)).all e=Ug/\f.length=g.length)↔f=g:=by rw[M];simp
 by_cases k:f.length=g.length
 .have R:=Tj.lists (A:=X.A) (s:=s) (l:=a) (b:=b) (items:=d.toArray) (items2:=c.toArray) (e:=e) p.isList r.isList (by rw[l1,l2];show k) ⋯ (λj P G=>by
   simpa using L j (d[j]'(by exists P)) (c[j]'(by exists G)) ∅ ∅)
  show R X.prog X.w X.xe _ {.bl _,H,I,Xr,q _ ?_};rw[l1,<-o,<-k,M3];simp
 .have R:=Tj.lists_lengths (A:=X.A) (s:=s) (l:=a) (b:=b) (items:=d.toArray) (items2:=c.toArray) p.isList r.isList (by rw[l1,l2];exists k) ⋯;show R X.prog X.w X.xe _ {.bl _,H,I,Xr,q _ ?_};constructor;intro z;cases z;intro z;show absurd (by rw[z]) k
def EA(Y:X.A.units+64<OV):OpR X (OH .NotEq) (HQ X.K):=by
 intro U s Z H x y v u Q I O J h;obtain⟨a,b,xs,S,f,g,rfl,rfl,E,N,t,C,hd,q⟩:=h;cases O;cases J;have(d,B,p,_):=I.list E;have(c,i,r,_):=I.list N;have m:X.A.in1.units+aX f<OV:=by change X.A.units+1+aX f<OV;omega
 have(e,M,L):=iR I f g (A:=X.A.in1) t C B i m;have l1:d.toArray.size=f.length:=by rw[Ju,<-B.length,t.length]
 have l2:c.toArray.size=g.length:=by rw[Ju,<-i.length,C.length]
 have o:((JE (min f.length g.length)).all e=Ug/\f.length=g.length)↔f=g:=by rw[M];simp
 by_cases k:f.length=g.length
 .have R:=T4 (A:=X.A) (s:=s) (l:=a) (b:=b) (items:=d.toArray) (items2:=c.toArray) (e:=e) p.isList r.isList (by rw[l1,l2];show k) ⋯ (λj P G=>by
   simpa using L j (d[j]'(by exists P)) (c[j]'(by exists G)) ∅ ∅)
  show R X.prog X.w X.xe _ {.bl _,H,I,Xr,q _ ?_};rw[l1,ne_eq,<-not_congr o,<-k,M3];simp
 .have R:=Tk (A:=X.A) (s:=s) (l:=a) (b:=b) (items:=d.toArray) (items2:=c.toArray) p.isList r.isList (by rw[l1,l2];exists k) ⋯;show R X.prog X.w X.xe _ {.bl _,H,I,Xr,q _ ?_};constructor;intro _ z;show absurd (by rw[z]) k;intro _;rfl
open Classical in
abbrev isD(K:yF) (H:Hp) (d:D) (u:Oa):Bool:=decide (∃v,RelV v u/\Rep K H d v)
open Classical in
def ud{K:yF}{H:Hp}{d:D}{u:Oa}:isD K H d u=Ug ↔ ∃v,RelV v u/\Rep K H d v:=by
 unfold isD;show decide_eq_true_iff
def jC(I:Inv X Ub Z H s)  : ∀{c:!D} {a:!V} {us:!Oa},NM X.K H c a->Vals a us->(us.any (isD X.K H d)=Ug↔d∈c)
 | [],a,us,h,r=>by rw[NM]at h;subst h;cases r;simp
 | e::c,a,us,h,r=>by
  rw[NM]at h;have(x,q,rfl,g,j):=h;cases r with
  | @cons _ k _ o f m=>
   rw[Mg,LF,jC I j m,JV];have:isD X.K H d k=Ug↔d=e:=by
    rw[ud];constructor
    .rintro⟨v,l,i⟩;rw[l.inj f]at i;show Rep.inj I i g
    .intro z;subst z;show⟨x,f,g⟩
   rw[this]
def ik(I:Inv X Ub Z H s)(l:Rep X.K H d x)(m:RelV x v)(a:A.units+aX ds<OV) :
  ∀{j:!D} {c:!V} {us:!Oa},(∀e∈j,e∈ds)->NM X.K H j c->Vals c us->∀u∈us,OA A s u v (isD X.K H d u)
 | [],c,us,_,h,r=>by rw[NM]at h;subst h;cases r;intro u a;cases a
 | e::j,c,us,p,h,r=>by
  rw[NM]at h;have(y,q,rfl,f,t):=h;cases r with
  | cons k G=>
   intro u g;rcases ycM g with z|z
   .subst z;have(b,J,B):=su I e d (A:=A) f l k m (KZ (MR (nZ (p e ymS)) _) a);have:isD X.K H d u=b:=by
     have E:isD X.K H d u=Ug↔e=d:=by
      rw[ud];constructor
      .rintro⟨w,i,o⟩;rw[i.inj k]at o;show(Rep.inj I o f).symm
      .intro z;subst z;show⟨y,k,f⟩
     rw[KS,E,J]
    rw[this];show B
   .show ik I l m a (λC L=>p C (ymC _ L)) t G u z
abbrev B2(K:yF)(c:Bool):R2:=λx y H Q=>∃p e d a,y=.ref p/\(SqL K H p e\/SqT K H p e)/\Rep K H d x/\NM K H a e/\aX a<=50/\∀b,(b=Ug↔(if c=Ug then d∉a else d∈a))->Q (.bl b) H
def Ew(t:X.A.units+64<OV):OpR X (OH .In) (B2 X.K Ue):=by
 intro w s Z H x y v u Q I m o h;obtain⟨p,B,d,l,rfl,c,k,g,r,q⟩:=h;cases o;have e:X.A.in1.units+aX l<OV:=by change X.A.units+1+aX l<OV;omega
 rcases c with c|c
 .have(a,f,i,_):=I.list c;show SF (isD X.K H d) i.isList (λy j=>ik I k m e (λ_ z=>z) g f y (by exists j)) {.bl _,H,I,Xr,q _ ?_};rw[if_neg (by decide),<-jC I g f];simp
 .have(a,f,i,_):=I.tuple c;show Sr (isD X.K H d) (show s.heap.IsTuple p a.toArray from i) (λy j=>ik I k m e (λ_ z=>z) g f y (by exists j)) {.bl _,H,I,Xr,q _ ?_};rw[if_neg (by decide),<-jC I g f];simp
def vN(t:X.A.units+64<OV):OpR X (OH .NotIn) (B2 X.K Ug):=by
 intro w s Z H x y v u Q I m o h;obtain⟨p,B,d,l,rfl,c,k,g,r,q⟩:=h;cases o;have e:X.A.in1.units+aX l<OV:=by change X.A.units+1+aX l<OV;omega
 rcases c with c|c
 .have(a,f,i,_):=I.list c;show R0 (isD X.K H d) i.isList (λy j=>ik I k m e (λ_ z=>z) g f y (by exists j)) {.bl _,H,I,Xr,q _ ?_};rw[if_pos rfl,<-jC I g f];simp
 .have(a,f,i,_):=I.tuple c;show RG (isD X.K H d) (show s.heap.IsTuple p a.toArray from i) (λy j=>ik I k m e (λ_ z=>z) g f y (by exists j)) {.bl _,H,I,Xr,q _ ?_};rw[if_pos rfl,<-jC I g f];simp
abbrev rW(i j:Int):Prop:=0<j/\j<2^64
def vM:OpR X (OQ .FloorDiv) (rI rW λi j=>.int (i / j)):=opI λi j _ _ _ _ _ a q=>by
 have f:(0:Int)<j:=a.1;have e:j<2^64:=a.2;show floordiv_int ⋯ (by rw[L8 i ⋯];show q) (.inl (PyProof.noPylong_of_log2 ?_));have c:j.natAbs<2^64:=by omega
 have d:j.natAbs≠0:=by omega
 have:=(Nat.log2_lt d).mpr c;omega
def E6(he:PE X e te):PI X tg e (λZ H R=>te Z H λx M=>∃z:Str,x=.str z/\R {λi _=>i<z.cps.size,λi H y H'=>H'=H/\∃c,z.cps[i]?*>c/\y=.str {#[c]},λi _=>z.cps.size<=i} M):=by
 intro Ub s Z H R I h;show thn (he Ub s Z H _ I h) λv a z9=>?_;have(x,M,N,r1,q1):=z9;have(z,rfl,q):=q1;have(t,rfl):=r1;have j:∀(n:String) (o:Obj),(["enumerate","zip","dict_itemiterator","dict_reverseitemiterator","odict_iterator","itertools.zip_longest","itertools.pairwise"].contains n=Ue) ->
   o={cls:=.type n,data:=.fields #[.str z t,.int 0 0]}->(∀G:Ot,G.handled=Uc->SZ X.prog X.w G a.heap.objs.size [a.heap.objs.size] [a.heap.objs.size] z.cps.size (SignAt z) (λi h=>h.IsStrIter a.heap.objs.size n z t i)) ->
   (∀(A:Ot) (i:Nat) (s:Od) (Q:Oa->Od->Prop) (E:Oa->Od->Prop),s.heap.IsStrIter a.heap.objs.size n z t i->Q (.ref a.heap.objs.size) s->Oj (Ol X.prog X.w) A (SY (.ref a.heap.objs.size)) Q E s) ->
   PIE X Ub Z tg R (.ref a.heap.objs.size) {a with heap:=a.heap.push o}:=by
  intro n o hn ho W m;subst ho;show{a.heap.objs.size,[a.heap.objs.size],λi h=>h.IsStrIter a.heap.objs.size n z t i/\i<=z.cps.size,_,M,Xr,N.kept (t':=a.toks) λb o e=>Oc _ e,?_,{{_,Og _ rfl,Xr,Xr},Ku _},λb g=>?_,q}
  .show{by simp,λi h st b g=>?_,λi h L st k=>{?_,st.2},?_,?_,λA i s Q E st h=>?_}
   .have e:b=a.heap.objs.size:=by exists g
    subst e;have(o,e,c,d):=st.1;show{o,e,λv z=>by rw[d]at z;cases z}
   .have(o,ho,r):=st.1;show{o,k _ ∅ o ho,r}
   .intro Y hP hw hK U i f B Z' H' E C J st K;have(O,P,f2,f3,f4,S):=J a.heap.objs.size ∅;show(W Y.A (C.ok.hd U)).item i B _ _ K st.1 λv L tk hv p kk=>?_;have(c,u,hc',rfl):=hv;have I1':Inv Y f Z' H' {B with heap:=L,toks:=tk}:=C.turned (λb o g e=>kk b o (by exists g) e) O P f3 f4 S;have(o,e,cl,d):=id p;show{_,Xr,ua (s:={B with heap:=L,toks:=tk}) e cl d hn {.str {#[c]},H',I1',⟨u,Xr⟩,⟨Xr,c,hc',Xr⟩,⟨p,K⟩,λb g=>(J b g).1}}
   .intro Y hP hw hK U i f B Z' H' E C J st K;have(O,P,f2,f3,f4,S):=J a.heap.objs.size ∅;have hi:i=z.cps.size:=Nat.le_antisymm st.2 K;show(W Y.A (C.ok.hd U)).done B _ _ (hi▸st.1) λL tk kk=>{Xr,?_};show C.turned (λb o g e=>kk b o (by exists g) e) O P f3 f4 S
   .show m A i s Q E st.1 h
  .have e:b=a.heap.objs.size:=by exists g
   subst e;show N.fpOk (JA _) (N.hok.fresh (JA _))
 cases ha:z.cps.all (· < 128);show wpAny_pyIter_wide ha (j "str_iterator" _ (by decide) rfl (λG hA=>SZ.strWide hA _ z t) λA i s Q E st h=>wpAny_pyIter_striter_wide st h);show wpAny_pyIter_ascii ha (j "str_ascii_iterator" _ (by decide) rfl (λG hA=>SZ.strAscii hA _ z t) λA i s Q E st h=>wpAny_pyIter_striter_ascii st h)
end
noncomputable abbrev sL(z:Str):!Nat:=z.cps.toList
noncomputable abbrev oL(l:!Nat):Str:=⟨l.toArray⟩
def fH(l:!Nat):sL (oL l)=l:=rfl
def xZ(z:Str):oL (sL z)=z:=by cases z;rfl
def gi(z:Str):z.length=(sL z).length:=by unfold T2 sL;rw[Ki]
def mW(x y:Str):sL (x++y)=sL x++sL y:=by
 change(x.cps++y.cps).toList=_;rw[Array.toList_append]
def pY(h:sL x=sL y):x=y:=by rw[<-xZ x,h,xZ]
abbrev cB{c:Type} (a:!c) (lo d:↑Int):!c:=(a.drop (HT.sIx a.length 0 lo)).take (HT.sIx a.length a.length d-HT.sIx a.length 0 lo)
def rK(lo c:↑Int)(n:Nat):OE lo c 1 n=(JE (HT.sIx n n c-HT.sIx n 0 lo)).map (HT.sIx n 0 lo + ·):=by
 have f:(1:Int)>0:=by lia
 have a:∀(v:↑Int) (d:Nat),(match v with|none=>(d:Int)|some i=>(if(1:Int)>0 then max 0 (min (if i<0 then i+(n:Int)else i) (n:Int))else max (-1) (min (if i<0 then i+(n:Int)else i) ((n:Int)-1))))=((HT.sIx n d v:Nat):Int):=by
  intro v d;cases v with
  | none=>rfl
  | some i=>
   change(if(1:Int)>0 then max 0 (min (if i<0 then i+(n:Int)else i) (n:Int))else _)=(((if i<0 then(i+(n:Int)).toNat else min i.toNat n):Nat):Int);rw[if_pos f];by_cases c:i<0;dsimp[if_pos c];lia;dsimp[if_neg c];lia
 have e:OE lo c 1 n=sliceRange ((HT.sIx n 0 lo:Nat):Int) ((HT.sIx n n c:Nat):Int) 1:=by
  unfold OE;dsimp[f,if_true];have c1:=a lo 0;have c2:=a c n;dsimp[f,if_true]at c1 c2;rw[<-c1,<-c2];rfl
 rw[e,Ti]
def oW(x:Str)(lo a:↑Int):TC x lo a=oL (cB (sL x) lo a):=by
 have e:x.length=(sL x).length:=gi x;have d:((OE lo a 1 x.length).filterMap (x.cps[·]?))=cB (sL x) lo a:=by
  rw[rK,e];unfold cB;show TV x.cps _ _
 unfold TC;split
 .delta h;have g:(OE lo a 1 x.length).length=x.length:=by
   dsimp[Jv]at h;exists h.2
  have f:(cB (sL x) lo a)=sL x:=by
   unfold cB;rw[rK,Jr,Kq,e]at g;have i:=HT.sIx_le (sL x).length (sL x).length (JA _) a;have c:HT.sIx (sL x).length 0 lo=0\/(sL x).length=0:=by lia
   rcases c with c|c
   .rw[c,Nl];show Kc (by lia)
   .rw[K5 c];simp
  rw[f,xZ]
 .rw[d]
section
variable {X:Cx}
def FN:SlR X (λx lo a H Q=>∃z,x=.str z/\z.length<=sizeLine/\Q (.str (oL (cB (sL z) lo a))) H):=by
 intro A s Z H x v B y lo a w Q I g r m j h;have(z,rfl,f,q):=h;have(t,rfl):=g;have c:∀{v:Oa} {o:↑Int},QU v o->∃p:↑(Int×Tok),v=partValue p/\p.map (·.1)=o:=λ{v o} p=>by
  cases p with
  | none=>show⟨Uc,Xr,Xr⟩
  | int i t=>show{Ud (i,t),Xr,Xr}
 have(l,rfl,rfl):=c m;have(u,rfl,rfl):=c j;show{"str",_,F.slot_str_getitem.lookup,Th _ _ _,?_};show wpAny_getItem_str_slice (l:=l) (u:=u) (st:=Uc) r rfl ?_;have e:sliceMade z t l u Uc=if((1:Int)==1&&(OE (l.map (·.1)) (u.map (·.1)) 1 z.length).length==z.length)=Ug then Made.val (.str z t)else Made.str {((OE (l.map (·.1)) (u.map (·.1)) 1 z.length).filterMap (z.cps[·]?)).toArray}:=rfl;rw[e];show SM {Ks (Txt.slice_le z _ _) f,λd k=>?_};show{.str (TC z (l.map (·.1)) (u.map (·.1))),H,I.tok k,⟨d,Xr⟩,?_};rw[oW];show q
abbrev rSl(K:yF):V->↑Int->↑Int->Hp->VK->Prop:=λx lo a H Q=>HU K x lo a H Q\/HS K x lo a H Q \/ ∃z,x=.str z/\z.length<=sizeLine/\Q (.str (oL (cB (sL z) lo a))) H
def nh:∀{us:!Oa},Vals (zs.map V.str) us->StrsAre us zs:=by
 induction zs with
 | nil=>intro us r;rw[Kl]at r;cases r;show .nil
 | cons n f a=>
  intro us r;rw[Jt]at r;cases r with
  | cons d c=>
   have(t,e):=d;subst e;show .cons n t (a c)
def Bg:MtR X "str.join" (λx vs H Q=>∃z a zs,x=.str z/\vs=[.ref a]/\SqL X.K H a (zs.map V.str)/\(zs.map (·.length)).sum+zs.length*z.length<=16777216/\Q (.str (Qb z zs)) H):=by
 intro l s Z H x o v m Q I j i h;have(z,a,zs,rfl,rfl,e,f,q):=h;have(t,rfl):=j;have(u,rfl,g):=ef i;cases g;have(d,r,p,_):=I.list e;show join_list p.isList (by simpa using nh r) f λc k=>{.str (Qb z zs),H,I.tok k,⟨c,Xr⟩,q}
def vh(zs:!Str):sL (Qb (oL []) zs)=(zs.map sL).flatten:=by
 have c:∀(zs:!Str) (a:Array Nat),(zs.foldl (λa p=>a++(oL []).cps++p.cps) a).toList=a.toList++(zs.map sL).flatten:=by
  intro zs
  induction zs with
  | nil=>intro a;simp
  | cons z zs d=>
   intro a;rw[Mz,d];simp
 cases zs with
 | nil=>rfl
 | cons z zs=>
  change(zs.foldl (λa p=>a++(oL []).cps++p.cps) z.cps).toList=_;rw[c];simp
def op_mulS:OpR X (OQ .Mult) (λx y H Q=>∃z n,x=.str z/\y=.int n/\1<=n/\n<=1000/\z.length<=1000/\Q (.str (oL (Jw n.toNat (sL z)).flatten)) H):=by
 intro M s Z H x y v u Q I A o h;have(z,n,rfl,rfl,O,L,i,q):=h;have(t,rfl):=A;have(K,rfl):=o;have r:∀(m:Nat) (d:Array Nat),(Jw m z.cps).foldl (· ++ ·) d=d++(Jw m (sL z)).flatten.toArray:=by
  intro m
  induction m with
  | zero=>intro d;simp
  | succ m j=>intro d;rw[Kj,Mz,j,Kj,KR];apply Array.ext';simp
 have g:z.length*n.toNat<=1000*1000:=LP i (by lia);have p:¬ n<1:=by lia
 show P.mul_str ?_ ?_ ?_ ?_;rw[decide_eq_false (by lia),decide_eq_false (by lia)];rfl
 .intro _ _;have N:n*9223372036854775<=2^63-1:=by lia
  have:(9223372036854775:Int)<=(2^63-1) / n:=(Int.le_ediv_iff_mul_le (by lia)).mpr (by lia)
  lia
 .intro _ _;unfold T1;show decide_eq_false (by rw[Oe];lia)
 .rw[if_neg p];show SM ?_;have C:(if(n==1||z.length==0)=Ug then z else({(Jw n.toNat z.cps).foldl (· ++ ·) #[]}:Str))=oL (Jw n.toNat (sL z)).flatten:=by
   split
   .delta G;rcases Bool.or_eq_true_iff.mp G with c|c
    .have:n=1:=by exists c
     subst this;change z=oL (Jw 1 (sL z)).flatten;dsimp[Kj,List.replicate_zero,KR,List.flatten_nil,Kg]
    .have B:(sL z).length=0:=by rw[<-gi];exists c
     have e:sL z=[]:=K5 B;rw[e];apply pY;rw[e,fH];symm;show List.eq_nil_iff_forall_not_mem.mpr λa J=>by
      have(l,E,f):=Na.mp J;rw[List.eq_of_mem_replicate E]at f;cases f
   .rw[r];simp
  rw[C];show{?_,λw k=>{.str (oL (Jw n.toNat (sL z)).flatten),H,I.tok k,⟨w,Xr⟩,q}};rw[gi,fH,jN,<-gi,Oe,M2]
  lia
def ku:fillsNumberSlot (.type "tuple") "mul" = pure Ue:=
 PySem.fillsNumberSlot_seq (id:="tuple.__mul__") (r:=Ud (.builtin "tuple.__rmul__")) Qf.lookup (by decide +kernel) Sg.lookup (by decide +kernel)
def pW:seqRepeat? (.type "tuple")=pure (Ud (.builtin "tuple.__mul__")):=by
 unfold seqRepeat?;rw[Nb (T:="tuple") (name:="__mul__") (id:="tuple.__mul__") Qf.lookup (by decide +kernel),Nb (T:="tuple") (name:="__rmul__") (id:="tuple.__rmul__") Sg.lookup (by decide +kernel)];rfl
def lW(a:Int)(t:Tok)(l:Addr)(items:Array Oa)(n:Nat)(e:↑Addr)(sl:Array ↑Oa) :
  Meets (Om.«int.__rmul__» {[.int a t,.ref l],[]}) (λ_ R s=>s.heap.get? l=Ud {cls:=.type "tuple",dict:=e,data:=.seq items n,slots:=sl}/\R (.ok (.ret Oa.notImplemented)) s):=
 .of_wp λc w A R s h=>by obtain⟨j,g,d,i,os⟩:=s;obtain⟨f,h⟩:=h;wp_walk;show{_,Xr,h}
def lq(l:Addr)(items:Array Oa)(n:Nat)(q:↑Addr)(sl:Array ↑Oa)(k:Int)(t:Tok)(v:2<=k)(o:k<=1000)(c:items.isEmpty=Ue)(hz:items.size<=1000) :
  Meets (Om.«tuple.__mul__» {[.ref l,.int k t],[]}) (λ_ R s=>s.heap.get? l=Ud {cls:=.type "tuple",dict:=q,data:=.seq items n,slots:=sl} /\
   R (.ok (.ret (.ref s.heap.objs.size))) {s with heap:=s.heap.push {cls:=.type "tuple",data:=.seq ((Jw k.toNat items).foldl (· ++ ·) #[])}}):=
 .of_wp λf w A R s h=>by
  obtain⟨z,g,d,x,os⟩:=s;obtain⟨e,h⟩:=h;have c1:¬ (decide (k < -(2^63))||decide (k≥2^63))=Ug:=by rw[decide_eq_false (by lia),decide_eq_false (by lia)];decide
  have c2:¬ (items.isEmpty||k==1)=Ug:=by rw[c];simp;lia
  have c3:¬ (decide (k<=0)||items.isEmpty)=Ug:=by rw[c,decide_eq_false (by lia)];decide
  have c0:((items.size:Nat):Int)*k<=1000*1000:=Int.mul_le_mul (by lia) o (by lia) (by lia);have c4:¬ ((items.size:Int)*k>(2^63-1) / 8):=by lia
  have c5:¬ Qz ((items.size:Int)*k)=Ug:=by unfold Qz;simp;rw[Oe];lia
  have u:=Sv;wp_walk using Ow e
  rw[if_neg c1];show NO (tupleItemsOf_ {_,e,Xr,n,Xr} ?_);dsimp only;rw[if_neg c2,if_neg c3,if_neg c4,if_neg c5];have a:sizeOk (.seq ((Jw k.toNat items).foldl (· ++ ·) #[])):=by
   change((Jw k.toNat items).foldl (· ++ ·) #[]).size<=sizeLine;have r:=gv items.toList k.toNat [];have i:(Jw k.toNat items.toList.toArray).foldl (· ++ ·) #[]=(Jw k.toNat items.toList).flatten.toArray:=by exists r
   have p:items.toList.toArray=items:=by simp
   rw[p]at i;rw[i,Ju,jN,Ki,Oe];have y:k.toNat*items.size<=1000*1000:=LP (by lia) hz
   lia
  first
   | show NO (m:=OS _) (OC (Of ⟨_,rfl,h⟩) a)
   | show NO (NO (m:=OS _) (OC (Of ⟨_,rfl,h⟩) a))
abbrev Do(K:yF):R2:=λx y H Q=>∃l k a,x=.ref l/\y=.int k/\SqT K H l a/\a≠[]/\a.length<=1000/\1<=k/\k<=1000 /\
 (k=1->Q (.ref l) H)/\(2<=k->∀p,H p=Uc->Q (.ref p) (upd H p (.tup (Jw k.toNat a).flatten)))
def Bu:OpR X (OQ .Mult) (Do X.K):=by
 intro Ub s Z H x y v u Q I O M h;obtain⟨l,k,z,rfl,rfl,Y,m,f,h1,L,G,q2⟩:=h;cases O;have(t,rfl):=M;have(c,r,p,hz):=I.tuple (X:=X) Y;obtain⟨⟨J,E,A,w⟩,j,C,n,B⟩:=id p;simp only at C B;subst C B;have P:=r.length;have i:c.toArray.isEmpty=Ue:=by
  cases c with
  | nil=>cases r;show absurd rfl m
  | cons a r'=>rfl
 have e:s.TypeIs (.ref l) "tuple" :={_,j,Xr};show PR (T:="tuple") (U:="int") (by decide) e (λS=>Qd S k t) ku Rn PF pW Q6.lookup
  (Pk PF (Qd s k t) Q7 (QL _ _) (lW k t l c.toArray n E w)
   {j,Xr,e,?_})
 by_cases hk:k=1
 .subst hk;show OP Qf e Sh ?_ (R4 _ _);have f1:=Sv;have c1:¬ (decide ((1:Int) < -(2^63))||decide ((1:Int)≥2^63))=Ug:=by decide
  have(hp,g,d,tk,os):=s;wp_walk using Ow j
  show{_,Xr,.ref l,H,I,Xr,G rfl}
 .show Pk Qf e Sh (R4 _ _) (lq l c.toArray n E w k t (by lia) L i (by rw[Ju,<-P];show f)) {j,?_};have N:(Jw k.toNat c.toArray).foldl (· ++ ·) #[]=(Jw k.toNat c).flatten.toArray:=by simpa using gv c k.toNat []
  rw[N];show{.ref s.heap.objs.size,_,I.laid (t':=s.toks) (o:=.tup (Jw k.toNat z).flatten) (λb ob q=>Oc _ q) (JA _) ?_,Xr,q2 (by lia) _ (I.hok.fresh (JA _))};show{?_,_,r.rep k.toNat,NR.new _ _};rw[jN,Oe];have a1:k.toNat*z.length<=1000*1000:=LP (by lia) f
  lia
end
section
variable {X:Cx}
def tz{A:Ot}{bs:!Bool}:TruthOf X.prog X.w A (λi v=>(bs.map Py)[i]?*>v) (λi=>bs.getD i Ue):=by
 intro i v s Q E a c;rw[JB]at a;cases q:bs[i]? with
 | none=>rw[q]at a;cases a
 | some b=>
  rw[q]at a;cases a;have e:bs.getD i Ue=b:=by rw[JO,q];rfl
  dsimp[e]at c;show OW c
def Is{bs:!Bool}:∀{us:!Oa},Vals (bs.map V.bl) us->us=bs.map Py:=by
 induction bs with
 | nil=>intro us r;rw[Kl]at r;cases r;rfl
 | cons b bs a=>
  intro us r;rw[Jt]at r;cases r with
  | cons d c=>rw[a c,Jt];cases d;rfl
def range_getD(bs:!Bool):(JE bs.length).all (λi=>bs.getD i Ue)=bs.all id:=by
 have:(JE bs.length).map (λi=>bs.getD i Ue)=bs:=TD bs Ue
 conv=>rhs;rw[<-this]
 rw[Nz];rfl
def wY(w:X.calm=Ug):NK X (.builtin "all") (λf H Q=>∃(a:Addr) (bs:!Bool),f=[.ref a]/\SqL X.K H a (bs.map V.bl)/\Q (.bl (bs.all id)) H):=by
 intro k s Z H f J Q I x h;have(a,bs,rfl,c,q):=h;have(u,rfl,l):=ef x;cases l;have(j,r,p,G):=I.list c;have e:=Is r;subst e;have d:a≠s.heap.objs.size:=by
  have(o,n,e,_):=p;show JG (Oh e)
 show call_all_walk (PM p.isList ?_);show{s.heap.objs.size,_,_,_,_,_,λi=>bs.getD i Ue,Xr,T5 (A:=X.A.in1) (show X.A.in1.handled=Uc from I.ok.hd w) s.heap.objs.size a d (bs.map Py).toArray,{{_,Og _ rfl,Xr,Xr},?_},?_,λC y B=>?_};show p.isList.at λo e=>Oc _ e
 .intro i v s Q E t c;show tz (bs:=bs) i v s Q E (by exists t) c
 .have m:Inv X k Z H {s with heap:=C,toks:=y}:=I.kept λb o e=>B b o (λz=>absurd (ysM z) (JG (Oh e))) (Oc _ e);show{.bl _,H,m,Xr,?_};have:(JE (bs.map Py).toArray.size).all (λi=>bs.getD i Ue)=bs.all id:=by rw[Ju,Jr];show range_getD bs
  rw[this];show q
abbrev xt(g:TE)(j h:TO):TG:=λv Z H Q=>g Z H λo i=>j Z i λl k=>h Z k λu f=>∃p b d e a c,o=.ref p/\v=.ref b/\l*>a/\u*>c/\f p*>(.lst d)/\f b*>(.lst e)/\p≠b/\0<=a/\a<=c/\c<=d.length/\d.length+e.length<=sizeLine /\
 Q Z (upd f p (.lst (d.take a.toNat++e++d.drop c.toNat)))
def yA{o:Expr}{lo g:↑Expr}{w:TE}{z y:TO}{j pos:Pos}(ho:PE X o w)(hl:PO X lo z)(K:PO X g y)
  (ha:∀v,P0 (.Subscript o (.Slice lo g Uc j) pos) X.env v=(do
   let d <-OZ [v] (eval o X.env)
   let k <-OZ [v,d] (eval (.Slice lo g Uc j) X.env)
   Qq pos
   OZ [v,d,k] (QK d k v)
   SO [k,v,d] []):=by intro _;rfl):PG X (.Subscript o (.Slice lo g Uc j) pos) (xt w z y):=by
 intro e s Z H v u Q I r h;rw[ha];show NO (OI (thn (ho e s Z H _ I h) λd C m=>?_));have(x,M,O,r1,B):=m;show NO (OI (wpAny_Slice (thn (hl e C Z M _ O B) λvl s2 ⟨l,P,L,pl,q2⟩=>thn (K e s2 Z P _ L q2) λG f m=>?_)));have(w',H3,Y,pu,q3):=m;rw[RM];show Of ?_;obtain⟨p,b,xs,ys,a,c,rfl,rfl,rfl,rfl,hp,hb,i,S,t,hc,J,q⟩:=q3;have U:Inv X e Z H3 {f with heap:=f.heap.push {cls:=.type "slice",data:=.fields #[vl,G,.none]}}:=Y.kept (t':=f.toks) λb ob q=>Oc _ q;cases r1;cases r;show NO (PK (NO (OI ?_)));cases pl with
 | int _ E=>
  cases pu with
  | int _ N=>
   show wv (sl:=f.heap.objs.size) U hp hb i (RZ ..) ⟨E,Xr⟩ ⟨N,Xr⟩ S t hc J λs' I'=>wpAny_release {Z,_,I',q}
end
abbrev Has(P:On)(w:Oq)(K:yF)(e:Str->↑Oa)(a:Heap)(k:Nat)(name:Str)(ps:!Str)(g:Sp):Prop:=
 ∃(f:Addr) (d:Pt),e name*>(.ref f)/\K4 K (.ref f)=Ug/\N3 K d ps []/\N7 P w K e a CX0 k f d ps g/\∃oc h c,K.lookup f*>{oc,h,.func d,c}
abbrev Def(K:yF)(c:Str->↑Oa)(name:Str)(st:Stmt)(ps:!Str):Prop:=
 ∃(f:Addr) (a:Pt),c name*>(.ref f)/\Fun K name name st f a/\N3 K a ps []
def Def.has{P:On}{w:Oq}{K:yF}{i:Str->↑Oa}{a:Heap}{k:Nat}{name:Str}{st:Stmt}{N ps:!Str}{l:Sp}(d:Def K i name st ps)(S:p8 N ps (ak st))(j:∀vs H Q E,l vs H Q E->vs.length=ps.length)
  (g:∀(f:Addr) (h:Oa) (A:Ot) (c:!Env) (s:Od) (H:Hp) (vs:!V) (Q:VK) (E:XK),NQ k (A.deeper (Ql name (ak st) s.heap.objs.size f h))->l vs H Q E ->
   ∃t,PSs (nH CX0 P w K i a N name (ak st) f h A c s H E).nox (bO st) t/\t {nx:=λ_ H'=>Q .non H',rt:=Q} (ci N vs) H):Has P w K i a (k+1) name ps l:=by
 have(f,q,u,F,b):=d;obtain⟨oc,r,kV,v,x,y,h,z,m,e,o,p⟩:=F.ex;show{f,q,u,F.kp,b,F.ok S j (g f),oc,r,m,o}
def xK{P:On}{w:Oq}{K:yF}{c:Str->↑Oa}{y:Addr}{name:Str}{st:Stmt}{x:Str}{k:Nat}{u:Sp}(i:c name*>(.ref y))(d:Def K c name st [x])
  (E:∀(kV j m:Oa) (q:↑Addr) (g r:Oa) (s:Od) (v:Oa),RE s (K3 name name (eU st) (bO st) (ak st) .none kV j m q g r) {[v],[]} [(x,v)])
  (H:∀a:Heap,K.In a->a.Ns OM c->Has P w K c a k name [x] u) :
  ∃l:Pt,(∀(s:Od) (v:Oa),RE s l {[v],[]} [(x,v)])/\∀a:Heap,K.In a->a.Ns OM c->N7 P w K c a CX0 k y l [x] u:=by
 have(f,l,t,F,b):=d;rw[i]at t;cases t;obtain⟨oc,Q,kV,j,m,q,g,r,N,e,z,C⟩:=F.ex;show{l,λs v=>by rw[e];show E _ _ _ _ _ _ s v,λa J B=>?_};obtain⟨O,L,p,_,_,M,G,A,o,h⟩:=H a J B;rw[i]at p;cases p;rw[z]at h;cases h;show M
section
variable {X:Cx}{x:Str}{e:Expr}{es:!Expr}{p pos:Pos}{k:Nat}{ps:!Str}{sp:Sp}{t:TA}
def Ho(h:Has X.prog X.w X.K X.mg X.base k x ps sp)(i:NQ k X.A)(m:Gl X x)(q:PA X (e::es) t)(c:(x==("__debug__" : Str))=Ue:=by decide)
  (d:Ox (e::es) X.env=(Ue,eval e X.env)::Ox es X.env:=by rfl) (a:(P6 pos (Ox es X.env)).any (·.1)=Ue:=by rfl) :
  PE X (.Call (.Name x p) (e::es) [] pos) (oS sp [] E0 t):=by
 have(f,r,o,j,g,l,_):=h;show BD l i m o j g .nil Hl q c d a
end
section
variable {X:Cx}
abbrev Dh(K:yF):R2:=λx y H Q=>rI0 (λi j=>.int (i+j)) x y H Q\/((∃i j,x=.str i/\y=.str j/\i.length+j.length<=sizeLine/\Q (.str (i++j)) H)\/(HI x y H Q\/Dj K x y H Q))
def op_addX:OpR X (OQ .Add) (Dh X.K):=op_add.or (op_add_str.or (op_cat.or Bq))
abbrev Dm(K:yF):R2:=λx y H Q=>rI Pb (λi j=>.int (i*j)) x y H Q\/((∃z n,x=.str z/\y=.int n/\1<=n/\n<=1000/\z.length<=1000/\Q (.str (oL (Jw n.toNat (sL z)).flatten)) H)\/(HR x y H Q\/Do K x y H Q))
def op_mulX:OpR X (OQ .Mult) (Dm X.K):=op_mul.or (op_mulS.or (op_rep.or Bu))
abbrev Fu(K:yF):R2:=λx y H Q=>rEq x y H Q\/(HJ K x y H Q\/HK K x y H Q)
def Ev(a:X.A.units+64<OV):OpR X (OH .Eq) (Fu X.K):=op_eq.or ((Et a).or (Eu a))
abbrev Fx(K:yF):R2:=λx y H Q=>rNe x y H Q\/(HP K x y H Q\/HQ K x y H Q)
def EB(a:X.A.units+64<OV):OpR X (OH .NotEq) (Fx X.K):=op_ne.or ((Ez a).or (EA a))
abbrev Fv(K:yF):R2:=λx y H Q=>(∃i j,x=.str i/\y=.str j/\Q (.bl (~~~(Pi j i 0 j.length 1).isEmpty)) H)\/(rIn K Ue x y H Q\/B2 K Ue x y H Q)
def Ex(a:X.A.units+64<OV):OpR X (OH .In) (Fv X.K):=op_in_str.or (op_in_seq.or (Ew a))
abbrev pQ(K:yF):R2:=λx y H Q=>(∃i j,x=.str i/\y=.str j/\Q (.bl (~~~(~~~(Pi j i 0 j.length 1).isEmpty))) H)\/(rIn K Ug x y H Q\/B2 K Ug x y H Q)
def vO(a:X.A.units+64<OV):OpR X (OH .NotIn) (pQ X.K):=op_notIn_str.or (op_notIn_seq.or (vN a))
def Jj:SlR X (rSl X.K):=sl_tup.or (sl_list.or FN)
abbrev zm(K:yF):!V->Hp->VK->Prop:=λc H Q=>(∃p a,c=[.ref p]/\(SqL K H p a\/SqT K H p a)/\Q (.int a.length) H)\/(∃z,c=[.str z]/\z.length<=sizeLine/\Q (.int z.length) H)
def uT:NK X (.builtin "len") (zm X.K):=NK.or o5 o6
def HY(n:String):RelV (.ty n) (.type n):=rfl
end
abbrev Its(z:Str):It:={λi _=>i<z.cps.size,λi H y a=>a=H/\∃c,z.cps[i]?*>c/\y=.str {#[c]},λi _=>z.cps.size<=i}
abbrev GK(c:TE):TI:=λZ H R=>c Z H λx a=>∃z:Str,x=.str z/\R (Its z) a
def BM(a:PE X e te):PI X tg e (GK te):=E6 a
def bJ{N:!Str}(h:decide N.Nodup=Ug):N.Nodup:=of_decide_eq_true h
section
variable {X:Cx}{K:yF}
def Ja(h:X.K=K):IxR X (rIx K):=h▸Eb
abbrev zr(K:yF):!V->Hp->VK->Prop:=λc H Q=>∃p a,c=[.ref p]/\((SqL K H p a/\∀l,H l=Uc->Q (.ref l) (upd H l (.tup a)))\/(SqT K H p a/\Q (.ref p) H))
abbrev zn(K:yF):!V->Hp->VK->Prop:=λc H Q=>∃p a,c=[.ref p]/\(SqL K H p a\/SqT K H p a)/\∀l,H l=Uc->Q (.ref l) (upd H l (.lst a))
abbrev HH(K:yF):!V->Hp->VK->Prop:=λd H Q=>∃(a:Addr) (c:!Bool),d=[.ref a]/\SqL K H a (c.map V.bl)/\Q (.bl (c.all id)) H
abbrev Dk(K:yF):V->!V->Hp->VK->Prop:=λx vs H Q=>∃z a c,x=.str z/\vs=[.ref a]/\SqL K H a (c.map V.str)/\(c.map (·.length)).sum+c.length*z.length<=16777216/\Q (.str (Qb z c)) H
def tgK(h:X.K=K)(c:X.calm=Ug)(hs:PGs X es t)
  (d:(Pj es X.env).length=n:=by rfl) (a:(Pj es X.env).findIdx? (·.1)=Uc:=by rfl):PG X (.Tuple es k pos) (AX K n t):=h▸E5 c hs d a
def ilK(h:X.K=K)(a:PE X l tl):PI X tg l (ub K tl):=h▸BL a
def itK(h:X.K=K)(a:PE X l tl):PI X tg l (A1 K tl):=h▸E7 a
abbrev Ip(K:yF)(c:TE):TT:=λZ H Q=>c Z H λx a=>∃k,AF K x a k/\Q k a
def Jk(h:X.K=K)(e:PE X a ta)(d:∀c,RW a X.env c=(do let v <-c;Qq a.pos;OZ [v] (SV v))):PT X a (Ip K ta):=h▸y4 e d
variable {o e:Expr}{es:!Expr}{to:TE}{t:TA}{name:Str}{apos cpos:Pos}{T id:String}{r:V->!V->Hp->VK->Prop}
def IQ(h:X.K=K)(g:Qe T)(d:Slot T name id)(f:R3 (.builtin id)=pure (.type "method_descriptor"))(i:MtR X id r)(ho:PE X o to)
  (a:O8 o name X.env (eval o X.env)=eval o X.env:=by rfl) (c:(apos.endLine==cpos.line)=Ug:=by rfl):PE X (.Call (.Attribute o name apos) [] [] cpos) (FP K T r to):=h▸EV g d f i ho a c
def bmK(h:X.K=K)(j:Qe T)(g:Slot T name id)(i:R3 (.builtin id)=pure (.type "method_descriptor"))(k:MtR X id r)(ho:PE X o to)(l:PA X (e::es) t)
  (c:O8 o name X.env (eval o X.env)=eval o X.env:=by rfl)
  (f:((P6 cpos (Ox (e::es) X.env)).all (λx=> ~~~x.1)&&(backToKw cpos (keywordEach [] X.env)).all (λx=>x.1.isSome)
   && decide ((e::es).length+([]:!SQ).length+(if([]:!SQ).isEmpty then 0 else 1)<30))=Ug:=by rfl)
  (d:(apos.endLine==cpos.line)=Ug:=by rfl) (hs:Ox (e::es) X.env=(Ue,eval e X.env)::Ox es X.env:=by rfl) (a:(P6 cpos (Ox es X.env)).any (·.1)=Ue:=by rfl) :
  PE X (.Call (.Attribute o name apos) (e::es) [] cpos) (tBM K T r to t):=h▸Hn j g i k ho l c f d hs a
end
structure Bi(mg:Str->↑Oa):Prop where
 b_len:mg "len" = Uc
 b_all:mg "all" = Uc
 b_any:mg "any" = Uc
 b_tuple:mg "tuple" = Uc
 b_list:mg "list" = Uc
 b_range:mg "range" = Uc
 b_min:mg "min" = Uc
 b_max:mg "max" = Uc
 b_int:mg "int" = Uc
 b_bool:mg "bool" = Uc
 b_isinstance:mg "isinstance" = Uc
 b_str:mg "str" = Uc
 b_sorted:mg "sorted" = Uc
 b_sum:mg "sum" = Uc
 b_zip:mg "zip" = Uc
 b_enumerate:mg "enumerate" = Uc
 b_dict:mg "dict" = Uc
 b_abs:mg "abs" = Uc
 b_repr:mg "repr" = Uc
 b_reversed:mg "reversed" = Uc
 b_set:mg "set" = Uc
noncomputable abbrev LET:Str:="abcdefghijklmnopqrstuvwxyz"
def oV:(sL LET).length=26:=by decide +kernel
def LET_len':LET.length=26:=by decide +kernel
abbrev rd:D->↑D
 | .tup [.str x,c,a]=>if x=("at" : Str)then Ud (.tup [c,a])else Uc
 | _=>Uc
abbrev Gq(g:It)(p:St)(q:TG)(f:TT)(l:TE)(acc0:!V)(r:Hp)(N:!V->Hp->Prop):Prop:=
 ∃W2:Nat->Nat->!V->Hp->Prop,(∃m,W2 0 m acc0 r)/\∀i m a H,W2 i m a H->a.length<sizeLine /\
  ((g.stop i H/\N a H) \/
  (g.go i H/\∃e:!V->Hp->Prop,(∀c d,e c d->∃k,k<m/\W2 (i+1) k c d) /\
   ∀x d,g.yld i H x d->q x p d λh o=>f h o λb j=>if b=Ug then l h j λv H6=>e (a++[v]) H6 else e a j))
open PySem.AutoSeq1 (wpAny_loadPart')
section
variable {prog:On}{w:Oq}{A:Ot}{E:Oa->Od->Prop}{ss:Od}
def nQ(d:ss.heap.IsTupleIter jt tt k)(j:ss.heap.IsTuple tt els)(l:els[k]?*>y)
  (i:∀f,f.IsTupleIter jt tt (k+1)->Ou jt ss.heap f->Q y {ss with heap:=f}):Oj (Ol prog w) A (Os (.ref jt)) Q E ss:=by
 have(q,c,h,a):=id d;have(o,m,_,p,e):=j;unfold Os;show NO (OJ (name:=Oy "__next__") d.typeIs Pm (OP Pm d.typeIs Qs ?_ (Qn _)));change Oj _ _ (SB (.ref jt) 0 >>= _) _ _ ss;show NO (OG c a (x:=.ref tt) rfl ?_);change Oj _ _ (if(OR tt==OL)=Ug then _ else _) _ _ ss;rw[if_neg (show ¬ ((OR tt==OL)=Ug)from JF)];change Oj _ _ (SB (.ref jt) 1 >>= _) _ _ ss;show NO (OG c a (x:=.int k 0) rfl ?_);change Oj _ _ (Q8 (.ref tt) >>= _) _ _ ss;show NO (OT m e ?_);dsimp[JR,l];show NO (Pu c a ∅ (Of {y,Xr,Of (i _ ?_ (OY ..))}));show{_,O6 _ c (Obj.isFreed_of_fields (R5 a _)),(Obj.cls_mapFields ..).trans h,by rw[R5 a];simp[PV]}
def gI(j:A.handled=Uc)(c:ss.heap.IsTupleIter jt tt k)(p:ss.heap.IsTuple tt els)(q:els[k]?=Uc)
  (l:∀g e,QM jt ss.heap g->(∃o,g.get? e*>o/\o.cls=.type "StopIteration")->E (.ref e) {ss with heap:=g}):Oj (Ol prog w) A (Os (.ref jt)) Q E ss:=by
 have(v,h,s,d):=id c;have(t,r,_,u,f):=p;unfold Os;show NO (OJ (name:=Oy "__next__") c.typeIs Pm (OP Pm c.typeIs Qs ?_ (Qn _)));change Oj _ _ (SB (.ref jt) 0 >>= _) _ _ ss;show NO (OG h d (x:=.ref tt) rfl ?_);change Oj _ _ (if(OR tt==OL)=Ug then _ else _) _ _ ss;rw[if_neg (show ¬ ((OR tt==OL)=Ug)from JF)];change Oj _ _ (SB (.ref jt) 1 >>= _) _ _ ss;show NO (OG h d (x:=.int k 0) rfl ?_);change Oj _ _ (Q8 (.ref tt) >>= _) _ _ ss;show NO (OT r f ?_);dsimp[JR,q];show NO (Qc (NO (Pu h d ∅ ?_)));change Oj _ _ (newExc (.type "StopIteration") ([]:!Oa) >>= _) _ _ _;show NO ?_;dsimp[newExc,newTuple];show NO (OC ?_ (by size_fits));show NO (m:=Tl _ _) (wpAny_of_eq (a:=OL) (by first|rfl|(dsimp[Tl];rfl;done)) ?_);show OC ?_ (by size_fits);dsimp[raiseNew];show NO (wpAny_handled ?_);first|rw[show A.in1.handled=Uc from j]|rw[id j]
 show NO (Of (wpAny_throw ?_));show l _ _ (((OY ..).extBut.push _).push _) {_,Og _ rfl,Xr}
def kZ(hh:A.handled=Uc)(jt tt:Addr)(ne:tt≠jt)(els:Array Oa):RA prog w A jt [jt,tt] els.size (λk v=>els[k]?*>v) (λk h=>h.IsTupleIter jt tt k/\h.IsTuple tt els) where
 live:=λ_ _ st=>let ⟨o,ho,_⟩:=st.1;⟨o,ho⟩
 frame:=λ_ _ _ st hk=>{st.1.at λo e=>hk jt ∅ o e,let ⟨o,ho,r⟩:=st.2;{o,hk tt ∅ o ho,r}}
 item:=λk s Q E hi st kk=>nQ st.1 st.2 (y:=els[k]) (by simp[hi]) λh1 i1 s1=>kk _ h1 s.toks (by simp[hi]) {i1,st.2.extBut s1.extBut ne} s1
 done:=λs Q E st kk=>gI hh st.1 st.2 ∅ kk
def kr(l:Addr)(els:Array Oa)(n:Nat)(h:↑Addr)(sl:Array ↑Oa) :
  Meets (Om.«enumerate.__new__» {[.type "enumerate",.ref l],[]}) (λ_ R s=>s.heap.get? l=Ud {cls:=.type "tuple",dict:=h,data:=.seq els n,slots:=sl} /\
   R (.ok (.ret (.ref (s.heap.push {cls:=.type "tuple_iterator",data:=.fields #[.ref l,.int 0 0]}).objs.size)))
    {s with heap:=(s.heap.push {cls:=.type "tuple_iterator",data:=.fields #[.ref l,.int 0 0]}).push {cls:=.type "enumerate",data:=.fields #[.none,.bool Ue,.ref s.heap.objs.size,PV 0,.none,.none]}}):=
 .of_wp λr p q RR j a=>by
  obtain⟨o,g,d,m,os⟩:=j;obtain⟨c,a⟩:=a;have e:=sub_enumerate;have f:Heap.IsTuple (Od.heap ⟨o,g,d,m,os⟩) l els:={_,c,Xr,n,Xr};wp_walk using Qo c
  show wpAny_stack_any λk=>Of ?_;split
  .rename_i c0 _ _ _ _ _;cases (c0==RU "enumerate")
   .wp_walk using Qo c,OU f
    show{_,Xr,a}
   .wp_walk using Qo c,OU f
    show{_,Xr,a}
  .wp_walk using Qo c,OU f
   show{_,Xr,a}
def lh(m:ss.heap.IsTuple l els)
  (q:∀e,T6 e (ss.heap.objs.size+1) ss.heap.objs.size 0 .none->e.IsTupleIter ss.heap.objs.size l 0->e.objs.size=ss.heap.objs.size+2->(∀b o,ss.heap.get? b*>o->e.get? b*>o)->Q (.ref (ss.heap.objs.size+1)) {ss with heap:=e}) :
  Oj (Ol prog w) A (call (.type "enumerate") [.ref l]) Q E ss:=by
 obtain⟨⟨c0,h,r,p⟩,k,d,n,c⟩:=m;replace d:c0=.type "tuple" :=d;replace c:r=.seq els n:=c;subst d c;show callType_new F.called_enumerate (by decide) (F.typeCall_enumerate_1 _) (F.newCall_enumerate_1 _) (λg=>F.args_object_init_2 g _) F.entry_enumerate_new (kr l els n h p) {k,?_};have a:(ss.heap.push {cls:=.type "tuple_iterator",data:=.fields #[.ref l,.int 0 0]}).objs.size=ss.heap.objs.size+1:=OD ..;change _/\_;rw[a];have f:T6 ((ss.heap.push {cls:=.type "tuple_iterator",data:=.fields #[.ref l,.int 0 0]}).push {cls:=.type "enumerate",data:=.fields #[.none,.bool Ue,.ref ss.heap.objs.size,PV 0,.none,.none]}) (ss.heap.objs.size+1) ss.heap.objs.size 0 .none:=by
  have i:=Og (ss.heap.push {cls:=.type "tuple_iterator",data:=.fields #[.ref l,.int 0 0]}) (o:={cls:=.type "enumerate",data:=.fields #[.none,.bool Ue,.ref ss.heap.objs.size,PV 0,.none,.none]}) rfl;rw[a]at i;show i
 show{{_,f,Xr},q _ f {_,Oc _ (Og _ rfl),Xr,Xr} (by rw[OD,a]) λb o x=>Oc _ (Oc _ x)}
end
def Inv.turned2(I:Inv X Ub Z H s)(k:∀b o,b≠i1->b≠i2->s.heap.get? b*>o->h'.get? b*>o)(i:dU X Ub H i1)(f:dU X Ub H i2):Inv X Ub Z H {s with heap:=h',toks:=t'}:=by
 have d:∀b u,H b*>u->b≠i1/\b≠i2:=λb u e=>{λz=>(by rw[z,i.1]at e;cases e),λz=>(by rw[z,f.1]at e;cases e)};show I.step (g':=s.gens) (d':=s.drawn) (ch:=[i1,i2]) (λb A=>?_) (λb o _ _ a e _=>k b o (λz=>a (by simp[z])) (λz=>a (by simp[z])) e) (λb o _ _ a e _=>{o.slots,k b o (λz=>a (by simp[z])) (λz=>a (by simp[z])) e}) (λ_ _ _ _ n=>n)
  (λb o a e=>{o,k b o (λz=>a (by simp[z])) (λz=>a (by simp[z])) e}) (λ_ _ e=>e) (λ_ _ _ e=>e) (λb B e=>{#[],by rw[e];simp}) (λm t=>?_) (λb u e=>?_) I.bare
 .have e:b=i1\/b=i2:=by exists A
  rcases e with e|e
  .subst e;have(_,h,_,l,j,g):=i;show⟨l,h,j,g⟩
  .subst e;have(_,h,_,l,j,g):=f;show⟨l,h,j,g⟩
 .have(o,y,w,x,r):=t;show{o,y,w,k _ o (Op i.2.1) (Op f.2.1) x,r}
 .show(I.hok b u e).stay (λc v a q=>k c v ?_ ?_ q) (λ_ q=>q) λ_ _ q=>q
  .rcases a with z|z;rw[z];show(d b u e).1;show(d c _ z).1
  .rcases a with z|z;rw[z];show(d b u e).2;show(d c _ z).2
def DR
  (D:∀(Q:Oa->Od->Prop) (E:Oa->Od->Prop),(∀a x,QM jt ss.heap a->(∃o,a.get? x*>o/\o.cls=.type "StopIteration")->E (.ref x) {ss with heap:=a})->Oj (Ol prog w) A.in1 (Os (.ref jt)) Q E ss)
  (g:T6 ss.heap e jt i old) (j:∀a,QM jt ss.heap a->Q Uc {ss with heap:=a}):Oj (Ol prog w) A (Qk (.ref e)) Q E ss:=by
 have h:ss.TypeIs (.ref e) "enumerate" :={_,g,Xr};unfold Qk;show NO (RO (OJ (name:=Oy "__next__") h Rw (OP Rw h F.entry_enumerate_next ?_ (F.args_enumerate_next_1 _))));change Oj _ _ (SB (.ref e) 2 >>= _) _ _ _;show NO (OG g rfl (x:=.ref jt) rfl ?_);show NO (D _ _ λa x f d=>?_);have(o,k,l):=d;show NO (Sw (T:="StopIteration") (b:=Ug) ⟨o,k,l⟩ Tn ?_);show Of (j _ f)
def vd{prog:On}{w:Oq}{A:Ot}{a:Od}{d e:Addr}{k:Nat}{els:Array Oa}(h:A.handled=Uc)(i:a.heap.IsTupleIter d e k)(g:a.heap.IsTuple e els)(l:els[k]?=Uc) :
  ∀(Q:Oa->Od->Prop) (E:Oa->Od->Prop),(∀c x,QM d a.heap c->(∃o,c.get? x*>o/\o.cls=.type "StopIteration")->E (.ref x) {a with heap:=c})->Oj (Ol prog w) A.in1 (Os (.ref d)) Q E a:=λQ E j=>gI h i g l j
abbrev Ite(K:yF) (a:Addr):It:=
 {λi H=>∃c x,SqT K H a c/\c[i]?*>x,λi H y d=>∃p x,H p=Uc/\y=.ref p/\d=upd H p (.tup [.int i,x])/\∀c,SqT K H a c->c[i]?*>x,λi H=>∃c,SqT K H a c/\c.length<=i}
def wD{P:On}{w:Oq}{K:yF}{elts:!Expr}{k0:Nat}{pos:Pos}(a it e:Addr)(hei:e≠it) :
  N5 P w K (.Tuple elts k0 pos) (Ite K a) [e,it] e (λi h=>(∃old,T6 h e it ((i:Nat):Int) old)/\h.IsTupleIter it a i) where
 mem:=by simp
 obj:=λi h st b hb=>by
  rcases ycM hb with z|z
  .subst z;have(old,e1):=st.1;show{_,e1,λv z=>by cases z}
  .have z':b=it:=by exists z
   subst z';have(o,e,c,d):=st.2;show{o,e,λv z=>by rw[d]at z;cases z}
 keep:=λi h h' st k=>{let ⟨old,e1⟩:=st.1;{old,k e ∅ _ e1},st.2.at λo e=>k it ∅ o e}
 item:=by
  intro X hP hw hK hc i Ub s Z H E I hf st hg;subst hP hw hK;have(xs,x,hq,hx):=hg;have(its,rv,p,hz):=I.tuple hq;have(u,hu,ru):=rv.get hx;have(f0,f1,f2,f3,f4,f5):=hf it ∅;have(e0,e1,e2,e3,e4,e5):=hf e ∅;obtain⟨⟨old,he⟩,hit⟩:=st;have hT:s.heap.IsTuple a its.toArray:=p;have nai:a≠it:=λz=>by
   subst z;have(o1,q1,q2,_):=hT;have(o2,q3,q4,_):=hit;rw[q1]at q3;cases q3;rw[q2]at q4;show absurd q4 (by decide +kernel)
  have nae:e≠a:=λz=>by
   subst z;have(o1,q1,q2,_):=hT;have q3:s.heap.get? e=_:=he;rw[q1]at q3;cases q3;have q5:RU "enumerate" = RU "tuple" :=q2;show absurd q5 (by decide +kernel)
  have hn:i<its.toArray.size:=by
   rw[Ju];show(Js.mp hu).1
  show wpAny_pyNext_enum_itemD (kZ (A:=X.A.in1) (I.ok.hd hc) it a nai its.toArray) he ⟨hit,hT⟩ hn hei (by simp[hei,nae]) λx' h1 tk px ho st1 ht hz1 kk=>?_;have ex:x'=u:=by
   have e1:its.toArray[i]?*>x':=px;have e2:its.toArray[i]?*>u:=by exists hu
   rw[e1]at e2;show JT.inj e2
  subst ex;show{_,Xr,wpAny_letOwnedTupleGo_enum ho λh2 he2 sb=>?_};have sb':Ou e h1 h2:=sb;have hel:e<s.heap.objs.size:=Oh he;have k2:∀b o,b≠e->b≠it->s.heap.get? b*>o->h2.get? b*>o:=λb o n1 n2 q=>(sb'.2 b n1).trans (kk b o n1 n2 q);have I1:Inv X Ub Z H {s with heap:=h2,toks:=tk+1}:=I.turned2 k2 (hf e ∅) (hf it ∅);have fz:dU X Ub H s.heap.objs.size:=I.fpOk (JA _) (I.hok.fresh (JA _));have hT2:h2.get? s.heap.objs.size=Ud {cls:=.type "tuple",data:=.seq #[.int i tk,x']}:=(sb'.2 _ (K2 hel)).trans ht;have I2:Inv X Ub Z (upd H s.heap.objs.size (.tup [.int i,x])) {s with heap:=h2,toks:=tk+1}:=I1.track fz (.inr I.sz) I.sz {by change 2<=sizeLine;decide,[.int i tk,x'],.cons ⟨tk,Xr⟩ (.cons ru .nil),{_,hT2,⟨Xr,Xr⟩,_,Xr}};show{.ref s.heap.objs.size,_,I2,Xr,{_,x,fz.1,Xr,Xr,λys hy=>by rw[I.tuple_inj hy hq];show hx},{{x',?_},?_},λb hb=>?_}
  .have e9:((i+1:Nat):Int)=(i:Int)+1:=by push_cast;rfl
   rw[e9];show he2
  .show st1.1.extBut sb'.extBut (Op hei)
  .have hbo:∃o,s.heap.get? b*>o:=by
    rcases ycM hb with z|z;subst z;show{_,he}
    .have z':b=it:=by exists z
     subst z';have(o,q,_):=hit;show⟨o,q⟩
   have(o,q):=hbo;rw[aT (JG (Oh q))];show(hf b hb).1
 done:=by
  intro X hP hw hK hc i Ub s Z H E I hf st hg;subst hP hw hK;have(xs,hq,hx):=hg;have(its,rv,p,hz):=I.tuple hq;have(f0,f1,f2,f3,f4,f5):=hf it ∅;have hl:=rv.length;obtain⟨⟨old,he⟩,hit⟩:=st;have hT:s.heap.IsTuple a its.toArray:=p;have nai:a≠it:=λz=>by
   subst z;have(o1,q1,q2,_):=hT;have(o2,q3,q4,_):=hit;rw[q1]at q3;cases q3;rw[q2]at q4;show absurd q4 (by decide +kernel)
  show DR (vd (I.ok.hd hc) hit hT (by simp;lia)) he λh1 eb=>{Xr,I.turned (t':=s.toks) (λb o hb e=>eb b o hb e) f0 f1 f3 f4 f5}
 self:=λ_ _ _ _ _ st h=>by
  obtain⟨⟨old,he⟩,_⟩:=st;show Si he h
abbrev xC(K:yF)(d:TA):TI:=λZ H R=>d Z H λvs c=>∃a e,vs=[.ref a]/\SqT K c a e/\R (Ite K a) c
def BK{X:Cx}{a:Expr}{i:TA}{elts:!Expr}{k0:Nat}{p pos pt:Pos}(C:Gl X "enumerate")(t:X.mg "enumerate" = Uc)(E:PA X [a] i)(hs:Ox [a] X.env=[(Ue,eval a X.env)]:=by rfl):PI X (.Tuple elts k0 pt) (.Call (.Name "enumerate" p) [a] [] pos) (xC X.K i):=by
 intro v s Z H R I h;show Call_ (jo I C t boot_enumerate (KN (thn (E pos v s Z H _ I h) λP c ⟨vs,x,d,J,k⟩=>?_) hs rfl));have(l,M,e,m,q):=k;subst e;have(u,rfl,w):=ef J;cases w;have(f,O,r,L):=d.tuple m;show lh (show c.heap.IsTuple l f.toArray from r) λN j g B G=>?_;show Si j ?_;show{c.heap.objs.size+1,[c.heap.objs.size+1,c.heap.objs.size],_,_,x,Xr,d.kept (t':=c.toks) λb o e=>G b o e,wD l c.heap.objs.size _ (Nat.succ_ne_self _),{{_,j},g},λb y=>?_,q};rcases ycM y with z|z
 .subst z;show d.fpOk (LM _) (d.hok.fresh (LM _))
 .have A:b=c.heap.objs.size:=by exists z
  subst A;show d.fpOk (JA _) (d.hok.fresh (JA _))
def ieK{X:Cx}{K:yF}{a:Expr}{c:TA}{elts:!Expr}{k0:Nat}{p pos pt:Pos}(h:X.K=K)(d:Gl X "enumerate")(e:X.mg "enumerate" = Uc)(f:PA X [a] c)(hs:Ox [a] X.env=[(Ue,eval a X.env)]:=by rfl):PI X (.Tuple elts k0 pt) (.Call (.Name "enumerate" p) [a] [] pos) (xC K c):=h▸BK d e f hs
abbrev pP:V->!V->Hp->VK->Prop:=λx vs H Q=>∃l a i y,x=.ref l/\vs=[.int i,y]/\H l*>(.lst a)/\0<=i/\i<=a.length/\a.length<sizeLine/\Q .non (upd H l (.lst (a.take i.toNat++y::a.drop i.toNat)))
def vH:MtM X "list.insert" pP:=by
 intro C s Z H x vs v K Q I w B h;obtain⟨l,E,i,y,rfl,rfl,m,A,L,f,q⟩:=h;cases w;have(G,d,rfl,u,p):=rP B;have(t,rfl):=u;have(z,a,n,r,J,e):=I.lstM m;have g:i<2^63:=by rw[Oe]at f;lia
 have j : -(2^63)<=i:=by lia
 have c:¬(~~~Builtin.List.listFitsIndex i)=Ug:=by rw[Qy j g];show JF
 have k:a.toArray.size<=sizeLine:=by rw[Ju];lia
 show Pk F.slot_list_insert {_,e,Xr} F.entry_list_insert (F.args_list_insert_3 _ _ _) (PySem.AutoSeq1.list_insert_list_int_val_1 l _ n i t d c k) {e,?_};show{.non,_,I.lset (its':=a.take i.toNat++d::a.drop i.toNat) m e ?_ ((r.take i.toNat).append (.cons p (r.drop i.toNat))) ?_,Xr,q}
 .change(a.toArray.extract 0 (if i<0 then(i+(a.toArray.size:Int)).toNat else min i.toNat a.toArray.size)).push d++a.toArray.extract (if i<0 then(i+(a.toArray.size:Int)).toNat else min i.toNat a.toArray.size)=(a.take i.toNat++d::a.drop i.toNat).toArray;have o:min i.toNat a.toArray.size=i.toNat:=by rw[Ju];lia
  rw[if_neg (by lia),o];simp;rw[Kc (by rw[Kt];show JA _)]
 .rw[JP,J1,JH,Kt]
  lia
abbrev cC:Expr->Bool
 | .Starred _ _=>Ug
 | _=>Ue
def bF(h:cC e=Ue):Ox (e::es) env=(Ue,eval e env)::Ox es env:=by
 cases e<;>first|rfl|cases h
abbrev bD:!Expr->Bool
 | []=>Ug
 | e::a=>(~~~cC e)&&bD a
def dY:∀{a:!Expr},bD a=Ug->(P6 pos (Ox a env)).any (·.1)=Ue
 | [],_=>rfl
 | e::a,h=>by
  rw[bD,Jv]at h;have c:cC e=Ue:=by exists h.1
  rw[bF c];change(Ue||(P6 pos (Ox a env)).any (·.1))=Ue;rw[dY h.2];rfl
def k9:∀{a:!Expr},bD a=Ug->(P6 pos (Ox a env)).all (λx=> ~~~x.1)=Ug
 | [],_=>rfl
 | e::a,h=>by
  rw[bD,Jv]at h;have c:cC e=Ue:=by exists h.1
  rw[bF c];change(~~~Ue&&(P6 pos (Ox a env)).all (λx=> ~~~x.1))=Ug;rw[k9 h.2];rfl
section
variable {X:Cx}{K:yF}{e:Expr}{es:!Expr}{te:TE}{t:TA}{x:Str}{p pos:Pos}{k:Nat}{ps:!Str}{sp:Sp}
def iE(c:PE X e te)(a:PA X es t)(hs:cC e=Ue:=by rfl):PA X (e::es) (uI te t):=BB c a (bF hs)
def yv(h:Has X.prog X.w X.K X.mg X.base k x ps sp)(d:NQ k X.A)(f:Gl X x)(g:PA X (e::es) t)(a:bD (e::es)=Ug:=by rfl)(c:(x==("__debug__" : Str))=Ue:=by decide):PE X (.Call (.Name x p) (e::es) [] pos) (oS sp [] E0 t):=by
 rw[bD,Jv]at a;show Ho h d f g c (bF (by exists a.1)) (dY a.2)
def oE{id:String}{r:!V->Hp->VK->Prop}(f:NK X (.builtin id) r)(g:Gl X x)(d:X.mg x=Uc)(h:O7 x*>(.builtin id))(j:PA X (e::es) t)(a:bD (e::es)=Ug:=by rfl)(i:x≠("__name__" : Str):=by decide)(c:(x==("__debug__" : Str))=Ue:=by decide):PE X (.Call (.Name x p) (e::es) [] pos) (tCB r t):=by
 rw[bD,Jv]at a;show yr f g d h j i c (bF (by exists a.1)) (dY a.2)
def jr(d:NK X (.type T) r)(f:Gl X x)(i:X.mg x=Uc)(g:O7 x*>(.type T))(j:PA X (e::es) t)(a:bD (e::es)=Ug:=by rfl)(h:x≠("__name__" : Str):=by decide)(c:(x==("__debug__" : Str))=Ue:=by decide):PE X (.Call (.Name x p) (e::es) [] pos) (tCB r t):=by
 rw[bD,Jv]at a;show vR d f i g j h c (bF (by exists a.1)) (dY a.2)
def Gx{o:Expr}{m:TE}{name:Str}{c a:Pos}{T id:String}{r:V->!V->Hp->VK->Prop}(h:X.K=K)(s:Qe T)(i:Slot T name id)(l:R3 (.builtin id)=pure (.type "method_descriptor"))(u:MtR X id r)(ho:PE X o m)(v:PA X (e::es) t)(q:bD (e::es)=Ug:=by rfl)(j:decide ((e::es).length<30)=Ug:=by rfl)
  (d:O8 o name X.env (eval o X.env)=eval o X.env:=by rfl) (g:(c.endLine==a.line)=Ug:=by rfl):PE X (.Call (.Attribute o name c) (e::es) [] a) (tBM K T r m t):=by
 have f:=q;rw[bD,Jv]at f;show bmK h s i l u ho v d ?_ g (bF (by exists f.1)) (dY f.2);rw[k9 q];have:=of_decide_eq_true j;dsimp[Mh,List.length_nil,Nat.add_zero,List.isEmpty_nil,if_true];rw[decide_eq_true this];rfl
end
end L2
namespace L2
open PySem PySem.Spec PySem.Calls PyProof.Rows PySem.W
abbrev lx:!Oa->Bool
 | .ref _::r=>lx r
 | .type n::r=>n == "ValueError" && r==[.type "Exception",.type "BaseException",.type "object"]
 | _=>Ue
open Builtin Builtin.ObjectAttr
end L2
namespace L2
open PySem PySem.Spec PyProof.Rows
open PySem.W (Frag clsIn findIn subIn specialIn instIn mroIn takesIn InstAt Looks)
abbrev exO(b:Bool) (C:Addr) (d:↑Addr) (x:Addr):HO:=.ext λh=>∃vs,h.get? x=Ud {cls:=.ref C,dict:=d,data:=.fields vs}/\(b=Ue->∃t,vs = #[.ref t,.none,.none,.none,.bool Ue,.none])
abbrev DV(K:Frag) (C:Addr):Bool:=match K.lookup C with
 | some o=>(match o.data with
  | .cls a=>decide (o.cls=.type "type")&&decide (o.slots.size=6)&&decide (o.slots[4]?*>(Ud (.builtin "ValueError.__new__")))&&decide (a.mro.head?*>(.ref C)) &&  ~~~a.hasDel&&a.hasDict&&lx a.mro.tail &&  ~~~a.mro.tail.contains (.type "AttributeError") &&  ~~~a.mro.tail.contains (.type "NameError")&&a.mro.tail.contains (.type "ValueError")
  | _=>Ue)
 | none=>Ue
structure ExK(K:Frag)(C:Addr):Prop where
 obj:DV K C=Ug
 sa:TM K (.ref C) "__setattr__" = Ud (Ud (.builtin "object.__setattr__"))
 ga:TM K (.ref C) "__getattribute__" = Ud (Ud (.builtin "BaseException.__getattribute__"))
 g0:TM K (.ref C) "__getattr__" = Ud Uc
 sub:subIn K (.ref C) (.type "BaseException")*>Ug
 call:TF K (.ref C) "__call__" = Ud (Ud (.builtin "type.__call__"))
 typ:instIn K (.ref C) (.type "type")*>Ug
 ca:TM K (.ref C) "__class__" = Ud (Ud (.builtin "object.__class__"))
 cn:TF K (.builtin "object.__class__") "__get__" = Ud (Ud (.builtin "getset_descriptor.__get__"))
 ct:takesIn K (.builtin "object.__class__")*>Ug
 cm:mroIn K C (.type "object")*>Ug
def AS{K:Frag}{C:Addr}(e:DV K C=Ug):∃t q N bs g a p sub s h v k0 m k r u,K.lookup C*>(excClassObj t q C N bs g a p sub s h v k0 m k r u "ValueError.__new__") /\
  g.contains (.type "ValueError")=Ug/\g.contains (.type "AttributeError")=Ue/\g.contains (.type "NameError")=Ue/\lx g=Ug/\a=Ug:=by
 unfold DV at e;ext e o H;ext e L j;dsimp[Jv,decide_eq_true_eq,Kf]at e;obtain⟨⟨⟨⟨⟨⟨⟨⟨⟨B,f⟩,A⟩,x⟩,d⟩,z⟩,i⟩,E⟩,w⟩,y⟩:=e;obtain⟨c,v,S,⟨l⟩⟩:=o;obtain⟨t,bs,M,O,P,G,p,sub,s,h,J⟩:=L;dsimp only at x d z j B A f i E w y;have(g,rfl):=List.head?_eq_some_iff.mp x;subst d z j B;have(k0,l,rfl):=Km (l:=l) (n:=5) f;have(m,l,rfl):=Km (l:=l) (n:=4) (KG.inj f);have(k,l,rfl):=Km (l:=l) (n:=3) (KG.inj (KG.inj f));have(r,l,rfl):=Km (l:=l) (n:=2) (KG.inj (KG.inj (KG.inj f)));have(Q,l,rfl):=Km (l:=l) (n:=1) (KG.inj (KG.inj (KG.inj (KG.inj f))));have(u,rfl):=List.length_eq_one_iff.mp (KG.inj (KG.inj (KG.inj (KG.inj (KG.inj f)))));cases JT.inj A;show⟨t,P,O,bs,g,Ug,p,sub,s,h,v,k0,m,k,r,u,H,y,E,w,i,Xr⟩
section
variable {X:Cx}{CX:CXT}{k:Nat}{C f:Addr}{fd:Pt}{ps:!Str}{sp:Sp}{E:XK}{Ub:!(Addr×Obj)}{Z:St}{H:Hp}{s:Od}
structure EMk(K:Frag)(C f:Addr):Prop where
 ex:ExK K C
 init:TM K (.ref C) "__init__" = Ud (Ud (.ref f))
 fn:Nw K (.ref f)=Ug
 kp:K4 K (.ref C)=Ug
end
open PySem.W (Frag clsIn findIn subIn specialIn instIn mroIn takesIn InstAt Looks)
abbrev exX(fs:!(Str×V)) (c:Addr):HO:=.ext λh=>∃a,h.Ns1 c a/\(∀f,RelO (fs.lookup f) (a f))/\PySem.Within a (fs.map (·.1))
def ExK.cls{K:Frag}{C:Addr}(x:ExK K C):∃a,clsIn K C*>a/\lx a.mro=Ug/\a.hasDict=Ug:=by
 obtain⟨i,q,N,m,o,c,j,sub,p,e,r,g,h,f,k,l,d,c1,c2,c3,c4,c5⟩:=AS x.obj;show{_,by unfold clsIn;rw[d],c4,c5}
end L2
namespace L2
open PySem PySem.Spec PyProof.Rows
open PySem.W (Frag clsIn findIn subIn specialIn instIn mroIn takesIn InstAt Looks keepIn readsIn findCls handedIn)
structure CIn(K:Frag)(B f:Addr):Prop where
 sp:TF K (.ref B) "__getattribute__" = Ud (Ud (.builtin "type.__getattribute__"))
 rd:readsIn K B (.type "type")=Ug
 fc:findCls K (.ref B) (.type "type") "__init__" = Ud (.val (.ref f))
 kp:keepIn K (.ref f)=Ug
 hh:handedIn (.ref f)=Ug
inductive I where
 | non|bl (b:Bool)|int (i:Int)|str (x:Str)|tup (is:!I)|ls (is:!I)
 | fd (ks:!Key) (is:!I)
 | exn (x:Str) (ks:!Str) (is:!I)
mutual
def I.beq:I->I->Bool
 | .non,b=>(match b with|.non=>Ug|_=>Ue)
 | .bl a,b=>(match b with|.bl b=>a==b|_=>Ue)
 | .int a,b=>(match b with|.int b=>decide (a=b)|_=>Ue)
 | .str a,b=>(match b with|.str b=>decide (a=b)|_=>Ue)
 | .tup a,b=>(match b with|.tup b=>I.beqs a b|_=>Ue)
 | .ls a,b=>(match b with|.ls b=>I.beqs a b|_=>Ue)
 | .fd k a,b=>(match b with|.fd j b=>decide (k=j)&&I.beqs a b|_=>Ue)
 | .exn x k a,b=>(match b with|.exn y j b=>decide (x=y/\k=j)&&I.beqs a b|_=>Ue)
def I.beqs:!I->!I->Bool
 | [],b=>b.isEmpty
 | a::d,b=>(match b with|b::c=>I.beq a b&&I.beqs d c|[]=>Ue)
end
mutual
theorem I.beq_iff:∀{a b:I},I.beq a b=Ug↔a=b
 | .non,b=>by cases b<;>simp[I.beq]
 | .bl x,b=>by cases b<;>simp[I.beq]
 | .int x,b=>by cases b<;>simp[I.beq]
 | .str x,b=>by cases b<;>simp[I.beq]
 | .tup x,b=>by
  cases b with
  | tup y=>dsimp[I.beq,I.beqs_iff,I.tup.injEq]
  | _=>simp[I.beq]
 | .ls x,b=>by
  cases b with
  | ls y=>dsimp[I.beq,I.beqs_iff,I.ls.injEq]
  | _=>simp[I.beq]
 | .fd k x,b=>by
  cases b with
  | fd j y=>dsimp[I.beq,Jv,I.beqs_iff,I.fd.injEq,decide_eq_true_iff]
  | _=>simp[I.beq]
 | .exn z k x,b=>by
  cases b with
  | exn w j y=>dsimp[I.beq,Jv,I.beqs_iff,I.exn.injEq,decide_eq_true_iff,and_assoc]
  | _=>simp[I.beq]
theorem I.beqs_iff:∀{a b:!I},I.beqs a b=Ug↔a=b
 | [],b=>by cases b<;>simp[I.beqs]
 | x::d,b=>by
  cases b with
  | nil=>simp[I.beqs]
  | cons y c=>dsimp[I.beqs,Jv,I.beq_iff,I.beqs_iff,Kw.injEq]
end
instance:DecidableEq I:=λa b=>decidable_of_iff (I.beq a b=Ug) I.beq_iff
inductive T where
 | im (i:I)|tup (ts:!T)|li (is:!I)|lst (ts:!T)|di (kvs:!(I×I))|dc (kvs:!(I×T))|ins (C:Addr) (fs:!(Str×T))
 | dq (kvs:!(I×I))
abbrev cu:Key->I
 | .inl i=>.int i
 | .inr x=>.str x
abbrev DAt(K:yF)(H:Hp)(a:Addr)(ks:!(I×V)):Prop:=∃c:!(Key×V),H a*>(.dK c)/\ks=c.map λp=>(cu p.1,p.2)
mutual
def RpI(K:yF)(H:Hp):I->V->Prop
 | .non,v=>v=.non
 | .bl b,v=>v=.bl b
 | .int i,v=>v=.int i
 | .str x,v=>v=.str x
 | .tup c,v=>∃a e,v=.ref a/\SqT K H a e/\p7 K H c e
 | .ls c,v=>∃a o e,v=.ref a/\H a*>(.frz o (.lst e))/\p7 K H c e
 | .fd f c,v=>∃a o d,v=.ref a/\H a*>(.frz o (.dK d))/\d.map (·.1)=f/\p7 K H c (d.map (·.2))
 | .exn x f c,v=>∃C a,v=.ref a/\Mt K OM x*>(Ud (.ref C))/\∃b,(f=[]/\c=[]/\H a*>(exO b C Uc a) \/ ∃g d,H a*>(exO b C (Ud g) a)/\H g*>(exX d g)/\d.map (·.1)=f/\p7 K H c (d.map (·.2)))
def p7(K:yF)(H:Hp):!I->!V->Prop
 | [],a=>a=[]
 | t::c,a=>∃x r,a=x::r/\RpI K H t x/\p7 K H c r
end
abbrev k1I:K1->I
 | .inl k=>cu k
 | .inr a=>.tup (a.map cu)
abbrev GC(ks:!K1):I:=.tup (ks.map k1I)
protected def QA1(K:yF)(H:Hp)(p:I×I)(y:!K1×Addr×V):Prop:=GC y.1=p.1/\RpI K H p.1 (.ref y.2.1)/\RpI K H p.2 y.2.2
mutual
def Rp(K:yF)(H:Hp):T->V->!Addr->Prop
 | .im i,v,F=>RpI K H i v/\F=[]
 | .tup g,v,F=>∃a f,v=.ref a/\SqT K H a f/\Rps K H g f F
 | .li j,v,F=>∃a f,v=.ref a/\Rd H a (.lst f)/\p7 K H j f/\F=[a]
 | .lst g,v,F=>∃a f e,v=.ref a/\Rd H a (.lst f)/\Rps K H g f e/\F=a::e
 | .di c,v,F=>∃a d,v=.ref a/\DAt K H a d/\p7 K H (c.map (·.2)) (d.map (·.2))/\d.map (·.1)=c.map (·.1)/\F=[a]
 | .dc c,v,F=>∃a d e,v=.ref a/\DAt K H a d/\Rpk K H c d e/\F=a::e
 | .ins C h,v,F=>∃a k d e,v=.ref a/\H a*>(.ins C k d)/\Rpf K H h d e/\F=a::e
 | .dq c,v,F=>∃a d,v=.ref a/\H a*>(.dT d)/\Paired (QA1 K H) c d/\F=[a]
def Rps(K:yF)(H:Hp):!T->!V->!Addr->Prop
 | [],a,F=>a=[]/\F=[]
 | t::e,a,F=>∃x r d c,a=x::r/\Rp K H t x d/\Rps K H e r c/\F=d++c
def Rpk(K:yF)(H:Hp):!(I×T)->!(I×V)->!Addr->Prop
 | [],a,F=>a=[]/\F=[]
 | (k,t)::e,a,F=>∃x r d c,a=(k,x)::r/\Rp K H t x d/\Rpk K H e r c/\F=d++c
def Rpf(K:yF)(H:Hp):!(Str×T)->!(Str×V)->!Addr->Prop
 | [],a,F=>a=[]/\F=[]
 | (k,t)::e,a,F=>∃x r d c,a=(k,x)::r/\Rp K H t x d/\Rpf K H e r c/\F=d++c
end
abbrev D9:HO->Bool
 | .lst _=>Ug|.dK _=>Ug|.dT _=>Ug|.ins _ _ _=>Ug|_=>Ue
abbrev Mu(H:Hp)(a:Addr):Prop:=∃o,H a*>o/\D9 o=Ug
abbrev NJ(M:!Addr)(H H':Hp):Prop:=∀b o,H b*>o->b∉M->H' b*>o
def NP.offM(s:NP H H')(M:!Addr):NJ M H H':=λb o h _=>s b o h
def NJ.refl(M:!Addr)(H:Hp):NJ M H H:=λb o h _=>h
def NJ.trans(x:NJ M H H1)(y:NJ M H1 H2):NJ M H H2:=λb o h n=>y b o (x b o h n) n
def NJ.mono(x:NJ M H H1)(y:∀a∈M,a∈M'):NJ M' H H1:=λb o h n=>x b o h λz=>n (y b z)
def NJ.upd:NJ [a] H (upd H a o):=λb u h n=>by rw[aT (by exists n)];show h
def NJ.rd(x:NJ M H H')(n:a∉M)(h:Rd H a o):Rd H' a o:=by
 rcases h with h|⟨u,h⟩;show .inl (x a _ h n);show .inr {u,x a _ h n}
def NJ.sqT{K:yF}{M:!Addr}{H H':Hp}{a:Addr}{d:!V}(x:NJ M H H')(c:∀b∈M,Mu H b)(h:SqT K H a d):SqT K H' a d:=by
 rcases h with(h|⟨u,h⟩)|h;show .inl (.inl (x a _ h λz=>by have(o,e,m):=c a z;rw[h]at e;cases e;cases m));show .inl (.inr {u,x a _ h λz=>by have(o,e,m):=c a z;rw[h]at e;cases e;cases m});show .inr h
def DAt.off{K:yF}{M:!Addr}{H H':Hp}{a:Addr}{ks:!(I×V)}(x:NJ M H H')(n:a∉M)(h:DAt K H a ks):DAt K H' a ks:=by
 have(c,e,d):=h;show{c,x a _ e n,d}
def DAt.dom{K:yF}{H:Hp}{a:Addr}{ks:!(I×V)}(h:DAt K H a ks):∃o,H a*>o:=by
 have(d,c,e):=h;show{_,c}
def Rd.dom(h:Rd H a u):∃o,H a*>o:=by
 rcases h with h|⟨o,h⟩;show{_,h};show{_,h}
mutual
theorem RpI.off{K:yF}{M:!Addr}{H H':Hp}(x:NJ M H H')(f:∀b∈M,Mu H b):∀{t:I} {v:V},RpI K H t v->RpI K H' t v
 | .non,_,h=>by rw[RpI]at h|-;show h
 | .bl _,_,h=>by rw[RpI]at h|-;show h
 | .int _,_,h=>by rw[RpI]at h|-;show h
 | .str _,_,h=>by rw[RpI]at h|-;show h
 | .tup s,_,h=>by rw[RpI]at h|-;have(a,r,g,c,d):=h;show{a,r,g,x.sqT f c,p7.off x f d}
 | .ls s,_,h=>by
  rw[RpI]at h|-;have(a,o,r,g,c,d):=h;show{a,o,r,g,x a _ c (λz=>by have(u,e,m):=f a z;rw[c]at e;cases e;cases m),p7.off x f d}
 | .fd y s,_,h=>by
  rw[RpI]at h|-;have(a,o,k,g,c,d,A):=h;show{a,o,k,g,x a _ c (λz=>by have(u,e,m):=f a z;rw[c]at e;cases e;cases m),d,p7.off x f A}
 | .exn z y s,_,h=>by
  have i:∀{b:Addr} {l : Heap->Prop},H b*>(.ext l)->H' b*>(.ext l):=λ{b l} c=>x b _ c λz=>by have(u,e,m):=f b z;rw[c]at e;cases e;cases m
  rw[RpI]at h|-;obtain⟨C,a,g,c,d⟩:=h;obtain⟨b,d⟩:=d;show{C,a,g,c,b,?_};rcases d with⟨p,j,q⟩|⟨B,k,p,j,q,w⟩;show .inl {p,j,i q};show .inr {B,k,i p,i j,q,p7.off x f w}
theorem p7.off{K:yF}{M:!Addr}{H H':Hp}(x:NJ M H H')(a:∀b∈M,Mu H b):∀{ts:!I} {c:!V},p7 K H ts c->p7 K H' ts c
 | [],_,h=>by rw[p7]at h|-;show h
 | t::ts,_,h=>by
  rw[p7]at h|-;have(y,r,f,e,d):=h;show{y,r,f,RpI.off x a e,p7.off x a d}
end
mutual
theorem Rp.off{K:yF}{M:!Addr}{H H':Hp}(x:NJ M H H')(g:∀b∈M,Mu H b):∀{t:T} {v:V} {F:!Addr},(∀a∈F,a∉M)->Rp K H t v F->Rp K H' t v F
 | .im _,_,_,_,h=>by rw[Rp]at h|-;show{RpI.off x g h.1,h.2}
 | .tup l,_,_,n,h=>by rw[Rp]at h|-;have(a,f,e,d,c):=h;show{a,f,e,x.sqT g d,Rps.off x g n c}
 | .li l,_,_,n,h=>by
  rw[Rp]at h|-;have(a,f,e,d,c,rfl):=h;show{a,f,e,x.rd (n a ymS) d,p7.off x g c,Xr}
 | .lst l,_,_,n,h=>by
  rw[Rp]at h|-;have(a,f,i,e,d,c,rfl):=h;show{a,f,i,e,x.rd (n a ymS) d,Rps.off x g (λb k=>n b (ymC _ k)) c,Xr}
 | .di j,_,_,n,h=>by
  rw[Rp]at h|-;have(a,f,e,d,c,o,rfl):=h;show{a,f,e,d.off x (n a ymS),p7.off x g c,o,Xr}
 | .dc j,_,_,n,h=>by
  rw[Rp]at h|-;have(a,f,i,e,d,c,rfl):=h;show{a,f,i,e,d.off x (n a ymS),Rpk.off x g (λb k=>n b (ymC _ k)) c,Xr}
 | .ins C r,_,_,n,h=>by
  rw[Rp]at h|-;have(a,q,f,i,e,d,c,rfl):=h;show{a,q,f,i,e,x a _ d (n a ymS),Rpf.off x g (λb k=>n b (ymC _ k)) c,Xr}
 | .dq j,_,_,n,h=>by
  rw[Rp]at h|-;have(a,m,e,d,c,rfl):=h;show{a,m,e,x a _ d (n a ymS),Paired.mapP c λp y z=>{z.1,RpI.off x g z.2.1,RpI.off x g z.2.2},Xr}
theorem Rps.off{K:yF}{M:!Addr}{H H':Hp}(x:NJ M H H')(d:∀b∈M,Mu H b):∀{ts:!T} {e:!V} {F:!Addr},(∀a∈F,a∉M)->Rps K H ts e F->Rps K H' ts e F
 | [],_,_,_,h=>by rw[Rps]at h|-;show h
 | t::ts,_,_,n,h=>by
  rw[Rps]at h|-;have(y,r,k,j,i,g,f,rfl):=h;show{y,r,k,j,i,Rp.off x d (λb c=>n b (yaL _ c)) g,Rps.off x d (λb c=>n b (yaR _ c)) f,Xr}
theorem Rpk.off{K:yF}{M:!Addr}{H H':Hp}(x:NJ M H H')(d:∀b∈M,Mu H b):∀{ts:!(I×T)} {e:!(I×V)} {F:!Addr},(∀a∈F,a∉M)->Rpk K H ts e F->Rpk K H' ts e F
 | [],_,_,_,h=>by rw[Rpk]at h|-;show h
 | (k,t)::ts,_,_,n,h=>by
  rw[Rpk]at h|-;have(y,r,l,j,i,g,f,rfl):=h;show{y,r,l,j,i,Rp.off x d (λb c=>n b (yaL _ c)) g,Rpk.off x d (λb c=>n b (yaR _ c)) f,Xr}
theorem Rpf.off{K:yF}{M:!Addr}{H H':Hp}(x:NJ M H H')(d:∀b∈M,Mu H b):∀{ts:!(Str×T)} {e:!(Str×V)} {F:!Addr},(∀a∈F,a∉M)->Rpf K H ts e F->Rpf K H' ts e F
 | [],_,_,_,h=>by rw[Rpf]at h|-;show h
 | (k,t)::ts,_,_,n,h=>by
  rw[Rpf]at h|-;have(y,r,l,j,i,g,f,rfl):=h;show{y,r,l,j,i,Rp.off x d (λb c=>n b (yaL _ c)) g,Rpf.off x d (λb c=>n b (yaR _ c)) f,Xr}
end
def Rps.same{K:yF}{H H':Hp}(x:NP H H'){t:!T}{v:!V}{F:!Addr}(h:Rps K H t v F):Rps K H' t v F:=Rps.off (x.offM []) ∅ ∅ h
def p7.same{K:yF}{H H':Hp}(x:NP H H'){t:!I}{v:!V}(h:p7 K H t v):p7 K H' t v:=p7.off (x.offM []) ∅ h
mutual
theorem Rp.dom{K:yF}{H:Hp}:∀{t:T} {v:V} {F:!Addr},Rp K H t v F->∀a∈F,∃o,H a*>o
 | .im _,_,_,h=>by rw[Rp]at h;rw[h.2];simp
 | .tup f,_,_,h=>by rw[Rp]at h;obtain⟨_,_,_,_,h⟩:=h;show Rps.dom h
 | .li f,_,_,h=>by
  rw[Rp]at h;have(a,i,g,d,e,rfl):=h;intro b c;rw[ysM c];show d.dom
 | .lst f,_,_,h=>by
  rw[Rp]at h;have(a,i,j,g,d,e,rfl):=h;intro b c;rcases ycM c with rfl|c;show d.dom;show Rps.dom e b c
 | .di f,_,_,h=>by
  rw[Rp]at h;have(a,i,g,d,e,l,rfl):=h;intro b c;rw[ysM c];show d.dom
 | .dc f,_,_,h=>by
  rw[Rp]at h;have(a,i,j,g,d,e,rfl):=h;intro b c;rcases ycM c with rfl|c;show d.dom;show Rpk.dom e b c
 | .ins C f,_,_,h=>by
  rw[Rp]at h;have(a,m,i,j,g,d,e,rfl):=h;intro b c;rcases ycM c with rfl|c;show{_,d};show Rpf.dom e b c
 | .dq f,_,_,h=>by
  rw[Rp]at h;have(a,k,g,d,e,rfl):=h;intro b c;rw[ysM c];show{_,d}
theorem Rps.dom{K:yF}{H:Hp}:∀{ts:!T} {f:!V} {F:!Addr},Rps K H ts f F->∀a∈F,∃o,H a*>o
 | [],_,_,h=>by rw[Rps]at h;rw[h.2];simp
 | t::ts,_,_,h=>by
  rw[Rps]at h;have(y,r,j,i,g,e,d,rfl):=h;intro b c;rcases yaM c with c|c;show Rp.dom e b c;show Rps.dom d b c
theorem Rpk.dom{K:yF}{H:Hp}:∀{ts:!(I×T)} {f:!(I×V)} {F:!Addr},Rpk K H ts f F->∀a∈F,∃o,H a*>o
 | [],_,_,h=>by rw[Rpk]at h;rw[h.2];simp
 | (k,t)::ts,_,_,h=>by
  rw[Rpk]at h;have(y,r,j,i,g,e,d,rfl):=h;intro b c;rcases yaM c with c|c;show Rp.dom e b c;show Rpk.dom d b c
theorem Rpf.dom{K:yF}{H:Hp}:∀{ts:!(Str×T)} {f:!(Str×V)} {F:!Addr},Rpf K H ts f F->∀a∈F,∃o,H a*>o
 | [],_,_,h=>by rw[Rpf]at h;rw[h.2];simp
 | (k,t)::ts,_,_,h=>by
  rw[Rpf]at h;have(y,r,j,i,g,e,d,rfl):=h;intro b c;rcases yaM c with c|c;show Rp.dom e b c;show Rpf.dom d b c
end
def p7.nil{K:yF}{H:Hp}:p7 K H [] []:=by rw[p7]
def p7.cons{K:yF}{H:Hp}{t:I}{ts:!I}{x:V}{a:!V}(h:RpI K H t x)(hs:p7 K H ts a):p7 K H (t::ts) (x::a):=by rw[p7];show⟨x,a,Xr,h,hs⟩
def p7.cons_inv{K:yF}{H:Hp}{t:I}{ts:!I}{a:!V}(h:p7 K H (t::ts) a):∃x r,a=x::r/\RpI K H t x/\p7 K H ts r:=by rw[p7]at h;show h
def p7.nil_inv{K:yF}{H:Hp}{a:!V}(h:p7 K H [] a):a=[]:=by rw[p7]at h;show h
def p7.length{K:yF}{H:Hp}:∀{ts:!I} {a:!V},p7 K H ts a->a.length=ts.length
 | [],a,h=>by rw[h.nil_inv];rfl
 | d::e,a,h=>by have(x,r,rfl,_,c):=h.cons_inv;rw[JH,JH,c.length]
def p7.get{K:yF}{H:Hp}:∀{ts:!I} {a:!V} {i:Nat} {t:I},p7 K H ts a->ts[i]?*>t->∃x,a[i]?*>x/\RpI K H t x
 | [],_,_,_,_,e=>by simp at e
 | d::l,a,0,j,h,e=>by
  have(x,r,rfl,f,c):=h.cons_inv;simp at e;subst e;show⟨x,Xr,f⟩
 | d::l,a,i+1,j,h,e=>by
  have(x,r,rfl,f,c):=h.cons_inv;have(y,g,k):=p7.get (i:=i) c (by exists e);show{y,by simpa using g,k}
def p7.append{K:yF}{H:Hp}:∀{f e:!I} {c a:!V},p7 K H f c->p7 K H e a->p7 K H (f++e) (c++a)
 | [],e,c,a,h,g=>by obtain rfl:=h.nil_inv;show g
 | d::f,e,c,a,h,g=>by
  have(x,r,rfl,j,i):=h.cons_inv;show p7.cons j (p7.append i g)
def p7.take{K:yF}{H:Hp}:∀{ds:!I} {a:!V} (n:Nat),p7 K H ds a->p7 K H (ds.take n) (a.take n)
 | ds,a,0,h=>by dsimp[Nm];show p7.nil
 | [],a,n+1,h=>by obtain rfl:=h.nil_inv;show p7.nil
 | d::ds,a,n+1,h=>by
  have(x,r,rfl,e,c):=h.cons_inv;show p7.cons e (p7.take n c)
def p7.drop{K:yF}{H:Hp}:∀{ds:!I} {a:!V} (n:Nat),p7 K H ds a->p7 K H (ds.drop n) (a.drop n)
 | ds,a,0,h=>h
 | [],a,n+1,h=>by obtain rfl:=h.nil_inv;show p7.nil
 | d::ds,a,n+1,h=>by
  have(x,r,rfl,e,c):=h.cons_inv;show p7.drop n c
def p7.one{K:yF}{H:Hp}{t:I}{x:V}(h:RpI K H t x):p7 K H [t] [x]:=.cons h .nil
def p7.set{K:yF}{H:Hp}{t:I}{x:V}(f:RpI K H t x):∀{c:!I} {a:!V} (n:Nat),p7 K H c a->p7 K H (c.set n t) (a.set n x)
 | [],a,n,h=>by obtain rfl:=h.nil_inv;show p7.nil
 | d::c,a,0,h=>by have(y,r,rfl,g,e):=h.cons_inv;show p7.cons f e
 | d::c,a,n+1,h=>by have(y,r,rfl,g,e):=h.cons_inv;show p7.cons g (p7.set f n e)
def p7.ints{K:yF}{H:Hp}:∀(ns:!Int),p7 K H (ns.map I.int) (ns.map V.int)
 | []=>p7.nil
 | n::ns=>p7.cons (by rw[RpI]) (p7.ints ns)
def Rps.nil{K:yF}{H:Hp}:Rps K H [] [] []:=by rw[Rps];show⟨Xr,Xr⟩
def Rps.cons{K:yF}{H:Hp}{t:T}{ts:!T}{x:V}{a:!V}{F F':!Addr}(h:Rp K H t x F)(hs:Rps K H ts a F'):Rps K H (t::ts) (x::a) (F++F'):=by rw[Rps];show⟨x,a,F,F',Xr,h,hs,Xr⟩
def Rps.cons_inv{K:yF}{H:Hp}{t:T}{ts:!T}{c:!V}{F:!Addr}(h:Rps K H (t::ts) c F):∃x r d a,c=x::r/\Rp K H t x d/\Rps K H ts r a/\F=d++a:=by rw[Rps]at h;show h
def Rps.nil_inv{K:yF}{H:Hp}{a:!V}{F:!Addr}(h:Rps K H [] a F):a=[]/\F=[]:=by rw[Rps]at h;show h
def Rps.length{K:yF}{H:Hp}:∀{ts:!T} {a:!V} {F:!Addr},Rps K H ts a F->a.length=ts.length
 | [],a,_,h=>by rw[h.nil_inv.1];rfl
 | d::e,a,_,h=>by have(x,r,_,_,rfl,_,c,_):=h.cons_inv;rw[JH,JH,c.length]
def Rps.append{K:yF}{H:Hp}:∀{f e:!T} {c a:!V} {F G:!Addr},Rps K H f c F->Rps K H e a G->Rps K H (f++e) (c++a) (F++G)
 | [],e,c,a,F,G,h,g=>by have(rfl,rfl):=h.nil_inv;show g
 | d::f,e,c,a,F,G,h,g=>by
  have(x,r,l,k,rfl,j,i,rfl):=h.cons_inv;rw[JK];show Rps.cons j (Rps.append i g)
def Rps.at{K:yF}{H:Hp}:∀{ts:!T} {a:!V} {F:!Addr} {i:Nat} {t:T},Rps K H ts a F->ts[i]?*>t ->
  ∃x A G B,a[i]?*>x/\Rp K H t x G/\F=A++G++B/\Rps K H (ts.take i) (a.take i) A/\Rps K H (ts.drop (i+1)) (a.drop (i+1)) B
 | [],_,_,_,_,_,e=>by simp at e
 | d::q,a,_,0,o,h,e=>by
  have(x,r,g,j,rfl,f,c,rfl):=h.cons_inv;simp at e;subst e;show{x,[],g,j,Xr,f,by simp,Rps.nil,by simpa using c}
 | d::q,a,_,i+1,o,h,e=>by
  have(x,r,g,j,rfl,f,c,rfl):=h.cons_inv;have(y,A,G,B,l,m,p,k,s):=Rps.at (i:=i) c (by exists e);show{y,g++A,G,B,by simpa using l,m,by rw[p];simp,?_,by simpa using s};simpa using Rps.cons f k
def Rps.take{K:yF}{H:Hp}:∀{ds:!T} {a:!V} {F:!Addr} (n:Nat),Rps K H ds a F->∃G c,Rps K H (ds.take n) (a.take n) G/\Rps K H (ds.drop n) (a.drop n) c/\F=G++c
 | ds,a,F,0,h=>{[],F,by dsimp[Nm];show Rps.nil,by simpa using h,Xr}
 | [],a,F,n+1,h=>by have(rfl,rfl):=h.nil_inv;show{[],[],Rps.nil,Rps.nil,Xr}
 | d::ds,a,F,n+1,h=>by
  have(x,r,j,k,rfl,f,e,rfl):=h.cons_inv;have(G,c,i,g,rfl):=Rps.take n e;show{j++G,c,Rps.cons f i,g,by rw[JK]}
def Rps.ims{K:yF}{H:Hp}:∀{is:!I} {c:!V} {F:!Addr},Rps K H (is.map T.im) c F↔(p7 K H is c/\F=[])
 | [],c,F=>by rw[Kl,Rps,p7]
 | i::is,c,F=>by
  rw[Jt,Rps,p7];constructor
  .rintro⟨x,r,f,e,rfl,a,d,rfl⟩;rw[Rp]at a;have:=Rps.ims.mp d;show{⟨x,r,Xr,a.1,this.1⟩,by rw[a.2,this.2];rfl}
  .rintro⟨⟨x,r,rfl,a,d⟩,rfl⟩;show{x,r,[],[],Xr,by rw[Rp];show⟨a,Xr⟩,Rps.ims.mpr ⟨d,Xr⟩,Xr}
def ji{K:yF}{H:Hp}{i:I}{v:V}(h:RpI K H i v):Rp K H (.im i) v []:=by rw[Rp];show⟨h,Xr⟩
def bE{K:yF}{H:Hp}{i:I}{v:V}{F:!Addr}(h:Rp K H (.im i) v F):RpI K H i v/\F=[]:=by rw[Rp]at h;show h
abbrev I.sc:I->↑V
 | .non=>Ud .non|.bl b=>Ud (.bl b)|.int i=>Ud (.int i)|.str x=>Ud (.str x)|.tup _=>Uc|.ls _=>Uc|.fd _ _=>Uc|.exn _ _ _=>Uc
def le{t:I}{K:yF}{H:Hp}{v:V}(h:t.sc*>v):RpI K H t v:=by
 cases t<;>dsimp[I.sc]at h<;>cases h<;>rw[RpI]
def Ds{t:I}{K:yF}{H:Hp}{v w:V}(h:t.sc*>v)(r:RpI K H t w):w=v:=by
 cases t<;>dsimp[I.sc]at h<;>cases h<;>rw[RpI]at r<;>show r
inductive Ac where
 | ix (n:Nat)|ky (k:I)|fd (f:Str)
 deriving DecidableEq
abbrev dX{κ a:Type} [DecidableEq κ]:!(κ × a)->κ->↑a
 | [],_=>Uc
 | (c,t)::r,k=>if c=k then Ud t else dX r k
abbrev mP{κ c:Type} [DecidableEq κ]:!(κ × c)->κ->c->!(κ × c)
 | [],_,_=>[]
 | (a,t)::r,k,s=>if a=k then(a,s)::r else(a,t)::mP r k s
abbrev kP:T->Ac->↑T
 | .lst d,.ix n=>d[n]?
 | .dc a,.ky k=>dX a k
 | .ins _ c,.fd f=>dX c f
 | _,_=>Uc
abbrev Fj:T->Ac->T->T
 | .lst d,.ix n,s=>.lst (d.set n s)
 | .dc a,.ky k,s=>.dc (mP a k s)
 | .ins C c,.fd f,s=>.ins C (mP c f s)
 | t,_,_=>t
abbrev T.sub:T->!Ac->↑T
 | t,[]=>Ud t
 | t,a::p=>(kP t a).bind λs=>s.sub p
abbrev T.put:T->!Ac->T->T
 | _,[],s=>s
 | t,a::p,s=>match kP t a with
  | some u=>Fj t a (u.put p s)
  | none=>t
abbrev at1(K:yF)(H:Hp):V->Ac->V->Prop
 | v,.ix n,w=>∃a d,v=.ref a/\H a*>(.lst d)/\d[n]?*>w
 | v,.ky k,w=>∃a c,v=.ref a/\DAt K H a c/\dX c k*>w
 | v,.fd f,w=>∃a C e c,v=.ref a/\H a*>(.ins C e c)/\dX c f*>w
abbrev atP(K:yF)(H:Hp):V->!Ac->V->Prop
 | v,[],w=>w=v
 | v,a::p,w=>∃u,at1 K H v a u/\atP K H u p w
def DAt.det{K:yF}{H:Hp}{a:Addr}{e c:!(I×V)}(h:DAt K H a e)(g:DAt K H a c):e=c:=by
 have(j,i,rfl):=h;have(f,d,rfl):=g;rw[i]at d;cases d;rfl
def tQ{K:yF}{H:Hp}{v w o:V}{a:Ac}(h:at1 K H v a w)(g:at1 K H v a o):w=o:=by
 cases a with
 | ix n=>
  have(a,p,rfl,l,i):=h;have(m,j,e,d,c):=g;cases e;rw[l]at d;cases d;rw[i]at c;cases c;rfl
 | ky k=>
  have(a,p,rfl,l,i):=h;have(m,j,e,d,c):=g;cases e;have:=l.det d;subst this;rw[i]at c;cases c;rfl
 | fd f=>
  have(a,C,s,p,rfl,l,i):=h;have(m,r,q,j,e,d,c):=g;cases e;rw[l]at d;cases d;rw[i]at c;cases c;rfl
def jD{K:yF}{H:Hp}:∀{p:!Ac} {v w c:V},atP K H v p w->atP K H v p c->w=c
 | [],v,w,c,h,g=>by rw[atP]at h g;rw[h,g]
 | a::p,v,w,c,h,g=>by
  rw[atP]at h g;have(u,i,e):=h;have(j,d,f):=g;have:=tQ i d;subst this;show jD e f
def tR{K:yF}{H:Hp}{a:Ac}:∀{p:!Ac} {v w u:V},atP K H v p w->at1 K H w a u->atP K H v (p++[a]) u
 | [],v,w,u,h,g=>by rw[atP]at h;subst h;show⟨u,g,Xr⟩
 | b::p,v,w,u,h,g=>by
  rw[atP]at h;have(x,d,c):=h;show{x,d,tR c g}
def uH:∀{p:!Ac} {t s u:T},t.sub p*>s->kP s a*>u->t.sub (p++[a])*>u
 | [],t,s,u,h,g=>by rw[T.sub]at h;cases h;rw[KT,T.sub,g];rfl
 | b::p,t,s,u,h,g=>by
  rw[T.sub]at h;rw[J3,T.sub];cases e:kP t b with
  | none=>rw[e]at h;cases h
  | some x=>rw[e]at h;show uH (p:=p) h g
section
variable {K:yF}{H:Hp}
def Rpk.at:∀{ts:!(I×T)} {c:!(I×V)} {F:!Addr} {t:T},Rpk K H ts c F->dX ts k*>t ->
  ∃x A G B,dX c k*>x/\Rp K H t x G/\F=A++G++B/\∀H' i g,(∀{u:T} {w:V} {F':!Addr},(∀a∈F',a∈A\/a∈B)->Rp K H u w F'->Rp K H' u w F')->Rp K H' i x g->Rpk K H' (mP ts k i) c (A++g++B)
 | [],c,F,t,h,e=>by simp[dX]at e
 | (O,d)::U,c,F,t,h,e=>by
  rw[Rpk]at h;have(x,r,s,o,rfl,l,j,rfl):=h;by_cases m:O=k
  .subst m;simp[dX]at e;subst e;show{x,[],s,o,by simp[dX],l,by simp,λH' i g st q=>?_};dsimp[mP,if_pos];rw[Rpk];show{x,r,g,o,Xr,q,?_,by simp};have:∀{ts:!(I×T)} {c:!(I×V)} {F:!Addr},(∀a∈F,a∈o)->Rpk K H ts c F->Rpk K H' ts c F:=by
    intro ts
    induction ts with
    | nil=>intro c F _ h;rw[Rpk]at h|-;show h
    | cons p ts z=>
     intro c F v h;have(Q,S):=p;rw[Rpk]at h|-;have(y,r,E,N,M,l,j,rfl):=h;show{y,r,E,N,M,st (λa f=>.inr (v a (yaL _ f))) l,z (λa f=>v a (yaR _ f)) j,Xr}
   show this (λa f=>f) j
  .simp[dX,m]at e;have(y,A,G,B,L,C,P,J):=Rpk.at j e;show{y,s++A,G,B,by simp[dX,m,L],C,by rw[P];simp,λH' i g st q=>?_};dsimp[mP,if_neg m];rw[Rpk];show{x,r,s,A++g++B,Xr,st (λa f=>.inl (yaL _ f)) l,J H' i g (λf=>st (λa h=>(f a h).imp (yaR _) id)) q,by simp}
def Rpf.at:∀{ts:!(Str×T)} {c:!(Str×V)} {F:!Addr} {t:T},Rpf K H ts c F->dX ts k*>t ->
  ∃x A G B,dX c k*>x/\Rp K H t x G/\F=A++G++B/\∀H' i g,(∀{u:T} {w:V} {F':!Addr},(∀a∈F',a∈A\/a∈B)->Rp K H u w F'->Rp K H' u w F')->Rp K H' i x g->Rpf K H' (mP ts k i) c (A++g++B)
 | [],c,F,t,h,e=>by simp[dX]at e
 | (O,d)::U,c,F,t,h,e=>by
  rw[Rpf]at h;have(x,r,s,o,rfl,l,j,rfl):=h;by_cases m:O=k
  .subst m;simp[dX]at e;subst e;show{x,[],s,o,by simp[dX],l,by simp,λH' i g st q=>?_};dsimp[mP,if_pos];rw[Rpf];show{x,r,g,o,Xr,q,?_,by simp};have:∀{ts:!(Str×T)} {c:!(Str×V)} {F:!Addr},(∀a∈F,a∈o)->Rpf K H ts c F->Rpf K H' ts c F:=by
    intro ts
    induction ts with
    | nil=>intro c F _ h;rw[Rpf]at h|-;show h
    | cons p ts z=>
     intro c F v h;have(Q,S):=p;rw[Rpf]at h|-;have(y,r,E,N,M,l,j,rfl):=h;show{y,r,E,N,M,st (λa f=>.inr (v a (yaL _ f))) l,z (λa f=>v a (yaR _ f)) j,Xr}
   show this (λa f=>f) j
  .simp[dX,m]at e;have(y,A,G,B,L,C,P,J):=Rpf.at j e;show{y,s++A,G,B,by simp[dX,m,L],C,by rw[P];simp,λH' i g st q=>?_};dsimp[mP,if_neg m];rw[Rpf];show{x,r,s,A++g++B,Xr,st (λa f=>.inl (yaL _ f)) l,J H' i g (λf=>st (λa h=>(f a h).imp (yaR _) id)) q,by simp}
def Mu.lst(m:Mu H a)(h:Rd H a (.lst xs)):H a*>(.lst xs):=by
 rcases h with h|⟨o,h⟩;show h;obtain⟨u,e,m⟩:=m;rw[h]at e;cases e;cases m
def Rps.stay:∀{ts:!T} {d:!V} {F:!Addr},(∀{u:T} {w:V} {F':!Addr},(∀a∈F',a∈F)->Rp K H u w F'->Rp K H' u w F')->Rps K H ts d F->Rps K H' ts d F
 | [],_,_,_,h=>by rw[Rps]at h|-;show h
 | t::ts,_,_,n,h=>by
  rw[Rps]at h|-;have(y,r,j,i,g,f,e,rfl):=h;show{y,r,j,i,g,n (λa c=>yaL _ c) f,Rps.stay (λc=>n λa h=>yaR _ (c a h)) e,Xr}
def Rp.at1(h:Rp K H t v F)(Q:∀b∈F,Mu H b)(O:F.Nodup)(e:kP t a*>s) :
  ∃w A G B,L2.at1 K H v a w/\Rp K H s w G/\F=A++G++B/\∀H' j l,NJ G H H'->Rp K H' j w l->Rp K H' (Fj t a j) v (A++l++B):=by
 have y:∀{A G B:!Addr},F=A++G++B->∀b,(b∈A\/b∈B)->b∉G:=by
  intro A G B e b d U;rw[e]at O;rcases d with d|d;show(Jy.mp (Jy.mp O).1).2.2 b d b U rfl;show(Jy.mp O).2.2 b (yaR _ U) b d rfl
 have o:∀{A G B:!Addr},F=A++G++B->∀b∈G,Mu H b:=λe b d=>Q b (by rw[e];simp[d]);cases t with
 | lst L=>
  cases a with
  | ix n=>
   rw[Rp]at h;have(a,i,f,rfl,m,E,rfl):=h;have X:=(Q a ymS).lst m;have(x,A,G,B,p,J,N,M,h8):=E.at e;have g:a::f=(a::A)++G++B:=by rw[N];simp
   show{x,a::A,G,B,⟨a,i,Xr,X,p⟩,J,g,λH' j l c q=>?_};have st:∀{u:T} {w:V} {f:!Addr},(∀b∈f,b∈A\/b∈B)->Rp K H u w f->Rp K H' u w f:=λd r=>r.off c (o g) (λb z=>y g b ((d b z).imp (ymC _) id));change Rp K H' (.lst (L.set n j)) (.ref a) _;rw[Rp];show{a,i,A++l++B,Xr,.inl (c a _ X (y g a (.inl ymS))),?_,by simp};have Z:n<L.length:=(Js.mp e).1;have hn':n<i.length:=(Js.mp p).1;have e1:L.set n j=L.take n++j::L.drop (n+1):=by rw[List.set_eq_take_append_cons_drop,if_pos Z]
   have e2:i=i.take n++x::i.drop (n+1):=by
    have:=Js.mp p;have(hl,hx):=this
    conv=>lhs;rw[<-KY n i,Kz hl,hx]
   rw[e1,e2,JK];show Rps.append (Rps.stay (λd=>st λb z=>.inl (d b z)) M) (Rps.cons q (Rps.stay (λd=>st λb z=>.inr (d b z)) h8))
  | ky k=>cases e
  | fd k=>cases e
 | dc P=>
  cases a with
  | ky k=>
   rw[Rp]at h;have(a,i,f,rfl,m,E,rfl):=h;have(x,A,G,B,p,J,N,M):=E.at e;have g:a::f=(a::A)++G++B:=by rw[N];simp
   show{x,a::A,G,B,⟨a,i,Xr,m,p⟩,J,g,λH' j l c q=>?_};have st:∀{u:T} {w:V} {f:!Addr},(∀b∈f,b∈A\/b∈B)->Rp K H u w f->Rp K H' u w f:=λd r=>r.off c (o g) (λb z=>y g b ((d b z).imp (ymC _) id));change Rp K H' (.dc (mP P k j)) (.ref a) _;rw[Rp];show{a,i,A++l++B,Xr,m.off c (y g a (.inl ymS)),M H' j l st q,by simp}
  | ix k=>cases e
  | fd k=>cases e
 | ins C Y=>
  cases a with
  | fd k=>
   rw[Rp]at h;have(a,S,i,f,rfl,m,E,rfl):=h;have(x,A,G,B,p,J,N,M):=E.at e;have g:a::f=(a::A)++G++B:=by rw[N];simp
   show{x,a::A,G,B,⟨a,C,S,i,Xr,m,p⟩,J,g,λH' j l c q=>?_};have st:∀{u:T} {w:V} {f:!Addr},(∀b∈f,b∈A\/b∈B)->Rp K H u w f->Rp K H' u w f:=λd r=>r.off c (o g) (λb z=>y g b ((d b z).imp (ymC _) id));change Rp K H' (.ins C (mP Y k j)) (.ref a) _;rw[Rp];show{a,S,i,A++l++B,Xr,c a _ m (y g a (.inl ymS)),M H' j l st q,by simp}
  | ix k=>cases e
  | ky k=>cases e
 | im _=>cases a<;>cases e
 | tup _=>cases a<;>cases e
 | li _=>cases a<;>cases e
 | di _=>cases a<;>cases e
 | dq _=>cases a<;>cases e
def Rp.atP:∀{p:!Ac} {t s:T} {v:V} {F:!Addr},Rp K H t v F->(∀b∈F,Mu H b)->F.Nodup->t.sub p*>s ->
  ∃w A G B,L2.atP K H v p w/\Rp K H s w G/\F=A++G++B/\∀H' c d,NJ G H H'->Rp K H' c w d->Rp K H' (t.put p c) v (A++d++B)
 | [],t,s,v,F,h,j,g,e=>by
  rw[T.sub]at e;cases e;show{v,[],F,[],Xr,h,by simp,λH' c d _ q=>by rw[T.put];simpa using q}
 | a::p,t,s,v,F,h,j,g,e=>by
  rw[T.sub]at e;cases e1:kP t a with
  | none=>rw[e1]at e;cases e
  | some u=>
   rw[e1]at e;have(w,A,G,B,C,r,rfl,z):=h.at1 j g e1;have k:=(Jy.mp (Jy.mp g).1).2.1;have(x,m,d,l,y,E,rfl,J):=Rp.atP (p:=p) r (λb i=>j b (yaL _ (yaR _ i))) k e;show{x,A++m,d,l++B,⟨w,C,y⟩,E,by simp,λH' c o f q=>?_};rw[T.put,e1];have:=z H' (u.put p c) (m++o++l) (f.mono λb i=>by simp[i]) (J H' c o f q);exists this
end
inductive Kd where
 | ow|io (k:Nat)|vw (r:↑Nat) (p:Option !Ac)
structure R where
 k:Kd
 t:T
structure En where
 key:↑Nat
 v:V
 r:R
structure Hd where
 e:En
 F:!Addr
structure Gm where
 K:yF
 H0:Hp
 io:!Addr
 iov:!V
abbrev Kd.isOw:Kd->Bool
 | .vw _ _=>Ue|_=>Ug
abbrev Kd.root:Kd->↑Nat
 | .vw r _=>r|_=>Uc
abbrev Hd.own(h:Hd):!Addr:=if h.e.r.k.isOw=Ug then h.F else []
abbrev NN(c:Gm)(H:Hp)(L:!Hd)(h:Hd):Prop:=match h.e.r.k with
 | .ow=>∀a∈h.F,c.H0 a=Uc
 | .io k=>c.iov[k]?*>h.e.v
 | .vw Uc _=>∀a∈h.F,a∉L.flatMap Hd.own
 | .vw (Ud j) p=>∃g∈L,g.e.key*>j/\g.e.r.k.isOw=Ug/\(∀a∈h.F,a∈g.F\/a∉L.flatMap Hd.own)/\∀q,p*>q->g.e.r.t.sub q*>h.e.r.t/\atP c.K H g.e.v q h.e.v
structure GW(Γ:Gm)(H:Hp)(L:!Hd):Prop where
 nd:(L.flatMap Hd.own).Nodup
 ad:∀a∈L.flatMap Hd.own,Mu H a/\(Γ.H0 a=Uc\/a ∈ Γ.io)
 rp:∀h∈L,Rp Γ.K H h.e.r.t h.e.v h.F
 kd:∀h∈L,NN Γ H L h
 ks:(L.filterMap λh=>h.e.key).Nodup
 fr:∀b o,Γ.H0 b*>o->b∉Γ.io->H b*>o
 iol:∀a ∈ Γ.io,∃o,H a*>o
section
variable {Γ:Gm}{H H':Hp}{L L':!Hd}{h:Hd}
def NN.sub(k:NN Γ H L h)(s:∀g∈L,g.e.r.k.isOw=Ug->g∈L')(o:∀a∈L'.flatMap Hd.own,a∈L.flatMap Hd.own):NN Γ H L' h:=by
 unfold NN at k|-;split at k;show k;show k;show λa c z=>k a c (o a z)
 .have(g,l,i,d,j,f):=k;show{g,s g l d,i,d,λa c=>(j a c).imp id λz w=>z (o a w),f}
def GW.perm(G:GW Γ H L)(p:L.Perm L'):GW Γ H L':=
 {(p.flatMap_right _).nodup_iff.mp G.nd,λa d=>G.ad a ((p.flatMap_right _).mem_iff.mpr d),λh c=>G.rp h (p.mem_iff.mpr c),λh c=>(G.kd h (p.mem_iff.mpr c)).sub (λg e _=>p.mem_iff.mp e) (λa d=>(p.flatMap_right _).mem_iff.mpr d),(p.filterMap _).nodup_iff.mp G.ks,G.fr,G.iol}
def lE(s:L'.Sublist L):(L'.flatMap Hd.own).Sublist (L.flatMap Hd.own):=by
 induction s with
 | slnil=>show List.Sublist.refl _
 | cons a s c=>rw[JI];show c.trans (List.sublist_append_right _ _)
 | cons_cons a s c=>rw[JI,JI];show(List.Sublist.refl _).append c
def GW.sub(G:GW Γ H L)(s:L'.Sublist L)(q:∀h∈L',∀j,h.e.r.k.root*>j->∀g∈L,g.e.key*>j->g.e.r.k.isOw=Ug->g∈L'):GW Γ H L':=by
 show{(lE s).nodup G.nd,λa c=>G.ad a ((lE s).subset c),λh d=>G.rp h (s.subset d),λh d=>?_,(s.filterMap _).nodup G.ks,G.fr,G.iol};have k:=G.kd h (s.subset d);unfold NN at k|-;split at k;show k;show k;show λa c z=>k a c ((lE s).subset z)
 .delta j p e;have(g,m,i,f,l,o):=k;show{g,q h d j (by rw[e];rfl) g m i f,i,f,λa c=>(l a c).imp id λz w=>z ((lE s).subset w),o}
def GW.drop(G:GW Γ H (h::L))(d:h.e.key=Uc):GW Γ H L:=by
 show G.sub (Mv _ _) λg f j _ x a c _=>?_;rcases ycM a with rfl|a;rw[d]at c;cases c;show a
def GW.dropK(G:GW Γ H (h::L))(c:∀g∈L,∀j,h.e.key*>j->g.e.r.k.root≠Ud j):GW Γ H L:=by
 show G.sub (Mv _ _) λg i j d x a f _=>?_;rcases ycM a with rfl|a;show absurd d (c g i j f);show a
def GW.filter(G:GW Γ H L)(p:Hd->Bool)(d:∀h∈L,h.e.r.k.isOw=Ug->p h=Ug):GW Γ H (L.filter p):=
 G.sub Kn λh l j f g a i c=>JD.mpr {a,d g a c}
def GW.new0(G:GW Γ H L)(e:H a=Uc) : Γ.H0 a=Uc:=by
 cases q : Γ.H0 a with
 | none=>rfl
 | some o=>
  exfalso;by_cases c:a ∈ Γ.io;have(o,d):=G.iol a c;rw[e]at d;cases d;have:=G.fr a o q c;rw[e]at this;cases this
def GW.push(G:GW Γ H L)(i:Rp Γ.K H r.t v F)(l:NN Γ H L {⟨Uc,v,r⟩,F})(j:r.k.isOw=Ue\/F=[]):GW Γ H ({⟨Uc,v,r⟩,F}::L):=by
 have e:Hd.own {⟨Uc,v,r⟩,F}=[]:=by
  unfold Hd.own;rcases j with h|h;simp[h];simp[h]
 show{by rw[JI,e];show G.nd,λa c=>G.ad a (by rw[JI,e]at c;show c),λx d=>?_,λx d=>?_,?_,G.fr,G.iol}
 .rcases ycM d with rfl|d;show i;show G.rp x d
 .rcases ycM d with rfl|d;show l.sub (λg f _=>ymC _ f) (λa c=>by rw[JI,e]at c;show c);show(G.kd x d).sub (λg f _=>ymC _ f) (λa c=>by rw[JI,e]at c;show c)
 .rw[JY];show G.ks
def GW.rekey(G:GW Γ H (h::L))(i:h.e.key=Uc)(m:∀j,key*>j->j∉L.filterMap λh=>h.e.key):GW Γ H ({⟨key,h.e.v,h.e.r⟩,h.F}::L):=by
 have o:(({⟨key,h.e.v,h.e.r⟩,h.F}:Hd)::L).flatMap Hd.own=(h::L).flatMap Hd.own:=rfl;have l:∀x∈L,NN Γ H (h::L) x->NN Γ H ({⟨key,h.e.v,h.e.r⟩,h.F}::L) x:=λx a k=>by
  unfold NN at k|-;split at k;show k;show k;show k
  .have(g,d,c,f):=k;rcases ycM d with rfl|d;rw[i]at c;cases c;show{g,ymC _ d,c,f}
 show{G.nd,G.ad,λx a=>?_,λx a=>?_,?_,G.fr,G.iol}
 .rcases ycM a with rfl|a;show G.rp h ymS;show G.rp x (ymC _ a)
 .rcases ycM a with rfl|a
  .have k:=G.kd h ymS;unfold NN at k|-;split at k;delta e;dsimp[e];show k;delta e;dsimp[e];show k;delta e;dsimp[e];show k
   .delta e;dsimp[e];have(g,d,c,f):=k;rcases ycM d with rfl|d;rw[i]at c;cases c;show{g,ymC _ d,c,f}
  .show l x a (G.kd x (ymC _ a))
 .have g:=G.ks;rw[JY,i]at g;rw[JY];cases key with
  | none=>show g
  | some j=>show JS.mpr {m j rfl,g}
def jR(ho:h.e.r.k.isOw=Ug)(c:a∈h.F):a∈h.own:=by unfold Hd.own;rw[if_pos ho];show c
def GW.apart(G:GW Γ H (hs++L))(B:∀g∈L,∀h∈hs,∀j,h.e.key*>j->g.e.r.k.root≠Ud j)(ho:∀h∈hs,h.e.r.k.isOw=Ug):∀g∈L,∀a∈g.F,∀h∈hs,a∉h.F:=by
 intro g i a l h s o;have u:=G.nd;rw[JL]at u;have t:a∈hs.flatMap Hd.own:=Kx.mpr {h,s,jR (ho h s) o};have f:a∉(hs++L).flatMap Hd.own->False:=λn=>n (by rw[JL];show yaL _ t);have k:=G.kd g (yaR _ i);have c:∀x∈L,x.e.r.k.isOw=Ug->a∈x.F->False:=λx d w m=>
  (Jy.mp u).2.2 a t a (Kx.mpr {x,d,jR w m}) rfl
 unfold NN at k;split at k;delta e;show c g i (by rw[e];rfl) l;delta e;show c g i (by rw[e];rfl) l;show f (k a l)
 .delta j p e;have(x,q,y,v,A,_):=k;rcases A a l with z|z
  .rcases yaM q with d|d;show B g i x d j y (by rw[e];rfl);show c x d v z
  .show f z
def oY{M:!Addr}(c:NJ M H H'){F:!Addr}(o:∀a∈F,a∉M)(N:∀a∈F,Mu H a):∀{q:!Ac} {t s:T} {v w:V} {F':!Addr},(∀a∈F',a∈F)->F'.Nodup->Rp Γ.K H t v F'->t.sub q*>s->atP Γ.K H v q w->atP Γ.K H' v q w
 | [],_,_,_,_,_,_,_,_,_,h=>h
 | a::q,t,s,v,w,F',l,J,r,e,h=>by
  rw[atP]at h|-;have(u,p,P):=h;rw[T.sub]at e;cases e1:kP t a with
  | none=>rw[e1]at e;cases e
  | some x=>
   rw[e1]at e;have(y,A,G,B,Q,U,rfl,_):=r.at1 (λb z=>N b (l b z)) J e1;have:=tQ p Q;subst this;show{u,?_,oY c o N (λb z=>l b (yaL _ (yaR _ z))) (Jy.mp (Jy.mp J).1).2.1 U e P};cases a with
   | ix n=>
    have(b,k,rfl,j,m):=p;show{b,k,Xr,c b _ j (o b ?_),m};cases t<;>dsimp[kP]at e1<;>try cases e1
    rw[Rp]at r;have(E,f,g,d,_,_,i):=r;cases d;show l b (by rw[i];show ymS)
   | ky n=>
    have(b,k,rfl,j,m):=p;show{b,k,Xr,j.off c (o b ?_),m};cases t<;>dsimp[kP]at e1<;>try cases e1
    rw[Rp]at r;have(E,f,g,d,_,_,i):=r;cases d;show l b (by rw[i];show ymS)
   | fd n=>
    have(b,C,S,k,rfl,j,m):=p;show{b,C,S,k,Xr,c b _ j (o b ?_),m};cases t<;>dsimp[kP]at e1<;>try cases e1
    rw[Rp]at r;have(E,O,f,g,d,_,_,i):=r;cases d;show l b (by rw[i];show ymS)
def GW.ndF(G:GW Γ H L)(c:h∈L)(ho:h.e.r.k.isOw=Ug):h.F.Nodup:=by
 have a:=G.nd;have(s,t,rfl):=LJ c;rw[JL,JI]at a;have:=(Jy.mp (Jy.mp a).2.1).1;unfold Hd.own at this;rw[if_pos ho]at this;show this
def GW.muF(G:GW Γ H L)(c:h∈L)(ho:h.e.r.k.isOw=Ug):∀a∈h.F,Mu H a:=λa d=>(G.ad a (Kx.mpr {h,c,jR ho d})).1
def iC{hs:!Hd}(ho:∀h∈hs,h.e.r.k.isOw=Ug):hs.flatMap Hd.own=hs.flatMap (·.F):=by
 induction hs with
 | nil=>rfl
 | cons x d c=>
  rw[JI,JI,c λh a=>ho h (ymC _ a)];unfold Hd.own;rw[if_pos (ho x ymS)]
def GW.step{hs:!Hd}(G:GW Γ H (hs++L))(ho:∀h∈hs,h.e.r.k.isOw=Ug)(hr:∀g∈L,∀h∈hs,∀j,h.e.key*>j->g.e.r.k.root≠Ud j)
  (d:NJ (hs.flatMap (·.F)) H H') (U:∀a∈hs.flatMap (·.F),∃o,H' a*>o) {key:↑Nat} {v:V} {r:R} {F:!Addr} (nd:F.Nodup) (A:∀a∈F,(a∈hs.flatMap (·.F)\/H a=Uc)/\Mu H' a) (hp:Rp Γ.K H' r.t v F)
  (hk:(r.k=.ow/\∀h∈hs,h.e.r.k=.ow) \/ ∃k,r.k=.io k/\Γ.iov[k]?*>v) (B:∀j,key*>j->j∉L.filterMap λh=>h.e.key):GW Γ H' ({⟨key,v,r⟩,F}::L):=by
 have Q:r.k.isOw=Ug:=by rcases hk with⟨e,_⟩|⟨k,e,_⟩<;>rw[e]<;>rfl
 have X:=iC ho;have P:=G.nd;rw[JL,X]at P;have O:=(Jy.mp P).2.1;have Z:=(Jy.mp P).2.2;have y:∀a∈L.flatMap Hd.own,Mu H a/\(Γ.H0 a=Uc\/a ∈ Γ.io):=λa c=>G.ad a (by rw[JL];show yaR _ c);have u:∀a∈hs.flatMap (·.F),Mu H a/\(Γ.H0 a=Uc\/a ∈ Γ.io):=λa c=>G.ad a (by rw[JL,X];show yaL _ c);have ap:=G.apart hr ho;have C:∀g∈L,∀a∈g.F,a∉hs.flatMap (·.F):=λg i a c l=>by
  have(h,E,s):=Kx.mp l;show ap g i a c h E s
 have N:Hd.own {⟨key,v,r⟩,F}=F:=by unfold Hd.own;rw[if_pos Q]
 have f0:∀a∈F,Γ.H0 a=Uc\/a ∈ Γ.io:=λa c=>by
  rcases(A a c).1 with z|z;show(u a z).2;show .inl (G.new0 z)
 show{?_,λa c=>?_,λx f=>?_,λx f=>?_,?_,λb o e n=>?_,λa c=>?_}
 .rw[JI,N];show Jy.mpr {nd,O,λa c b hb=>?_};rintro rfl;rcases(A a c).1 with z|z;show Z a z a hb rfl
  .have(o,e,_):=(y a hb).1;rw[z]at e;cases e
 .rw[JI,N]at c;rcases yaM c with c|c;show{(A a c).2,f0 a c}
  .obtain⟨⟨o,e,m⟩,z⟩:=y a c;show{{o,d a o e λl=>Z a l a c rfl,m},z}
 .rcases ycM f with rfl|f;show hp;show(G.rp x (yaR _ f)).off d (λa c=>(u a c).1) (C x f)
 .rcases ycM f with rfl|f
  .unfold NN;rcases hk with⟨e,eh⟩|⟨k,e,ek⟩
   .dsimp[e];intro a c;rcases(A a c).1 with z|z
    .have(h,E,s):=Kx.mp z;have q:=G.kd h (yaL _ E);unfold NN at q;rw[eh h E]at q;show q a s
    .show G.new0 z
   .dsimp[e];show ek
  .have k:=G.kd x (yaR _ f);have st:∀a∈x.F,a∉(hs++L).flatMap Hd.own->a∉(({⟨key,v,r⟩,F}:Hd)::L).flatMap Hd.own:=λa c n z=>by
    rw[JI,N]at z;rcases yaM z with z|z
    .rcases(A a z).1 with w|w;show n (by rw[JL,X];show yaL _ w)
     .have(o,e):=(G.rp x (yaR _ f)).dom a c;rw[w]at e;cases e
    .show n (by rw[JL];show yaR _ z)
   unfold NN at k|-;split at k;show k;show k;show λa c=>st a c (k a c)
   .delta j p e;have(g,h1,Y,J,h4,S):=k;rcases yaM h1 with i|i;show absurd (by rw[e];rfl) (hr x f g i j Y)
    .show{g,ymC _ i,Y,J,λa c=>(h4 a c).imp id (st a c),λq M=>{(S q M).1,?_}};show oY d (F:=g.F) (C g i) (G.muF (yaR _ i) J) (λa c=>c) (G.ndF (yaR _ i) J) (G.rp g (yaR _ i)) (S q M).1 (S q M).2
 .have g:=G.ks;rw[Lh]at g;have g2:=(Jy.mp g).2.1;rw[JY];cases key with
  | none=>show g2
  | some j=>show JS.mpr {B j rfl,g2}
 .show d b o (G.fr b o e n) λl=>?_;rcases(u b l).2 with z|z;rw[z]at e;cases e;show n z
 .have(o,e):=G.iol a c;by_cases l:a∈hs.flatMap (·.F);show U a l;show{o,d a o e l}
end
def oG{j k:Type}{f : j->k}{N M:!k}(p:N.Perm M):∀L:!j,L.map f=N->∃c,L.Perm c/\c.map f=M:=by
 induction p with
 | nil=>intro L h;show{L,List.Perm.refl _,h}
 | cons x p s=>
  intro L h;cases L with
  | nil=>cases h
  | cons a L=>
   rw[Jt,Kw.injEq]at h;have(c,g,e):=s L h.2;show⟨a::c,g.cons a,by rw[Jt,h.1,e]⟩
 | swap x y l=>
  intro L h;cases L with
  | nil=>cases h
  | cons a L=>
   cases L with
   | nil=>cases h
   | cons b L=>
    dsimp[Jt,Kw.injEq]at h;show⟨b::a::L,List.Perm.swap _ _ _,by simp[h.1,h.2.1,h.2.2]⟩
 | trans p q d i=>
  intro L h;have(o,g,e):=d L h;have(L2,m,r):=i o e;show{L2,g.trans m,r}
abbrev HE(a:Gm)(H:Hp)(X:!En):Prop:=∃L,GW a H L/\L.map (·.e)=X
section
variable {Γ:Gm}{H H':Hp}{X Y:!En}{e:En}
def HE.perm(S:HE Γ H X)(p:X.Perm Y):HE Γ H Y:=by
 have(L,g,e):=S;have(c,d,a):=oG p L e;show{c,g.perm d,a}
def aJ{g c:Type}{f : g->c}{L:!g}{b : c}{X:!c}(h:L.map f=b::X):∃a d,L=a::d/\f a=b/\d.map f=X:=by
 cases L with
 | nil=>cases h
 | cons a L=>rw[Jt,Kw.injEq]at h;show⟨a,L,Xr,h.1,h.2⟩
def cN{g d:Type}{f : g->d}:∀{A:!d} {L:!g} {B:!d},L.map f=A++B->∃c L2,L=c++L2/\c.map f=A/\L2.map f=B
 | [],L,B,h=>{[],L,Xr,Xr,h}
 | a::A,L,B,h=>by
  have(x,m,rfl,i,k):=aJ h;have(c,L2,rfl,j,l):=cN k;show⟨x::c,L2,Xr,by rw[Jt,i,j],l⟩
def HE.drop(S:HE Γ H (e::X))(d:e.key=Uc):HE Γ H X:=by
 have(L,g,h):=S;have(x,f,rfl,a,c):=aJ h;subst a;show{f,g.drop d,c}
def HE.dropK(S:HE Γ H (e::X))(d:∀g∈X,∀j,e.key*>j->g.r.k.root≠Ud j):HE Γ H X:=by
 have(L,g,h):=S;have(x,i,rfl,c,a):=aJ h;subst c;show{i,g.dropK λy l j f=>d y.e (by rw[<-a];show Kb l) j f,a}
abbrev aF(M:!Nat) (e:En):Bool:=match e.r.k.root with
 | some j=> ~~~M.contains j
 | none=>Ug
abbrev aj(M:!Nat) (E:!En):!En:=E.filter (aF M)
def vn(e:En):aF [] e=Ug:=by unfold aF;split<;>rfl
def cw(E:!En):aj [] E=E:=by unfold aj;rw[La];intro a _;show vn a
def aQ(M:!Nat)(A B:!En):aj M (A++B)=aj M A++aj M B:=MY ..
def ke(M N:!Nat)(e:En):aF (M++N) e=(aF N e&&aF M e):=by
 unfold aF;split
 .rename_i j _;by_cases c:j∈M<;>by_cases a:j∈N<;>simp[c,a]
 .rfl
def ah(M N:!Nat)(E:!En):aj N (aj M E)=aj (M++N) E:=by
 unfold aj;rw[Ma];congr 1;funext e;rw[ke]
def HE.kill(S:HE Γ H X)(M:!Nat):HE Γ H (aj M X):=by
 have(L,g,h):=S;show{L.filter λx=>aF M x.e,g.filter _ λx _ a=>?_,?_}
 .unfold aF;cases k:x.e.r.k with
  | vw r p=>rw[k]at a;cases a
  | ow=>rfl
  | io _=>rfl
 .rw[<-h];unfold aj;rw[Lu];rfl
def HE.push(S:HE Γ H X)(h:RpI Γ.K H i v):HE Γ H ({Uc,v,{.ow,.im i}}::X):=by
 have(L,g,c):=S;show{_,g.push (v:=v) (r:={.ow,.im i}) (ji h) (λa d=>by cases d) (.inr rfl),by rw[Jt,c]}
def HE.rekey(S:HE Γ H (e::X))(i:e.key=Uc){key:↑Nat}(k:∀j,key*>j->∀g∈X,g.key≠Ud j):HE Γ H (⟨key,e.v,e.r⟩::X):=by
 have(L,g,h):=S;have(x,o,rfl,d,c):=aJ h;subst d;show{_,g.rekey i (key:=key) λj f m=>?_,by rw[Jt,c]};have(y,l,a):=Kh.mp m;show k j f y.e (by rw[<-c];show Kb l) a
def HE.rd(S:HE Γ H X)(a:e∈X):∃F,Rp Γ.K H e.r.t e.v F:=by
 have(L,g,rfl):=S;have(h,c,rfl):=Jz.mp a;show{h.F,g.rp h c}
def HE.view(S:HE Γ H X)(d:e∈X)(i:e.key*>j)(ho:e.r.k.isOw=Ug):HE Γ H ({Uc,e.v,{.vw (Ud j) (Ud []),e.r.t}}::X):=by
 have(L,g,rfl):=S;have(h,c,rfl):=Jz.mp d;show{_,g.push (v:=h.e.v) (r:={.vw (Ud j) (Ud []),h.e.r.t}) (g.rp h c) {h,c,i,ho,λa l=>.inl l,λq f=>by cases f;show⟨Xr,Xr⟩} (.inl rfl),Xr}
def HE.copy(S:HE Γ H X)(c:e∈X)(ho:e.r.k.isOw=Ue):HE Γ H (⟨Uc,e.v,e.r⟩::X):=by
 have(L,g,rfl):=S;have(h,a,rfl):=Jz.mp c;show{_,g.push (v:=h.e.v) (r:=h.e.r) (F:=h.F) (g.rp h a) (g.kd h a) (.inl ho),Xr}
def HE.part(S:HE Γ H X)(B:e∈X){c:↑Nat}{p:Option !Ac}(ho:e.r.k=.vw c p){P:V->Prop}{s:T}(C:∀F,Rp Γ.K H e.r.t e.v F->∃w G,P w/\Rp Γ.K H s w G/\∀a∈G,a∈F):∃w,P w/\HE Γ H ({Uc,w,{.vw c Uc,s}}::X):=by
 have(L,g,rfl):=S;have(h,i,rfl):=Jz.mp B;have(w,G,A,u,f):=C h.F (g.rp h i);show{w,A,_,g.push (v:=w) (r:={.vw c Uc,s}) (F:=G) u ?_ (.inl rfl),Xr};have k:=g.kd h i;unfold NN at k|-;rw[ho]at k;cases c with
 | none=>show λa d=>k a (f a d)
 | some j=>
  have(x,z,l,o,y,E):=k;show{x,z,l,o,λa d=>y a (f a d),λq m=>by cases m}
def HE.partP(S:HE Γ H X)(E:e∈X)(ho:e.r.k=.vw (Ud j) (Ud q))(hs:kP e.r.t a*>s):∃w,at1 Γ.K H e.v a w/\HE Γ H ({Uc,w,{.vw (Ud j) (Ud (q++[a])),s}}::X):=by
 have(L,g,rfl):=S;have(h,Q,rfl):=Jz.mp E;have k:=g.kd h Q;unfold NN at k;rw[ho]at k;have(x,c,O,d,x4,M):=k;have(p,P):=M q rfl;have o:x.e.r.t.sub (q++[a])*>s:=uH p hs;have(w,A,G,B,i,z2,N,_):=(g.rp x c).atP (g.muF c d) (g.ndF c d) o;have(w0,A0,y,B0,m,C,u,_):=(g.rp x c).atP (g.muF c d) (g.ndF c d) p;have U:=jD m P;subst U;have nG:y.Nodup:=by
  have:=g.ndF c d;rw[u]at this;show(Jy.mp (Jy.mp this).1).2.1
 have J:∀b∈y,Mu H b:=λb f=>g.muF c d b (by rw[u];show yaL _ (yaR _ f));have(l,A',G',B',v1,v2,v3,_):=C.at1 J nG hs;have Z:=jD (tR m v1) i;subst Z;show{l,v1,_,g.push (v:=l) (r:={.vw (Ud j) (Ud (q++[a])),s}) (F:=G) z2 {x,c,O,d,λb f=>.inl (by rw[N];show yaL _ (yaR _ f)),λq' z=>?_} (.inl rfl),Xr};cases z;show⟨o,i⟩
abbrev bf:!V->!T->!En
 | v::vs,t::a=>{Uc,v,{.ow,t}}::bf vs a
 | _,_=>[]
def HE.take(S:HE Γ H (e::X))(ho:e.r.k.isOw=Ug):∃F,Rp Γ.K H e.r.t e.v F/\F.Nodup/\(∀a∈F,Mu H a):=by
 have(L,g,h):=S;have(x,f,rfl,c,d):=aJ h;subst c;show{x.F,g.rp x ymS,g.ndF ymS ho,g.muF ymS ho}
def nq:∀{vs:!V} {ts:!T} {L:!Hd},vs.length=ts.length->L.map (·.e)=bf vs ts->(∀h∈L,Rp Γ.K H h.e.r.t h.e.v h.F)->Rps Γ.K H ts vs (L.flatMap (·.F))/\∀h∈L,h.e.r.k=.ow/\h.e.key=Uc
 | [],[],L,_,h,_=>by
  have:L=[]:=MU.mp h;subst this;show{Rps.nil,by simp}
 | v::vs,t::ts,L,g,h,d=>by
  have(x,m,rfl,c,j):=aJ h;have(i,l):=nq (vs:=vs) (ts:=ts) (by exists g) j λy a=>d y (ymC _ a);have f:=d x ymS;rw[c]at f;rw[JI];show{Rps.cons f i,λy a=>?_};rcases ycM a with rfl|a;rw[c];show⟨Xr,Xr⟩;show l y a
 | [],_::_,_,h,_,_=>by cases h
 | _::_,[],_,h,_,_=>by cases h
def HE.use{vs:!V}{ts:!T}(S:HE Γ H (bf vs ts++X))(u:vs.length=ts.length):∃F,Rps Γ.K H ts vs F/\F.Nodup/\(∀a∈F,Mu H a) /\
  ∀H' v t F',NJ F H H'->(∀a∈F,∃o,H' a*>o)->F'.Nodup->(∀a∈F',(a∈F\/H a=Uc)/\Mu H' a)->Rp Γ.K H' t v F'->HE Γ H' ({Uc,v,{.ow,t}}::X):=by
 have(L,g,h):=S;have(G,L2,rfl,A,s):=cN h;have(E,p):=nq u A λy c=>g.rp y (yaL _ c);have m:∀h∈G,h.e.r.k.isOw=Ug:=λh z=>by rw[(p h z).1];rfl
 have q:=g.nd;rw[JL,iC m]at q;show{_,E,(Jy.mp q).1,λa B=>(g.ad a (by rw[JL,iC m];show yaL _ B)).1,λH' v t F' i l f w C=>?_};show{_,g.step m (λx _ y c j d=>by rw[(p y c).2]at d;cases d) i l (key:=Uc) (v:=v) (r:={.ow,t}) f w C (.inl {Xr,λy c=>(p y c).1}) (λj d=>by cases d),by rw[Jt,s]}
def HE.mutP{vs:!V}{ts:!T}{p:!Ac}{s:T}(S:HE Γ H (e::bf vs ts++X))(hl:vs.length=ts.length)(ho:e.r.k.isOw=Ug)(hr:∀g∈X,∀j,e.key*>j->g.r.k.root≠Ud j)(hs:e.r.t.sub p*>s)(hX:∀j,e.key*>j->∀g∈X,g.key≠Ud j) :
  ∃w G F,atP Γ.K H e.v p w/\Rp Γ.K H s w G/\Rps Γ.K H ts vs F/\(G++F).Nodup/\(∀a∈G++F,Mu H a) /\
  ∀H' Q E,NJ G H H'->(∀a∈G,∃o,H' a*>o)->E.Nodup->(∀a∈E,(a∈G++F\/H a=Uc)/\Mu H' a)->Rp Γ.K H' Q w E->HE Γ H' ({e.key,e.v,{e.r.k,e.r.t.put p Q}}::X):=by
 have(L,g,h):=S;rw[J3]at h;have(x,L',rfl,h1,h2):=aJ h;have(c,L2,rfl,h3,h4):=cN h2;subst h1;have(r1,r2):=nq hl h3 λy i=>g.rp y (ymC _ (yaL _ i));have J:∀h∈x::c,h.e.r.k.isOw=Ug:=λh hh=>by
  rcases ycM hh with rfl|hh;show ho;rw[(r2 h hh).1];rfl
 have nx:=g.ndF ymS ho;have(w,A,G,B,z1,z2,z3,z4):=(g.rp x ymS).atP (g.muF ymS ho) nx hs;have nd:=g.nd;rw[show x::(c++L2)=(x::c)++L2 from rfl,JL,iC J]at nd;have O:=(Jy.mp nd).1;rw[JI,z3]at O;have Z:∀a∈(x::c).flatMap (·.F),Mu H a:=λa d=>(g.ad a (by rw[show x::(c++L2)=(x::c)++L2 from rfl,JL,iC J];show yaL _ d)).1;have C:∀a,a∈G++c.flatMap (·.F)->a∈(x::c).flatMap (·.F):=λa d=>by
  rw[JI,z3];rcases yaM d with z|z;show yaL _ (yaL _ (yaR _ z));show yaR _ z
 have f:=(Jy.mp O);have ndG:(G++c.flatMap (·.F)).Nodup:=Jy.mpr {(Jy.mp (Jy.mp f.1).1).2.1,f.2.1,λa d b M=>f.2.2 a (yaL _ (yaR _ d)) b M};show{w,G,c.flatMap (·.F),z1,z2,r1,ndG,λa d=>Z a (C a d),λH' Q E m dom nd' hG rp=>?_};have u:∀a,(a∈A\/a∈B)->a∉G++c.flatMap (·.F):=λa d l=>by
  rcases yaM l with z|z
  .rcases d with q|q;show(Jy.mp (Jy.mp f.1).1).2.2 a q a z rfl;show(Jy.mp f.1).2.2 a (yaR _ z) a q rfl
  .rcases d with q|q;show f.2.2 a (yaL _ (yaL _ q)) a z rfl;show f.2.2 a (yaR _ q) a z rfl
 have rp':=z4 H' Q E m rp;show{_,g.step (hs:=x::c) (L:=L2) J (λy i z hz j U=>?_) (m.mono λa d=>C a (yaL _ d)) (λa d=>?_) (key:=x.e.key) (v:=x.e.v) (r:={x.e.r.k,x.e.r.t.put p Q}) (F:=A++E++B) ?_ (λa d=>?_) rp' ?_ (λj U l=>?_),by rw[Jt,h4]}
 .rcases ycM hz with rfl|hz;show hr y.e (by rw[<-h4];show Kb i) j U;rw[(r2 z hz).2]at U;cases U
 .by_cases l:a∈G;show dom a l
  .have(o,N,_):=Z a d;show{o,m a o N l}
 .have ab:=Jy.mp f.1;have aG:=Jy.mp ab.1;have nG:∀a,(a∈A\/a∈B)->a∉E:=λa d hg=>by
   rcases(hG a hg).1 with z|z;show u a d z
   .have:Mu H a:=Z a (by
     rw[JI,z3];rcases d with q|q;show yaL _ (yaL _ (yaL _ q));show yaL _ (yaR _ q))
    have(o,N,_):=this;rw[z]at N;cases N
  show Jy.mpr {Jy.mpr {aG.1,nd',λa d b M e=>nG a (.inl d) (e▸M)},ab.2.1,λa d b M e=>?_};subst e;rcases yaM d with z|z;show ab.2.2 a (yaL _ z) a M rfl;show nG a (.inr M) z
 .have P:a∈A\/a∈B->(a∈(x::c).flatMap (·.F)\/H a=Uc)/\Mu H' a:=λq=>by
   have l:a∈(x::c).flatMap (·.F):=by
    rw[JI,z3];rcases q with q|q;show yaL _ (yaL _ (yaL _ q));show yaL _ (yaR _ q)
   have(o,N,m1):=Z a l;show{.inl l,o,m a o N (λz=>u a q (yaL _ z)),m1}
  rcases yaM d with z|z
  .rcases yaM z with z|z;show P (.inl z);show{(hG a z).1.imp (C a) id,(hG a z).2}
  .show P (.inr z)
 .have k:=g.kd x ymS;unfold NN at k;cases ek:x.e.r.k with
  | ow=>
   show .inl {Xr,λy i=>?_};rcases ycM i with rfl|i;show ek;show(r2 y i).1
  | io n=>rw[ek]at k;show .inr ⟨n,Xr,k⟩
  | vw a b=>rw[ek]at ho;cases ho
 .have(y,i,hyk):=Kh.mp l;show hX j U y.e (by rw[<-h4];show Kb i) hyk
end
protected def Rho:=! ↑R
abbrev aL:Nat->! ↑V->Rho->!En
 | i,Ud v::Z,Ud r::O=>{Ud i,v,r}::aL (i+1) Z O
 | i,Uc::Z,_::O=>aL (i+1) Z O
 | i,Ud _::Z,Uc::O=>aL (i+1) Z O
 | _,_,_=>[]
def bP{r:R}:∀{k:Nat} {Z:! ↑V} {O:Rho} {i:Nat} {v:V},Z[i]?*>(Ud v)->O[i]?*>(Ud r)->(aL k Z O).Perm ({Ud (k+i),v,r}::aL k Z (O.set i Uc))
 | _,[],_,_,_,h,_=>by simp at h
 | _,_::_,[],_,_,_,h=>by simp at h
 | k,x::Z,y::O,0,v,c,a=>by
  simp at c a;subst c a;simp[aL]
 | k,x::Z,y::O,i+1,v,c,a=>by
  have d:=bP (k:=k+1) (Z:=Z) (O:=O) (i:=i) (v:=v) (r:=r) (by exists c) (by exists a);rw[show k+1+i=k+(i+1) by omega]at d;cases x with
  | none=>simpa[aL]using d
  | some x=>
   cases y with
   | none=>simpa[aL]using d
   | some y=>
    dsimp[aL,MZ];show(List.Perm.cons _ d).trans (List.Perm.swap _ _ _)
def n8:∀{k:Nat} {Z:! ↑V} {O:Rho} {i:Nat} {x:↑V},aL k (Z.set i x) (O.set i Uc)=aL k Z (O.set i Uc)
 | _,[],O,_,_=>rfl
 | _,x::Z,[],i,y=>by cases i<;>cases x<;>simp[aL]<;>cases y<;>simp[aL]
 | _,x::Z,y::O,0,z=>by cases x<;>cases z<;>simp[aL]
 | k,x::Z,y::O,i+1,z=>by
  have a:=n8 (k:=k+1) (Z:=Z) (O:=O) (i:=i) (x:=z);cases x<;>cases y<;>simp[aL,a]
def ig{k:Nat}{Z:! ↑V}{O:Rho}{i:Nat}{v:V}{r:R}(c:i<Z.length)(a:i < O.length):(aL k (Z.set i (Ud v)) (O.set i (Ud r))).Perm ({Ud (k+i),v,r}::aL k Z (O.set i Uc)):=by
 have:=bP (k:=k) (Z:=Z.set i (Ud v)) (O:=O.set i (Ud r)) (i:=i) (v:=v) (r:=r) (by simp[c]) (by simp[a]);rw[List.set_set,n8]at this;show this
def dW{e:En}:∀{k:Nat} {Z:! ↑V} {O:Rho},e∈aL k Z O->∃i,e.key*>(k+i)/\O[i]?*>(Ud e.r)/\Z[i]?*>(Ud e.v)
 | _,[],_,h=>by simp[aL]at h
 | _,x::_,[],h=>by cases x<;>simp[aL]at h
 | k,x::Z,y::O,h=>by
  have a:e∈aL (k+1) Z O->∃i,e.key*>(k+i)/\(y::O)[i]?*>(Ud e.r)/\(x::Z)[i]?*>(Ud e.v):=λh=>by
   have(i,f,d,c):=dW h;show{i+1,by rw[f];congr 1;omega,by simpa using d,by simpa using c}
  cases x with
  | none=>dsimp[aL]at h;show a h
  | some x=>
   cases y with
   | none=>dsimp[aL]at h;show a h
   | some y=>
    dsimp[aL]at h;rcases ycM h with rfl|h;show{0,Xr,Xr,Xr};show a h
abbrev eR(M:!Nat) (r:R):Bool:=match r.k.root with
 | some j=> ~~~M.contains j
 | none=>Ug
abbrev cT(M:!Nat):↑R->↑R
 | some r=>if eR M r=Ug then Ud r else Uc
 | none=>Uc
abbrev aB(M:!Nat) (O:Rho):Rho:=O.map (cT M)
def aV(M:!Nat)(O:Rho):(aB M O).length=O.length:=by unfold aB;rw[Jr]
def gt(M:!Nat):∀{k:Nat} {Z:! ↑V} {O:Rho},aL k Z (aB M O)=aj M (aL k Z O)
 | _,[],_=>rfl
 | _,x::_,[]=>by cases x<;>rfl
 | k,x::Z,y::O=>by
  have a:=gt M (k:=k+1) (Z:=Z) (O:=O);have e:aB M (y::O)=cT M y::aB M O:=rfl;rw[e];cases x with
  | none=>simpa[aL]using a
  | some v=>
   cases y with
   | none=>simpa[aL,cT]using a
   | some r=>
    have c:aF M {Ud k,v,r}=eR M r:=rfl;cases q:eR M r with
    | true=>dsimp[aL,cT,q,if_true,aj,Ld,c,a]
    | false=>
     dsimp[aL,cT,q,aj,Ld,c,a];simp[aL,a,aj]
def oh{M:!Nat}{O:Rho}{i:Nat}{r:R}(h:(aB M O)[i]?*>(Ud r)) : O[i]?*>(Ud r):=by
 unfold aB at h;rw[JB]at h;cases q : O[i]? with
 | none=>rw[q]at h;cases h
 | some o=>
  rw[q]at h;cases o with
  | none=>cases h
  | some x=>
   have a:cT M (Ud x)*>r:=by exists h
   dsimp[cT]at a;split at a;rw[JT.inj a];show absurd a ∅
def vt{M:!Nat}{O:Rho}{i:Nat}{r:R}(h : O[i]?*>(Ud r))(ho:r.k.isOw=Ug):(aB M O)[i]?*>(Ud r):=by
 unfold aB;rw[JB,h];have:eR M r=Ug:=by
  unfold eR;cases e:r.k with
  | vw a b=>rw[e]at ho;cases ho
  | ow=>rfl
  | io _=>rfl
 simp[cT,this]
structure Sim(Γ:Gm)(H:Hp)(O:Rho)(Z:St)(E:!En):Prop where
 sl:HE Γ H (E++aL 0 Z O)
 al:∀(i:Nat) r,O[i]?*>(Ud r)->∃v,Z[i]?*>(Ud v)
 len:Z.length=O.length
 hi:∀e∈E,∀j,e.key*>j->O.length<=j
section
variable {Γ:Gm}{H H':Hp}{O:Rho}{Z:St}{E E':!En}{e:En}{r:R}{v w x:V}{i j:Nat}{t s:T}
def Sim.perm(S:Sim Γ H O Z E)(p:E.Perm E'):Sim Γ H O Z E':={S.sl.perm (p.append_right _),S.al,S.len,λe a=>S.hi e (p.mem_iff.mpr a)}
def Sim.drop(S:Sim Γ H O Z (e::E))(a:e.key=Uc):Sim Γ H O Z E:={S.sl.drop a,S.al,S.len,λx c=>S.hi x (ymC _ c)}
def Sim.swap(S:Sim Γ H O Z (e::f::E)):Sim Γ H O Z (f::e::E):=S.perm (List.Perm.swap _ _ _)
def Sim.imm(S:Sim Γ H O Z E){i:I}(h:RpI Γ.K H i v):Sim Γ H O Z ({Uc,v,{.ow,.im i}}::E):=
 {S.sl.push h,S.al,S.len,λx a j c=>by
  rcases ycM a with rfl|a;cases c;show S.hi x a j c}
def Sim.rd(S:Sim Γ H O Z E)(a:e∈E):∃F,Rp Γ.K H e.r.t e.v F:=S.sl.rd (yaL _ a)
def Sim.slot(S:Sim Γ H O Z E)(h : O[i]?*>(Ud r)):∃v,Z[i]?*>(Ud v)/\({Ud i,v,r}:En)∈E++aL 0 Z O:=by
 have(v,a):=S.al i r h;show{v,a,yaR _ ((bP a h).mem_iff.mpr ?_)};rw[Ke];show ymS
abbrev rdR(i:Nat):R->R
 | ⟨.ow,.im x⟩=>{.ow,.im x}
 | ⟨.vw a b,t⟩=>{.vw a b,t}
 | ⟨_,t⟩=>{.vw (Ud i) (Ud []),t}
def Sim.cons(S:Sim Γ H O Z E)(h:HE Γ H' (⟨Uc,v,r⟩::(E++aL 0 Z O))):Sim Γ H' O Z (⟨Uc,v,r⟩::E):=
 {h,S.al,S.len,λx a j c=>by
  rcases ycM a with rfl|a;cases c;show S.hi x a j c}
def Sim.var(S:Sim Γ H O Z E)(h : O[i]?*>(Ud r)):∃v,Z[i]?*>(Ud v)/\Sim Γ H O Z ({Uc,v,rdR i r}::E):=by
 have(v,f,c):=S.slot h;show{v,f,S.cons ?_};have(k,t):=r;cases k with
 | vw a b=>show S.sl.copy (e:={Ud i,v,{.vw a b,t}}) c rfl
 | io n=>
  have:=S.sl.view (e:={Ud i,v,{.io n,t}}) c rfl rfl;cases t<;>show this
 | ow=>
  cases t with
  | im x=>
   have(F,d):=S.sl.rd c;show S.sl.push (bE d).1
  | tup _=>show S.sl.view (e:={Ud i,v,{.ow,_}}) c rfl rfl
  | li _=>show S.sl.view (e:={Ud i,v,{.ow,_}}) c rfl rfl
  | lst _=>show S.sl.view (e:={Ud i,v,{.ow,_}}) c rfl rfl
  | di _=>show S.sl.view (e:={Ud i,v,{.ow,_}}) c rfl rfl
  | dq _=>show S.sl.view (e:={Ud i,v,{.ow,_}}) c rfl rfl
  | dc _=>show S.sl.view (e:={Ud i,v,{.ow,_}}) c rfl rfl
  | ins _ _=>show S.sl.view (e:={Ud i,v,{.ow,_}}) c rfl rfl
def Sim.kill(S:Sim Γ H O Z E)(M:!Nat):Sim Γ H (aB M O) Z (aj M E):=by
 show{?_,λi r h=>S.al i r (oh h),by rw[aV];show S.len,λx c j a=>by rw[aV];show S.hi x (JD.mp c).1 j a};rw[gt,<-aQ];show S.sl.kill M
def mF{M:!Nat}{X:!En}(a:i∈M):∀g∈aj M X,g.r.k.root≠Ud i:=λg c z=>by
 have:=(JD.mp c).2;unfold aF at this;rw[z]at this;simp[a]at this
def Sim.out(S:Sim Γ H O Z E)(h : O[i]?*>(Ud r))(ho:r.k.isOw=Ug):∃v,Z[i]?*>(Ud v)/\HE Γ H ({Ud i,v,r}::(aj [i] E++aL 0 Z ((aB [i] O).set i Uc))) /\
  (∀g∈aj [i] E++aL 0 Z ((aB [i] O).set i Uc),g.r.k.root≠Ud i)/\∀g∈aj [i] E++aL 0 Z ((aB [i] O).set i Uc),g.key≠Ud i:=by
 have(v,p):=S.al i r h;have q:=S.kill [i];have u:=vt (M:=[i]) h ho;have c:i < O.length:=(Js.mp h).1;show{v,p,q.sl.perm ?_,λg f=>?_,λg f o=>?_}
 .have:=(bP (k:=0) p u).append_left (aj [i] E);rw[Ke]at this;show this.trans Ka
 .rcases yaM f with z|z;show mF ∅ g z
  .have:g∈aL 0 Z (aB [i] O):=by
    have(m,d,a,l):=dW z;have y:m≠i:=λe=>by subst e;simp[aV,c]at a
    rw[JM (Op y)]at a;have:=(bP (k:=0) l a).mem_iff.mpr (ymS);have e:g={Ud (0+m),g.v,g.r}:=by cases g;dsimp[En.mk.injEq,and_self,and_true];show d
    rw[e];show this
   rw[gt]at this;show mF ∅ g this
 .rcases yaM f with z|z
  .have:=q.hi g z i o;rw[aV]at this;omega
  .have(m,d,a,l):=dW z;rw[o,Ke]at d;cases d;simp[aV,c]at a
def Sim.back(S:Sim Γ H O Z E){a:Rho}{c:St}(h:HE Γ H' (E'++aL 0 c a))(d : a.length=O.length)(k:c.length=Z.length)(l:∀(i:Nat) r,a[i]?*>(Ud r)->∃v,c[i]?*>(Ud v))(m:∀e∈E',∀j,e.key*>j->e∈E):Sim Γ H' a c E':=
 {h,l,by rw[d,k];show S.len,λe g j f=>by rw[d];show S.hi e (m e g j f) j f}
abbrev iA(O:Rho) (i:Nat):Bool:=match O[i]? with
 | some (Ud ⟨.io _,_⟩)=>Ue
 | some _=>Ug
 | none=>Ue
def DH{O:Rho}{Z:St}(f:∀(i:Nat) r,O[i]?*>(Ud r)->∃v,Z[i]?*>(Ud v))(g:i<Z.length):∀(m:Nat) a,(O.set i (Ud r))[m]?*>(Ud a)->∃d,(Z.set i (Ud v))[m]?*>(Ud d):=λm a c=>by
 by_cases e:m=i;subst e;show{v,by simp[g]};rw[JM (Op e)]at c|-;show f m a c
def Sim.put(S:Sim Γ H O Z (⟨Uc,v,r⟩::E))(N:iA O i=Ug)(Y:r.k.root≠Ud i):Sim Γ H ((aB [i] O).set i (Ud r)) (Z.set i (Ud v)) (aj [i] E):=by
 have d:i < O.length:=by
  unfold iA at N;cases q : O[i]? with
  | none=>rw[q]at N;cases N
  | some o=>show(Js.mp q).1
 have B:i<Z.length:=by rw[S.len];show d
 have l:aF [i] ⟨Uc,v,r⟩=Ug:=by
  unfold aF;split
  .delta j h;have:j≠i:=λz=>Y (z▸h);simp[this]
  .rfl
 have M:aj [i] (⟨Uc,v,r⟩::E)=⟨Uc,v,r⟩::aj [i] E:=by unfold aj;rw[Ld,if_pos l]
 have u:=S.kill [i];rw[M]at u;have J:HE Γ H (⟨Uc,v,r⟩::(aj [i] E++aL 0 Z ((aB [i] O).set i Uc)))/\∀g∈aj [i] E++aL 0 Z ((aB [i] O).set i Uc),g.key≠Ud i:=by
  cases q:(aB [i] O)[i]? with
  | none=>rw[List.getElem?_eq_none_iff,aV]at q;omega
  | some o=>
   cases o with
   | none=>
    have e:(aB [i] O).set i Uc=aB [i] O:=by
     apply Ly;intro m;by_cases G:m=i;subst G;rw[q];simp[aV,d];rw[JM (Op G)]
    rw[e];show{u.sl,λg f A=>?_};rcases yaM f with z|z
    .have:=u.hi g (ymC _ z) i A;rw[aV]at this;omega
    .obtain⟨m,a,c,K⟩:=dW z;rw[A,Ke]at a;cases a;rw[q]at c;cases c
   | some Q=>
    have U:=oh q;by_cases ho:Q.k.isOw=Ug
    .obtain⟨v0,y,a,P,c⟩:=S.out U ho;rw[M]at a P c;show{a.dropK λg f j h=>by cases h;show P g f,λg f=>c g (ymC _ f)}
    .obtain⟨v0,y⟩:=S.al i Q U;have p:=(bP (k:=0) y q).append_left (⟨Uc,v,r⟩::aj [i] E);rw[Ke]at p;have a:=u.sl.perm (p.trans Ka);show{a.dropK λg f j h=>?_,λg f A=>?_}
     .cases (h);have C:g∈aj [i] (⟨Uc,v,r⟩::E)++aj [i] (aL 0 Z O):=by
       rw[M,<-gt];rcases yaM f with z|z;show yaL _ z
       .show yaR _ ?_;obtain⟨m,a,c,K⟩:=dW z;have G:m≠i:=λe=>by subst e;simp[aV,d]at c
        rw[JM (Op G)]at c;have:=(bP (k:=0) K c).mem_iff.mpr (ymS);have e:g={Ud (0+m),g.v,g.r}:=by cases (g);dsimp[En.mk.injEq,and_self,and_true];show a
        rw[e];show this
      rw[<-aQ]at C;show mF ∅ g C
     .rcases yaM f with z|z
      .have:=u.hi g (ymC _ z) i A;rw[aV]at this;omega
      .obtain⟨m,a,c,K⟩:=dW z;rw[A,Ke]at a;cases a;simp[aV,d]at c
 obtain⟨J,L⟩:=J;have S4:=J.rekey (e:=⟨Uc,v,r⟩) rfl (key:=Ud i) λj h g f=>by cases h;show L g f
 show u.back (S4.perm ?_) (by simp[aV]) ∅ (DH u.al B) (λe X j h=>ymC _ X);have p:=(ig (k:=0) (Z:=Z) (O:=aB [i] O) (v:=v) (r:=r) B (by rw[aV];show d)).append_left (aj [i] E);rw[Ke]at p;show(Ka.symm).trans p.symm
def Sim.mut{vs:!V}{ts:!T}{p:!Ac}{k:Kd}(S:Sim Γ H O Z (bf vs ts++{Uc,w,{.vw (Ud i) (Ud p),s}}::E))(hl:vs.length=ts.length)(h : O[i]?*>(Ud ⟨k,t⟩))(ho:k.isOw=Ug) :
  ∃G F,Rp Γ.K H s w G/\Rps Γ.K H ts vs F/\(G++F).Nodup/\(∀a∈G++F,Mu H a) /\
  ∀H' C M,NJ G H H'->(∀a∈G,∃o,H' a*>o)->M.Nodup->(∀a∈M,(a∈G++F\/H a=Uc)/\Mu H' a)->Rp Γ.K H' C w M->Sim Γ H' ((aB [i] O).set i (Ud {k,t.put p C})) Z (aj [i] E):=by
 have l:i < O.length:=(Js.mp h).1;have(v0,u,f):=S.slot h;have pl:t.sub p*>s/\atP Γ.K H v0 p w:=by
  have(L,g,e):=S.sl;have:({Uc,w,{.vw (Ud i) (Ud p),s}}:En)∈L.map (·.e):=by rw[e];simp
  have(y,hy,ey):=Jz.mp this;have Q:=g.kd y hy;unfold NN at Q;rw[ey]at Q;have(x,x1,x2,x3,x4,x5):=Q;have P:({Ud i,v0,⟨k,t⟩}:En)∈L.map (·.e):=by rw[e];show f
  have(z,d,Y):=Jz.mp P;have:x=z:=by
   have nk:=g.ks;by_cases q:x=z;show q
   .exfalso;have(A,B,rfl):=LJ x1;rw[Lh,JY,x2]at nk;rcases yaM d with d|d;show(Jy.mp nk).2.2 i (Kh.mpr {z,d,by rw[Y]}) i ymS rfl
    .rcases ycM d with d|d;show q d.symm;show(JS.mp (Jy.mp nk).2.1).1 (Kh.mpr {z,d,by rw[Y]})
  subst this;have:=x5 p rfl;rw[Y]at this;show this
 have(v1,J,h1,h2,U):=S.out h ho;rw[u]at J;cases J;have c:∀{vs:!V} {ts:!T},aj [i] (bf vs ts)=bf vs ts:=by
  intro vs
  induction vs with
  | nil=>intro ts;rfl
  | cons v vs ih=>
   intro ts;cases ts with
   | nil=>rfl
   | cons t ts=>change List.filter _ _=_;rw[bf,Ld,if_pos (show aF [i] {Uc,v,{.ow,t}}=Ug from rfl)];show congrArg _ ih
 have kv:aF [i] {Uc,w,{.vw (Ud i) (Ud p),s}}=Ue:=by unfold aF;simp[Kd.root]
 have ek:aj [i] (bf vs ts++{Uc,w,{.vw (Ud i) (Ud p),s}}::E)=bf vs ts++aj [i] E:=by
  rw[aQ,c];unfold aj;rw[Ld,if_neg (by rw[kv];simp)]
 rw[ek]at h1 h2 U;rw[JK]at h1 h2 U;have(w',G,F,m1,m2,m3,m4,m5,m6):=HE.mutP (e:={Ud i,v0,⟨k,t⟩}) (X:=aj [i] E++aL 0 Z ((aB [i] O).set i Uc)) (by rw[J3];show h1) hl ho (λg hg j N=>by cases N;show h2 g (yaR _ hg)) pl.1 (λj N g hg=>by cases N;show U g (yaR _ hg));have ew:=jD m1 pl.2;subst ew;show{G,F,m2,m3,m4,m5,λH' C M off dom nd hG rp=>?_};have S5:=m6 H' C M off dom nd hG rp;have S2:=S.kill [i];show S2.back (S5.perm ?_) (by simp[aV]) rfl (λm r' f=>?_) (λe he j N=>by rw[ek];show yaR _ he)
 .have p:=(ig (k:=0) (Z:=Z) (O:=aB [i] O) (v:=v0) (r:={k,t.put p C}) (by rw[S.len];show l) (by rw[aV];show l)).append_left (aj [i] E);rw[Ke]at p;have eZ:Z.set i (Ud v0)=Z:=by
   apply Ly;intro m;by_cases f:m=i;subst f;rw[u];simp[S.len,l];rw[JM (Op f)]
  rw[eZ]at p;show(Ka.symm).trans p.symm
 .by_cases e:m=i;subst e;show⟨v0,u⟩;rw[JM (Op e)]at f;show S2.al m r' f
def Sim.move(S:Sim Γ H O Z ({Uc,w,{.vw (Ud i) (Ud []),s}}::E))(h : O[i]?*>(⇑t)):Sim Γ H ((aB [i] O).set i Uc) Z ({Uc,w,{.ow,s}}::aj [i] E):=by
 have J:i < O.length:=(Js.mp h).1;have(v0,K,o):=S.slot h;have pl:s=t/\w=v0:=by
  have(L,g,e):=S.sl;have:({Uc,w,{.vw (Ud i) (Ud []),s}}:En)∈L.map (·.e):=by rw[e];simp
  have(y,d,ey):=Jz.mp this;have C:=g.kd y d;unfold NN at C;rw[ey]at C;have(x,x1,x2,x3,x4,x5):=C;have u:({Ud i,v0,{.ow,t}}:En)∈L.map (·.e):=by rw[e];show o
  have(z,c,M):=Jz.mp u;have:x=z:=by
   have N:=g.ks;by_cases q:x=z;show q
   .exfalso;have(A,B,rfl):=LJ x1;rw[Lh,JY,x2]at N;rcases yaM c with c|c;show(Jy.mp N).2.2 i (Kh.mpr {z,c,by rw[M]}) i ymS rfl
    .rcases ycM c with c|c;show q c.symm;show(JS.mp (Jy.mp N).2.1).1 (Kh.mpr {z,c,by rw[M]})
  subst this;have:=x5 [] rfl;rw[M]at this;have(P,q2):=this;rw[T.sub]at P;cases P;show⟨Xr,q2⟩
 have(rfl,rfl):=pl;have(v1,p,X,Q,h3):=S.out h rfl;rw[K]at p;cases p;have kv:aF [i] {Uc,w,{.vw (Ud i) (Ud []),s}}=Ue:=by unfold aF;simp[Kd.root]
 have Y:aj [i] ({Uc,w,{.vw (Ud i) (Ud []),s}}::E)=aj [i] E:=by
  unfold aj;rw[Ld,if_neg (by rw[kv];simp)]
 rw[Y]at X Q h3;have U:=S.kill [i];show U.back (E':={Uc,w,{.ow,s}}::aj [i] E) ?_ (by simp[aV]) rfl (λm r' o=>?_) (λe G j k=>?_)
 .have(L,g,e):=X;have(x,L',rfl,l,e2):=aJ e;have:=g.step (hs:=[x]) (L:=L') (H':=H) (λy d=>by rw[ysM d,l];rfl) (λy d z c j k=>by
   rw[ysM c,l]at k;cases k;show Q y.e (by rw[<-e2];show Kb d)) (NJ.refl _ _) (λa f=>by
    have(y,d,f):=Kx.mp f;rw[ysM d]at f;show(g.rp x ymS).dom a f) (key:=Uc) (v:=w) (r:={.ow,s}) (F:=x.F) (g.ndF ymS (by rw[l];rfl)) (λa f=>{.inl (by exists f),g.muF ymS (by rw[l];rfl) a f})
    (by have:=g.rp x ymS;rw[l]at this;show this) (.inl {Xr,λy d=>by rw[ysM d,l]}) (λj k=>by cases k)
  show{_,this,by rw[Jt,e2];rfl}
 .by_cases e:m=i;subst e;simp[aV,J]at o;rw[JM (Op e)]at o;show U.al m r' o
 .rcases ycM G with rfl|G;cases k;rw[Y];show G
def Sim.use(S:Sim Γ H O Z (bf vs ts++E))(k:vs.length=ts.length):∃F,Rps Γ.K H ts vs F/\F.Nodup/\(∀a∈F,Mu H a) /\
  ∀H' v t F',NJ F H H'->(∀a∈F,∃o,H' a*>o)->F'.Nodup->(∀a∈F',(a∈F\/H a=Uc)/\Mu H' a)->Rp Γ.K H' t v F'->Sim Γ H' O Z ({Uc,v,{.ow,t}}::E):=by
 have h:=S.sl;rw[JK]at h;have(F,q,m,l,p):=h.use k;show{F,q,m,l,λH' v t F' a b c d e=>?_};show{p H' v t F' a b c d e,S.al,S.len,λx f j g=>by
  rcases ycM f with rfl|f;cases g;show S.hi x (yaR _ f) j g}
def Sim.part(S:Sim Γ H O Z E)(d:e∈E){c:↑Nat}{p:Option !Ac}(ho:e.r.k=.vw c p){P:V->Prop}(g:∀F,Rp Γ.K H e.r.t e.v F->∃w G,P w/\Rp Γ.K H s w G/\∀a∈G,a∈F):∃w,P w/\Sim Γ H O Z ({Uc,w,{.vw c Uc,s}}::E):=by
 have(w,h,f):=S.sl.part (yaL _ d) ho g;show{w,h,S.cons f}
def Sim.partP(S:Sim Γ H O Z E)(d:e∈E)(ho:e.r.k=.vw (Ud j) (Ud q))(hs:kP e.r.t a*>s):∃w,at1 Γ.K H e.v a w/\Sim Γ H O Z ({Uc,w,{.vw (Ud j) (Ud (q++[a])),s}}::E):=by
 have(w,f,c):=S.sl.partP (yaL _ d) ho hs;show{w,f,S.cons c}
end
structure ME where
 run:Rho->↑(R×Rho)
 mu:!Nat
structure MT where
 run:Rho->↑(Bool×Rho)
 mu:!Nat
structure MA where
 run:Rho->↑(!R×Rho)
 mu:!Nat
inductive Fl where
 | nx|rt (t:T)|bk|ct
structure MS where
 run:Rho->↑(Fl×Rho)
 mu:!Nat
structure MG where
 run:R->Rho->↑Rho
 mu:!Nat
structure MGs where
 run:!R->Rho->↑Rho
 mu:!Nat
abbrev ens:!V->!R->!En
 | v::vs,r::a=>⟨Uc,v,r⟩::ens vs a
 | _,_=>[]
abbrev aM(M:!Nat) (r:R):Bool:=eR M r
def cc(h:aM M r=Ug):aF M ⟨Uc,v,r⟩=Ug:=h
def aK(h:aF M e=Ug):aj M (e::E)=e::aj M E:=by unfold aj;rw[Ld,if_pos h]
def kh:∀{vs:!V} {rs:!R},rs.all (aM M)=Ug->aj M (ens vs rs)=ens vs rs
 | [],_,_=>by cases ‹!R›<;>rfl
 | _::_,[],_=>rfl
 | v::vs,r::rs,h=>by
  rw[Ll,Jv]at h;rw[ens,aK (cc h.1),kh h.2]
def Sim.weak(S:Sim Γ H O Z E)(M:!Nat):Sim Γ H O Z (aj M E):=by
 show{?_,S.al,S.len,λe i=>S.hi e (JD.mp i).1};have(L,g,h):=S.sl;have(A,B,rfl,f,d):=cN h;show{A.filter (λx=>aF M x.e)++B,g.sub (Kn.append (List.Sublist.refl _)) λx o j m y l p c=>?_,?_}
 .rcases yaM l with z|z
  .show yaL _ (JD.mpr {z,?_});unfold aF;cases e:y.e.r.k with
   | vw a b=>rw[e]at c;cases c
   | ow=>rfl
   | io _=>rfl
  .show yaR _ z
 .rw[JC,d,<-f];unfold aj;rw[Lu];rfl
abbrev aZ(K:yF)(e:TE)(m:ME):Prop:=∀(a:Gm) (H:Hp) (O:Rho) (Z:St) (E:!En) (Q:VK) (r:R) (c:Rho),a.K=K->m.run O*>(r,c)->Sim a H O Z E->(∀v d,Sim a d c Z (⟨Uc,v,r⟩::aj m.mu E)->Q v d)->e Z H Q
abbrev fO(K:yF)(e:TT)(m:MT):Prop:=∀(a:Gm) (H:Hp) (O:Rho) (Z:St) (E:!En) (Q:Bool->Hp->Prop) (b:Bool) (c:Rho),a.K=K->m.run O*>(b,c)->Sim a H O Z E->(∀d,Sim a d c Z (aj m.mu E)->Q b d)->e Z H Q
abbrev hR(K:yF)(f:TA)(m:MA):Prop:=∀(c:Gm) (H:Hp) (O:Rho) (Z:St) (E:!En) (Q:!V->Hp->Prop) (a:!R) (d:Rho),c.K=K->m.run O*>(a,d)->Sim c H O Z E->(∀vs e,vs.length=a.length->Sim c e d Z (ens vs a++aj m.mu E)->Q vs e)->f Z H Q
abbrev NW(e:Gm)(d:Rho)(E:!En)(D:N0):Fl->Prop
 | .nx=>∀c a,Sim e a d c E->D.nx c a
 | .bk=>∀c a,Sim e a d c E->D.bk c a
 | .ct=>∀c a,Sim e a d c E->D.ct c a
 | .rt t=>∀v c a,Sim e a d c [{Uc,v,{.ow,t}}]->D.rt v a
abbrev f8(K:yF)(ts:TS)(m:MS):Prop:=∀(a:Gm) (H:Hp) (O:Rho) (Z:St) (E:!En) (D:N0) (f:Fl) (c:Rho),a.K=K->(∀e∈E,e.key=Uc)->m.run O*>(f,c)->Sim a H O Z E->NW a c (aj m.mu E) D f->ts D Z H
abbrev j3(K:yF)(g:TG)(m:MG):Prop:=∀(a:Gm) (H:Hp) (O:Rho) (Z:St) (E:!En) (Q:St->Hp->Prop) (v:V) (r:R) (c:Rho),a.K=K->m.run r O*>c->Sim a H O Z (⟨Uc,v,r⟩::E)->(∀d e,Sim a e c d (aj m.mu E)->Q d e)->g v Z H Q
abbrev qg(K:yF)(g:TGs)(m:MGs):Prop:=∀(c:Gm) (H:Hp) (O:Rho) (Z:St) (E:!En) (Q:St->Hp->Prop) (vs:!V) (a:!R) (d:Rho),c.K=K->m.run a O*>d->vs.length=a.length->Sim c H O Z (ens vs a++E)->(∀e f,Sim c f d e (aj m.mu E)->Q e f)->g vs Z H Q
abbrev Gs(X:Cx)(st:!Stmt)(m:MS):Prop:=∃a,PSs X st a/\f8 X.K a m
section
variable {K:yF}{X:Cx}
private def mC(i:I):ME:={λO=>Ud ({.ow,.im i},O),[]}
private def ag(i:Nat):ME:={λO=>match O[i]? with
 | some (Ud r)=>Ud (rdR i r,O)
 | _=>Uc,[]}
def zu(h:i.sc*>v):aZ K (tC v) (mC i):=by unhygienic
 intro d H O Z E Q r c e a S q;cases a;show q v H (by rw[show(mC i).mu=[]from rfl,cw];show S.imm (le h))
def Ck:aZ K (FR i) (ag i):=by unhygienic
 intro j H O Z E Q r f g a S q;dsimp[ag]at a;ext a h c;cases a;have(v,d,e):=S.var c;show{v,d,q v H (by rw[show(ag i).mu=[]from rfl,cw];show e)}
private def mNil:MA:={λO=>Ud ([],O),[]}
private def ac(m:ME)(a:MA):MA:={λO=>match m.run O with
 | some (r,e)=>match a.run e with
  | some (c,d)=>if aM a.mu r=Ug then Ud (r::c,d)else Uc
  | none=>Uc
 | none=>Uc,m.mu++a.mu}
def Cd:hR K Ii mNil:=by unhygienic
 intro e H O Z E Q d c f a S q;cases a;show q [] H rfl (by rw[show mNil.mu=[]from rfl,cw];show S)
def AR{v:V}{r:R}{E:!En}:∀{vs:!V} {rs:!R},(ens vs rs++⟨Uc,v,r⟩::E).Perm (⟨Uc,v,r⟩::(ens vs rs++E)):=Ka
def zw(j:aZ K te m)(i:hR K ta ms):hR K (uI te ta) (ac m ms):=by unhygienic
 intro g H O Z E Q w u e a S q;dsimp[ac]at a;ext a r d p;ext a c x s;ext a l;cases a;show j g H O Z E _ r d e p S λv k t=>?_;show i g k d Z _ _ c _ e s t λvs o h f=>q (v::vs) o (by rw[JH,JH,h]) ?_;rw[aK (cc l),ah]at f;show f.perm AR
private def mNext:MS:={λO=>Ud (.nx,O),[]}
private def ax(a b:MS):MS:={λO=>match a.run O with
 | some (.nx,c)=>b.run c
 | some (.rt t,c)=>Ud (.rt t,c)
 | some (.bk,c)=>Ud (.bk,c)
 | some (.ct,c)=>Ud (.ct,c)
 | none=>Uc,a.mu++b.mu}
private def mIf(c:MT)(a b:MS):MS:={λO=>match c.run O with
 | some (Ug,d)=>a.run d
 | some (Ue,d)=>b.run d
 | none=>Uc,c.mu++(a.mu++b.mu)}
private def bU(e:ME):MS:={λO=>match e.run O with
 | some (_,a)=>Ud (.nx,a)
 | none=>Uc,e.mu}
private def aI(e:ME)(g:MG):MS:={λO=>match e.run O with
 | some (r,c)=>match g.run r c with
  | some a=>Ud (.nx,a)
  | none=>Uc
 | none=>Uc,e.mu++g.mu}
private def wq:R->Rho->↑(T×Rho)
 | ⟨.ow,t⟩,O=>Ud (t,O)
 | ⟨.vw (Ud i) (Ud []),t⟩,O=>match O[i]? with
  | some (⇑_)=>Ud (t,(aB [i] O).set i Uc)
  | _=>Uc
 | _,_=>Uc
private def bq(e:ME):MS:={λO=>match e.run O with
 | some (r,c)=>match wq r c with
  | some (t,a)=>Ud (.rt t,a)
  | none=>Uc
 | none=>Uc,e.mu}
def NW.weak{e:Gm}{d:Rho}{E:!En}{D:N0}{f:Fl}{M N:!Nat}(h:NW e d (aj (M++N) E) D f):NW e d (aj M E) D f:=by
 cases f with
 | rt t=>show h
 | nx=>show λc a S=>h c a (by rw[<-ah];show S.weak N)
 | bk=>show λc a S=>h c a (by rw[<-ah];show S.weak N)
 | ct=>show λc a S=>h c a (by rw[<-ah];show S.weak N)
def sC(M N:!Nat)(E:!En):aj M (aj N E)=aj N (aj M E):=by
 unfold aj;rw[Ma,Ma];congr 1;funext e;show Bool.and_comm _ _
def NW.weak2{c:Gm}{a:Rho}{E:!En}{D:N0}{f:Fl}{M N:!Nat}(h:NW c a (aj (M++N) E) D f):NW c a (aj N E) D f:=by
 show NW.weak (N:=M) ?_;rwa [<-ah,sC,ah]
def cv(h:∀e∈E,e.key=Uc):∀e∈aj M E,e.key=Uc:=λe a=>h e (JD.mp a).1
def zF:f8 K Dy mNext:=by unhygienic
 intro d H O Z E D f c e g a S q;cases a;show q Z H (by rw[show mNext.mu=[]from rfl,cw];show S)
def Ch(j:f8 K t a)(m:f8 K u b):f8 K (Io t u) (ax a b):=by
 intro e H O Z E D f k h i c S q;change t {D with nx:=u D} Z H;dsimp[ax]at c q;split at c
 .delta g d;show j e H O Z E _ .nx g h i d S λp o r=>?_;show m e o g p _ D f k h (cv i) c r ?_;rw[ah];show q
 .delta l g d;cases c;show j e H O Z E _ (.rt l) _ h i d S q
 .delta g d;cases c;show j e H O Z E _ .bk _ h i d S (show NW e _ (aj a.mu E) D .bk from q.weak)
 .delta g d;cases c;show j e H O Z E _ .ct _ h i d S (show NW e _ (aj a.mu E) D .ct from q.weak)
 .cases c
def B9(m:fO K c mc)(r:f8 K t a)(p:f8 K u b):f8 K (Ig c t u) (mIf mc a b):=by
 intro h H O Z E D f l g o e S q;dsimp[mIf]at e q;rw[<-ah]at q;split at e
 .delta d j;show m h H O Z E _ Ug d g j S λi k=>qD ?_;show r h i d Z _ D f l g (cv o) e k q.weak
 .delta d j;show m h H O Z E _ Ue d g j S λi k=>qC ?_;show p h i d Z _ D f l g (cv o) e k q.weak2
 .cases e
def zx(h:aZ K te m):f8 K (Dw te) (bU m):=by unhygienic
 intro i H O Z E D f j c l a S q;dsimp[bU]at a;ext a r k e;cases a;show h i H O Z E _ r _ c e S λv d g=>q Z d (g.drop rfl)
def pT(h:aZ K te m)(j:j3 K g mg):f8 K (Cz te g) (aI m mg):=by
 intro e H O Z E D f u d w a S q;dsimp[aI]at a q;ext a r c o;ext a x p;cases a;show h e H O Z E _ r c d o S λv k s=>?_;show j e k c Z _ _ v r _ d p s λi l t=>q i l (by rw[<-ah];show t)
def Sim.only(S:Sim Γ H O Z (e::E))(a:∀x∈E,x.key=Uc):Sim Γ H O Z [e]:=by
 induction E with
 | nil=>show S
 | cons x E d=>show d (S.swap.drop (a x ymS)) λy c=>a y (ymC _ c)
def Cg(h:aZ K te m):f8 K (Im te) (bq m):=by unhygienic
 intro o H O Z E D f x s e d S q;dsimp[bq]at d;ext d r l w;ext d t z c;cases d;show h o H O Z E _ r l s w S λv g j=>?_;have(k,A):=r;cases k with
 | ow=>
  cases c;show q v Z g (j.only (cv e))
 | io n=>cases c
 | vw a b=>
  cases a with
  | none=>cases c
  | some i=>
   cases b with
   | none=>cases c
   | some p=>
    cases p with
    | cons _ _=>cases c
    | nil=>
     dsimp[wq]at c;ext c y u;cases c;show q v Z g ((j.move u).only (cv (cv e)))
private def af(i:Nat):MG:={λr O=>if(iA O i&&aM [i] r)=Ug then Ud ((aB [i] O).set i (Ud r))else Uc,[i]}
def jj(h:aM [i] r=Ug):r.k.root≠Ud i:=λz=>by
 unfold aM eR at h;rw[z]at h;simp at h
def mV:j3 K (oe i) (af i):=by unhygienic
 intro d H O Z E Q v r c e a S q;dsimp[af]at a;ext a h;cases a;rw[Jv]at h;show q _ H (S.put h.1 (jj h.2))
end
section
variable {X:Cx}
def Inv.lstR(I:Inv X Ub Z H s)(c:Rd H l (.lst xs)):xs.length<=sizeLine/\∃(a:!Oa) (n:Nat),Vals xs a/\xs.length=a.length/\s.heap.get? l=Ud {cls:=.type "list",data:=.seq a.toArray n}:=by
 have(z,a,n,r,e):=c.ok I.hok;show⟨z,a,n,r,r.length,e⟩
abbrev Di:R2:=λx y H Q=>∃l b c a,x=.ref l/\y=.ref b/\Rd H l (.lst c)/\Rd H b (.lst a)/\c.length+a.length<=sizeLine/\∀p,H p=Uc->Q (.ref p) (upd H p (.lst (c++a)))
def op_catR:OpR X (OQ .Add) Di:=by
 intro t s Z H x y v u Q I i g h;obtain⟨l,b,w,C,rfl,rfl,k,d,p,q⟩:=h;cases i;cases g;have(z,c,n,r,A,e):=I.lstR k;have(E,a,B,o,j,m):=I.lstR d;show PySem.P.add_list e m ?_ (by rw[Ju,Ju];omega);have f:c.toArray++a.toArray=(c++a).toArray:=by simp
 rw[f];show{.ref _,_,I.lnew (t':=s.toks) (r.append o) (by rw[JP];omega),Xr,q _ I.fresh}
abbrev zj(K:yF):R2:=λx y H Q=>∃a b c,x=.ref a/\y=.ref b/\SqT K H a []/\SqT K H b c/\Q (.ref b) H
def x9:OpR X (OQ .Add) (zj X.K):=by
 intro O s Z H x y v u Q I B z h;have(a,b,N,rfl,rfl,J,C,q):=h;cases B;cases z;have(g,M,w,_):=I.tuple J;have(f,P,A,_):=I.tuple C;have E:g=[]:=M.nil_iff.mpr rfl;subst E;obtain⟨⟨r,L,l,t⟩,k,o,n,m⟩:=id w;obtain⟨⟨p,j,data2,i⟩,d,e,G,c⟩:=id A;simp only at o m e c;subst o m e c;show Sa {_,k,Xr} {_,d,Xr} Q4 RL PySem.F.slot_tuple_add PySem.F.entry_tuple_add (PySem.F.args_tuple_add_2 _ _)
   (tuple_addW0 a b #[] f.toArray n G L j t i rfl) {k,d,{.ref b,H,I,Xr,q}}
abbrev zi(K:yF):R2:=λx y H Q=>Dh K x y H Q\/(Di x y H Q\/zj K x y H Q)
def Bp:OpR X (OQ .Add) (zi X.K):=op_addX.or (op_catR.or x9)
abbrev Dn:R2:=λx y H Q=>∃l k a,x=.ref l/\y=.int k/\Rd H l (.lst a)/\-(2^63)<=k/\k<2^63/\a.length*k.toNat<=sizeLine/\∀p,H p=Uc->Q (.ref p) (upd H p (.lst (Jw k.toNat a).flatten))
def Bt:OpR X (OQ .Mult) Dn:=by
 intro N s Z H x y v u Q I C B h;obtain⟨l,k,O,rfl,rfl,L,K,A,w,q⟩:=h;cases C;have(t,rfl):=B;have(z,c,n,r,G,e):=I.lstR L;have i:c.toArray.size*k.toNat<=sizeLine:=by rw[Ju,<-G];show w
 have j:¬ c.toArray.size*k.toNat>(2^63-1) / 8:=by
  have:(sizeLine:Nat)<=(2^63-1) / 8:=by decide
  omega
 have g:¬ (~~~Builtin.List.listFitsIndex k)=Ug:=by
  rw[Qy K A];show JF
 have d:¬ O9 (c.toArray.size*k.toNat)=Ug:=by
  rw[iB i];show JF
 have f:Mq (λp o=>p++o) #[] (Jw (if c.toArray.isEmpty=Ug then 0 else k.toNat) c.toArray)=(Jw k.toNat c).flatten.toArray:=by
  have E:∀m:Nat,Mq (λp o=>p++o) #[] (Jw m c.toArray)=(Jw m c).flatten.toArray:=λm=>by
   have:=gv c m [];rw[KT]at this;show this
  rw[E];cases c with
  | nil=>simp
  | cons a M=>rw[if_neg ∅]
 show PR (T:="list") (U:="int") (by decide) {_,e,Xr} (λJ=>Qd J k t) SH Rn PF repeat_list Q6.lookup
  (Pk PF (Qd s k t) Q7 (QL _ _) (Rv k t l c.toArray n)
   {e,Xr,{_,e,Xr},Pk SI {_,e,Xr} Su (Sd _ _) (P4 l c.toArray n k t g j d) {e,?_}})
 rw[f];show{.ref _,_,I.lnew (t':=s.toks) (r.rep k.toNat) (by rw[jN,M2];show w),Xr,q _ I.fresh}
abbrev zp(K:yF):R2:=λx y H Q=>Dm K x y H Q\/Dn x y H Q
def Br:OpR X (OQ .Mult) (zp X.K):=op_mulX.or Bt
end
abbrev Rpx(K:yF)(H:Hp)(t:T)(v:V):Prop:=∃F,Rp K H t v F
abbrev New(K:yF)(H H':Hp)(t:T)(v:V):Prop:=NP H H'/\∃F,Rp K H' t v F/\F.Nodup/\∀a∈F,H a=Uc/\Mu H' a
section
variable {K:yF}{H H':Hp}{Γ:Gm}{O:Rho}{Z:St}{E:!En}{t:T}{v x y:V}{Q:VK}
def Sim.fresh(S:Sim Γ H O Z E)(n:New Γ.K H H' t v):Sim Γ H' O Z ({Uc,v,{.ow,t}}::E):=by
 have(g,F,h,f,c):=n;have(i,e,_,_,k):=Sim.use (vs:=[]) (ts:=[]) S rfl;have:=e.nil_inv.2;subst this;show k H' v t F (g.offM _) ∅ f (λa d=>{.inr (c a d).1,(c a d).2}) h
def New.im(h:RpI K H i v):New K H H (.im i) v:={NP.refl H,[],ji h,Le,by simp}
def New.sc(h:i.sc*>v):New K H H (.im i) v:=.im (le h)
def New.tup(a:H p=Uc)(h:p7 K H is xs):New K H (upd H p (.tup xs)) (.im (.tup is)) (.ref p):=by
 show{NP.laid a,[],ji ?_,Le,by simp};rw[RpI];show{p,xs,Xr,SqT.of aA,h.same (NP.laid a)}
def New.li(c:H p=Uc)(h:p7 K H is xs):New K H (upd H p (.lst xs)) (.li is) (.ref p):=by
 show{NP.laid c,[p],?_,by simp,λa d=>?_};rw[Rp];show{p,xs,Xr,.inl aA,h.same (NP.laid c),Xr};rw[ysM d];show{c,_,aA,Xr}
def cf(h:Rpx K H (.im i) v):RpI K H i v:=by obtain⟨F,h⟩:=h;show(bE h).1
def aY(h:Rpx K H (.im (.int n)) v):v=.int n:=by have:=cf h;rw[RpI]at this;show this
def eK(h:Rpx K H (.im (.str n)) v):v=.str n:=by have:=cf h;rw[RpI]at this;show this
def oK(h:Rpx K H (.im (.bl n)) v):v=.bl n:=by have:=cf h;rw[RpI]at this;show this
def FL(h:Rpx K H (.im .non) v):v=.non:=by have:=cf h;rw[RpI]at this;show this
def bX(h:Rpx K H (.im (.tup is)) v):∃a c,v=.ref a/\SqT K H a c/\p7 K H is c:=by have:=cf h;rw[RpI]at this;show this
def bV(h:Rpx K H (.li is) v):∃a c,v=.ref a/\Rd H a (.lst c)/\p7 K H is c:=by
 obtain⟨F,h⟩:=h;rw[Rp]at h;obtain⟨a,c,f,e,d,_⟩:=h;show⟨a,c,f,e,d⟩
def oM(h:Rpx K H (.im (.ls is)) v):∃a c,v=.ref a/\Rd H a (.lst c)/\p7 K H is c:=by
 have:=cf h;rw[RpI]at this;have(a,o,c,f,d,e):=this;show{a,c,f,.inr ⟨o,d⟩,e}
def iF(h:Rpx K H (.lst ts) v):∃a c F,v=.ref a/\Rd H a (.lst c)/\Rps K H ts c F:=by
 obtain⟨F,h⟩:=h;rw[Rp]at h;obtain⟨a,c,d,g,f,e,_⟩:=h;show⟨a,c,d,g,f,e⟩
def aR(h:Rd H a (.lst xs)):SqL K H a xs:=.inl h
abbrev wT(K:yF)(red:V->Hp->VK->Prop)(f:T->↑T):Prop:=∀(H:Hp) (x:V) (a t:T) (Q:VK),Rpx K H a x->f a*>t->(∀v H',New K H H' t v->Q v H')->red x H Q
abbrev dH(K:yF)(red:R2)(f:T->T->↑T):Prop:=∀(H:Hp) (x y:V) (a c t:T) (Q:VK),Rpx K H a x->Rpx K H c y->f a c*>t->(∀v H',New K H H' t v->Q v H')->red x y H Q
abbrev NU(K:yF)(H:Hp):!T->!V->Prop
 | [],vs=>vs=[]
 | t::a,vs=>∃v r,vs=v::r/\Rpx K H t v/\NU K H a r
abbrev eP(K:yF)(red:!V->Hp->VK->Prop)(f:!T->↑T):Prop:=∀(H:Hp) (vs:!V) (a:!T) (t:T) (Q:VK),NU K H a vs->f a*>t->(∀v H',New K H H' t v->Q v H')->red vs H Q
private def mOp(f:T->T->↑T)(a b:ME):ME:={λO=>match a.run O with
 | some (c,g)=>match b.run g with
  | some (e,d)=>if aM b.mu c=Ug then(match f c.t e.t with
   | some t=>Ud ({.ow,t},d)
   | none=>Uc)else Uc
  | none=>Uc
 | none=>Uc,a.mu++b.mu}
def kK(C:dH K red f)(u:aZ K ta a)(s:aZ K tb b):aZ K (tOp red ta tb) (mOp f a b):=by unhygienic
 intro Γ H O Z E Q r G e c S q;dsimp[mOp]at c;ext c h g A;ext c i J B;ext c w;ext c t l;cases c;show u Γ H O Z E _ h g e A S λx m p=>?_;show s Γ m g Z _ _ i _ e B p λy o d=>?_;rw[aK (cc w),ah]at d;have k:=d.rd (ymC _ ymS);have j:=d.rd ymS;rw[e]at k j;show C o x y h.t i.t t Q k j l λv z n=>q v z ?_;rw[<-e]at n;show((d.drop rfl).drop rfl).fresh n
private def mUn(f:T->↑T)(a:ME):ME:={λO=>match a.run O with
 | some (c,d)=>(match f c.t with
  | some t=>Ud ({.ow,t},d)
  | none=>Uc)
 | none=>Uc,a.mu}
def zL(o:wT K red f)(j:aZ K ta a):aZ K (tUn red ta) (mUn f a):=by unhygienic
 intro Γ H O Z E Q r p d c S q;dsimp[mUn]at c;ext c e s m;ext c t i;cases c;show j Γ H O Z E _ e _ d m S λx k g=>?_;have h:=g.rd ymS;rw[d]at h;show o k x e.t t Q h i λv l n=>q v l ?_;rw[<-d]at n;show(g.drop rfl).fresh n
def Sim.rds:∀{vs:!V} {rs:!R} {E:!En},Sim Γ H O Z (ens vs rs++E)->vs.length=rs.length->NU Γ.K H (rs.map (·.t)) vs
 | [],[],E,S,_=>rfl
 | v::vs,r::rs,E,S,h=>by
  rw[ens,J3]at S;show{v,vs,Xr,S.rd ymS,Sim.rds (S.drop rfl) (by exists h)}
 | [],_::_,_,_,h=>by cases h
 | _::_,[],_,_,h=>by cases h
def Sim.drops:∀{vs:!V} {rs:!R} {E:!En},Sim Γ H O Z (ens vs rs++E)->Sim Γ H O Z E
 | [],rs,E,S=>by cases rs<;>show S
 | v::vs,[],E,S=>S
 | v::vs,r::rs,E,S=>by
  rw[ens,J3]at S;show Sim.drops (S.drop rfl)
private def mB(f:!T->↑T)(a:MA):ME:={λO=>match a.run O with
 | some (c,d)=>(match f (c.map (·.t))with
  | some t=>Ud ({.ow,t},d)
  | none=>Uc)
 | none=>Uc,a.mu}
def uA(p:eP K red f)(k:hR K ta a):aZ K (tCB red ta) (mB f a):=by unhygienic
 intro Γ H O Z E Q r s d c S q;dsimp[mB]at c;ext c i u o;ext c t j;cases c;show k Γ H O Z E _ i _ d o S λvs l h e=>?_;have g:=e.rds h;rw[d]at g;show p l vs _ t Q g j λv m n=>q v m ?_;rw[<-d]at n;show e.drops.fresh n
private def mM(f:T->!T->↑T)(o:ME)(a:MA):ME:={λO=>match o.run O with
 | some (r,e)=>match a.run e with
  | some (c,d)=>if aM a.mu r=Ug then(match f r.t (c.map (·.t))with
   | some t=>Ud ({.ow,t},d)
   | none=>Uc)else Uc
  | none=>Uc
 | none=>Uc,o.mu++a.mu}
abbrev wU(K:yF)(d:String)(red:V->!V->Hp->VK->Prop)(f:T->!T->↑T):Prop:=∀(H:Hp) (x:V) (vs:!V) (a:T) (c:!T) (t:T) (Q:VK),Rpx K H a x->NU K H c vs->f a c*>t->(∀v H',New K H H' t v->Q v H')->red x vs H Q
def HX(N:wU K T0 red f)(h:∀(H:Hp) (x:V) (l:T) ts t,Rpx K H l x->f l ts*>t->tyV K T0 x H)(ho:aZ K to o)(C:hR K ta a):aZ K (tBM K T0 red to ta) (mM f o a):=by unhygienic
 intro Γ H O Z E Q r P e c S q;dsimp[mM]at c;ext c w M z;ext c u U L;ext c G;ext c t i;cases c;show ho Γ H O Z E _ w _ e z S λx j k=>?_;have d:=k.rd ymS;rw[e]at d;show{h j x _ _ _ d i,?_};show C Γ j M Z _ _ u _ e L k λvs A B g=>?_;rw[aK (cc G),ah]at g;have s:=g.rds B;have m:=g.drops;have p:=m.rd ymS;rw[e]at s p;show N A x vs _ _ t Q p s i λv J n=>q v J ?_;rw[<-e]at n;show(m.drop rfl).fresh n
private def bc(a:ME):MT:={λO=>match a.run O with
 | some (⟨_,.im (.bl b)⟩,c)=>Ud (b,c)
 | _=>Uc,a.mu}
def rC(f:aZ K ta a):fO K (DA ta) (bc a):=by unhygienic
 intro Γ H O Z E Q b j e c S q;dsimp[bc]at c;ext c k m l h;cases c;show f Γ H O Z E _ _ _ e h S λx g d=>{b,?_,q g (d.drop rfl)};have i:=d.rd ymS;show oK i
def FI(c:aZ K ta a):fO K (tB ta) (bc a):=rC c
abbrev tru:T->↑Bool
 | .im .non=>Ud Ue
 | .im (.bl b)=>Ud b
 | .im (.int i)=>Ud (i != 0)
 | .im (.str x)=>if x.length<=sizeLine then Ud ((x.length:Int) != 0)else Uc
 | .im (.tup a)=>Ud (~~~a.isEmpty)
 | .li a=>Ud (~~~a.isEmpty)
 | .lst c=>Ud (~~~c.isEmpty)
 | .tup c=>Ud (~~~c.isEmpty)
 | _=>Uc
private def vE(a:ME):MT:={λO=>match a.run O with
 | some (r,c)=>(match tru r.t with
  | some b=>Ud (b,c)
  | none=>Uc)
 | none=>Uc,a.mu}
def iP{a c:Type}{l:!a}{m:!c}(h:l.length=m.length):l.isEmpty=m.isEmpty:=by
 cases l<;>cases m<;>first|rfl|cases h
def tru_ok'{b:Bool}(h:tru t*>b)(r:Rpx K H t v):AF K v H b:=by
 cases t with
 | im i=>
  cases i with
  | non=>rw[FL r];cases h;rfl
  | bl x=>rw[oK r];cases h;rfl
  | int x=>rw[aY r];cases h;rfl
  | str x=>
   rw[eK r];dsimp[tru]at h;split at h;cases h;show{by assumption,Xr};cases h
  | tup f=>
   have(a,e,rfl,d,c):=bX r;cases h;show .inr (.inl {e,d,by rw[iP c.length]})
  | ls f=>cases h
  | fd _ _=>cases h
  | exn _ _ _=>cases h
 | li f=>
  have(a,e,rfl,d,c):=bV r;cases h;show .inl {e,aR d,by rw[iP c.length]}
 | lst f=>
  have(a,e,F,rfl,d,c):=iF r;cases h;show .inl {e,aR d,by rw[iP c.length]}
 | tup g=>
  obtain⟨F,r⟩:=r;rw[Rp]at r;have(a,e,rfl,d,c):=r;cases h;show .inr (.inl {e,d,by rw[iP c.length]})
 | di _=>cases h
 | dq _=>cases h
 | dc _=>cases h
 | ins _ _=>cases h
def Cj(g:aZ K ta a):fO K (Ip K ta) (vE a):=by unhygienic
 intro Γ H O Z E Q b k d c S q;dsimp[vE]at c;ext c r l i;ext c m j;cases c;show g Γ H O Z E _ _ _ d i S λx h e=>{b,?_,q h (e.drop rfl)};have f:=e.rd ymS;rw[d]at f;show tru_ok' j f
private def nM(a b:MT):MT:={λO=>match a.run O with
 | some (Ug,c)=>b.run c
 | some (Ue,c)=>Ud (Ue,c)
 | none=>Uc,a.mu++b.mu}
private def mOr(a b:MT):MT:={λO=>match a.run O with
 | some (Ug,c)=>Ud (Ug,c)
 | some (Ue,c)=>b.run c
 | none=>Uc,a.mu++b.mu}
private def my(a:MT):MT:={λO=>match a.run O with
 | some (b,c)=>Ud (~~~b,c)
 | none=>Uc,a.mu}
def B5(j:fO K ta a)(l:fO K tb b):fO K (Ib ta tb) (nM a b):=by
 intro Γ H O Z E Q c o e d S q;dsimp[nM]at d q;split at d
 .delta i g;show j Γ H O Z E _ _ _ e g S λf h=>qD ?_;show l Γ f i Z _ _ _ _ e d h λk m=>q k (by rw[<-ah];show m)
 .delta i g;cases d;show j Γ H O Z E _ _ _ e g S λf h=>qC (q f (by rw[<-ah];show h.weak _))
 .cases d
def FG(j:fO K ta a)(l:fO K tb b):fO K (tOr ta tb) (mOr a b):=by
 intro Γ H O Z E Q c o e d S q;dsimp[mOr]at d q;split at d
 .delta i g;cases d;show j Γ H O Z E _ _ _ e g S λf h=>qD (q f (by rw[<-ah];show h.weak _))
 .delta i g;show j Γ H O Z E _ _ _ e g S λf h=>qC ?_;show l Γ f i Z _ _ _ _ e d h λk m=>q k (by rw[<-ah];show m)
 .cases d
def Ce(f:fO K ta a):fO K (Ij ta) (my a):=by
 intro Γ H O Z E Q c j e d S q;dsimp[my]at d q;ext d b k h;cases d;show f Γ H O Z E _ _ _ e h S λg i=>q g i
private def mq(a b:ME):ME:={λO=>match a.run O with
 | some (⟨_,.im (.bl Ug)⟩,c)=>b.run c
 | some (⟨_,.im (.bl Ue)⟩,c)=>Ud ({.ow,.im (.bl Ue)},c)
 | _=>Uc,a.mu++b.mu}
private def ou(a:ME):ME:={λO=>match a.run O with
 | some (⟨_,.im (.bl b)⟩,c)=>Ud ({.ow,.im (.bl (~~~b))},c)
 | _=>Uc,a.mu}
def zv(j:aZ K ta a)(m:aZ K tb b):aZ K (Dv ta tb) (mq a b):=by
 intro Γ H O Z E Q c p f d S q;dsimp[mq]at d q;split at d
 .delta k i h;show j Γ H O Z E _ _ _ f h S λx g e=>{Ug,oK (e.rd ymS),qD ?_};show m Γ g i Z _ _ _ _ f d (e.drop rfl) λv l o=>q v l (by rw[<-ah];show o)
 .delta k i h;cases d;show j Γ H O Z E _ _ _ f h S λx g e=>{Ue,oK (e.rd ymS),qC (q _ g ?_)};rw[<-ah];show((e.drop rfl).weak _).imm (le rfl)
 .cases d
def zG(g:aZ K ta a):aZ K (Dz ta) (ou a):=by
 intro Γ H O Z E Q c j f d S q;dsimp[ou]at d q;ext d k b l i;cases d;show g Γ H O Z E _ _ _ f i S λx h e=>{b,oK (e.rd ymS),q _ h ((e.drop rfl).imm (le rfl))}
private def sF(c:MT)(a b:ME):ME:={λO=>match c.run O with
 | some (Ug,d)=>a.run d
 | some (Ue,d)=>b.run d
 | none=>Uc,c.mu++(a.mu++b.mu)}
def B8(P:fO K tc c)(ha:aZ K ta a)(hb:aZ K tb b):aZ K (tIf tc ta tb) (sF c a b):=by
 intro Γ H O Z E Q r U p l S q;dsimp[sF]at l q;split at l
 .delta s M;show P Γ H O Z E _ _ _ p M S λz C=>qD ?_;show ha Γ z s Z _ _ _ _ p l C λv o f=>q v o ?_;rw[ah]at f;rw[<-JK,<-ah];show{?_,f.al,f.len,λe i=>f.hi e ?_}
  .have h:=(f.drop rfl).weak b.mu;have X:Sim Γ o U Z (⟨Uc,v,r⟩::aj (c.mu++a.mu) E):=f;have(L,g,e):=X.sl;have(x,L',rfl,u,N):=aJ e;have(A,B,rfl,J,G):=cN N;show⟨x::(A.filter (λw=>aF b.mu w.e)++B),g.sub (List.Sublist.cons_cons _ (Kn.append (List.Sublist.refl _))) λw hw j Y y d hk m=>?_,?_⟩
   .rcases ycM d with rfl|d;show ymS
    .show ymC _ ?_;rcases yaM d with d|d
     .show yaL _ (JD.mpr {d,?_});unfold aF;cases e:y.e.r.k with
      | vw a b=>rw[e]at m;cases m
      | ow=>rfl
      | io _=>rfl
     .show yaR _ d
   .rw[Jt,u,JC,G,<-J];unfold aj;rw[Lu];rfl
  .rcases ycM i with rfl|i;show ymS;show ymC _ (JD.mp i).1
 .delta s M;show P Γ H O Z E _ _ _ p M S λz C=>qC ?_;show hb Γ z s Z _ _ _ _ p l C λv o f=>q v o ?_;rw[ah]at f;have ek:aj (c.mu++(a.mu++b.mu)) E=aj a.mu (aj (c.mu++b.mu) E):=by
   rw[ah];unfold aj;congr 1;funext e;dsimp[ke];rcases aF c.mu e<;>rcases aF a.mu e<;>rcases aF b.mu e<;>rfl
  rw[ek];show{?_,f.al,f.len,λe i=>f.hi e ?_}
  .have(L,g,e):=f.sl;have(x,L',rfl,u,N):=aJ e;have(A,B,rfl,J,G):=cN N;show⟨x::(A.filter (λw=>aF a.mu w.e)++B),g.sub (List.Sublist.cons_cons _ (Kn.append (List.Sublist.refl _))) λw hw j Y y d hk m=>?_,?_⟩
   .rcases ycM d with rfl|d;show ymS
    .show ymC _ ?_;rcases yaM d with d|d
     .show yaL _ (JD.mpr {d,?_});unfold aF;cases e:y.e.r.k with
      | vw a b=>rw[e]at m;cases m
      | ow=>rfl
      | io _=>rfl
     .show yaR _ d
   .rw[Jt,u,JC,G,<-J];unfold aj;rw[Lu];rfl
  .rcases ycM i with rfl|i;show ymS;show ymC _ (JD.mp i).1
 .cases l
end
mutual
noncomputable def I.dok:I->Bool
 | .int _=>Ug|.str _=>Ug|.tup is=>I.doks is|_=>Ue
noncomputable def I.doks:!I->Bool
 | []=>Ug
 | i::is=>i.dok&&I.doks is
end
mutual
noncomputable def I.toD:I->D
 | .int i=>.int i|.str x=>.str x|.tup is=>.tup (I.toDs is)|_=>.int 0
noncomputable def I.toDs:!I->!D
 | []=>[]
 | i::is=>i.toD::I.toDs is
end
mutual
noncomputable def I.dep:I->Nat
 | .tup is=>I.deps is+1|_=>0
noncomputable def I.deps:!I->Nat
 | []=>0
 | i::is=>max i.dep (I.deps is)
end
mutual
theorem xg:∀(i:I),i.toD.depth=i.dep
 | .non=>rfl|.bl _=>rfl|.int _=>rfl|.str _=>rfl|.ls _=>rfl|.fd _ _=>rfl|.exn _ _ _=>rfl
 | .tup a=>by rw[I.toD,D.depth,I.dep,iO a]
theorem iO:∀(is:!I),aX (I.toDs is)=I.deps is
 | []=>rfl
 | i::is=>by rw[I.toDs,aX,I.deps,xg i,iO is]
end
mutual
theorem uL:∀{a b:I},a.dok=Ug->b.dok=Ug->(a.toD=b.toD↔a=b)
 | .non,_,h,_=>by simp[I.dok]at h
 | .bl _,_,h,_=>by simp[I.dok]at h
 | .ls _,_,h,_=>by simp[I.dok]at h
 | .fd _ _,_,h,_=>by simp[I.dok]at h
 | .exn _ _ _,_,h,_=>by simp[I.dok]at h
 | .int x,b,_,h=>by cases b<;>simp[I.dok]at h<;>simp[I.toD]
 | .str x,b,_,h=>by cases b<;>simp[I.dok]at h<;>simp[I.toD]
 | .tup x,b,c,h=>by
  cases b with
  | tup y=>
   rw[I.dok]at h c;rw[I.toD,I.toD,D.tup.injEq,I.tup.injEq];show jY c h
  | non=>simp[I.dok]at h
  | bl _=>simp[I.dok]at h
  | ls _=>simp[I.dok]at h
  | fd _ _=>simp[I.dok]at h
  | exn _ _ _=>simp[I.dok]at h
  | int _=>simp[I.toD]
  | str _=>simp[I.toD]
theorem jY:∀{a b:!I},I.doks a=Ug->I.doks b=Ug->(I.toDs a=I.toDs b↔a=b)
 | [],b,_,_=>by cases b<;>simp[I.toDs]
 | x::e,b,c,h=>by
  cases b with
  | nil=>simp[I.toDs]
  | cons y d=>
   rw[I.doks,Jv]at h c;rw[I.toDs,I.toDs,Kw.injEq,Kw.injEq,uL c.1 h.1,jY c.2 h.2]
end
section
section
variable {K:yF}{H:Hp}
mutual
theorem jv:∀{i:I} {v:V},i.dok=Ug->RpI K H i v->Rep K H i.toD v
 | .non,_,h,_=>by simp[I.dok]at h
 | .bl _,_,h,_=>by simp[I.dok]at h
 | .ls _,_,h,_=>by simp[I.dok]at h
 | .fd _ _,_,h,_=>by simp[I.dok]at h
 | .exn _ _ _,_,h,_=>by simp[I.dok]at h
 | .int _,_,_,r=>by rw[RpI]at r;rw[I.toD,Rep];show r
 | .str _,_,_,r=>by rw[RpI]at r;rw[I.toD,Rep];show r
 | .tup g,_,h,r=>by
  rw[RpI]at r;rw[I.dok]at h;have(a,d,f,e,c):=r;rw[I.toD,Rep];show{a,d,f,e,i6 h c}
theorem i6:∀{is:!I} {vs:!V},I.doks is=Ug->p7 K H is vs->NM K H (I.toDs is) vs
 | [],_,_,r=>by rw[p7]at r;rw[I.toDs,NM];show r
 | i::is,_,h,r=>by
  rw[p7]at r;rw[I.doks,Jv]at h;have(x,c,e,d,a):=r;rw[I.toDs,NM];show{x,c,e,jv h.1 d,i6 h.2 a}
end
def mz:∀{is:!I},i.dok=Ug->I.doks is=Ug->(i.toD∈I.toDs is↔i∈is)
 | [],_,_=>by simp[I.toDs]
 | x::c,h,a=>by
  rw[I.doks,Jv]at a;rw[I.toDs,JV,JV,uL h a.1,mz h a.2]
abbrev isI:T->↑Int
 | .im i=>(match i with|.int a=>Ud a|_=>Uc)
 | _=>Uc
abbrev isS:T->↑Str
 | .im i=>(match i with|.str a=>Ud a|_=>Uc)
 | _=>Uc
abbrev Ea:T->Option !I
 | .im i=>(match i with|.tup a=>Ud a|_=>Uc)
 | _=>Uc
abbrev xE:T->Option !I
 | .li a=>Ud a
 | _=>Uc
def dS{t:T}{a:Int}(h:isI t*>a):t=.im (.int a):=by
 cases t with
 | im i=>cases i<;>cases h;rfl
 | _=>cases h
def A5{t:T}{a:Str}(h:isS t*>a):t=.im (.str a):=by
 cases t with
 | im i=>cases i<;>cases h;rfl
 | _=>cases h
def xF{t:T}{a:!I}(h:Ea t*>a):t=.im (.tup a):=by
 cases t with
 | im i=>cases i<;>cases h;rfl
 | _=>cases h
def lZ{t:T}{a:!I}(h:xE t*>a):t=.li a:=by
 cases t with
 | li i=>cases h;rfl
 | _=>cases h
abbrev i2(g:Int->Int->↑T) (x y:T):↑T:=match isI x with
 | some a=>(match isI y with
  | some b=>g a b
  | none=>Uc)
 | none=>Uc
def jl{g:Int->Int->↑T}{x y t:T}(h:i2 g x y*>t):∃a b,x=.im (.int a)/\y=.im (.int b)/\g a b*>t:=by
 unfold i2 at h;ext h a d;ext h b c;show{a,b,dS d,dS c,h}
def bn{d:Type}{c:Prop}[Decidable c]{t u : d}(h:(if c then Ud t else Uc)*>u):c/\t=u:=by
 by_cases a:c;rw[if_pos a]at h;show{a,JT.inj h};rw[if_neg a]at h;cases h
abbrev Gv(i:I) (y:T):↑T:=match i with
 | .int a=>(match isI y with|some b=>Ud (.im (.int (a+b)))|none=>Uc)
 | .str a=>(match isS y with|some b=>if a.length+b.length<=sizeLine then Ud (.im (.str (a++b)))else Uc|none=>Uc)
 | .tup a=>(match Ea y with|some b=>if a.length+b.length<=sizeLine then Ud (.im (.tup (a++b)))else Uc|none=>Uc)
 | _=>Uc
private def br(x y:T):↑T:=match x with
 | .im i=>Gv i y
 | .li a=>(match xE y with|some b=>if a.length+b.length<=sizeLine then Ud (.li (a++b))else Uc|none=>Uc)
 | _=>Uc
def p7.nil_iff(h:p7 K H is xs):xs=[]↔is=[]:=by
 have:=h.length;cases is<;>cases xs<;>first|(simp;done)|(cases this;done)
def yG:dH K (zi K) br:=by
 intro H x y v w t Q o m e q;unfold br at e;split at e
 .delta i;unfold Gv at e;split at e
  .ext e b d;cases dS d;cases e;rw[aY o,aY m];show .inl (.inl {_,_,Xr,Xr,q _ H (.sc rfl)})
  .ext e b d;cases A5 d;have(g,rfl):=bn e;rw[eK o,eK m];show .inl (.inr (.inl {_,_,Xr,Xr,g,q _ H (.sc rfl)}))
  .delta a;ext e b d;cases xF d;have(g,rfl):=bn e;have(p,r,rfl,k,c):=bX o;have(j,h,rfl,l,f):=bX m;by_cases u:a=[]
   .subst u;have:=c.nil_inv;subst this;show .inr (.inr {p,j,h,Xr,Xr,k,l,q _ H (.im ?_)});rw[RpI];show⟨j,h,Xr,l,f⟩
   .show .inl (.inr (.inr (.inr {p,j,r,h,Xr,Xr,k,l,λz=>u (c.nil_iff.mp z),by rw[c.length,f.length];show g,λz=>q _ H (.im ?_),λz p s=>q _ _ (.tup s (c.append f))})));have:=f.nil_iff.mp z;subst this;rw[Kg,RpI];show⟨p,r,Xr,k,c⟩
  .cases e
 .ext e b d;cases lZ d;have(g,rfl):=bn e;have(p,r,rfl,k,c):=bV o;have(j,h,rfl,l,f):=bV m;show .inr (.inl {p,j,r,h,Xr,Xr,k,l,by rw[c.length,f.length];show g,λp s=>q _ _ (.li s (c.append f))})
 .cases e
private def cz:T->T->↑T:=i2 λa b=>Ud (.im (.int (a-b)))
def yU:dH K (rI0 λi j=>.int (i-j)) cz:=by
 intro H x y f g t Q d c e q;unfold cz at e;have(a,b,rfl,rfl,e):=jl e;cases e;rw[aY d,aY c];show{_,_,Xr,Xr,q _ H (.sc rfl)}
abbrev k8(i j:Int):Bool:=(decide (-(2^64)<i)&&decide (i<2^64))||(decide (-(2^64)<j)&&decide (j<2^64))
def Bh{i j:Int}(h:k8 i j=Ug):Pb i j:=by
 unfold k8 at h;dsimp[LF,Jv,decide_eq_true_eq]at h;show h
abbrev GV(i:I) (b:Int):↑T:=match i with
 | .int a=>if k8 a b=Ug then Ud (.im (.int (a*b)))else Uc
 | .str a=>if 1<=b/\b<=1000/\a.length<=1000 then Ud (.im (.str (oL (Jw b.toNat (sL a)).flatten)))else Uc
 | .tup a=>if a≠[]/\a.length<=1000/\1<=b/\b<=1000 then Ud (.im (.tup (Jw b.toNat a).flatten))else Uc
 | _=>Uc
private def cK(x y:T):↑T:=match isI y with
 | some b=>(match x with
  | .im i=>GV i b
  | .li a=>if -(2^63)<=b/\b<2^63/\a.length*b.toNat<=sizeLine then Ud (.li (Jw b.toNat a).flatten)else Uc
  | _=>Uc)
 | none=>Uc
def p7.reps{is:!I}{a:!V}(h:p7 K H is a):∀n:Nat,p7 K H (Jw n is).flatten (Jw n a).flatten
 | 0=>.nil
 | n+1=>by
  rw[Kj,Kj,KR,KR];show h.append (h.reps n)
def yP:dH K (zp K) cK:=by
 intro H x y m o t Q g f e q;unfold cK at e;ext e b k;cases dS k;split at e
 .unfold GV at e;split at e
  .have(h,rfl):=bn e;rw[aY g,aY f];show .inl (.inl {_,_,Xr,Xr,Bh h,q _ H (.sc rfl)})
  .have(h,rfl):=bn e;rw[eK g,aY f];show .inl (.inr (.inl {_,_,Xr,Xr,h.1,h.2.1,h.2.2,q _ H (.sc rfl)}))
  .delta a;have(h,rfl):=bn e;have(p,i,rfl,d,c):=bX g;rw[aY f];show .inl (.inr (.inr (.inr {p,b,i,Xr,Xr,d,λz=>h.1 (c.nil_iff.mp z),by rw[c.length];show h.2.1,h.2.2.1,h.2.2.2,λz=>q _ H (.im ?_),λz p j=>q _ _ (.tup j (c.reps _))})));subst z;have l:(Jw (1:Int).toNat a).flatten=a:=by simp
   rw[l,RpI];show⟨p,i,Xr,d,c⟩
  .cases e
 .have(h,rfl):=bn e;have(p,i,rfl,d,c):=bV g;rw[aY f];show .inr {p,b,i,Xr,Xr,d,h.1,h.2.1,by rw[c.length];show h.2.2,λp j=>q _ _ (.li j (c.reps _))}
 .cases e
private def ja:T->T->↑T:=i2 λa b=>if 0<b/\b<2^64 then Ud (.im (.int (a / b)))else Uc
def vX:dH K (rI rW λi j=>.int (i / j)) ja:=by
 intro H x y f g t Q d c e q;unfold ja at e;have(a,b,rfl,rfl,e):=jl e;have(h,rfl):=bn e;rw[aY d,aY c];show{_,_,Xr,Xr,h,q _ H (.sc rfl)}
private def hV:T->T->↑T:=i2 λa b=>if 0<b then Ud (.im (.int (a % b)))else Uc
def yO:dH K (rI (λ_ j=>0<j) λi j=>.int (i % j)) hV:=by
 intro H x y f g t Q d c e q;unfold hV at e;have(a,b,rfl,rfl,e):=jl e;have(h,rfl):=bn e;rw[aY d,aY c];show{_,_,Xr,Xr,h,q _ H (.sc rfl)}
private def vV:T->T->↑T:=i2 λa b=>if 0<=b/\b<=1000000/\a.natAbs<2^64 then Ud (.im (.int (a^b.toNat)))else Uc
def yT:dH K (rI DF λi j=>.int (i^j.toNat)) vV:=by
 intro H x y f g t Q d c e q;unfold vV at e;have(a,b,rfl,rfl,e):=jl e;have(h,rfl):=bn e;rw[aY d,aY c];show{_,_,Xr,Xr,h,q _ H (.sc rfl)}
private def vI:T->↑T
 | .im (.int a)=>Ud (.im (.int (-a)))
 | _=>Uc
def yR:wT K (rU λi=>.int (-i)) vI:=by
 intro H x c t Q a e q;unfold vI at e;split at e;cases e;rw[aY a];show{_,Xr,q _ H (.sc rfl)};cases e
private def ic(p:Int->Int->Bool):T->T->↑T:=i2 λa b=>Ud (.im (.bl (p a b)))
def mO:dH K (rI0 λi j=>.bl (p i j)) (ic p):=by
 intro H x y f g t Q d c e q;unfold ic at e;have(a,b,rfl,rfl,e):=jl e;cases e;rw[aY d,aY c];show{_,_,Xr,Xr,q _ H (.sc rfl)}
abbrev Dt(a b:I):Bool:=match a.sc with
 | some v=>(match b.sc with
  | some w=>zT v w
  | none=>Ue)
 | none=>Ue
abbrev ofV:V->I
 | .bl b=>.bl b
 | .int i=>.int i
 | .str x=>.str x
 | _=>.non
def C7(h:a.sc*>v):ofV v=a:=by cases a<;>cases h<;>rfl
abbrev eqI:I->I->↑Bool
 | .tup a,.tup b=>if I.doks a=Ug/\I.doks b=Ug/\I.deps a<=50 then Ud (decide (a=b))else Uc
 | a,b=>if Dt a b=Ug then Ud (decide (a=b))else Uc
abbrev eqL(a b:!I):↑Bool:=if I.doks a=Ug/\I.doks b=Ug/\I.deps a<=50 then Ud (decide (a=b))else Uc
abbrev lsI:I->Option !I
 | .ls a=>Ud a
 | _=>Uc
abbrev eqB:T->T->↑Bool
 | .im a,.im b=>eqI a b
 | .li a,.li b=>eqL a b
 | .im a,.li b=>(lsI a).bind λa=>eqL a b
 | .li a,.im b=>(lsI b).bind λb=>eqL a b
 | _,_=>Uc
def tj{i:I}{is:!I}(e:lsI i*>is)(r:Rpx K H (.im i) v):∃p c,v=.ref p/\SqL K H p c/\p7 K H is c:=by
 unfold lsI at e;ext e;cases e;have h:=cf r;rw[RpI]at h;have(a,o,c,g,f,d):=h;show{a,c,g,.inl (.inr ⟨o,f⟩),d}
private def eqT(x y:T):↑T:=(eqB x y).map λb=>.im (.bl b)
private def neT(x y:T):↑T:=(eqB x y).map λb=>.im (.bl (~~~b))
def DT(h:eqI a b*>c):(∃x y,a=.tup x/\b=.tup y/\I.doks x=Ug/\I.doks y=Ug/\I.deps x<=50/\c=decide (x=y)) \/ ∃v w,a.sc*>v/\b.sc*>w/\zT v w=Ug/\c=decide (v=w):=by
 unfold eqI at h;split at h
 .delta x y;split at h;delta d;cases h;show .inl ⟨x,y,Xr,Xr,d.1,d.2.1,d.2.2,Xr⟩;cases h
 .ext h d;cases h;right;unfold Dt at d;ext d v e;ext d w f;show{v,w,e,f,d,?_};have:(a=b)↔(v=w):={λz=>JT.inj (e.symm.trans ((congrArg I.sc z).trans f)),λz=>by rw[<-C7 e,<-C7 f,z]};show decide_eq_decide.mpr this
def sv{a c:!I}{p q:Addr}{f d:!V}{b:Bool}(e:eqL a c*>b)(o:SqL K H p f)(l:p7 K H a f)(r:SqL K H q d)(m:p7 K H c d):∃j i f d g k,V.ref p=.ref j/\V.ref q=.ref i/\SqL K H j f/\SqL K H i d/\NM K H g f/\NM K H k d/\aX g<=50/\(b=Ug↔g=k):=by
 unfold eqL at e;ext e h;cases e;show{p,q,f,d,_,_,Xr,Xr,o,r,i6 h.1 l,i6 h.2.1 m,by rw[iO];show h.2.2,by rw[decide_eq_true_eq,jY h.1 h.2.1]}
def xk{x y:V}{u C:T}{b:Bool}{P:V->Prop}(m:Rpx K H u x)(k:Rpx K H C y)(e:eqB u C*>b) :
  (zT x y=Ug/\b=decide (x=y))\/(∃g r,Rep K H (.tup g) x/\Rep K H (.tup r) y/\aX g<=50/\(b=Ug↔g=r))\/(∃p q o h g r,x=.ref p/\y=.ref q/\SqL K H p o/\SqL K H q h/\NM K H g o/\NM K H r h/\aX g<=50/\(b=Ug↔g=r)):=by
 unfold eqB at e;split at e
 .delta a c;rcases DT e with⟨A,B,rfl,rfl,f,d,s,rfl⟩|⟨v,w,f,d,s,rfl⟩
  .show .inr (.inl {I.toDs A,I.toDs B,?_,?_,by rw[iO];show s,?_})
   .have:=jv (i:=.tup A) (by rw[I.dok];show f) (cf m);rwa [I.toD]at this
   .have:=jv (i:=.tup B) (by rw[I.dok];show d) (cf k);rwa [I.toD]at this
   .rw[decide_eq_true_eq,jY f d]
  .rw[Ds f (cf m),Ds d (cf k)];show .inl ⟨s,Xr⟩
 .have(p,o,rfl,f,d):=bV m;have(z,h,rfl,l,j):=bV k;show .inr (.inr (sv e (aR f) d (aR l) j))
 .have(a,t,e):=Mn.mp e;have(p,o,rfl,f,d):=tj t m;have(z,h,rfl,l,j):=bV k;show .inr (.inr (sv e f d (aR l) j))
 .have(a,t,e):=Mn.mp e;have(p,o,rfl,f,d):=bV m;have(z,h,rfl,l,j):=tj t k;show .inr (.inr (sv e (aR f) d l j))
 .cases e
def BP:dH K (Fu K) eqT:=by
 intro H x y v z t Q s o e q;unfold eqT at e;cases h:eqB v z with
 | none=>rw[h]at e;cases e
 | some b=>
  rw[h]at e;cases e;rcases xk (P:=λ_=>True) s o h with⟨a,rfl⟩|⟨k,g,a,f,d,i⟩|⟨p,m,u,l,k,g,a,f,d,i,r,A,w,B⟩;show .inl {a,q _ H (.sc rfl)}
  .show .inr (.inl {k,g,a,f,d,λc j=>?_});have:c=b:=by rw[KS,j,i]
   subst this;show q _ H (.sc rfl)
  .show .inr (.inr {p,m,u,l,k,g,a,f,d,i,r,A,w,λc j=>?_});have:c=b:=by rw[KS,j,B]
   subst this;show q _ H (.sc rfl)
def BR:dH K (Fx K) neT:=by
 intro H x y u z t Q r m e q;unfold neT at e;cases h:eqB u z with
 | none=>rw[h]at e;cases e
 | some b=>
  rw[h]at e;cases e;rcases xk (P:=λ_=>True) r m h with⟨a,rfl⟩|⟨i,g,a,f,d,j⟩|⟨p,l,s,k,i,g,a,f,d,j,o,A,v,B⟩;show .inl {a,q _ H (.sc rfl)}
  .show .inr (.inl {i,g,a,f,d,λc w=>?_});have:c =  ~~~b:=by cases b<;>cases c<;>simp_all
   subst this;show q _ H (.sc rfl)
  .show .inr (.inr {p,l,s,k,i,g,a,f,d,j,o,A,v,λc w=>?_});have:c =  ~~~b:=by cases b<;>cases c<;>simp_all
   subst this;show q _ H (.sc rfl)
abbrev occ(i j:Str):Bool:= ~~~(Pi j i 0 j.length 1).isEmpty
abbrev inI(i:I) (y:T):↑Bool:=match y with
 | .im j=>(match j with
  | .str b=>(match i with
   | .str a=>Ud (occ a b)
   | _=>Uc)
  | .tup c=>if i.dok=Ug/\I.doks c=Ug/\I.deps c<=50 then Ud (decide (i∈c))else Uc
  | _=>Uc)
 | .li c=>if i.dok=Ug/\I.doks c=Ug/\I.deps c<=50 then Ud (decide (i∈c))else Uc
 | _=>Uc
abbrev inB(x y:T):↑Bool:=match x with
 | .im i=>inI i y
 | _=>Uc
private def inT(x y:T):↑T:=(inB x y).map λb=>.im (.bl b)
private def vJ(x y:T):↑T:=(inB x y).map λb=>.im (.bl (~~~b))
def xD{x y:V}{m o:T}{b:Bool}(l:Rpx K H m x)(g:Rpx K H o y)(e:inB m o*>b) :
  (∃i j,x=.str i/\y=.str j/\b=occ i j)\/(∃p a d k,y=.ref p/\(SqL K H p a\/SqT K H p a)/\Rep K H d x/\NM K H k a/\aX k<=50/\(b=Ug↔d∈k)):=by
 unfold inB at e;ext e;unfold inI at e;split at e
 .split at e
  .split at e;cases e;show .inl {_,_,eK l,eK g,Xr};cases e
  .have(h,rfl):=bn e;have(p,a,rfl,f,c):=bX g;show .inr {p,a,_,_,Xr,.inr f,jv h.1 (cf l),i6 h.2.1 c,by rw[iO];show h.2.2,by rw[decide_eq_true_eq,mz h.1 h.2.1]}
  .cases e
 .have(h,rfl):=bn e;have(p,a,rfl,f,c):=bV g;show .inr {p,a,_,_,Xr,.inl (aR f),jv h.1 (cf l),i6 h.2.1 c,by rw[iO];show h.2.2,by rw[decide_eq_true_eq,mz h.1 h.2.1]}
 .cases e
def BQ:dH K (Fv K) inT:=by
 intro H x y a r t Q w m e q;unfold inT at e;cases h:inB a r with
 | none=>rw[h]at e;cases e
 | some b=>
  rw[h]at e;cases e;rcases xD w m h with⟨i,j,rfl,rfl,rfl⟩|⟨p,z,d,v,o,g,f,k,s,u⟩;show .inl {i,j,Xr,Xr,q _ H (.sc rfl)}
  .show .inr (.inr {p,z,d,v,o,g,f,k,s,λc l=>?_});have:c=b:=by rw[KS,l,u];simp
   subst this;show q _ H (.sc rfl)
def yS:dH K (pQ K) vJ:=by
 intro H x y a o t Q u l e q;unfold vJ at e;cases h:inB a o with
 | none=>rw[h]at e;cases e
 | some b=>
  rw[h]at e;cases e;rcases xD u l h with⟨i,j,rfl,rfl,rfl⟩|⟨p,v,d,s,m,g,f,k,r,z⟩;show .inl {i,j,Xr,Xr,q _ H (.sc rfl)}
  .show .inr (.inr {p,v,d,s,m,g,f,k,r,λc w=>?_});have:c =  ~~~b:=by cases b<;>cases c<;>simp_all
   subst this;show q _ H (.sc rfl)
abbrev l1{a:Type} (g:T->↑a) (ts:!T):↑a:=match ts with
 | []=>Uc
 | t::r=>(match r with
  | []=>g t
  | _::_=>Uc)
def cJ{a:Type}{g:T->↑a}{ts:!T}{u : a}(h:l1 g ts*>u):∃t,ts=[t]/\g t*>u:=by
 cases ts with
 | nil=>cases h
 | cons t r=>cases r with
  | nil=>show⟨t,Xr,h⟩
  | cons _ _=>cases h
abbrev l2{a:Type} (g:T->T->↑a) (ts:!T):↑a:=match ts with
 | []=>Uc
 | t::r=>l1 (g t) r
def mf{a:Type}{g:T->T->↑a}{ts:!T}{u : a}(h:l2 g ts*>u):∃t s,ts=[t,s]/\g t s*>u:=by
 cases ts with
 | nil=>cases h
 | cons t r=>
  have(s,rfl,e):=cJ (show l1 (g t) r*>u from h);show⟨t,s,Xr,e⟩
abbrev GS(i:I):↑T:=match i with
 | .str x=>if x.length<=sizeLine then Ud (.im (.int x.length))else Uc
 | .tup a=>Ud (.im (.int a.length))
 | .ls a=>Ud (.im (.int a.length))
 | _=>Uc
abbrev GR(t:T):↑T:=match t with
 | .im i=>GS i
 | .li c=>Ud (.im (.int c.length))
 | .lst a=>Ud (.im (.int a.length))
 | .tup a=>Ud (.im (.int a.length))
 | _=>Uc
private def cP:!T->↑T:=l1 GR
def jV(h:NU K H [t] vs):∃v,vs=[v]/\Rpx K H t v:=by
 have(v,r,rfl,c,a):=h;rw[NU]at a;subst a;show⟨v,Xr,c⟩
def FM(h:NU K H [t,u] vs):∃v w,vs=[v,w]/\Rpx K H t v/\Rpx K H u w:=by
 have(v,r,rfl,d,a):=h;have(w,rfl,c):=jV a;show⟨v,w,Xr,d,c⟩
def pX(h:Rpx K H (.tup ts) v):∃a c F,v=.ref a/\SqT K H a c/\Rps K H ts c F:=by
 obtain⟨F,h⟩:=h;rw[Rp]at h;obtain⟨a,c,f,d,e⟩:=h;show⟨a,c,F,f,d,e⟩
def yK:eP K (zm K) cP:=by
 intro H vs i t Q r e q;unfold cP at e;have g:=cJ e;clear e;have(x,rfl,e):=g;have(v,rfl,f):=jV r;unfold GR at e;split at e
 .unfold GS at e;split at e
  .have(h,rfl):=bn e;rw[eK f];show .inr {_,Xr,h,q _ H (.sc rfl)}
  .cases e;have(p,d,rfl,c,a):=bX f;show .inl {p,d,Xr,.inr c,q _ H (.sc (by rw[a.length];rfl))}
  .cases e;have(p,d,rfl,c,a):=tj rfl f;show .inl {p,d,Xr,.inl c,q _ H (.sc (by rw[a.length];rfl))}
  .cases e
 .cases e;have(p,d,rfl,c,a):=bV f;show .inl {p,d,Xr,.inl (aR c),q _ H (.sc (by rw[a.length];rfl))}
 .cases e;have(p,d,F,rfl,c,a):=iF f;show .inl {p,d,Xr,.inl (aR c),q _ H (.sc (by rw[a.length];rfl))}
 .cases e;have(p,d,F,rfl,c,a):=pX f;show .inl {p,d,Xr,.inr c,q _ H (.sc (by rw[a.length];rfl))}
 .cases e
private def qO:!T->↑T:=l2 (i2 λa b=>Ud (.im (.int (if b<a then b else a))))
def yN:eP K (λf H Q=>∃i j,f=[.int i,.int j]/\Q (.int (if j<i then j else i)) H) qO:=by
 intro H vs h t Q r e q;unfold qO at e;have d:=mf e;clear e;have(x,y,rfl,e):=d;have(a,b,rfl,rfl,e):=jl e;cases e;have(v,w,rfl,c,g):=FM r;rw[aY c,aY g];show{_,_,Xr,q _ H (.sc rfl)}
private def qN:!T->↑T:=l2 (i2 λa b=>Ud (.im (.int (if b>a then b else a))))
def yM:eP K (λf H Q=>∃i j,f=[.int i,.int j]/\Q (.int (if j>i then j else i)) H) qN:=by
 intro H vs h t Q r e q;unfold qN at e;have d:=mf e;clear e;have(x,y,rfl,e):=d;have(a,b,rfl,rfl,e):=jl e;cases e;have(v,w,rfl,c,g):=FM r;rw[aY c,aY g];show{_,_,Xr,q _ H (.sc rfl)}
abbrev GN(t:T):↑T:=match t with
 | .im i=>(match i with
  | .int a=>Ud (.im (.int a))
  | .bl b=>Ud (.im (.int (if b then 1 else 0)))
  | _=>Uc)
 | _=>Uc
private def vk:!T->↑T:=l1 GN
def yI:eP K (λa H Q=>(∃i,a=[.int i]/\Q (.int i) H) \/ ∃k,a=[.bl k]/\Q (.int (if k then 1 else 0)) H) vk:=by
 intro H vs f t Q r e q;unfold vk at e;have d:=cJ e;clear e;have(x,rfl,e):=d;have(v,rfl,c):=jV r;unfold GN at e;ext e;split at e
 .cases e;rw[aY c];show .inl {_,Xr,q _ H (.sc rfl)}
 .cases e;rw[oK c];show .inr {_,Xr,q _ H (.sc rfl)}
 .cases e
abbrev Cs(g:!I->T) (t:T):↑T:=match t with
 | .im i=>(match i with
  | .tup a=>Ud (g a)
  | .ls a=>Ud (g a)
  | _=>Uc)
 | .li a=>Ud (g a)
 | _=>Uc
private def fe:!T->↑T:=l1 (Cs λa=>.im (.tup a))
def yW:eP K (zr K) fe:=by
 intro H vs i t Q r e q;unfold fe at e;have h:=cJ e;clear e;have(x,rfl,e):=h;have(v,rfl,d):=jV r;unfold Cs at e;split at e
 .split at e
  .cases e;have(p,c,rfl,a,f):=bX d;show{p,c,Xr,.inr {a,q _ H (.im (cf d))}}
  .cases e;have(p,c,rfl,a,f):=oM d;show{p,c,Xr,.inl {aR a,λl g=>q _ _ (.tup g f)}}
  .cases e
 .cases e;have(p,c,rfl,a,f):=bV d;show{p,c,Xr,.inl {aR a,λl g=>q _ _ (.tup g f)}}
 .cases e
private def xN:!T->↑T:=l1 (Cs λa=>.li a)
def yL:eP K (zn K) xN:=by
 intro H vs i t Q r e q;unfold xN at e;have h:=cJ e;clear e;have(x,rfl,e):=h;have(v,rfl,g):=jV r;unfold Cs at e;split at e
 .split at e
  .cases e;have(p,f,rfl,d,c):=bX g;show{p,f,Xr,.inr d,λl a=>q _ _ (.li a c)}
  .cases e;have(p,f,rfl,d,c):=oM g;show{p,f,Xr,.inl (aR d),λl a=>q _ _ (.li a c)}
  .cases e
 .cases e;have(p,f,rfl,d,c):=bV g;show{p,f,Xr,.inl (aR d),λl a=>q _ _ (.li a c)}
 .cases e
abbrev bls:!I->Option !Bool
 | []=>Ud []
 | .bl b::a=>(bls a).map (b :: ·)
 | _=>Uc
def DP:∀{bs:!Bool},bls is*>bs->p7 K H is xs->xs=bs.map V.bl:=by
 induction is generalizing xs with
 | nil=>intro bs h r;cases h;show r.nil_inv
 | cons i is d=>
  intro bs h r;cases i with
  | bl b=>
   dsimp[bls]at h;cases e:bls is with
   | none=>rw[e]at h;cases h
   | some f=>
    rw[e]at h;cases h;have(x,g,rfl,a,c):=r.cons_inv;rw[RpI]at a;rw[a,d e c];rfl
  | _=>simp[bls]at h
abbrev rZ:!T->↑T
 | [.li c]=>(bls c).map λa=>.im (.bl (a.all id))
 | _=>Uc
def yH:eP K (HH K) rZ:=by
 intro H vs j t Q r e q;unfold rZ at e;ext e d;cases h:bls d with
 | none=>rw[h]at e;cases e
 | some g=>
  rw[h]at e;cases e;have(v,rfl,a):=jV r;have(p,i,rfl,f,c):=bV a;have:=DP h c;subst this;show{p,g,Xr,aR f,q _ H (.sc rfl)}
abbrev rM:!I->Option !Str
 | []=>Ud []
 | .str b::a=>(rM a).map (b :: ·)
 | _=>Uc
def Cw:∀{bs:!Str},rM is*>bs->p7 K H is xs->xs=bs.map V.str:=by
 induction is generalizing xs with
 | nil=>intro bs h r;cases h;show r.nil_inv
 | cons i is d=>
  intro bs h r;cases i with
  | str b=>
   dsimp[rM]at h;cases e:rM is with
   | none=>rw[e]at h;cases h
   | some f=>
    rw[e]at h;cases h;have(x,g,rfl,a,c):=r.cons_inv;rw[RpI]at a;rw[a,d e c];rfl
  | _=>simp[rM]at h
abbrev l6:T->!T->↑T
 | .im (.str z),[.li c]=>match rM c with
  | some a=>if(a.map (·.length)).sum+a.length*z.length<=16777216 then Ud (.im (.str (Qb z a)))else Uc
  | none=>Uc
 | _,_=>Uc
def vY:wU K "str" (Dk K) l6:=by
 intro H x vs i l t Q h r e q;unfold l6 at e;ext e z j;ext e c g;ext e;cases e;have(v,rfl,a):=jV r;have(p,k,rfl,f,d):=bV a;have:=Cw g d;subst this;rw[eK h];show{z,p,c,Xr,Xr,aR f,by assumption,q _ H (.sc rfl)}
end
end
section
variable {Γ:Gm}{H H':Hp}{X:!En}{e:En}{O:Rho}{Z:St}{E:!En}{v:V}{t:T}{K:yF}
def Sim.partN(S:Sim Γ H O Z E)(M:NP H H'){s:T}(Q:e∈E){i:↑Nat}{p:Option !Ac}(ho:e.r.k=.vw i p){P:V->Prop}(hp:∀F,Rp Γ.K H e.r.t e.v F->∃w G,P w/\Rp Γ.K H' s w G/\∀a∈G,a∈F\/H a=Uc):∃w,P w/\Sim Γ H' O Z ({Uc,w,{.vw i Uc,s}}::E):=by
 have(L,g,y):=S.sl;have m:e∈L.map (·.e):=by rw[y];show yaL _ Q
 have(h,B,rfl):=Jz.mp m;have(w,G,h1,J,u):=hp h.F (g.rp h B);have c:∀a,H a=Uc->a∉L.flatMap Hd.own:=λa d z=>by
  have(o,e,_):=(g.ad a z).1;rw[d]at e;cases e
 have A:GW Γ H' L:=by
  have:=g.step (hs:=[]) (L:=L) (H':=H') ∅ ∅ (M.offM _) ∅ (key:=Uc) (v:=.non) (r:={.ow,.im .non}) (F:=[]) Le ∅ (ji (by rw[RpI])) (.inl {Xr,by simp}) (λj f=>by cases f);show this.drop rfl
 show{w,h1,{{_,A.push (v:=w) (r:={.vw i Uc,s}) (F:=G) J ?_ (.inl rfl),by rw[Jt,y];rfl},S.al,S.len,λx l j f=>?_}}
 .have k:=A.kd h B;unfold NN at k|-;rw[ho]at k;cases i with
  | none=>show λa d=>(u a d).elim (k a) (c a)
  | some j=>
   have(x,x1,U,Y,N,x5):=k;show{x,x1,U,Y,λa d=>(u a d).elim (N a) (λz=>.inr (c a z)),λq C=>by cases C}
 .rcases ycM l with rfl|l;cases f;show S.hi x l j f
def zP:∀{ts:!T} {f:!V} {F:!Addr},Rps K H ts f F->∃hs:!Hd,hs.map (·.e)=bf f ts/\hs.flatMap (·.F)=F/\∀h∈hs,Rp K H h.e.r.t h.e.v h.F/\h.e.r.k=.ow/\h.e.key=Uc/\∀a∈h.F,a∈F
 | [],f,F,r=>by
  have(rfl,rfl):=r.nil_inv;show{[],Xr,Xr,by simp}
 | t::ts,f,F,r=>by
  have(y,u,s,w,rfl,j,q,rfl):=r.cons_inv;have(hs,o,l,i):=zP q;show{{{Uc,y,{.ow,t}},s}::hs,by rw[Jt,o];rfl,by rw[JI,l],λh g=>?_};rcases ycM g with rfl|g;show{j,Xr,Xr,λa p=>yaL _ p}
  .have(a,b,c,d):=i h g;show{a,b,c,λx m=>yaR _ (d x m)}
def Sim.split(S:Sim Γ H O Z ({Uc,v,{.ow,.tup ts}}::E)):∃a f,v=.ref a/\SqT Γ.K H a f/\f.length=ts.length/\Sim Γ H O Z (bf f ts++E):=by
 have(L,g,h):=S.sl;rw[J3]at h;have(x,q,rfl,m,G):=aJ h;have B:=g.rp x ymS;rw[m,Rp]at B;have(a,f,Y,C,l):=B;have o:=g.kd x ymS;unfold NN at o;rw[m]at o;have Q:x.own=x.F:=by unfold Hd.own;rw[m];rfl
 have(w,e1,e2,i):=zP l;have N:∀h∈w,h.e.r.k.isOw=Ug:=λh hh=>by rw[(i h hh).2.1];rfl
 have d:(w++q).flatMap Hd.own=(x::q).flatMap Hd.own:=by rw[JL,JI,iC N,e2,Q]
 show{a,f,Y,C,l.length,{{w++q,{?_,?_,λy c=>?_,λy c=>?_,?_,g.fr,g.iol},?_},S.al,S.len,λy c j p=>?_}};rw[d];show g.nd;rw[d];show g.ad
 .rcases yaM c with c|c;show(i y c).1;show g.rp y (ymC _ c)
 .rcases yaM c with c|c
  .unfold NN;rw[(i y c).2.1];show λb P=>o b ((i y c).2.2.2 b P)
  .have k:=g.kd y (ymC _ c);unfold NN at k|-;split at k;show k;show k;rw[d];show k
   .have(z,s,u,U,M,z5):=k;rcases ycM s with rfl|s;rw[m]at u;cases u;show{z,yaR _ s,u,U,by rw[d];show M,z5}
 .have A:=g.ks;rw[JY,m]at A;rw[Lh,List.filterMap_eq_nil_iff.mpr λy c=>(i y c).2.2.1];show A
 .rw[JC,e1,G,JK]
 .rcases yaM c with c|c
  .have:∀{f:!V} {ts:!T},y∈bf f ts->y.key=Uc:=by
    intro f
    induction f with
    | nil=>intro ts h;cases ts<;>cases h
    | cons x f J=>
     intro ts h;cases ts with
     | nil=>cases h
     | cons t ts=>
      rcases ycM h with rfl|h;rfl;show J h
   rw[this c]at p;cases p
  .show S.hi y (ymC _ c) j p
abbrev partV(a:↑Nat):T->R
 | .im i=>{.ow,.im i}
 | t=>{.vw a Uc,t}
abbrev parts:R->Option !R
 | ⟨_,.im (.tup c)⟩=>Ud (c.map λi=>{.ow,.im i})
 | ⟨.ow,.tup a⟩=>Ud (a.map λt=>{.ow,t})
 | ⟨.vw d _,.tup a⟩=>Ud (a.map (partV d))
 | _=>Uc
def oT:∀{a:!V} {ts:!T},bf a ts=ens a (ts.map λt=>{.ow,t})
 | [],ts=>by cases ts<;>rfl
 | x::a,[]=>rfl
 | x::a,t::ts=>by rw[bf,Jt,ens,oT]
def Sim.imms:∀{is:!I} {a:!V} {E:!En},Sim Γ H O Z E->p7 Γ.K H is a->Sim Γ H O Z (ens a (is.map λi=>{.ow,.im i})++E)
 | [],a,E,S,r=>by obtain rfl:=r.nil_inv;show S
 | i::is,a,E,S,r=>by
  have(x,f,rfl,d,c):=r.cons_inv;rw[Jt,ens,J3];show(Sim.imms S c).imm d
def Sim.parts(S:Sim Γ H O Z (⟨Uc,v,r⟩::E))(h:L2.parts r*>rs):∃a c,v=.ref a/\SqT Γ.K H a c/\c.length=rs.length/\Sim Γ H O Z (ens c rs++E):=by
 unfold L2.parts at h;split at h
 .delta k is;cases h;have(F,r):=S.rd ymS;have(a,c,e,o,Q):=bX ⟨F,r⟩;show{a,c,e,o,by rw[Q.length,Jr],(S.drop rfl).imms Q}
 .delta f;cases h;have(a,c,e,o,hl,S2):=S.split;rw[oT]at S2;show{a,c,e,o,by rw[hl,Jr],S2}
 .delta s p f;cases h;have(F,r):=S.rd ymS;have(a,c,G,e,o,Q):=pX ⟨F,r⟩;have(L,g,hL):=S.sl;rw[J3]at hL;have(x,w,rfl,h1,h2):=aJ hL;have rp:=g.rp x ymS;rw[h1,Rp]at rp;have(a',m,ev,U,C):=rp;have S3:Sim Γ H O Z (ens m (f.map (partV s))++E):=by
   have go:∀(f:!T) (c:!V) (G:!Addr),Rps Γ.K H f c G->(∀a∈G,a∈x.F)->∃d,GW Γ H (d++x::w)/\d.map (·.e)=ens c (f.map (partV s))/\∀h∈d,h.e.key=Uc:=by
    intro f
    induction f with
    | nil=>intro c G r _;have(rfl,rfl):=r.nil_inv;show{[],g,Xr,by simp}
    | cons t f ih=>
     intro c G r Y;have(y,r',F1,F2,rfl,r1,r2,rfl):=r.cons_inv;have(d,B,M,e2):=ih r' F2 r2 λa l=>Y a (yaR _ l);have J:=B.kd x (yaR _ ymS);unfold NN at J;rw[h1]at J;have N:∃h:Hd,GW Γ H (h::(d++x::w))/\h.e={Uc,y,partV s t}:=by
      have vw:GW Γ H ({{Uc,y,{.vw s Uc,t}},F1}::(d++x::w)):=by
       show B.push (v:=y) (r:={.vw s Uc,t}) (F:=F1) r1 ?_ (.inl rfl);unfold NN;cases s with
       | none=>show λa l=>J a (Y a (yaL _ l))
       | some j=>
        have(z,z1,z2,z3,z4,z5):=J;show{z,z1,z2,z3,λa l=>z4 a (Y a (yaL _ l)),λq o=>by cases o}
      cases t with
      | im i=>show{_,B.push (v:=y) (r:={.ow,.im i}) (F:=[]) (ji (bE r1).1) (λa l=>by cases l) (.inr rfl),Xr}
      | _=>show{_,vw,Xr}
     have(h,gh,eh):=N;show⟨h::d,gh,by rw[Jt,eh,M];rfl,λz A=>?_⟩;rcases ycM A with rfl|A;rw[eh];show e2 z A
   have(d,B,M,e2):=go f m x.F C λa l=>l;have g2:GW Γ H (d++w):=by
    have p:(d++x::w).Perm (x::(d++w)):=Ka;show(B.perm p).drop (by rw[h1])
   show{{_,g2,by rw[JC,M,h2,JK]},S.al,S.len,λy u j P=>?_};rcases yaM u with u|u
   .rw[<-M]at u;have(z,A,rfl):=Jz.mp u;rw[e2 z A]at P;cases P
   .show S.hi y (ymC _ u) j P
  show{a',m,ev,U,by rw[C.length,Jr],S3}
 .cases h
private def mGNil:MGs:={λa O=>match a with
 | []=>Ud O
 | _=>Uc,[]}
private def av(g:MG)(c:MGs):MGs:={λa O=>match a with
 | r::a=>if a.all (aM g.mu)=Ug then(match g.run r O with
  | some d=>c.run a d
  | none=>Uc)else Uc
 | []=>Uc,g.mu++c.mu}
private def bA(a:MGs):MG:={λr O=>match parts r with
 | some c=>a.run c O
 | none=>Uc,a.mu}
def zB:qg K D0 mGNil:=by unhygienic
 intro Γ H O Z E Q vs d f g a c S q;cases d with
 | nil=>
  cases a;have:vs=[]:=KI.mp c;subst this;show{Xr,q Z H (by rw[show mGNil.mu=[]from rfl,cw];show S)}
 | cons _ _=>cases a
def wn(o:j3 K g m)(l:qg K gs ms):qg K (xr g gs) (av m ms):=by unhygienic
 intro Γ H O Z E Q vs c k h a d S q;cases c with
 | nil=>cases a
 | cons r c=>
  cases vs with
  | nil=>cases d
  | cons v vs=>
   dsimp[av]at a q;ext a s;ext a f x;show{v,vs,Xr,?_};rw[ens,J3]at S;show o Γ H O Z _ _ v r f h x S λu p i=>?_;rw[aQ,kh s]at i;show l Γ p f u _ _ vs c k h a (by exists d) i λj w y=>q j w (by rw[<-ah];show y)
def zC(h:qg K gs ms)(k:∀rs O d,ms.run rs O*>d->rs.length=n):j3 K (AX K n gs) (bA ms):=by
 intro Γ H O Z E Q v r d i c S q;dsimp[bA]at c q;ext c rs l;have(a,j,e,g,f,m):=S.parts l;rw[i]at g;show{a,j,e,g,by rw[f];show k _ _ _ c,h Γ H O Z _ _ j rs d i c f m q}
abbrev consL(mv:!Nat):!R->Rho->↑(!T×Rho)
 | [],O=>Ud ([],O)
 | ⟨.ow,t⟩::a,O=>match consL mv a O with
  | some (d,c)=>Ud (t::d,c)
  | none=>Uc
 | ⟨.vw (Ud i) (Ud []),t⟩::a,O=>if(mv.contains i&&a.all (aM [i]))=Ug then(match O[i]? with
  | some (⇑_)=>(match consL mv a ((aB [i] O).set i Uc)with
   | some (d,c)=>Ud (t::d,c)
   | none=>Uc)
  | _=>Uc)else Uc
 | _,_=>Uc
def Sim.consL:∀{rs:!R} {vs:!V} {ts:!T} {O g:Rho} {A E:!En},Sim Γ H O Z (A++(ens vs rs++E))->vs.length=rs.length->L2.consL mv rs O*>(ts,g)->(∀e∈A,e.r.k=.ow/\e.key=Uc)->vs.length=ts.length/\Sim Γ H g Z (A++(bf vs ts++aj mv E))
 | [],[],ts,O,g,A,E,S,_,h,f=>by
  cases h;show{Xr,?_};have:=S.weak mv;rw[aQ]at this;have m:aj mv A=A:=La.mpr λe c=>by unfold aF;rw[(f e c).1];rfl
  rw[m]at this;show this
 | r::rs,v::vs,ts,O,g,A,E,S,x,h,f=>by
  rw[ens,J3]at S;have(k,t):=r;cases k with
  | ow=>
   dsimp[L2.consL]at h;ext h q y u;cases h;have(o,l):=Sim.consL (rs:=rs) (vs:=vs) (A:=A++[{Uc,v,{.ow,t}}]) (E:=E) (by exists S) (by exists x) u (λe c=>by
    rcases yaM c with c|c;show f e c;rw[ysM c];show⟨Xr,Xr⟩)
   show{by simp[o],by rw[bf];simpa using l}
  | io n=>cases h
  | vw a b=>
   cases a with
   | none=>cases h
   | some i=>
    cases b with
    | none=>cases h
    | some p=>
     cases p with
     | cons _ _=>cases h
     | nil=>
      dsimp[L2.consL]at h;ext h s;rw[Jv]at s;ext h L o;ext h q y u;cases h;have J:Sim Γ H O Z ({Uc,v,{.vw (Ud i) (Ud []),t}}::(A++(ens vs rs++E))):=S.perm Ka;have l:=J.move o;have m:aj [i] A=A:=La.mpr λe c=>by unfold aF;rw[(f e c).1];rfl
      rw[aQ,m,aQ,kh s.2]at l;have(B,w):=Sim.consL (rs:=rs) (vs:=vs) (A:=A++[{Uc,v,{.ow,t}}]) (E:=aj [i] E) (l.perm (by
       rw[JK];show(Ka).symm)) (by exists x) u (λe c=>by
       rcases yaM c with c|c;show f e c;rw[ysM c];show⟨Xr,Xr⟩)
      show{by simp[B],?_};rw[bf];have G:aj mv (aj [i] E)=aj mv E:=by
       rw[ah];unfold aj;congr 1;funext e;rw[ke];by_cases d:aF mv e=Ug
       .rw[d,Mh];unfold aF at d|-;split
        .delta j C;rw[C]at d;have:j≠i:=λz=>by subst z;simp at d;show d (by exists s.1)
         simp[this]
        .rfl
       .rw[M9]at d;rw[d,Nj]
      rw[G]at w;exists w
 | [],_::_,_,_,_,_,_,_,h,_,_=>by cases h
 | _::_,[],_,_,_,_,_,_,h,_,_=>by cases h
abbrev ims:!T->Option !I
 | []=>Ud []
 | .im i::a=>(ims a).map (i :: ·)
 | _=>Uc
def pk:∀{ts:!T} {is:!I},ims ts*>is->ts=is.map T.im
 | [],is,h=>by cases h;rfl
 | .im i::ts,is,h=>by
  dsimp[ims]at h;cases e:ims ts with
  | none=>rw[e]at h;cases h
  | some a=>rw[e]at h;cases h;rw[Jt,<-pk e]
 | .tup _::_,_,h=>by cases h
 | .li _::_,_,h=>by cases h
 | .lst _::_,_,h=>by cases h
 | .di _::_,_,h=>by cases h
 | .dc _::_,_,h=>by cases h
 | .dq _::_,_,h=>by cases h
 | .ins _ _::_,_,h=>by cases h
abbrev oy(ts:!T):T:=match ims ts with
 | some a=>.im (.tup a)
 | none=>.tup ts
abbrev cF(ts:!T):T:=match ims ts with
 | some a=>.li a
 | none=>.lst ts
private def aD(mv:!Nat)(a:MA):ME:={λO=>match a.run O with
 | some (c,f)=>if c.length<=1000 then(match consL mv c f with
  | some (g,d)=>Ud ({.ow,oy g},d)
  | none=>Uc)else Uc
 | none=>Uc,a.mu++mv}
private def bo(mv:!Nat)(a:MA):ME:={λO=>match a.run O with
 | some (c,f)=>if c.length<=1000 then(match consL mv c f with
  | some (g,d)=>Ud ({.ow,cF g},d)
  | none=>Uc)else Uc
 | none=>Uc,a.mu++mv}
def zZ(h:n<=1000):n<=sizeLine:=by rw[Oe];omega
def zK(c:hR K ta a):aZ K (Iq ta) (aD mv a):=by
 intro Γ H O Z E Q r P C f S q;dsimp[aD]at f q;ext f l s J;ext f w;ext f z O2 L;cases f;show c Γ H O Z E _ l s C J S λvs Y k y=>{by rw[k];show zZ w,λp N=>?_};have(g,j):=Sim.consL (A:=[]) (by exists y) k L ∅;rw[KT,ah]at j;have(F,h,u,i,B):=j.use g;have d:=NP.laid (o:=.tup vs) N;show q _ _ (B _ (.ref p) (oy z) F (d.offM _) (λa c=>let ⟨o,e,_⟩:=i a c;{o,d a o e}) u (λa c=>{.inl c,let ⟨o,e,m⟩:=i a c;{o,d a o e,m}}) ?_);unfold oy;split
 .delta U M;rw[pk M]at h;have(x,G):=Rps.ims.mp h;subst G;show ji ?_;rw[RpI];show{p,vs,Xr,SqT.of aA,x.same d}
 .rw[Rp];show{p,vs,Xr,SqT.of aA,h.same d}
def zD(c:hR K ta a):aZ K (Ih ta) (bo mv a):=by
 intro Γ H O Z E Q r Y L f S q;dsimp[bo]at f q;ext f s u N;ext f x;ext f C O2 P;cases f;show c Γ H O Z E _ s u L N S λvs H1 l B=>{by rw[l];show zZ x,λp j=>?_};have(h,k):=Sim.consL (A:=[]) (by exists B) l P ∅;rw[KT,ah]at k;have(F,i,w,g,J):=k.use h;have d:=NP.laid (o:=.lst vs) j;have G:p∉F:=λz=>by have(o,e,_):=g p z;rw[j]at e;cases e
 show q _ _ (J _ (.ref p) (cF C) (p::F) (d.offM _) (λa c=>let ⟨o,e,_⟩:=g a c;{o,d a o e}) (JS.mpr ⟨G,w⟩) (λa c=>?_) ?_)
 .rcases ycM c with rfl|c;show{.inr j,_,aA,Xr};show{.inl c,let ⟨o,e,m⟩:=g a c;{o,d a o e,m}}
 .unfold cF;split
  .delta is U;rw[pk U]at i;have(y,M):=Rps.ims.mp i;subst M;rw[Rp];show{p,vs,Xr,.inl aA,y.same d,Xr}
  .rw[Rp];show{p,vs,F,Xr,.inl aA,i.same d,Xr}
end
section
variable {Γ:Gm}{H H':Hp}{O:Rho}{Z:St}{E:!En}{v x y:V}{t:T}{K:yF}{Q:VK}
abbrev ixK:Kd->↑Ac->↑Kd
 | .ow,_=>Ud .ow
 | .io _,_=>Uc
 | .vw (Ud r) (Ud p),Ud a=>Ud (.vw (Ud r) (Ud (p++[a])))
 | .vw c _,_=>Ud (.vw c Uc)
abbrev ixP(k:Kd) (a:↑Ac):T->↑R
 | .im i=>↥i
 | t=>match ixK k a with
  | some c=>Ud ⟨c,t⟩
  | none=>Uc
abbrev ixI(i:I) (n:Int):↑R:=match i with
 | .tup a=>(atI a n).map λi=>{.ow,.im i}
 | .ls a=>(atI a n).map λi=>{.ow,.im i}
 | .str z=>if z.length<=sizeLine then(atI (sL z) n).map λc=>{.ow,.im (.str {#[c]})}else Uc
 | _=>Uc
abbrev ixX(k:Kd) (t:T) (n:Int):↑R:=match t with
 | .im i=>ixI i n
 | .li c=>(atI c n).map λi=>{.ow,.im i}
 | .lst a=>(match ixN a.length n with
  | some j=>(a[j]?).bind (ixP k (Ud (.ix j)))
  | none=>Uc)
 | .tup a=>(match ixN a.length n with
  | some j=>(a[j]?).bind (ixP k Uc)
  | none=>Uc)
 | _=>Uc
private def ixR(r:R)(t:T):↑R:=match isI t with
 | some n=>ixX r.k r.t n
 | none=>Uc
private def mIx(a b:ME):ME:={λO=>match a.run O with
 | some (c,f)=>match b.run f with
  | some (e,d)=>if aM b.mu c=Ug then(match ixR c e.t with
   | some r=>Ud (r,d)
   | none=>Uc)else Uc
  | none=>Uc
 | none=>Uc,a.mu++b.mu}
def lM(r:p7 K H is xs)(e:atI is n*>i):∃w,atI xs n*>w/\RpI K H i w:=by
 unfold atI at e|-;rw[r.length];cases h:ixN is.length n with
 | none=>rw[h]at e;cases e
 | some j=>rw[h]at e;show r.get e
def Sim.takeO{s:T}(S:Sim Γ H O Z ({Uc,x,{.ow,t}}::E)){P:V->Prop}(l:∀F,Rp Γ.K H t x F->∃w A G B,P w/\Rp Γ.K H s w G/\F=A++G++B):∃w,P w/\Sim Γ H O Z ({Uc,w,{.ow,s}}::E):=by
 have(F,i,g,f,h):=Sim.use (vs:=[x]) (ts:=[t]) S rfl;have(y,r,q,u,e,m,k,rfl):=i.cons_inv;cases e;have:=k.nil_inv.2;subst this;rw[Kg]at g f h;have(w,A,G,B,p,j,rfl):=l q m;have d:∀a∈G,a∈A++G++B:=λa c=>yaL _ (yaR _ c);show{w,p,h H w s G (NJ.refl _ _) (λa c=>let ⟨o,e,_⟩:=f a c;⟨o,e⟩) (Jy.mp (Jy.mp g).1).2.1 (λa c=>{.inl (d a c),f a (d a c)}) j}
def r8{c:Type}{a:!c}{n:Int}{j m:Nat}{w : c}(h:ixN m n*>j)(d:a.length=m)(e:a[j]?*>w):atI a n*>w:=by
 unfold atI;rw[d,h];show e
def Sim.ixL{k:Kd}{ts:!T}{s:T}{j:Nat}{n:Int}{r:R}(S:Sim Γ H O Z ({Uc,x,{k,.lst ts}}::E))(hn:ixN ts.length n*>j)(hj:ts[j]?*>s)(L:L2.ixP k (Ud (.ix j)) s*>r) :
  ∃w,(∀Q:VK,Q w H->rIx Γ.K x (.int n) H Q)/\Sim Γ H O Z (⟨Uc,w,r⟩::E):=by
 have h:∀F,Rp Γ.K H (.lst ts) x F->∃w A G B,(∀Q:VK,Q w H->rIx Γ.K x (.int n) H Q)/\Rp Γ.K H s w G/\F=A++G++B:=λF g=>by
  rw[Rp]at g;have(a,Y,F',rfl,c,u,rfl):=g;have(w,A,G,B,h4,h5,h6,_,_):=u.at hj;show{w,a::A,G,B,λQ q=>.inl {a,Y,n,w,Xr,Xr,aR c,r8 hn u.length h4,q},h5,by rw[h6];simp}
 have f:∀M p,k=.vw M p->∃w,(∀Q:VK,Q w H->rIx Γ.K x (.int n) H Q)/\Sim Γ H O Z ({Uc,w,{.vw M Uc,s}}::E):=λM p hk=>by
  have(w,l,S2):=S.part (e:={Uc,x,{k,.lst ts}}) ymS hk (P:=λw=>∀Q:VK,Q w H->rIx Γ.K x (.int n) H Q) (s:=s) (λF g=>by
   have(w,A,G,B,l,c,u):=h F g;show{w,G,l,c,λa ha=>by rw[u];show yaL _ (yaR _ ha)})
  show{w,l,S2.swap.drop rfl}
 have C:∀X,ixK k (Ud (.ix j))*>X->∃w,(∀Q:VK,Q w H->rIx Γ.K x (.int n) H Q)/\Sim Γ H O Z ({Uc,w,⟨X,s⟩}::E):=λX d=>by
  cases k with
  | ow=>
   cases d;show S.takeO h
  | io m=>cases d
  | vw M p=>
   cases M with
   | none=>
    cases d;show f Uc p rfl
   | some i=>
    cases p with
    | none=>cases d;show f (Ud i) Uc rfl
    | some p=>
     cases d;have(w,l,S2):=S.partP (e:={Uc,x,{.vw (Ud i) (Ud p),.lst ts}}) ymS rfl (a:=.ix j) (s:=s) hj;show{w,λQ q=>?_,S2.swap.drop rfl};have(F,g):=S.rd ymS;have(a,Y,G,e1,c,u):=iF ⟨F,g⟩;have(a',z,e2,J,g2):=l;have N:x=.ref a:=e1;have U:x=.ref a':=e2;rw[N]at U;cases U;have e3:z=Y:=by
      rcases c with c|⟨o,c⟩;rw[c]at J;cases J;rfl;rw[c]at J;cases J
     subst e3;rw[N];show .inl {a,z,n,w,Xr,Xr,SqL.of J,r8 hn u.length g2,q}
 cases s with
 | im i=>
  cases L;have(F,g):=S.rd ymS;have(w,A,G,B,l,c,_):=h F g;show{w,l,(S.drop rfl).imm (bE c).1}
 | _=>
  dsimp[L2.ixP]at L;split at L;delta X e;cases L;show C X e;cases L
def Sim.ixT{k:Kd}{ts:!T}{s:T}{j:Nat}{n:Int}{r:R}(S:Sim Γ H O Z ({Uc,x,{k,.tup ts}}::E))(L:ixN ts.length n*>j)(J:ts[j]?*>s)(o:L2.ixP k Uc s*>r) :
  ∃w,(∀Q:VK,Q w H->rIx Γ.K x (.int n) H Q)/\Sim Γ H O Z (⟨Uc,w,r⟩::E):=by
 have d:∀F,Rp Γ.K H (.tup ts) x F->∃w A G B,(∀Q:VK,Q w H->rIx Γ.K x (.int n) H Q)/\Rp Γ.K H s w G/\F=A++G++B:=λF g=>by
  rw[Rp]at g;have(a,N,rfl,h,z):=g;have(w,A,G,B,Y,M,h6,_,_):=z.at J;show{w,A,G,B,λQ q=>.inr (.inl {a,N,n,w,Xr,Xr,h,r8 L z.length Y,q}),M,h6}
 have l:∀f,ixK k Uc*>f->∃w,(∀Q:VK,Q w H->rIx Γ.K x (.int n) H Q)/\Sim Γ H O Z ({Uc,w,⟨f,s⟩}::E):=λf c=>by
  cases k with
  | ow=>
   cases c;show S.takeO d
  | io m=>cases c
  | vw C p=>
   have U:f=.vw C Uc:=by cases C<;>cases p<;>cases c<;>rfl
   subst U;have(w,u,X):=S.part (e:={Uc,x,{.vw C p,.tup ts}}) ymS rfl (P:=λw=>∀Q:VK,Q w H->rIx Γ.K x (.int n) H Q) (s:=s) (λF g=>by
    have(w,A,G,B,u,h,z):=d F g;show{w,G,u,h,λa ha=>by rw[z];show yaL _ (yaR _ ha)})
   show{w,u,X.swap.drop rfl}
 cases s with
 | im i=>
  cases o;have(F,g):=S.rd ymS;have(w,A,G,B,u,h,_):=d F g;show{w,u,(S.drop rfl).imm (bE h).1}
 | _=>
  dsimp[L2.ixP]at o;split at o;delta f e;cases o;show l f e;cases o
def Sim.ixR(h:L2.ixR ra tb*>r)(S:Sim Γ H O Z (⟨Uc,x,ra⟩::E))(G:Rpx Γ.K H tb y):∃w,(∀Q:VK,Q w H->rIx Γ.K x y H Q)/\Sim Γ H O Z (⟨Uc,w,r⟩::E):=by
 have a:Rpx Γ.K H ra.t x:=S.rd (e:=⟨Uc,x,ra⟩) ymS;unfold L2.ixR at h;ext h n J;cases dS J;have(L,B):=ra;replace a:Rpx Γ.K H B x:=a;rw[aY G];unfold ixX at h;dsimp only at h;split at h
 .unfold ixI at h;split at h
  .delta f;cases h0:atI f n with
   | none=>rw[h0]at h;cases h
   | some i=>
    rw[h0]at h;cases h;have(p,o,l,m,k):=bX a;have(w,d,g):=lM k h0;show{w,λQ q=>.inr (.inl ⟨p,o,n,w,l,Xr,m,d,q⟩),(S.drop rfl).imm g}
  .delta f;cases h0:atI f n with
   | none=>rw[h0]at h;cases h
   | some i=>
    rw[h0]at h;cases h;have(p,o,l,m,k):=oM a;have(w,d,g):=lM k h0;show{w,λQ q=>.inl {p,o,n,w,l,Xr,aR m,d,q},(S.drop rfl).imm g}
  .delta z;ext h C;cases h0:atI (sL z) n with
   | none=>rw[h0]at h;cases h
   | some c=>
    rw[h0]at h;cases h;show{_,λQ q=>.inr (.inr {z,n,c,eK a,Xr,C,h0,q}),(S.drop rfl).imm (le rfl)}
  .cases h
 .delta f;cases h0:atI f n with
  | none=>rw[h0]at h;cases h
  | some i=>
   rw[h0]at h;cases h;have(p,o,l,m,k):=bV a;have(w,d,g):=lM k h0;show{w,λQ q=>.inl {p,o,n,w,l,Xr,aR m,d,q},(S.drop rfl).imm g}
 .delta A;ext h j u;cases h0:A[j]? with
  | none=>rw[h0]at h;cases h
  | some s=>
   rw[h0]at h;show S.ixL u h0 h
 .delta A;ext h j u;cases h0:A[j]? with
  | none=>rw[h0]at h;cases h
  | some s=>
   rw[h0]at h;show S.ixT u h0 h
 .cases h
def FF(j:aZ K ta a)(A:aZ K tb b):aZ K (tOp (rIx K) ta tb) (mIx a b):=by unhygienic
 intro Γ H O Z E Q r B d c S q;dsimp[mIx]at c;ext c o f m;ext c g G s;ext c l;ext c C i;cases c;show j Γ H O Z E _ o f d m S λx k p=>?_;show A Γ k f Z _ _ g _ d s p λy J e=>?_;rw[aK (cc l),ah]at e;have z:=e.rd ymS;have(w,h,u):=Sim.ixR i (e.drop rfl) z;rw[<-d];show h Q (q w _ u)
structure MO where
 run:Rho->↑(↑Int×Rho)
 mu:!Nat
abbrev wV(K:yF)(c:TO)(m:MO):Prop:=∀(Γ:Gm) (H:Hp) (O:Rho) (Z:St) (E:!En) (Q:↑Int->Hp->Prop) (o:↑Int) (a:Rho),Γ.K=K->m.run O*>(o,a)->Sim Γ H O Z E->(∀H',Sim Γ H' a Z (aj m.mu E)->Q o H')->c Z H Q
private def mNoPart:MO:={λO=>Ud (Uc,O),[]}
private def eS(a:ME):MO:={λO=>match a.run O with
 | some (⟨_,.im (.int n)⟩,c)=>Ud (Ud n,c)
 | _=>Uc,a.mu}
def tf:wV K uJ mNoPart:=by unhygienic
 intro Γ H O Z E Q o c d a S q;cases a;show q H (by rw[show mNoPart.mu=[]from rfl,cw];show S)
def zH(f:aZ K ta a):wV K (uK ta) (eS a):=by unhygienic
 intro Γ H O Z E Q o i e c S q;dsimp[eS]at c;ext c k n j h;cases c;show f Γ H O Z E _ _ _ e h S λx g d=>{n,aY (d.rd ymS),q g (d.drop rfl)}
def p7.cut(r:p7 K H is xs)(lo a:↑Int):p7 K H (cB is lo a) (lU xs lo a):=by
 unfold cB lU;rw[r.length];show(r.drop _).take _
def Rps.cut(r:Rps K H ts xs F)(lo a:↑Int):∃A G B,Rps K H (cB ts lo a) (lU xs lo a) G/\F=A++G++B:=by
 unfold cB lU;rw[r.length];have(A,e,g,d,rfl):=r.take (HT.sIx ts.length 0 lo);have(G,B,c,f,rfl):=d.take (HT.sIx ts.length ts.length a-HT.sIx ts.length 0 lo);show{A,G,B,c,by simp}
abbrev slI(i:I) (lo c:↑Int):↑R:=match i with
 | .tup a=>if HT.sIx a.length 0 lo=0/\HT.sIx a.length a.length c=a.length then Uc else ↥(.tup (cB a lo c))
 | .str z=>if z.length<=sizeLine then ↥(.str (oL (cB (sL z) lo c)))else Uc
 | _=>Uc
abbrev slX(k:Kd) (t:T) (lo a:↑Int):↑R:=match t with
 | .li d=>⇑(.li (cB d lo a))
 | .im i=>slI i lo a
 | .lst e=>(match k with
  | .vw c _=>Ud {.vw c Uc,.lst (cB e lo a)}
  | _=>Uc)
 | _=>Uc
private def slR(r:R)(lo a:↑Int):↑R:=slX r.k r.t lo a
private def mSl(a:ME)(lo c:MO):ME:={λO=>match a.run O with
 | some (d,g)=>match lo.run g with
  | some (l,f)=>match c.run f with
   | some (h,e)=>if aM (lo.mu++c.mu) d=Ug then(match slR d l h with
    | some r=>Ud (r,e)
    | none=>Uc)else Uc
   | none=>Uc
  | none=>Uc
 | none=>Uc,a.mu++(lo.mu++c.mu)}
def FH{ta:TE}{tl th:TO}{a:ME}{lo hi:MO}(ha:aZ K ta a)(hl:wV K tl lo)(hh:wV K th hi):aZ K (tSl (rSl K) ta tl th) (mSl a lo hi):=by unhygienic
 intro Γ H O Z E Q r O' L g S q;dsimp[mSl]at g;ext g ra O1 e1;ext g l O2 e2;ext g h O3 M;ext g al;ext g r0 c;cases g;show ha Γ H O Z E _ ra O1 L e1 S λx H1 S1=>?_;show hl Γ H1 O1 Z _ _ l _ L e2 S1 λH2 S2=>?_;show hh Γ H2 O2 Z _ _ h _ L M S2 λH3 k=>?_;rw[ah,aK (cc al),ah]at k;have m:=k.rd ymS;unfold slR slX at c;have(k0,t0):=ra;replace m:Rpx Γ.K H3 t0 x:=m;dsimp only at c;split at c
 .cases c;have(p,i,j,e,J):=bV m;show .inr (.inl {p,i,j,aR e,λp f=>q _ _ ((k.drop rfl).fresh (.li f (J.cut l h)))})
 .unfold slI at c;split at c
  .delta is;split at c;cases c
   .delta hw;cases c;have(p,i,j,e,J):=bX m;rw[L]at e;show .inl {p,i,j,e,by rw[J.length];show hw,λp f=>q _ _ ((k.drop rfl).fresh (.tup f (J.cut l h)))}
  .ext c hz;cases c;show .inr (.inr {_,eK m,hz,q _ _ ((k.drop rfl).imm (le rfl))})
  .cases c
 .delta ts;ext c ro p0;cases c;have(p,i,F,Y,e,J):=iF m;have j:x=.ref p:=Y;show .inr (.inl {p,i,j,aR e,λu f=>?_});have(w,hw,S4):=k.partN (H':=upd H3 u (.lst (lU i l h))) (NP.laid f) (s:=.lst (cB ts l h)) ymS rfl (P:=λw=>w=.ref u) (λF rp=>by
   have z:Rp Γ.K H3 (.lst ts) x F:=rp;rw[Rp]at z;have(a',X,F',C,d,U,rfl):=z;rw[j]at C;cases C;have M:X=i:=by
    rcases e with e|⟨o,e⟩<;>rcases d with d|⟨o',d⟩<;>rw[e]at d<;>cases d<;>rfl
   subst M;have(A,G,B,g3,rfl):=U.cut l h;show{.ref u,u::G,Xr,?_,λb N=>?_}
   .rw[Rp];show{u,_,G,Xr,.inl aA,g3.same (NP.laid f),Xr}
   .rcases ycM N with rfl|N;show .inr f;show .inl (ymC _ (yaL _ (yaR _ N))))
  subst hw;show q _ _ (S4.swap.drop rfl)
 .cases c
abbrev fS(K:yF)(red:V->!V->Hp->VK->Prop)(f:T->!T->↑(T×I)):Prop:=∀(H:Hp) (w:V) (vs:!V) (s:T) (e:!T) (d:T) (i:I) (G F:!Addr) (Q:VK),Rp K H s w G->Rps K H e vs F->(G++F).Nodup->(∀a∈G++F,Mu H a)->f s e*>(d,i) ->
 (∀v H' c,NJ G H H'->(∀a∈G,∃o,H' a*>o)->c.Nodup->(∀a∈c,(a∈G++F\/H a=Uc)/\Mu H' a)->Rp K H' d w c->RpI K H' i v->Q v H')->red w vs H Q
private def mutR(i:Nat)(mv:!Nat)(f:T->!T->↑(T×I))(r0:R)(rs:!R)(d:Rho):↑(R×Rho):=match r0 with
 | ⟨.vw (Ud j) (Ud p),s⟩=>if(decide (j=i) &&  ~~~mv.contains i)=Ug then(match consL mv rs d with
  | some (g,c)=>(match f s g with
   | some (e,a)=>(match c[i]? with
    | some (Ud ⟨k,t⟩)=>if k.isOw=Ug then Ud ({.ow,.im a},(aB [i] c).set i (Ud {k,t.put p e}))else Uc
    | _=>Uc)
   | none=>Uc)
  | none=>Uc)else Uc
 | _=>Uc
def Sim.mutR(C : Γ.K=K)(hp:fS K red f)(h:L2.mutR i mv f r0 rs O1*>(r,O'))(Y:vs.length=rs.length)(S:Sim Γ H O1 Z (ens vs rs++⟨Uc,x,r0⟩::E))(q:∀v H',Sim Γ H' O' Z (⟨Uc,v,r⟩::aj (mv++[i]) E)->Q v H'):red x vs H Q:=by
 unfold L2.mutR at h;ext h j p s;ext h z;rw[Jv,decide_eq_true_eq,Kf]at z;have(rfl,l):=z;ext h X O2 e1;ext h B o e2;ext h k t M;ext h U;cases h;have(m,w):=Sim.consL (A:=[]) (by exists S) Y e1 ∅;rw[KT,aK (show aF mv {Uc,x,{.vw (Ud j) (Ud p),s}}=Ug by unfold aF;dsimp[Kd.root];rw[l];rfl)]at w;have(G,F,J,u,L,h4,P):=w.mut m M U;rw[C]at J u;show hp H x vs s X B o G F Q J u L h4 e2 λv H' N a b c d e g=>q v H' ?_;rw[<-ah];rw[<-C]at e g;show(P H' B N a b c d e).imm g
private def fj(i:Nat)(mv:!Nat)(f:T->!T->↑(T×I))(o:ME)(a:MA):ME:={λO=>match o.run O with
 | some (c,g)=>match a.run g with
  | some (d,e)=>if aM a.mu c=Ug then L2.mutR i mv f c d e else Uc
  | none=>Uc
 | none=>Uc,(o.mu++a.mu)++(mv++[i])}
def Cc(J:fS K red f)(g:∀(H:Hp) (x:V) (l:T) ts r,Rpx K H l x->f l ts*>r->tyV K T0 x H)(ho:aZ K to o)(z:hR K ta a):aZ K (tBM K T0 red to ta) (fj i mv f o a):=by
 intro Γ H O Z E Q r L e c S q;dsimp[fj]at c q;ext c p G s;ext c m M B;ext c A;show ho Γ H O Z E _ p _ e s S λx h j=>?_;have d:=j.rd ymS;rw[e]at d;show{?_,?_}
 .unfold L2.mutR at c;ext c;ext c;ext c;ext c C;show g h x _ _ _ d C
 .show z Γ h G Z _ _ m _ e B j λvs N u k=>?_;rw[aK (cc A),ah]at k;show Sim.mutR e J c u k λv H' w=>q v H' (by rw[<-ah];show w)
private def mw(i:Nat)(f:T->!T->↑(T×I))(o:ME):ME:={λO=>match o.run O with
 | some (a,c)=>L2.mutR i [] f a [] c
 | none=>Uc,o.mu++[i]}
def zE(s:fS K red f)(e:∀(H:Hp) (x:V) (g:T) ts r,Rpx K H g x->f g ts*>r->tyV K T0 x H)(ho:aZ K to o):aZ K (FP K T0 red to) (mw i f o):=by
 intro Γ H O Z E Q r u d a S q;dsimp[mw]at a q;ext a k w m;show ho Γ H O Z E _ k _ d m S λx l h=>?_;have c:=h.rd ymS;rw[d]at c;show{?_,?_}
 .unfold L2.mutR at a;ext a;ext a;ext a;ext a p;show e l x _ _ _ c p
 .show Sim.mutR (vs:=[]) (mv:=[]) d s a rfl h λv H' j=>q v H' (by rw[<-ah];show j)
def oz(h:Rp K H (.li is) w G)(g:∀a∈G,Mu H a):∃a c,w=.ref a/\H a*>(.lst c)/\p7 K H is c/\G=[a]:=by
 rw[Rp]at h;have(a,c,f,d,e,rfl):=h;show{a,c,f,(g a ymS).lst d,e,Xr}
def Em(h:Rp K H (.lst ts) w G)(e:∀a∈G,Mu H a):∃a c F,w=.ref a/\H a*>(.lst c)/\Rps K H ts c F/\G=a::F:=by
 rw[Rp]at h;have(a,c,F,g,f,d,rfl):=h;show{a,c,F,g,(e a ymS).lst f,d,Xr}
def nu(h:H a*>(.lst xs))(f:p7 K H is' xs')(g:RpI K H i v)
  (q:∀v H' d,NJ [a] H H'->(∀b∈[a],∃o,H' b*>o)->d.Nodup->(∀b∈d,(b∈[a]++F\/H b=Uc)/\Mu H' b)->Rp K H' (.li is') (.ref a) d->RpI K H' i v->Q v H'):Q v (upd H a (.lst xs')):=by
 have e:∀b∈[a],Mu H b:=λb c=>by rw[ysM c];show{_,h,Xr}
 show q v _ [a] NJ.upd (λb c=>by rw[ysM c];show{_,aA}) ∅ (λb c=>?_) ?_ (g.off NJ.upd e);rw[ysM c];show{.inl ∅,_,aA,Xr};rw[Rp];show{a,xs',Xr,.inl aA,f.off NJ.upd e,Xr}
def uM(p:H a*>(.lst xs))(f:(a::F').Nodup)(u:∀b∈F',Mu H b)(k:∀b∈F',b∈(a::G)++F)(r:Rps K H ts' xs' F')(s:RpI K H i v)
  (q:∀v H' d,NJ (a::G) H H'->(∀b∈a::G,∃o,H' b*>o)->d.Nodup->(∀b∈d,(b∈(a::G)++F\/H b=Uc)/\Mu H' b)->Rp K H' (.lst ts') (.ref a) d->RpI K H' i v->Q v H') (l:∀b∈G,∃o,H b*>o):Q v (upd H a (.lst xs')):=by
 have j:∀b∈[a],Mu H b:=λb c=>by rw[ysM c];show{_,p,Xr}
 have g:∀b∈F',b≠a:=λb c z=>(JS.mp f).1 (z▸c);show q v _ (a::F') (NJ.upd.mono λb c=>by rw[ysM c];show ymS) (λb c=>?_) f (λb c=>?_) ?_ (s.off NJ.upd j)
 .by_cases e:b=a;subst e;show{_,aA}
  .rcases ycM c with z|z;show absurd z e;have(o,h):=l b z;show{o,by rw[aT e];show h}
 .rcases ycM c with rfl|c;show{.inl ∅,_,aA,Xr}
  .show{.inl (k b c),?_};have(o,h,m):=u b c;show{o,by rw[aT (g b c)];show h,m}
 .rw[Rp];show{a,xs',F',Xr,.inl aA,r.off NJ.upd j (λb c z=>g b c (ysM z)),Xr}
abbrev ap1(s t:T):↑(T×I):=match s with
 | .li a=>(match t with
  | .im i=>if a.length<sizeLine then Ud (.li (a++[i]),.non)else Uc
  | _=>if a.length<sizeLine then Ud (.lst (a.map .im++[t]),.non)else Uc)
 | .lst c=>if c.length<sizeLine then Ud (.lst (c++[t]),.non)else Uc
 | _=>Uc
private def apT(s:T)(ts:!T):↑(T×I):=l1 (ap1 s) ts
def wt(h:Rps K H [t] vs F):∃v,vs=[v]/\Rp K H t v F:=by
 have(v,r,e,d,rfl,c,a,rfl):=h.cons_inv;have(rfl,rfl):=a.nil_inv;show{v,Xr,by rw[Kg];show c}
def Ji(h:Rps K H [t,u] vs F):∃v w c a,vs=[v,w]/\Rp K H t v c/\Rp K H u w a/\F=c++a:=by
 have(v,r,c,a,rfl,f,e,rfl):=h.cons_inv;have(w,rfl,d):=wt e;show⟨v,w,c,a,Xr,f,d,Xr⟩
def dy:RpI K H .non .non:=by rw[RpI]
def qW:fS K pM apT:=by
 intro H w vs s J L i G F Q h u p k e q;unfold apT at e;have A:=cJ e;clear e;have(C,rfl,e):=A;have(y,rfl,m):=wt u;unfold ap1 at e;split at e
 .delta B;have(a,j,rfl,f,d,rfl):=oz h λa o=>k a (yaL _ o);split at e
  .have(g,e):=bn e;cases e;show{a,j,y,Xr,Xr,f,by rw[d.length];show g,nu f (d.append (.one (bE m).1)) dy q}
  .have(g,e):=bn e;cases e;show{a,j,y,Xr,Xr,f,by rw[d.length];show g,uM (G:=[]) (F:=F) (F':=F) f p (λb c=>k b (yaR _ c)) (λb c=>yaR _ c) ?_ dy q ∅};have:=Rps.append (Rps.ims.mpr ⟨d,Xr⟩) (Rps.cons m Rps.nil);exists this
 .have(g,e):=bn e;cases e;have(a,j,l,rfl,f,d,rfl):=Em h λa o=>k a (yaL _ o);have r:∀b∈l++F,b∈(a::l)++F:=λb c=>(yaM c).elim (λz=>yaL _ (ymC _ z)) λz=>yaR _ z;show{a,j,y,Xr,Xr,f,by rw[d.length];show g,uM (G:=l) (F:=F) (F':=l++F) f (by exists p) (λb c=>k b (r b c)) r ?_ dy q (λb c=>d.dom b c)};have:=Rps.append d (Rps.cons m Rps.nil);exists this
 .cases e
def Af(h:Rpx K H (.li is) x):tyV K "list" x H:=by
 have(a,c,rfl,d,e):=bV h;show .inl {Xr,c,aR d}
def FW(h:Rpx K H (.lst is) x):tyV K "list" x H:=by
 have(a,c,F,rfl,d,e):=iF h;show .inl {Xr,c,aR d}
def wI(H:Hp)(x:V)(a:T)(ts:!T)(r:T×I)(h:Rpx K H a x)(e:apT a ts*>r):tyV K "list" x H:=by
 unfold apT at e;have(t,_,e):=cJ e;unfold ap1 at e;split at e;show Af h;show FW h;cases e
abbrev ext1(s t:T):↑(T×I):=match xE s with
 | some c=>(match xE t with
  | some a=>if c.length+a.length<=sizeLine then Ud (.li (c++a),.non)else Uc
  | none=>(match Ea t with
   | some a=>if c.length+a.length<=sizeLine then Ud (.li (c++a),.non)else Uc
   | none=>Uc))
 | none=>Uc
private def popT:T->!T->↑(T×I)
 | .li a,[]=>match a[a.length-1]? with
  | some i=>Ud (.li a.dropLast,i)
  | none=>Uc
 | _,_=>Uc
def p7.dropLast(h:p7 K H is xs):p7 K H is.dropLast xs.dropLast:=by
 rw[MD,MD,h.length];show h.take _
abbrev D7(s n t:T):↑(T×I):=match xE s with
 | some a=>(match isI n with
  | some n=>(match t with
   | .im i=>if 0<=n/\n<=a.length/\a.length<sizeLine then Ud (.li (a.take n.toNat++i::a.drop n.toNat),.non)else Uc
   | _=>Uc)
  | none=>Uc)
 | none=>Uc
private def pv(s:T)(ts:!T):↑(T×I):=l2 (D7 s) ts
def re:fS K pP pv:=by
 intro H w vs s P S i G F Q f h M o e q;unfold pv at e;have k:=mf e;clear e;have(J,N,rfl,e):=k;have(y,z,p,L,rfl,j,u,rfl):=Ji h;unfold D7 at e;ext e C m;cases lZ m;have(a,l,rfl,g,c,rfl):=oz f λa A=>o a (yaL _ A);ext e n r;cases dS r;ext e;have(d,e):=bn e;cases e;have B:=aY ⟨p,j⟩;subst B;show{a,l,n,z,Xr,Xr,g,d.1,by rw[c.length];show d.2.1,by rw[c.length];show d.2.2,nu g ((c.take _).append (.cons (bE u).1 (c.drop _))) dy q}
def wK(H:Hp)(x:V)(a:T)(ts:!T)(r:T×I)(h:Rpx K H a x)(e:pv a ts*>r):tyV K "list" x H:=by
 unfold pv at e;have(t,u,_,e):=mf e;unfold D7 at e;ext e d c;cases lZ c;show Af h
private def zU(s:T)(n:T)(v:T):↑T:=match s,n,v with
 | .li a,.im (.int n),.im i=>match ixN a.length n with
  | some j=>Ud (.li (a.set j i))
  | none=>Uc
 | _,_,_=>Uc
private def qL(j:Nat)(o i:ME):MG:={λr O=>match r with
 | ⟨.ow,c⟩=>match o.run O with
  | some (⟨.vw (Ud e) (Ud p),s⟩,d)=>match i.run d with
   | some (g,a)=>if(decide (e=j) &&  ~~~i.mu.contains j)=Ug then(match zU s g.t c with
    | some f=>(match a[j]? with
     | some (Ud ⟨k,t⟩)=>if k.isOw=Ug then Ud ((aB [j] a).set j (Ud {k,t.put p f}))else Uc
     | _=>Uc)
    | none=>Uc)else Uc
   | none=>Uc
  | _=>Uc
 | _=>Uc,(o.mu++i.mu)++[j]}
def p7.set'(a:RpI K H i w)(n:Nat)(h:p7 K H is xs):p7 K H (is.set n i) (xs.set n w):=p7.set a n h
def Ci(ho:aZ K to o)(hi:aZ K ti i):j3 K (D3 to ti Dq) (qL j o i):=by
 intro Γ H O Z E Q v r O' u c S q;dsimp[qL]at c q;ext c C;ext c j' p s L e1;ext c A O2 e2;ext c l;rw[Jv,decide_eq_true_eq,Kf]at l;have(rfl,g):=l;ext c s' d;ext c k t e4;ext c hw;cases c;show ho Γ H O Z _ _ _ _ u e1 S λx U S1=>?_;show hi Γ U L Z _ _ _ _ u e2 S1 λy Y f=>?_;have k1:aF i.mu {Uc,x,{.vw (Ud j') (Ud p),s}}=Ug:=by unfold aF;dsimp[Kd.root];rw[g];rfl
 have J:∀M:!Nat,aF M {Uc,v,{.ow,C}}=Ug:=λM=>rfl;rw[aK k1,ah,aK (J _)]at f;have ry:=f.rd ymS;have S3:=f.drop rfl;have(G,F,h1,h2,h3,h4,P):=Sim.mut (vs:=[v]) (ts:=[C]) (S3.perm (List.Perm.swap _ _ _)) rfl e4 hw;generalize h:A.t=tri at d;unfold zU at d;ext d is n i0;ext d m hm;cases d;have(a,xs,rfl,w,B,rfl):=oz h1 λa ha=>h4 a (yaL _ ha);have(z,ez,g3):=wt h2;cases ez;have(g4,rfl):=bE g3;have e:∃F,Rp Γ.K Y A.t y F:=ry;have ey:y=.int n:=by rw[h]at e;show aY e
 subst ey;show{a,xs,n,m,Xr,Xr,w,by rw[B.length];show hm,?_};show nu (Q:=λ_ H'=>Q Z H') (F:=[]) (v:=.non) (i:=.non) w (B.set' g4 m) dy λv' H' G' a1 a2 a3 X N _=>q Z H' ?_;have:=P H' _ G' a1 a2 a3 X N;rw[ah]at this;show this
end
section
variable {Γ:Gm}{H H':Hp}{O:Rho}{Z:St}{E:!En}{v x y:V}{t:T}{K:yF}{Q:VK}
def kf(h:∀j∈N,j∈M)(k:aF M e=Ug):aF N e=Ug:=by
 unfold aF at k|-;split at k
 .delta j a;dsimp[Kf,KJ,decide_eq_false_iff_not]at k|-;show λz=>k (h j z)
 .rfl
def ff(h:∀j∈N,j∈M)(E:!En):aj N (aj M E)=aj M E:=by
 unfold aj;rw[La];intro e a;show kf h (JD.mp a).2
abbrev itW(c:MT) (b:MS):Nat->Rho->↑(Fl×Rho)
 | 0,_=>Uc
 | n+1,O=>match c.run O with
  | some (Ug,d)=>(match b.run d with
   | some (.nx,a)=>itW c b n a
   | some (.ct,a)=>itW c b n a
   | some (.bk,a)=>Ud (.nx,a)
   | some (.rt t,a)=>Ud (.rt t,a)
   | none=>Uc)
  | some (Ue,d)=>Ud (.nx,d)
  | none=>Uc
def gy:∀{n:Nat} {O:Rho} {r:Fl×Rho},itW c b n O*>r->∀m,n<=m->itW c b m O*>r
 | 0,_,_,h,_,_=>by cases h
 | n+1,O,r,h,m,f=>by
  obtain⟨a,rfl⟩:∃a,m=a+1:={m-1,by omega};rw[itW]at h|-;split at h
  .delta g i;split at h;delta d e;show gy h a ⋯;delta d e;show gy h a ⋯;show h;show h;show h
  .show h
  .show h
abbrev Aj(c:MT) (b:MS) (O:Rho):↑(Fl×Rho):=@dite _ (∃n,(itW c b n O).isSome=Ug) (Classical.propDecidable _) (λh=>itW c b (Qg h) O) (λ_=>Uc)
private def iu(c:MT)(b:MS):MS:={Aj c b,c.mu++b.mu}
def wM(h:itW c b n O*>r):(iu c b).run O*>r:=by unhygienic
 have d:∃n,(itW c b n O).isSome=Ug:={n,by rw[h];rfl};change Aj c b O=_;unfold Aj;rw[dif_pos d];have f:=Classical.choose_spec d;cases e:itW c b (Qg d) O with
 | none=>rw[e]at f;cases f
 | some i=>
  have a:=gy h (max n (Qg d)) (MB _ _);have g:=gy e (max n (Qg d)) (Mm _ _);rw[a]at g;show g.symm
def Aw(h:(iu c b).run O*>r):∃n,itW c b n O*>r:=by unhygienic
 have a:Aj c b O*>r:=h;unfold Aj at a;split at a;show{_,a};cases a
def wp(L:fO K tc c)(s:f8 K tb b):f8 K (Ab tc tb) (iu c b):=by unhygienic
 intro Γ H O Z E D f B r X Y S q;have(n,U):=Aw Y;have qe:(iu c b).mu=c.mu++b.mu:=rfl;rw[qe]at q;have z:aj c.mu (aj (c.mu++b.mu) E)=aj (c.mu++b.mu) E:=ff (λj w=>yaL _ w) E;have u:aj b.mu (aj (c.mu++b.mu) E)=aj (c.mu++b.mu) E:=ff (λj w=>yaR _ w) E;have a:=cv (M:=c.mu++b.mu) X;have N:=S.weak (c.mu++b.mu);generalize aj (c.mu++b.mu) E=E0 at q z u a N;show{λm Z H=>∃O,itW c b m O*>(f,B)/\Sim Γ H O Z E0,⟨n,O,U,N⟩,?_}
 .rintro m i G ⟨C,d,J⟩;cases m with
  | zero=>cases d
  | succ m=>
   rw[itW]at d;split at d
   .delta o A;show L Γ G C i E0 _ Ug o r A J λp h=>qD ?_;rw[z]at h;show{λl H'=>∃O,itW c b m O*>(f,B)/\Sim Γ H' O l E0,λl H' ⟨g,P,e⟩=>{m,LA m,g,P,e},?_};split at d
    .delta g k;show s Γ p o i E0 _ .nx g r a k h λl H' e=>{g,d,by rw[u]at e;show e}
    .delta g k;show s Γ p o i E0 _ .ct g r a k h λl H' e=>{g,d,by rw[u]at e;show e}
    .delta g k;cases d;show s Γ p o i E0 _ .bk _ r a k h λl H' e=>q l H' (by rw[u]at e;show e)
    .delta t g k;cases d;show s Γ p o i E0 _ (.rt t) _ r a k h q
    .cases d
   .delta o A;cases d;show L Γ G C i E0 _ Ue _ r A J λp h=>qC (q i p (by rw[z]at h;show h))
   .cases d
structure MI where
 run:Rho->↑((!R×!R)×Rho)
 mu:!Nat
abbrev f9(Γ:Gm)(J:It)(vs:!V)(a:!R)(items:!R):Prop:=∀(H:Hp) (O:Rho) (Z:St) (E:!En),Sim Γ H O Z (ens vs a++E)->(∀i,items.length<=i->J.stop i H)/\∀i r,items[i]?*>r->J.go i H/\∀x H',J.yld i H x H'->Sim Γ H' O Z (⟨Uc,x,r⟩::(ens vs a++E))
abbrev lg(K:yF)(g:TI)(m:MI):Prop:=∀(Γ:Gm) (H:Hp) (O:Rho) (Z:St) (E:!En) (e:It->Hp->Prop) (a:!R) (c:!R) (f:Rho),Γ.K=K->m.run O*>((a,c),f)->Sim Γ H O Z E->(∀d:Gm,d.K=Γ.K->(∀H O Z E,Sim d H O Z E->Sim Γ H O Z E)->∀J vs H',vs.length=a.length->Sim d H' f Z (ens vs a++aj m.mu E)->f9 d J vs a c->e J H')->g Z H e
def cM:∀{A:!En},(∀e∈A,aF M e=Ug)->aj M A=A
 | [],_=>rfl
 | e::A,h=>by rw[aK (h e ymS),cM λx a=>h x (ymC _ a)]
def jG:∀{vs:!V} {rs:!R},rs.all (aM M)=Ug->∀e∈ens vs rs,aF M e=Ug
 | [],rs,_,e,h=>by cases rs<;>cases h
 | _::_,[],_,e,h=>by cases h
 | v::vs,r::rs,a,e,h=>by
  rw[Ll,Jv]at a;rcases ycM h with rfl|h;show a.1;show jG a.2 e h
def qv:∀{vs:!V} {rs:!R},∀e∈ens vs rs,e.key=Uc
 | [],rs,e,h=>by cases rs<;>cases h
 | _::_,[],e,h=>by cases h
 | v::vs,r::rs,e,h=>by
  rcases ycM h with rfl|h;rfl;show qv e h
abbrev mT(n:Int):R:={.ow,.im (.int n)}
abbrev sY:R:={.ow,.im .non}
abbrev jw(lo:Int) (n:Nat):!R:=(JE n).map λi:Nat=>mT (lo+(i:Int))
def rT{lo:Int}{n:Nat}:f9 Γ (Itr lo n) [.non] [sY] (jw lo n):=λH O Z E S=>by
 show{λi f=>(show n<=i by simpa[jw]using f),λi r a=>?_};unfold jw at a;rw[JB]at a;cases e:(JE n)[i]? with
 | none=>rw[e]at a;cases a
 | some m=>
  rw[e]at a;cases a;have(d,c):=Js.mp e;simp at d c;subst c;show{d,λx H' y=>?_};have(rfl,rfl):=y;show S.imm (le rfl)
abbrev ii2(x y:T):↑(Int×Int):=match isI x with
 | some i=>(match isI y with
  | some j=>Ud (i,j)
  | none=>Uc)
 | none=>Uc
def A2{x y:T}{i j:Int}(h:ii2 x y*>(i,j)):x=.im (.int i)/\y=.im (.int j):=by
 unfold ii2 at h;ext h a d;ext h b c;cases h;show{dS d,dS c}
private def bp(a:MA):MI:={λO=>match a.run O with
 | some (c,d)=>(match l1 isI (c.map (·.t))with
  | some j=>if -(2^62)<=j/\j<2^62 then Ud (([sY],jw 0 j.toNat),d)else Uc
  | none=>Uc)
 | none=>Uc,a.mu}
private def g8(a:MA):MI:={λO=>match a.run O with
 | some (c,d)=>(match l2 ii2 (c.map (·.t))with
  | some (i,j)=>if -(2^62)<=i/\i<2^62/\-(2^62)<=j/\j<2^62 then Ud (([sY],jw i (j-i).toNat),d)else Uc
  | none=>Uc)
 | none=>Uc,a.mu}
def zI(r:hR K ta a):lg K (C3 ta) (bp a):=by unhygienic
 intro Γ H O Z E G i d A p c S q;dsimp[bp]at c;ext c B C u;ext c j s;have(f,e):=bn c;cases e;have(t,k,l):=cJ s;cases dS l;show r Γ H O Z E _ _ _ p u S λvs m o g=>?_;have h:=g.rds o;rw[k]at h;have(w,rfl,z):=jV h;show{j,by rw[aY z],f.1,f.2,q Γ rfl (λ_ _ _ _ S=>S) _ [.non] m rfl ?_ rT};show g.drops.imm dy
def zJ(z:hR K ta a):lg K (C4 ta) (g8 a):=by unhygienic
 intro Γ H O Z E N h d G s c S q;dsimp[g8]at c;ext c J L B;ext c i j A;have(l,e):=bn c;cases e;have(t,u,k,m):=mf A;have(rfl,rfl):=A2 m;show z Γ H O Z E _ _ _ s B S λvs o r f=>?_;have g:=f.rds r;rw[k]at g;have(w,M,rfl,C,p):=FM g;show{i,j,by rw[aY C,aY p],l,q Γ rfl (λ_ _ _ _ S=>S) _ [.non] o rfl ?_ rT};show f.drops.imm dy
abbrev jm:R->Option !R
 | ⟨_,.li a⟩=>Ud (a.map λi=>{.ow,.im i})
 | ⟨.vw d _,.lst c⟩=>Ud (c.map (partV d))
 | ⟨_,.im (.ls a)⟩=>Ud (a.map λi=>{.ow,.im i})
 | _=>Uc
abbrev l5:R->Option !R
 | ⟨_,.im (.tup a)⟩=>Ud (a.map λi=>{.ow,.im i})
 | _=>Uc
abbrev xO(a:ME):MI:={λO=>match a.run O with
 | some (r,d)=>(match jm r with
  | some c=>Ud (([r],c),d)
  | none=>Uc)
 | none=>Uc,a.mu}
abbrev Ek(a:ME):MI:={λO=>match a.run O with
 | some (r,d)=>(match l5 r with
  | some c=>Ud (([r],c),d)
  | none=>Uc)
 | none=>Uc,a.mu}
def Rd.det(h:Rd H a (.lst xs))(g:Rd H a (.lst ys)):xs=ys:=by
 rcases h with h|⟨o,h⟩<;>rcases g with g|⟨c,g⟩<;>rw[h]at g<;>cases g<;>rfl
def ay{d c:Type}{f : d->c}{l:!d}{i:Nat}{b : c}(h:(l.map f)[i]?*>b):∃a,l[i]?*>a/\f a=b:=by
 rw[JB]at h;cases e:l[i]? with
 | none=>rw[e]at h;cases h
 | some a=>rw[e]at h;show{a,Xr,JT.inj h}
def Sim.partV(S:Sim Γ H O Z E)(c:e∈E)(ho:e.r.k=.vw ro p)(f:∀F,Rp Γ.K H e.r.t e.v F->∃G,Rp Γ.K H s w G/\∀a∈G,a∈F):Sim Γ H O Z ({Uc,w,L2.partV ro s}::E):=by
 cases s with
 | im i=>
  have(F,r):=S.rd c;have(G,g,_):=f F r;show S.imm (bE g).1
 | _=>
  have(d,l,j):=S.part c ho (P:=λd=>d=w) (s:=_) (λF r=>let ⟨G,g,h⟩:=f F r;⟨w,G,Xr,g,h⟩);subst l;show j
def Gh{a:Addr}{f:R}{items:!R}(d:jm f*>items):f9 Γ (Itl Γ.K a) [.ref a] [f] items:=λH O Z E S=>by
 replace S:Sim Γ H O Z ({Uc,.ref a,f}::E):=S;have C:Rpx Γ.K H f.t (.ref a):=S.rd (e:={Uc,.ref a,f}) ymS;unfold jm at d;split at d
 .cases d;have(L,g,m,c,l):=bV C;cases m;show{λi d=>{g,aR c,by rw[l.length];simpa using d},λi r s=>?_};have(j,o,rfl):=ay s;have(w,k,h):=l.get o;show{{g,w,aR c,k},λx H' y=>?_};obtain⟨rfl,y⟩:=y;have:=y g (aR c);rw[k]at this;cases this;show S.imm h
 .delta Y p J;cases d;have(L,g,F,m,c,l):=iF C;cases m;show{λi d=>{g,aR c,by rw[l.length];simpa using d},λi r s=>?_};have(j,o,rfl):=ay s;have(w,A,G,B,k,h,_):=l.at o;show{{g,w,aR c,k},λx H' y=>?_};obtain⟨rfl,y⟩:=y;have:=y g (aR c);rw[k]at this;cases this;show S.partV (e:={Uc,.ref a,{.vw Y p,.lst J}}) ymS rfl λF rp=>?_;have q:Rp Γ.K _ (.lst J) (.ref a) F:=rp;rw[Rp]at q;have(a'',N,F',m,P,M,rfl):=q;cases m;have:=P.det c;subst this;have(w',A',X,B',u,z,U,_):=M.at o;rw[k]at u;cases u;show{X,z,λb hb=>by rw[U];show ymC _ (yaL _ (yaR _ hb))}
 .cases d;have(L,g,m,c,l):=oM C;cases m;show{λi d=>{g,aR c,by rw[l.length];simpa using d},λi r s=>?_};have(j,o,rfl):=ay s;have(w,k,h):=l.get o;show{{g,w,aR c,k},λx H' y=>?_};obtain⟨rfl,y⟩:=y;have:=y g (aR c);rw[k]at this;cases this;show S.imm h
 .cases d
def pU(u:aZ K ta a):lg K (ub K ta) (xO a):=by
 intro Γ H O Z E C m j z o g S q;dsimp[xO]at g;ext g d B w;ext g A h;cases g;show u Γ H O Z E _ _ _ o w S λx i l=>?_;have k:Rpx Γ.K i d.t x:=l.rd (e:=⟨Uc,x,d⟩) ymS;have s:∃a c,x=.ref a/\SqL K i a c:=by
  unfold jm at h;split at h;have(a,c,e,f,p):=bV k;show{a,c,e,aR f};have(a,c,F,e,f,p):=iF k;show{a,c,e,aR f};have(a,c,e,f,p):=oM k;show{a,c,e,aR f};cases h
 have(b,c,rfl,r):=s;show{b,Xr,⟨c,r⟩,q Γ rfl (λ_ _ _ _ S=>S) _ [.ref b] i rfl l (by rw[<-o];show Gh h)}
def Gi{a:Addr}{c:R}{items:!R}(d:l5 c*>items):f9 Γ (Itt Γ.K a) [.ref a] [c] items:=λH O Z E S=>by
 replace S:Sim Γ H O Z ({Uc,.ref a,c}::E):=S;have q:Rpx Γ.K H c.t (.ref a):=S.rd (e:={Uc,.ref a,c}) ymS;unfold l5 at d;ext d;cases d;have(s,h,o,g,k):=bX q;cases o;show{λi d=>{h,g,by rw[k.length];simpa using d},λi r p=>?_};have(j,m,rfl):=ay p;have(w,l,f):=k.get m;show{⟨h,w,g,l⟩,λx H' y=>?_};obtain⟨rfl,y⟩:=y;have:=y h g;rw[l]at this;cases this;show S.imm f
def Ca(r:aZ K ta a):lg K (A1 K ta) (Ek a):=by
 intro Γ H O Z E C m j w i f S q;dsimp[Ek]at f;ext f c A s;ext f z g;cases f;show r Γ H O Z E _ _ _ i s S λx h l=>?_;have u:Rpx Γ.K h c.t x:=l.rd (e:=⟨Uc,x,c⟩) ymS;have p:∃a d,x=.ref a/\SqT K h a d:=by
  unfold l5 at g;split at g;have(a,d,e,k,B):=bX u;rw[i]at k;show⟨a,d,e,k⟩;cases g
 have(b,d,rfl,o):=p;show{b,Xr,⟨d,o⟩,q Γ rfl (λ_ _ _ _ S=>S) _ [.ref b] h rfl l (by rw[<-i];show Gi g)}
def NW.back{Γ c:Gm}{d:Rho}{E:!En}{D:N0}{f:Fl}(bk:∀H O Z E,Sim c H O Z E->Sim Γ H O Z E)(q:NW Γ d E D f):NW c d E D f:=by
 cases f with
 | nx=>show λa H' S=>q a H' (bk _ _ _ _ S)
 | bk=>show λa H' S=>q a H' (bk _ _ _ _ S)
 | ct=>show λa H' S=>q a H' (bk _ _ _ _ S)
 | rt t=>show λv a H' S=>q v a H' (bk _ _ _ _ S)
abbrev gE(g:R->Rho->↑Rho) (b:Rho->↑(Fl×Rho)):!R->Rho->↑(Fl×Rho)
 | [],O=>Ud (.nx,O)
 | r::c,O=>match g r O with
  | some d=>(match b d with
   | some (.nx,a)=>gE g b c a
   | some (.ct,a)=>gE g b c a
   | some (.bk,a)=>Ud (.nx,a)
   | some (.rt t,a)=>Ud (.rt t,a)
   | none=>Uc)
  | none=>Uc
private def cD(it:MI)(g:MG)(b:MS):MS:={λO=>match it.run O with
 | some ((c,a),d)=>if(c.all (aM (g.mu++b.mu))&&a.all (aM (g.mu++b.mu)))=Ug then gE g.run b.run a d else Uc
 | none=>Uc,it.mu++(g.mu++b.mu)}
def B7(hi:lg K wi it)(hg:j3 K g mg)(G:f8 K tb b):f8 K (Ie wi g tb) (cD it mg b):=by
 intro Γ H O Z E D f O' o hE N S q;dsimp[cD]at N q;ext N c a O1 e1;ext N al;rw[Jv]at al;show hi Γ H O Z E _ c a O1 o e1 S λΓ X bk J vs H1 hlv S1 wk=>?_;replace o:=X.trans o;replace q:=NW.back bk q;rw[<-ah]at q;have A:=cv (M:=it.mu) hE;generalize aj it.mu E=E1 at q S1 A;have ks:∀e∈ens vs c,aF (mg.mu++b.mu) e=Ug:=jG al.1;have kg:aj mg.mu (ens vs c++aj (mg.mu++b.mu) E1)=ens vs c++aj (mg.mu++b.mu) E1:=by
  rw[aQ,cM (λe h=>kf (λj s=>yaL _ s) (ks e h)),ff (λj s=>yaL _ s)]
 have P:aj b.mu (ens vs c++aj (mg.mu++b.mu) E1)=ens vs c++aj (mg.mu++b.mu) E1:=by
  rw[aQ,cM (λe h=>kf (λj s=>yaR _ s) (ks e h)),ff (λj s=>yaR _ s)]
 have Y:=S1.weak (mg.mu++b.mu);rw[aQ,cM ks]at Y;have B:=cv (M:=mg.mu++b.mu) A;generalize aj (mg.mu++b.mu) E1=E2 at q kg P Y B;have k:∀e∈ens vs c++E2,e.key=Uc:=λe h=>by
  rcases yaM h with h|h;show qv e h;show B e h
 show{λi m Z H=>m=a.length-i/\i<=a.length/\∃O,gE mg.run b.run (a.drop i) O*>(f,O')/\Sim Γ H O Z (ens vs c++E2),{a.length,by simp,Ku _,O1,by simpa using N,Y},?_};rintro i m Z1 H2 ⟨rfl,hil,O2,d,S3⟩;have(w1,w2):=wk H2 O2 Z1 E2 S3;by_cases r:i<a.length
 .have hx:a[i]?=Ud a[i]:=by simp[r]
  have(w3,w4):=w2 i _ hx;rw[Kz r,gE]at d;show .inr {w3,λz H'=>∃O,gE mg.run b.run (a.drop (i+1)) O*>(f,O')/\Sim Γ H' O z (ens vs c++E2),λz H' ⟨p,h3,S4⟩=>{a.length-(i+1),by omega,Xr,r,p,h3,S4},λx H3 y=>?_};have S4:=w4 x H3 y;ext d p e3;show hg Γ H3 O2 Z1 _ _ x _ p o e3 S4 λL U C=>?_;rw[kg]at C;split at d
  .delta w u;show G Γ U p L _ _ .nx w o k u C λz H' l=>{w,d,by rw[P]at l;show l}
  .delta w u;show G Γ U p L _ _ .ct w o k u C λz H' l=>{w,d,by rw[P]at l;show l}
  .delta w u;cases d;show G Γ U p L _ _ .bk _ o k u C λz H' l=>q z H' (by rw[P]at l;show l.drops)
  .delta t w u;cases d;show G Γ U p L _ _ (.rt t) _ o k u C q
  .cases d
 .have e:i=a.length:=by omega
  subst e;rw[LV,gE]at d;cases d;show .inl {w1 _ (JA _),q Z1 H2 S3.drops}
end
abbrev kL(π:Nat->Nat):Kd->Kd
 | .vw (Ud j) p=>.vw (Ud (π j)) p
 | k=>k
abbrev kM(π:Nat->Nat) (r:R):R:={kL π r.k,r.t}
abbrev dw(π:Nat->Nat) (e:En):En:={e.key.map π,e.v,kM π e.r}
section
variable {Γ:Gm}{H H':Hp}{O:Rho}{Z:St}{E X:!En}{v x y:V}{t:T}{K:yF}{Q:VK}{π:Nat->Nat}
def uB(k:Kd):(kL π k).isOw=k.isOw:=by
 cases k with
 | vw a b=>cases a<;>rfl
 | _=>rfl
def oJ(k:Kd):(kL π k).root=k.root.map π:=by
 cases k with
 | vw a b=>cases a<;>rfl
 | _=>rfl
def HE.ren(S:HE Γ H X)(inj:∀e∈X,∀f∈X,∀a b,e.key*>a->f.key*>b->π a=π b->a=b):HE Γ H (X.map (dw π)):=by
 have(L,g,rfl):=S;have c:∀L:!Hd,(L.map λh:Hd=>({dw π h.e,h.F}:Hd)).flatMap Hd.own=L.flatMap Hd.own:=by
  intro L
  induction L with
  | nil=>rfl
  | cons h L m=>
   rw[Jt,JI,JI,m];congr 1;unfold Hd.own;change(if(kL π h.e.r.k).isOw=Ug then h.F else [])=_;rw[uB]
 show{L.map λh=>{dw π h.e,h.F},{by rw[c];show g.nd,by rw[c];show g.ad,λh u=>?_,λh u=>?_,?_,g.fr,g.iol},by rw[JJ,JJ];rfl}
 .have(l,w,rfl):=Jz.mp u;show g.rp l w
 .have(l,w,rfl):=Jz.mp u;have k:=g.kd l w;unfold NN at k|-;change match kL π l.e.r.k with
   | .ow=>_|.io k=>_|.vw Uc _=>_|.vw (Ud j) p=>_
  cases ek:l.e.r.k with
  | ow=>rw[ek]at k;show k
  | io n=>rw[ek]at k;show k
  | vw a p=>
   rw[ek]at k;cases a with
   | none=>rw[c];show k
   | some j=>
    have(x,P,M,N,A,C):=k;show{{dw π x.e,x.F},Kb P,by change x.e.key.map π=_;rw[M];rfl,by change(kL π x.e.r.k).isOw=Ug;rw[uB];show N,λa U=>by rw[c];show A a U,C}
 .rw[LI];have e:(λh:Hd=>h.e.key)∘(λh:Hd=>({dw π h.e,h.F}:Hd))=λh=>h.e.key.map π:=rfl;rw[e];have:∀d:!Hd,(∀h∈d,h∈L)->(d.filterMap λh=>h.e.key).Nodup->(d.filterMap λh=>h.e.key.map π).Nodup:=by
   intro d
   induction d with
   | nil=>intro _ _;show Le
   | cons h d m=>
    intro q i;rw[JY]at i|-;cases ek:h.e.key with
    | none=>rw[ek]at i;show m (λx s=>q x (ymC _ s)) i
    | some a=>
     rw[ek]at i;have(J,G):=JS.mp i;show JS.mpr {λB=>?_,m (λx s=>q x (ymC _ s)) G};have(y,z,o):=Kh.mp B;cases eb:y.e.key with
     | none=>rw[eb]at o;cases o
     | some b=>
      rw[eb]at o;have Y : π b=π a:=JT.inj o;have:=inj y.e (Kb (q y (ymC _ z))) h.e (Kb (q h ymS)) b a eb ek Y;subst this;show J (Kh.mpr ⟨y,z,eb⟩)
  show this L (λ_ h=>h) g.ks
def HE.filt(S:HE Γ H X)(p:En->Bool)(o:∀e∈X,p e=Ug->∀j,e.r.k.root*>j->∀f∈X,f.key*>j->p f=Ug):HE Γ H (X.filter p):=by
 have(L,g,rfl):=S;show{L.filter λh=>p h.e,g.sub Kn λh m j i x a l q=>?_,by rw[Lu];rfl};have(c,d):=JD.mp m;show JD.mpr {a,o h.e (Kb c) d j i x.e (Kb a) l}
def ents_iff:e∈aL 0 Z O ↔ ∃i,e.key*>i/\O[i]?*>(Ud e.r)/\Z[i]?*>(Ud e.v):=by
 constructor
 .intro h;have(i,d,a,c):=dW h;show{i,by rw[d,Ke],a,c}
 .rintro⟨i,d,a,c⟩;have:=(bP (k:=0) c a).mem_iff.mpr ymS;have f:e={Ud (0+i),e.v,e.r}:=by cases e;dsimp[En.mk.injEq,and_self,and_true,Ke];show d
  rw[f];show this
def ph:∀{k:Nat} {Z:! ↑V} {O:Rho},(aL k Z O).Pairwise λa b=>∃i j,a.key*>i/\b.key*>j/\i<j
 | _,[],_=>List.Pairwise.nil
 | _,x::_,[]=>by cases x<;>show List.Pairwise.nil
 | k,x::Z,y::O=>by
  have c:=ph (k:=k+1) (Z:=Z) (O:=O);cases x with
  | none=>simpa[aL]using c
  | some v=>
   cases y with
   | none=>simpa[aL]using c
   | some r=>
    dsimp[aL];show List.Pairwise.cons (λb e=>?_) c;have(i,d,_,_):=dW e;show{k,k+1+i,Xr,d,by lia}
def ents_nodup:(aL k Z O).Nodup:=by
 show List.Pairwise.imp ?_ ph;rintro a b ⟨i,j,d,c,e⟩ rfl;rw[d]at c;cases c;lia
abbrev cr(fr:! ↑Nat) (j:Nat):Bool:=match fr[j]? with
 | some (Ud i)=>i==j
 | _=>Ue
abbrev piF(fr:! ↑Nat) (j:Nat):Nat:=if cr fr j=Ug then j else fr.length+j
abbrev psF(fr:! ↑Nat) (k:Nat):Nat:=if k<fr.length then k else k-fr.length
abbrev ll(π:Nat->Nat):Nat->! ↑Nat->Rho->Rho
 | _,[],_=>[]
 | k,o::a,r::O=>(if o*>k then r.map (kM π)else Uc)::ll π (k+1) a O
 | k,o::a,[]=>Uc::ll π (k+1) a []
abbrev inR(fr:! ↑Nat) (O:Rho):Rho:=ll (piF fr) 0 fr O
abbrev jf(d : Nat->Nat) (c a:!Nat):Nat->! ↑Nat->Rho->Rho->Rho
 | k,o::g,f::e,r::O=>(if o*>k then(cT c f).map (kM d)else cT a r)::jf d c a (k+1) g e O
 | _,[],_,O=>O.map (cT a)
 | _,_::_,[],O=>O.map (cT a)
 | _,_::_,_::_,[]=>[]
abbrev tgF(fr:! ↑Nat):!Nat:=(JE fr.length).filter λi=> ~~~cr fr i
abbrev muF(fr:! ↑Nat) (a:!Nat):!Nat:=a.filter (cr fr)
abbrev dF(fr:! ↑Nat) (c:!Nat) (a O:Rho):Rho:=jf (psF fr) (tgF fr) (muF fr c) 0 fr a O
def capB_iff:cr fr j=Ug↔fr[j]?*>(Ud j):=by
 unfold cr;split;delta i h;rw[h];simp
 .delta h;constructor;intro z;cases z;intro z;show absurd z (h j)
def lV:∀{k:Nat} {fr:! ↑Nat} {O:Rho} {i:Nat} {a:R},(ll π k fr O)[i]?*>(Ud a)↔fr[i]?*>(Ud (k+i))/\∃r,O[i]?*>(Ud r)/\a=kM π r
 | k,[],O,i,a=>by simp[ll]
 | k,o::fr,[],0,a=>by simp[ll]
 | k,o::fr,[],i+1,a=>by
  rw[ll,Ko,lV (k:=k+1) (fr:=fr) (O:=[]) (i:=i)];simp
 | k,o::fr,r::O,0,a=>by
  rw[ll,K7,K7,K7];by_cases h:o*>k
  .subst h;rw[if_pos rfl];cases r with
   | none=>simp
   | some r=>simp[eq_comm]
  .rw[if_neg h];constructor;intro z;cases z;rintro⟨c,_⟩;show absurd (by exists c) h
 | k,o::fr,r::O,i+1,a=>by
  rw[ll,Ko,Ko,Ko,lV (k:=k+1) (fr:=fr) (O:=O) (i:=i),show k+1+i=k+(i+1) by lia]
def jK:∀{k:Nat} {fr:! ↑Nat} {O:Rho},(ll π k fr O).length=fr.length
 | k,[],O=>rfl
 | k,o::fr,[]=>by rw[ll,JH,jK,JH]
 | k,o::fr,r::O=>by rw[ll,JH,jK,JH]
def inR_get:(inR fr O)[i]?*>(Ud r')↔cr fr i=Ug/\∃r,O[i]?*>(Ud r)/\r'=kM (piF fr) r:=by
 unfold inR;rw[lV,Ke,capB_iff]
def jL(h:cr fr i=Ug):(bG fr Z)[i]?*>(Z.getD i Uc):=by
 unfold bG;rw[JB,capB_iff.mp h];rfl
def getD_some:Z.getD i Uc*>v↔Z[i]?*>(Ud v):=by
 rw[JO];cases h:Z[i]? with
 | none=>simp
 | some o=>simp
def eY(h:cr fr j=Ug):piF fr j=j:=by unfold piF;rw[if_pos h]
def dg(h:cr fr j=Ue):piF fr j=fr.length+j:=by unfold piF;rw[if_neg (by rw[h];simp)]
def bY(h:cr fr j=Ug):j<fr.length:=(Js.mp (capB_iff.mp h)).1
def BJ(h:piF fr a=piF fr b):a=b:=by
 cases ha:cr fr a<;>cases hb:cr fr b;rw[dg ha,dg hb]at h;lia;rw[dg ha,eY hb]at h;have:=bY hb;lia;rw[eY ha,dg hb]at h;have:=bY ha;lia;rw[eY ha,eY hb]at h;show h
def yX(a:Nat):psF fr (piF fr a)=a:=by
 cases ha:cr fr a;rw[dg ha];unfold psF;rw[if_neg (by lia)];lia;rw[eY ha];unfold psF;rw[if_pos (bY ha)]
def pV(e:En):dw (psF fr) (dw (piF fr) e)=e:=by
 obtain⟨c,v,⟨k,t⟩⟩:=e;have f:(c.map (piF fr)).map (psF fr)=c:=by cases c<;>simp[yX]
 have d:kL (psF fr) (kL (piF fr) k)=k:=by
  cases k with
  | vw a p=>cases a<;>simp[kL,yX]
  | _=>rfl
 change({(c.map (piF fr)).map (psF fr),v,{kL (psF fr) (kL (piF fr) k),t}}:En)=_;rw[f,d]
abbrev gq(fr:! ↑Nat) (e:En):Bool:=match e.key with
 | some j=>cr fr j
 | none=>Ue
def kq{c p:Type}{f : c->p}{l:!c}(h:l.Nodup)(inj:∀a∈l,∀b∈l,f a=f b->a=b):(l.map f).Nodup:=by
 induction l with
 | nil=>show Le
 | cons a l m=>
  have(j,g):=JS.mp h;rw[Jt];show JS.mpr {λk=>?_,m g λx i y o=>inj x (ymC _ i) y (ymC _ o)};have(b,d,e):=Jz.mp k;have:=inj b (ymC _ d) a ymS e;subst this;show j d
def inn_perm{fr:! ↑Nat}:((aL 0 Z O).map (dw (piF fr))).Perm (aL 0 (bG fr Z) (inR fr O)++((aL 0 Z O).filter λe=> ~~~gq fr e).map (dw (piF fr))):=by
 have inj:∀a∈aL 0 Z O,∀b∈aL 0 Z O,dw (piF fr) a=dw (piF fr) b->a=b:=λa _ b _ h=>by
  have:=congrArg (dw (psF fr)) h;rwa [pV,pV]at this
 have m:=kq (ents_nodup (k:=0) (Z:=Z) (O:=O)) inj;have B:(((aL 0 Z O).filter λe=> ~~~gq fr e).map (dw (piF fr))).Nodup:=m.sublist (Kn.map _);show(Mb m (Jy.mpr {ents_nodup,B,?_})).mpr λe=>?_
 .rintro a P b L rfl;have(i,s,w,u):=ents_iff.mp P;have(c,_):=inR_get.mp w;have(f,g,rfl):=Jz.mp L;have(z,d):=JD.mp g;have(j,p,J,G):=ents_iff.mp z;have M:cr fr j=Ue:=by unfold gq at d;rw[p]at d;exists d
  have q:(f.key.map (piF fr))*>i:=s;rw[p]at q;have l:piF fr j=i:=by exists q
  rw[dg M]at l;have:=bY c
  lia
 .rw[Mx];constructor
  .intro o;have(f,g,rfl):=Jz.mp o;have(j,p,J,G):=ents_iff.mp g;cases c:cr fr j;show .inr (Jz.mpr {f,JD.mpr {g,by unfold gq;rw[p];simp[c]},Xr})
   .left;show ents_iff.mpr {j,?_,inR_get.mpr {c,_,J,Xr},?_}
    .change f.key.map (piF fr)=_;rw[p];simp[eY c]
    .rw[jL c,getD_some.mpr G];rfl
  .rintro(o|o)
   .have(i,s,w,u):=ents_iff.mp o;have(c,r,N,C):=inR_get.mp w;rw[jL c]at u;have A:=getD_some.mp (JT.inj u);show Jz.mpr {{Ud i,e.v,r},ents_iff.mpr ⟨i,Xr,N,A⟩,?_};cases e;simp only at s C;simp[dw,eY c,s,C]
   .have(f,g,rfl):=Jz.mp o;show Kb (JD.mp g).1
abbrev mJ(fr:! ↑Nat) (Z:St) (O:Rho) (E:!En):!En:=(E++(aL 0 Z O).filter λe=> ~~~gq fr e).map (dw (piF fr))
abbrev fQ(fr:! ↑Nat) (n:Nat):Bool:=decide (n<=fr.length)&&(JE fr.length).all λi=> ~~~cr fr i||decide (i<n)
def pi(h:fQ fr n=Ug)(a:cr fr j=Ug):j<n:=by
 unfold fQ at h;rw[Jv]at h;have:=K0.mp h.2 j (KO.mpr (bY a));rw[a]at this;exists this
def Sim.inn(S:Sim Γ H O Z E)(p:fQ fr O.length=Ug):Sim Γ H (inR fr O) (bG fr Z) (mJ fr Z O E):=by
 show{?_,λi r h=>?_,by rw[gx];unfold inR;rw[jK],λe k j l=>?_}
 .have:=S.sl.ren (π:=piF fr) λe _ f _ a b _ _ h=>BJ h;rw[JC]at this;show this.perm ?_;unfold mJ;rw[JC,JK];show(inn_perm.append_left _).trans (LU.append_left _)
 .have(d,o,m,_):=inR_get.mp h;have(v,s):=S.al i o m;show{v,by rw[jL d,getD_some.mpr s]}
 .unfold inR;rw[jK];unfold mJ at k;have(f,g,rfl):=Jz.mp k;have c:f.key.map (piF fr)*>j:=l;cases hk:f.key with
  | none=>rw[hk]at c;cases c
  | some i=>
   rw[hk]at c;have q:piF fr i=j:=by exists c
   have d:cr fr i=Ue:=by
    rcases yaM g with z|z
    .cases d:cr fr i with
     | false=>rfl
     | true=>
      have:=pi p d;have:=S.hi f z i hk
      lia
    .have:=(JD.mp z).2;unfold gq at this;rw[hk]at this;exists this
   rw[dg d]at q
   lia
def oA:∀{k:Nat} {fr:! ↑Nat} {a O:Rho} {i:Nat},i < O.length->O.length<=fr.length->fr.length=a.length->(jf ψ tg mu k fr a O)[i]?*>(if fr[i]?*>(Ud (k+i))then(cT tg (a.getD i Uc)).map (kM ψ)else cT mu (O.getD i Uc))
 | k,fr,a,[],i,h,_,_=>by cases h
 | k,[],a,r::O,i,_,h,_=>by simp at h
 | k,o::fr,[],r::O,i,_,_,h=>by cases h
 | k,o::fr,e::a,r::O,0,h,d,c=>by
  rw[jf,K7,K7];simp
 | k,o::fr,e::a,r::O,i+1,h,d,c=>by
  rw[jf,Ko,oA (k:=k+1) (by exists h) (by exists d) (by exists c),Ko,show k+1+i=k+(i+1) by lia];simp
def kz:∀{k:Nat} {fr:! ↑Nat} {a O:Rho},(jf ψ tg mu k fr a O).length=O.length
 | k,[],a,O=>by cases a<;>simp[jf]
 | k,o::fr,[],O=>by simp[jf]
 | k,o::fr,c::a,[]=>by simp[jf]
 | k,o::fr,c::a,r::O=>by rw[jf,JH,kz,JH]
def jX:i∈tgF fr↔i<fr.length/\cr fr i=Ue:=by
 unfold tgF;rw[JD,KO];simp
def killO_iff:cT M o*>r↔o*>r/\eR M r=Ug:=by
 cases o with
 | none=>simp[cT]
 | some x=>
  dsimp[cT];split
  .delta h;constructor;intro z;cases z;show⟨Xr,h⟩;rintro⟨z,_⟩;rw[z]
  .delta h;constructor;intro z;cases z;rintro⟨z,a⟩;cases z;show absurd a h
def xG(a:∀j∈mu,j<fr.length)(e:En):aF mu (dw (piF fr) e)=aF (muF fr mu) e:=by
 unfold aF;change(match (kL (piF fr) e.r.k).root with|some j=> ~~~mu.contains j|none=>Ug)=_;rw[oJ];cases e.r.k.root with
 | none=>rfl
 | some j=>
  change(~~~mu.contains (piF fr j)) =  ~~~(muF fr mu).contains j;congr 1;rw[KS];dsimp[KJ,decide_eq_true_eq,muF,JD];cases hc:cr fr j
  .rw[dg hc];constructor;intro z;have:=a _ z;lia;rintro⟨_,z⟩;cases z
  .rw[eY hc];simp
def A8(e:En):aF (tgF fr) (dw (piF fr) e)=Ug:=by
 unfold aF;change(match (kL (piF fr) e.r.k).root with|some j=> ~~~(tgF fr).contains j|none=>Ug)=_;rw[oJ];cases e.r.k.root with
 | none=>rfl
 | some j=>
  change(~~~(tgF fr).contains (piF fr j))=Ug;dsimp[KJ,Kf,decide_eq_false_iff_not,jX];rintro⟨c,a⟩;cases hc:cr fr j;rw[dg hc]at c;lia;rw[eY hc,hc]at a;cases a
def Sim.outt{fr:! ↑Nat}{B:!Nat}{U:Rho}{Z2:St}(S:Sim Γ H' U Z2 (aj B (mJ fr Z O E)))(hf:fQ fr O.length=Ug)(hmu:∀j∈B,j<fr.length)(hl : U.length=fr.length)(kp:Kp fr (bG fr Z) Z2)
  (al:∀(i:Nat) r,O[i]?*>(Ud r)->∃v,Z[i]?*>(Ud v)) (len:Z.length=O.length) (hi:∀e∈E,∀j,e.key*>j->O.length<=j):Sim Γ H' (dF fr B U O) Z (aj (muF fr B) E):=by
 have hn : O.length<=fr.length:=by unfold fQ at hf;rw[Jv,decide_eq_true_eq]at hf;show hf.1
 have val:∀{i:Nat} {w:V},cr fr i=Ug->Z2[i]?*>(Ud w)->Z[i]?*>(Ud w):=λ{i w} d h=>by
  rw[kp.2 i i (capB_iff.mp d),jL d]at h;show getD_some.mp (JT.inj h)
 have eE:aj B (mJ fr Z O E)=(aj (muF fr B) (E++(aL 0 Z O).filter λe=> ~~~gq fr e)).map (dw (piF fr)):=by
  unfold mJ aj;rw[Lu];congr 1;apply List.filter_congr;intro e _;show xG hmu e
 have s1:=(S.sl.kill (tgF fr));rw[aQ,eE]at s1;have e1:aj (tgF fr) ((aj (muF fr B) (E++(aL 0 Z O).filter λe=> ~~~gq fr e)).map (dw (piF fr)))=(aj (muF fr B) (E++(aL 0 Z O).filter λe=> ~~~gq fr e)).map (dw (piF fr)):=by
  unfold aj;rw[La];intro e C;have(f,_,rfl):=Jz.mp C;show A8 f
 rw[e1]at s1
 let p:En->Bool:=λe=>match e.key with
  | some k=> ~~~(tgF fr).contains k
  | none=>Ug
 have kout:∀f∈E++(aL 0 Z O).filter λe=> ~~~gq fr e,∀j,f.key*>j->cr fr j=Ue:=λf q j N=>by
  rcases yaM q with z|z
  .cases d:cr fr j with
   | false=>rfl
   | true=>have:=pi hf d;have:=hi f z j N;lia
  .have:=(JD.mp z).2;unfold gq at this;rw[N]at this;exists this
 have pO:∀e∈(aj (muF fr B) (E++(aL 0 Z O).filter λe=> ~~~gq fr e)).map (dw (piF fr)),p e=Ug:=λe C=>by
  have(f,q,rfl):=Jz.mp C;have hf'':=(JD.mp q).1;change(match f.key.map (piF fr)with|some k=> ~~~(tgF fr).contains k|none=>Ug)=Ug;cases P:f.key with
  | none=>rfl
  | some j=>
   have:=kout f hf'' j P;dsimp[KU,KJ,Kf,decide_eq_false_iff_not,jX];rw[dg this]
   lia
 have s2:=s1.filt p λe C _ j N f q P=>by
  change(match f.key with|some k=> ~~~(tgF fr).contains k|none=>Ug)=Ug;rw[P];have hm:e∈aj (tgF fr) (aj B (mJ fr Z O E)++aL 0 Z2 U):=by rw[aQ,eE,e1];show C
  by_cases A:j∈tgF fr;show absurd N (mF (M:=tgF fr) (i:=j) A e hm);simp[A]
 rw[MY,La.mpr pO]at s2;have s3:=s2.ren (π:=psF fr) (λe C f q a b ha hb s=>by
  have key:∀e∈(aj (muF fr B) (E++(aL 0 Z O).filter λe=> ~~~gq fr e)).map (dw (piF fr))++(aj (tgF fr) (aL 0 Z2 U)).filter p,∀a,e.key*>a->(∃j,a=fr.length+j/\cr fr j=Ue)\/cr fr a=Ug:=λe C a ha=>by
   rcases yaM C with z|z
   .left;have(g,hg,rfl):=Jz.mp z;have hg':=(JD.mp hg).1;have ha':g.key.map (piF fr)*>a:=ha;cases P:g.key with
    | none=>rw[P]at ha';cases (ha')
    | some j=>
     have d:=kout g hg' j P;rw[P]at ha';have:piF fr j=a:=by exists ha'
     show{j,by rw[<-this,dg d],d}
   .right;have(z1,z2):=JD.mp z;have(i,c,m,u):=ents_iff.mp (JD.mp z1).1;rw[ha]at c;cases (c);have G:(match e.key with|some k=> ~~~(tgF fr).contains k|none=>Ug)=Ug:=z2;rw[ha]at G;have l:a<fr.length:=by
     have:=(Js.mp m).1
     lia
    dsimp[KJ,Kf,decide_eq_false_iff_not,jX]at G;cases d:cr fr a with
    | true=>rfl
    | false=>show absurd ⟨l,d⟩ G
  rcases key e C a ha with⟨j,rfl,N⟩|N<;>rcases key f q b hb with⟨j',rfl,A⟩|A;unfold psF at s;rw[if_neg (by lia),if_neg (by lia)]at s;lia
  .unfold psF at s;rw[if_neg (by lia),if_pos (bY A)]at s;have:j=b:=by lia
   subst this;rw[N]at A;cases (A)
  .unfold psF at s;rw[if_pos (bY N),if_neg (by lia)]at s;have:j'=a:=by lia
   subst this;rw[A]at N;cases (N)
  .unfold psF at s;rw[if_pos (bY N),if_pos (bY A)]at s;show s)
 rw[JC,JJ]at s3;have e2:(aj (muF fr B) (E++(aL 0 Z O).filter λe=> ~~~gq fr e)).map (dw (psF fr)∘dw (piF fr))=aj (muF fr B) (E++(aL 0 Z O).filter λe=> ~~~gq fr e):=by
  conv=>rhs;rw[<-NF (aj (muF fr B) (E++(aL 0 Z O).filter λe=> ~~~gq fr e))]
  apply Lp;intro e _;show pV e
 rw[e2,aQ,JK]at s3;have olen:(dF fr B U O).length=O.length:=by unfold dF;show kz
 have J:∀{i:Nat} {r:R},(dF fr B U O)[i]?*>(Ud r)↔i < O.length/\((cr fr i=Ug/\∃L,U[i]?*>(Ud L)/\eR (tgF fr) L=Ug/\r=kM (psF fr) L)\/(cr fr i=Ue/\O[i]?*>(Ud r)/\eR (muF fr B) r=Ug)):=λ{i r}=>by
  by_cases l:i < O.length
  .unfold dF;rw[oA l hn hl.symm,Ke];cases d:cr fr i
   .rw[if_neg (λz=>by rw[capB_iff.mpr z]at d;cases (d))];rw[JT.injEq,killO_iff];have : O.getD i Uc*>r↔O[i]?*>(Ud r):=by
     rw[JO];cases O[i]?<;>simp
    rw[this];simp[l]
   .rw[if_pos (capB_iff.mp d)];rw[JT.injEq,JQ];constructor
    .rintro⟨L,c,m⟩;have(u,h4):=killO_iff.mp c;show{l,.inl {Xr,L,?_,h4,m.symm}};rw[JO]at u;cases h5 : U[i]? with
     | none=>rw[h5]at u;cases (u)
     | some o=>rw[h5]at u;have:o*>L:=u;rw[this]
    .rintro⟨_,⟨_,L,c,m,u⟩|⟨z,_⟩⟩;show{L,killO_iff.mpr {by rw[JO,c];rfl,m},u.symm};cases (z)
  .constructor
   .intro z;have:=(Js.mp z).1;rw[olen]at this;show absurd this l
   .rintro⟨z,_⟩;show absurd z l
 show{s3.perm (List.Perm.append_left _ ?_),λi r h=>?_,by rw[olen];show len,λe C j N=>by rw[olen];show hi e (JD.mp C).1 j N}
 .have ndA:(aj (muF fr B) ((aL 0 Z O).filter λe=> ~~~gq fr e)).Nodup:=ents_nodup.sublist (Kn.trans Kn);have inB:∀e∈(aj (tgF fr) (aL 0 Z2 U)).filter p,∃i,e.key*>i/\cr fr i=Ug/\U[i]?*>(Ud e.r)/\Z2[i]?*>(Ud e.v)/\eR (tgF fr) e.r=Ug:=λe C=>by
   have(z1,z2):=JD.mp C;have(z3,z4):=JD.mp z1;have(i,c,m,u):=ents_iff.mp z3;have G:(match e.key with|some k=> ~~~(tgF fr).contains k|none=>Ug)=Ug:=z2;rw[c]at G;have l:i<fr.length:=by
    have:=(Js.mp m).1
    lia
   dsimp[KJ,Kf,decide_eq_false_iff_not,jX]at G;show{i,c,?_,m,u,z4};cases d:cr fr i with
   | true=>rfl
   | false=>show absurd ⟨l,d⟩ G
  have ndB:(((aj (tgF fr) (aL 0 Z2 U)).filter p).map (dw (psF fr))).Nodup:=by
   show kq (ents_nodup.sublist (Kn.trans Kn)) λa ha b hb h=>?_;have(i,c,m,u,h4,_):=inB a ha;have(j,Y,g2,g3,g4,_):=inB b hb;have P:a.key.map (psF fr)=b.key.map (psF fr):=congrArg En.key h;rw[c,Y]at P;have hk':psF fr i=psF fr j:=by exists P
   unfold psF at hk';rw[if_pos (bY m),if_pos (bY g2)]at hk';subst hk';rw[u]at g3;rw[h4]at g4;cases (a);cases (b);simp only at c Y g3 g4;have e1:=JT.inj (JT.inj g3);have e2:=JT.inj (JT.inj g4);simp[c,Y,e1,e2]
  show(Mb (Jy.mpr {ndA,ndB,?_}) ents_nodup).mpr λe=>?_
  .rintro a ha b hb rfl;have(f,q,hfe):=Jz.mp hb;have(i,c,m,_):=inB f q;have P:f.key.map (psF fr)=a.key:=congrArg En.key hfe;rw[c]at P;have hk':a.key*>i:=by rw[<-P];simp[psF,bY m]
   have(y1,y2):=JD.mp (JD.mp ha).1;unfold gq at y2;rw[hk']at y2;simp[m]at y2
  .rw[Mx,ents_iff];constructor
   .rintro(C|C)
    .have(z1,z2):=JD.mp C;have(z3,z4):=JD.mp z1;have(i,c,m,u):=ents_iff.mp z3;unfold gq at z4;rw[c]at z4;show{i,c,J.mpr {(Js.mp m).1,.inr {by simpa using z4,m,z2}},u}
    .have(f,q,rfl):=Jz.mp C;have(i,c,m,u,h4,h5):=inB f q;show{i,?_,J.mpr {pi hf m,.inl ⟨m,f.r,u,h5,Xr⟩},val m h4};change f.key.map (psF fr)*>i;rw[c];simp[psF,bY m]
   .rintro⟨i,c,m,u⟩;obtain⟨l,⟨d,L,Y,g2,g3⟩|⟨d,Y,g2⟩⟩:=J.mp m
    .right;have(w,hw):=S.al i L Y;have hw':=val d hw;rw[u]at hw';have ew:e.v=w:=JT.inj (JT.inj hw');show Jz.mpr {{Ud i,w,L},JD.mpr {JD.mpr {ents_iff.mpr ⟨i,Xr,Y,hw⟩,g2},?_},?_}
     .change(~~~(tgF fr).contains i)=Ug;dsimp[KJ,Kf,decide_eq_false_iff_not,jX];rintro⟨_,z⟩;rw[d]at z;cases (z)
     .cases (e);simp only at c g3 ew;simp[dw,c,g3,ew,psF,bY d]
    .left;show JD.mpr {JD.mpr {ents_iff.mpr ⟨i,c,Y,u⟩,?_},g2};unfold gq;rw[c];simp[d]
 .obtain⟨l,⟨d,L,Y,g2,g3⟩|⟨d,Y,g2⟩⟩:=J.mp h
  .have(w,hw):=S.al i L Y;show{w,val d hw}
  .show al i r Y
end
section
variable {Γ:Gm}{H H':Hp}{O:Rho}{Z:St}{E X:!En}{v x y:V}{t:T}{K:yF}{Q:VK}
def Sim.mkL(S:Sim Γ H O Z (bf vs ts++E))(j:vs.length=ts.length)(h:H p=Uc):Sim Γ (upd H p (.lst vs)) O Z ({Uc,.ref p,{.ow,cF ts}}::E):=by
 have(F,g,k,f,l):=S.use j;have d:=NP.laid (o:=.lst vs) h;have i:p∉F:=λz=>by have(o,e,_):=f p z;rw[h]at e;cases e
 show l _ (.ref p) (cF ts) (p::F) (d.offM _) (λa c=>let ⟨o,e,_⟩:=f a c;{o,d a o e}) (JS.mpr ⟨i,k⟩) (λa c=>?_) ?_
 .rcases ycM c with rfl|c;show{.inr h,_,aA,Xr};show{.inl c,let ⟨o,e,m⟩:=f a c;{o,d a o e,m}}
 .unfold cF;split
  .delta u s;rw[pk s]at g;have(q,r):=Rps.ims.mp g;subst r;rw[Rp];show{p,vs,Xr,.inl aA,q.same d,Xr}
  .rw[Rp];show{p,vs,F,Xr,.inl aA,g.same d,Xr}
def kS:∀{vs:!V} {ts:!T},vs.length=ts.length->bf (vs++[v]) (ts++[t])=bf vs ts++[{Uc,v,{.ow,t}}]
 | [],[],_=>rfl
 | a::vs,b::ts,h=>by
  rw[J3,J3,bf,bf,kS (by exists h),J3]
 | [],_::_,h=>by cases h
 | _::_,[],h=>by cases h
def jn:∀{vs:!V} {ts:!T},aj M (bf vs ts)=bf vs ts
 | [],ts=>by cases ts<;>rfl
 | a::vs,[]=>rfl
 | a::vs,b::ts=>by rw[bf,aK rfl,jn]
abbrev cS(fr:! ↑Nat) (M:!Nat) (g:MG) (c:MT) (e:ME):!R->Rho->!T->↑(!T×Rho)
 | [],O,a=>Ud (a,O)
 | r::f,O,a=>match g.run (kM (piF fr) r) (inR fr O)with
  | some i=>(match c.run i with
   | some (Ug,d)=>(match e.run d with
    | some (⟨.ow,t⟩,h)=>cS fr M g c e f (dF fr M h O) (a++[t])
    | _=>Uc)
   | some (Ue,d)=>cS fr M g c e f (dF fr M d O) a
   | none=>Uc)
  | none=>Uc
def i3:mJ fr Z O (e::E)=dw (piF fr) e::mJ fr Z O E:=rfl
def jT:(dF fr M Oi O).length=O.length:=kz
def u6(hK : Γ.K=K)(wk:f9 Γ J vs srcs items)(hgk:fR fr g)(hg:j3 K g mg)(hc:fO K tc c)(he:aZ K te e)(hM:M=mg.mu++(c.mu++e.mu))
  (hmu:∀j∈M,j<fr.length) (ks:∀e∈ens vs srcs,aF (muF fr M) e=Ug) {o:!En} (kE:aj (muF fr M) o=o) {k:!T} {OF:Rho} {acc0:!V} {ts0:!T} (hl0:acc0.length=ts0.length) (hz:acc0.length+items.length<sizeLine)
  (hf:fQ fr O.length=Ug) (S:Sim Γ H O Z (ens vs srcs++(bf acc0 ts0++o))) (hr:cS fr M mg c e items O ts0*>(k,OF))
  (q:∀a H',a.length=k.length->a.length<=acc0.length+items.length->OF.length=O.length->Sim Γ H' OF Z (ens vs srcs++(bf a k++o))->N a H'):Gq J (bG fr Z) g tc te acc0 H N:=by
 have kE2:∀a f,aj (muF fr M) (ens vs srcs++(bf a f++o))=ens vs srcs++(bf a f++o):=λa f=>by rw[aQ,cM ks,aQ,jn,kE]
 show{λi m a H=>m=items.length-i/\i<=items.length/\a.length<=acc0.length+i/\∃h f,cS fr M mg c e (items.drop i) h f*>(k,OF)/\a.length=f.length/\h.length=O.length/\Sim Γ H h Z (ens vs srcs++(bf a f++o)),{items.length,by simp,Ku _,by omega,O,ts0,by simpa using hr,hl0,Xr,S},?_};rintro i m a H1 ⟨rfl,hil,hal,h,f,p,hl,hO,r⟩;show{by omega,?_};have(w1,w2):=wk H1 h Z _ r;by_cases L:i<items.length
 .have hx:items[i]?=Ud items[i]:=by simp[L]
  have(w3,w4):=w2 i _ hx;rw[Kz L,cS]at p;show .inr {w3,λd H'=>d.length<=acc0.length+(i+1)/\∃h f,cS fr M mg c e (items.drop (i+1)) h f*>(k,OF)/\d.length=f.length/\h.length=O.length/\Sim Γ H' h Z (ens vs srcs++(bf d f++o)),λd H' ⟨ha,G,ts3,h3,hl3,hO3,S3⟩=>{items.length-(i+1),by omega,Xr,L,ha,G,ts3,h3,hl3,hO3,S3},λx H2 y=>?_};have S2:=w4 x H2 y;have u:fQ fr h.length=Ug:=by rw[hO];show hf
  have S3:=S2.inn u;rw[i3]at S3;ext p O2 e2;show hgk x (bG fr Z) H2 (λP H3=>Kp fr (bG fr Z) P->_) _ (λP H3 z Y=>z Y) ?_;show hg Γ H2 (inR fr h) (bG fr Z) _ _ x _ O2 hK e2 S3 λP H3 S4 Y=>?_;split at p
  .delta G e3;show hc Γ H3 O2 P _ _ Ug G hK e3 S4 λH4 S5=>qD ?_;ext p t O4 e4;show he Γ H4 G P _ _ _ O4 hK e4 S5 λw H5 l=>?_;rw[ah,ah]at l;rw[<-hM]at l;have S7:Sim Γ H5 O4 P (aj M (mJ fr Z h ({Uc,w,{.ow,t}}::(ens vs srcs++(bf a f++o))))):=by
    rw[i3,aK (show aF M (dw (piF fr) {Uc,w,{.ow,t}})=Ug from rfl)];show l
   have s : O4.length=fr.length:=by rw[<-l.len,Y.1,gx]
   have S8:=S7.outt u hmu s Y r.al r.len (λe' U j hj=>by
    rcases ycM U with rfl|U;cases hj;show r.hi e' U j hj)
   rw[aK (show aF (muF fr M) {Uc,w,{.ow,t}}=Ug from rfl),kE2]at S8;show{by simp;omega,_,_,p,by simp[hl],by rw[jT,hO],?_};rw[kS hl,JK];show S8.perm ?_;have pp:∀(A B C:!En) (x:En),(x::(A++(B++C))).Perm (A++(B++(x::C))):=λA B C x=>by
    rw[<-JK,<-JK];show Ka.symm
   show pp _ _ _ _
  .delta G e3;show hc Γ H3 O2 P _ _ Ue G hK e3 S4 λH4 S5=>qC ?_;have l:=S5.weak e.mu;rw[ah,ah]at l;rw[<-hM]at l;have s : G.length=fr.length:=by rw[<-l.len,Y.1,gx]
   have S8:=l.outt u hmu s Y r.al r.len r.hi;rw[kE2]at S8;show{by omega,_,_,p,hl,by rw[jT,hO],S8}
  .cases p
 .have ei:i=items.length:=by omega
  subst ei;rw[LV,cS]at p;cases p;show .inl {w1 _ (JA _),q a H1 hl hal hO r}
abbrev fV(M:!Nat) (n:Nat):Bool:=M.all λj=>decide (j<n)
def qJ(h:fV M n=Ug):∀j∈M,j<n:=λj a=>by
 have:=K0.mp h j a;exists this
private def aO(fr:! ↑Nat)(it:MI)(g:MG)(c:MT)(e:ME):ME:={λO=>match it.run O with
 | some ((d,a),f)=>if(fQ fr f.length&&fV (g.mu++(c.mu++e.mu)) fr.length&&d.all (aM (muF fr (g.mu++(c.mu++e.mu))))&&decide (a.length<sizeLine))=Ug then(match cS fr (g.mu++(c.mu++e.mu)) g c e a f []with
  | some (i,h)=>Ud ({.ow,cF i},h)
  | none=>Uc)else Uc
 | none=>Uc,it.mu++muF fr (g.mu++(c.mu++e.mu))}
def rB(hi:lg K wi it)(m:fR fr g)(hg:j3 K g mg)(hc:fO K tc c)(L:aZ K te e):aZ K (z7 wi fr g tc te) (aO fr it mg c e):=by
 intro Γ H O Z E Q r O' i h S q;dsimp[aO]at h q;ext h a f z e1;ext h s;dsimp[Jv,decide_eq_true_eq]at s;obtain⟨⟨⟨b1,b2⟩,w⟩,P⟩:=s;ext h ts O2 e2;cases h;show hi Γ H O Z E _ a f z i e1 S λΓ k bk J vs H1 hlv p C=>?_;replace i:=k.trans i;replace q:=λv H' S=>q v H' (bk _ _ _ _ S);rw[<-ah]at q;generalize aj it.mu E=E1 at q p;have u:∀G∈ens vs a,aF (muF fr (mg.mu++(c.mu++e.mu))) G=Ug:=jG w;have l:=p.weak (muF fr (mg.mu++(c.mu++e.mu)));rw[aQ,cM u]at l;have o:=ff (M:=muF fr (mg.mu++(c.mu++e.mu))) (N:=muF fr (mg.mu++(c.mu++e.mu))) (λj A=>A) E1;generalize aj (muF fr (mg.mu++(c.mu++e.mu))) E1=E2 at q l o;show u6 (acc0:=[]) (ts0:=[]) i C m hg hc L rfl (qJ b2) u o rfl (by exists P) b1 l e2 λB H' U _ _ Y d hd=>?_;show q _ _ (Y.drops.mkL U hd)
end
section
variable {Γ:Gm}{H H':Hp}{L:!Hd}{O:Rho}{Z:St}{E X:!En}{v w x y:V}{t s:T}{K:yF}{Q:VK}
def GW.stepN(G:GW Γ H (hs++L))(ho:∀h∈hs,h.e.r.k.isOw=Ug)(hr:∀g∈L,∀h∈hs,∀j,h.e.key*>j->g.e.r.k.root≠Ud j)
  (f:NJ (hs.flatMap (·.F)) H H') (dom:∀a∈hs.flatMap (·.F),∃o,H' a*>o) (nd:(ns.flatMap (·.F)).Nodup) (M:∀a∈ns.flatMap (·.F),(a∈hs.flatMap (·.F)\/H a=Uc)/\Mu H' a) (hp:∀n∈ns,Rp Γ.K H' n.e.r.t n.e.v n.F)
  (hk:∀n∈ns,(n.e.r.k=.ow/\∀a∈n.F,H a=Uc \/ ∃h∈hs,h.e.r.k=.ow/\a∈h.F) \/ ∃k,n.e.r.k=.io k/\Γ.iov[k]?*>n.e.v) (C:((ns++L).filterMap λh=>h.e.key).Nodup):GW Γ H' (ns++L):=by
 have Y:∀n∈ns,n.e.r.k.isOw=Ug:=λn hn=>by rcases hk n hn with⟨e,_⟩|⟨k,e,_⟩<;>rw[e]<;>rfl
 have eo:=iC ho;have en:=iC Y;have U:=G.nd;rw[JL,eo]at U;have S:=(Jy.mp U).2.1;have dj:=(Jy.mp U).2.2;have B:∀a∈L.flatMap Hd.own,Mu H a/\(Γ.H0 a=Uc\/a ∈ Γ.io):=λa c=>G.ad a (by rw[JL];show yaR _ c);have A:∀a∈hs.flatMap (·.F),Mu H a/\(Γ.H0 a=Uc\/a ∈ Γ.io):=λa c=>G.ad a (by rw[JL,eo];show yaL _ c);have ap:=G.apart hr ho;have J:∀g∈L,∀a∈g.F,a∉hs.flatMap (·.F):=λg i a c l=>by
  have(h,hh,u):=Kx.mp l;show ap g i a c h hh u
 show{?_,λa c=>?_,λx d=>?_,λx d=>?_,C,λb o e n=>?_,λa c=>?_}
 .rw[JL,en];show Jy.mpr {nd,S,λa c b hb=>?_};rintro rfl;rcases(M a c).1 with z|z;show dj a z a hb rfl
  .have(o,e,_):=(B a hb).1;rw[z]at e;cases e
 .rw[JL,en]at c;rcases yaM c with c|c
  .show{(M a c).2,?_};rcases(M a c).1 with z|z;show(A a z).2;show .inl (G.new0 z)
  .obtain⟨⟨o,e,m⟩,z⟩:=B a c;show{{o,f a o e λl=>dj a l a c rfl,m},z}
 .rcases yaM d with d|d;show hp x d;show(G.rp x (yaR _ d)).off f (λa c=>(A a c).1) (J x d)
 .rcases yaM d with d|d
  .unfold NN;rcases hk x d with⟨e,eh⟩|⟨k,e,ek⟩
   .dsimp[e];intro a c;rcases eh a c with z|⟨h,hh,he,u⟩;show G.new0 z
    .have q:=G.kd h (yaL _ hh);unfold NN at q;rw[he]at q;show q a u
   .dsimp[e];show ek
  .have k:=G.kd x (yaR _ d);have st:∀a∈x.F,a∉(hs++L).flatMap Hd.own->a∉(ns++L).flatMap Hd.own:=λa c n z=>by
    rw[JL,en]at z;rcases yaM z with z|z
    .rcases(M a z).1 with w|w;show n (by rw[JL,eo];show yaL _ w)
     .have(o,e):=(G.rp x (yaR _ d)).dom a c;rw[w]at e;cases e
    .show n (by rw[JL];show yaR _ z)
   unfold NN at k|-;split at k;show k;show k;show λa c=>st a c (k a c)
   .delta j p e;have(g,h1,h2,N,h4,h5):=k;rcases yaM h1 with i|i;show absurd (by rw[e];rfl) (hr x d g i j h2)
    .show{g,yaR _ i,h2,N,λa c=>(h4 a c).imp id (st a c),λq P=>{(h5 q P).1,?_}};show oY f (F:=g.F) (J g i) (G.muF (yaR _ i) N) (λa c=>c) (G.ndF (yaR _ i) N) (G.rp g (yaR _ i)) (h5 q P).1 (h5 q P).2
 .show f b o (G.fr b o e n) λl=>?_;rcases(A b l).2 with z|z;rw[z]at e;cases e;show n z
 .have(o,e):=G.iol a c;by_cases l:a∈hs.flatMap (·.F);show dom a l;show{o,f a o e l}
def GW.uniq(g:GW Γ H L){x z:Hd}{i:Nat}(f:x∈L)(hz:z∈L)(d:x.e.key*>i)(c:z.e.key*>i):x=z:=by
 have a:=g.ks;by_cases q:x=z;show q
 .exfalso;have(A,B,rfl):=LJ f;rw[Lh,JY,d]at a;rcases yaM hz with hz|hz;show(Jy.mp a).2.2 i (Kh.mpr ⟨z,hz,c⟩) i ymS rfl
  .rcases ycM hz with hz|hz;show q hz.symm;show(JS.mp (Jy.mp a).2.1).1 (Kh.mpr ⟨z,hz,c⟩)
def Sim.place{i:Nat}{p:!Ac}{r:R}{v0:V}(S:Sim Γ H O Z E)(q:({Uc,w,{.vw (Ud i) (Ud p),s}}:En)∈E)(h : O[i]?*>(Ud r))(C:Z[i]?*>(Ud v0)):r.t.sub p*>s/\atP Γ.K H v0 p w:=by
 have(v1,a,m):=S.slot h;rw[C]at a;cases a;have(L,g,e):=S.sl;have l:({Uc,w,{.vw (Ud i) (Ud p),s}}:En)∈L.map (·.e):=by rw[e];show yaL _ q
 have(y,B,u):=Jz.mp l;have d:=g.kd y B;unfold NN at d;rw[u]at d;have(x,k,j,G,J,A):=d;have c:({Ud i,v0,r}:En)∈L.map (·.e):=by rw[e];show m
 have(z,o,f):=Jz.mp c;have:=g.uniq k o j (by rw[f]);subst this;have:=A p rfl;rw[f]at this;show this
def HE.dropsN:∀{A X:!En},HE Γ H (A++X)->(∀e∈A,e.key=Uc)->HE Γ H X
 | [],_,S,_=>S
 | a::A,X,S,h=>HE.dropsN (HE.drop S (h a ymS)) λe c=>h e (ymC _ c)
def pf:∀{vs:!V} {rs:!R} {m:Nat} {r:R} {x:V},rs[m]?*>r->vs[m]?*>x->(⟨Uc,x,r⟩:En)∈ens vs rs
 | [],_,m,_,_,_,h=>by simp at h
 | _::_,[],m,_,_,h,_=>by simp at h
 | v::vs,d::rs,0,r,x,c,a=>by simp at c a;subst c a;show ymS
 | v::vs,d::rs,m+1,r,x,c,a=>ymC _ (pf (by exists c) (by exists a))
def t6:∀{vs:!V} {rs:!R} {e:En},e∈ens vs rs->e.key=Uc
 | [],rs,e,h=>by cases rs<;>cases h
 | _::_,[],e,h=>by cases h
 | v::vs,r::rs,e,h=>by
  rcases ycM h with rfl|h;rfl;show t6 h
def Sim.io{vs:!V}{rs:!R}{k i:Nat}{p:!Ac}{kd:Kd}{t0:T}(S:Sim Γ H O Z (ens vs rs++E))(hk:rs[k]?*>{.vw (Ud i) (Ud p),s})(hw:vs[k]?*>w)(hal:∀m r,m≠k->rs[m]?*>r->aM [i] r=Ug)(h : O[i]?*>(Ud ⟨kd,t0⟩))(ho:kd.isOw=Ug) :
  ∃G,Rp Γ.K H s w G/\G.Nodup/\(∀a∈G,Mu H a)/\(∀m r x,m≠k->rs[m]?*>r->vs[m]?*>x->∃F,Rp Γ.K H r.t x F/\∀a∈F,a∉G) /\
  ∀H' u v t F U,NJ G H H'->(∀a∈G,∃o,H' a*>o)->(F++U).Nodup->(∀a∈F,H a=Uc/\Mu H' a)->(∀a∈U,(a∈G\/H a=Uc)/\Mu H' a)->Rp Γ.K H' u w U->Rp Γ.K H' t v F->Sim Γ H' ((aB [i] O).set i (Ud {kd,t0.put p u})) Z ({Uc,v,{.ow,t}}::aj [i] E):=by
 have hil:i < O.length:=(Js.mp h).1;have(v0,hv0,h1,h2,h3):=S.out h ho;have pl:=S.place (yaL _ (pf hk hw)) h hv0;have(L,g,eL):=h1;have(x,L',rfl,ex,Y):=aJ eL;have hox:x.e.r.k.isOw=Ug:=by rw[ex];show ho
 have nx:=g.ndF ymS hox;have mx:=g.muF ymS hox;have hsub:x.e.r.t.sub p*>s:=by rw[ex];show pl.1
 have(w',A,G,B,z1,z2,z3,z4):=(g.rp x ymS).atP mx nx hsub;have ew:w'=w:=by rw[ex]at z1;show jD z1 pl.2
 subst ew;have P:∀a∈G,a∈x.F:=λa c=>by rw[z3];show yaL _ (yaR _ c)
 have ndx:=nx;rw[z3]at ndx;have N:=Jy.mp ndx;have ndG:=Jy.mp N.1;have keyL:∀g∈L',g.e.key≠Ud i:=λy M=>h3 y.e (by rw[<-Y];show Kb M);have f:∀g∈L',g.e.r.k.root≠Ud i:=λy M=>h2 y.e (by rw[<-Y];show Kb M);have ap:=GW.apart (hs:=[x]) (L:=L') g (λy M z J j hj=>by rw[ysM J,ex]at hj;cases hj;show f y M) (λz J=>by rw[ysM J];show hox);show{G,z2,ndG.2.1,λa c=>mx a (P a c),λm r y C hr M=>?_,λH' u v t F U off dom nd hF hG rp' rpt=>?_}
 .have hmem:(⟨Uc,y,r⟩:En)∈aj [i] (ens vs rs++E):=JD.mpr {yaL _ (pf hr M),hal m r C hr};have hmem2:(⟨Uc,y,r⟩:En)∈L'.map (·.e):=by rw[Y];show yaL _ hmem
  have(z,J,ez):=Jz.mp hmem2;have rz:=g.rp z (ymC _ J);rw[ez]at rz;show{z.F,rz,λa c hg=>ap z J a c x ymS (P a hg)}
 .have apAB:∀a,(a∈A\/a∈B)->a∉G:=λa c C=>by
   rcases c with q|q;show ndG.2.2 a q a C rfl;show N.2.2 a (yaR _ C) a q rfl
  have l:∀a,(a∈A\/a∈B)->a∈x.F:=λa c=>by
   rw[z3];rcases c with q|q;show yaL _ (yaL _ q);show yaR _ q
  have rp2:=z4 H' u U off rp';have nFG:=Jy.mp nd;have d:∀a,(a∈A\/a∈B)->H a≠Uc:=λa c z=>by have(o,e1,_):=mx a (l a c);rw[z]at e1;cases e1
  have nG':∀a,(a∈A\/a∈B)->a∉U:=λa c hg=>by
   rcases(hG a hg).1 with z|z;show apAB a c z;show d a c z
  have ndR:(A++U++B).Nodup:=by
   show Jy.mpr {Jy.mpr {ndG.1,nFG.2.1,λa c b hb e=>nG' a (.inl c) (e▸hb)},N.2.1,λa c b hb e=>?_};subst e;rcases yaM c with z|z;show N.2.2 a (yaL _ z) a hb rfl;show nG' a (.inr hb) z
  have memR:∀a∈A++U++B,(a∈x.F\/H a=Uc)/\Mu H' a:=λa c=>by
   have old:a∈A\/a∈B->(a∈x.F\/H a=Uc)/\Mu H' a:=λq=>by
    have(o,e1,m1):=mx a (l a q);show{.inl (l a q),o,off a o e1 (apAB a q),m1}
   rcases yaM c with z|z
   .rcases yaM z with z|z;show old (.inl z);show{(hG a z).1.imp (P a) id,(hG a z).2}
   .show old (.inr z)
  have st:=GW.stepN (hs:=[x]) (L:=L') (H':=H') (ns:=[{{Uc,v,{.ow,t}},F},{{Ud i,v0,{kd,t0.put p u}},A++U++B}]) g (λz J=>by rw[ysM J];show hox) (λy M z J j hj=>by rw[ysM J,ex]at hj;cases hj;show f y M)
   (by simpa using off.mono P) (λa c=>by
    have ha':a∈x.F:=by exists c
    by_cases hg:a∈G;show dom a hg;have(o,e1,_):=mx a ha';show{o,off a o e1 hg})
   (by
    dsimp[JI,Nc,Kg];show Jy.mpr {nFG.1,ndR,λa c b hb e=>?_};subst e;rcases yaM hb with z|z
    .rcases yaM z with z|z;show d a (.inl z) (hF a c).1;show nFG.2.2 a c a z rfl
    .show d a (.inr z) (hF a c).1)
   (λa c=>by
    dsimp[JI,Nc,Kg]at c|-;rcases yaM c with z|z;show{.inr (hF a z).1,(hF a z).2};show memR a z)
   (λn hn=>by
    rcases ycM hn with rfl|hn;show rpt;rw[ysM hn];rw[ex]at rp2;show rp2)
   (λn hn=>by
    rcases ycM hn with rfl|hn;show .inl {Xr,λa c=>.inl (hF a c).1}
    .rw[ysM hn];have kx:=g.kd x ymS;unfold NN at kx;rw[ex]at kx;cases kd with
     | ow=>show .inl {Xr,λa c=>(memR a c).1.elim (λz=>.inr {x,ymS,by rw[ex],z}) .inl}
     | io n=>show .inr ⟨n,Xr,kx⟩
     | vw a b=>cases ho)
   (by
    have ks:=g.ks;rw[JY,ex]at ks;show ks)
  have S2:=S.kill [i];have SL:HE Γ H' ({Uc,v,{.ow,t}}::{Ud i,v0,{kd,t0.put p u}}::(aj [i] (ens vs rs++E)++aL 0 Z ((aB [i] O).set i Uc))):={_,st,by rw[JC,Y];rfl};have SL2:HE Γ H' ({Uc,v,{.ow,t}}::{Ud i,v0,{kd,t0.put p u}}::(aj [i] E++aL 0 Z ((aB [i] O).set i Uc))):=by
   rw[aQ,JK]at SL;have pp:({Uc,v,{.ow,t}}::{Ud i,v0,{kd,t0.put p u}}::(aj [i] (ens vs rs)++(aj [i] E++aL 0 Z ((aB [i] O).set i Uc)))).Perm (aj [i] (ens vs rs)++({Uc,v,{.ow,t}}::{Ud i,v0,{kd,t0.put p u}}::(aj [i] E++aL 0 Z ((aB [i] O).set i Uc)))):=by
    show List.Perm.trans ?_ (Ka.symm);show List.Perm.cons _ ?_;show Ka.symm
   show(SL.perm pp).dropsN λe he=>t6 (JD.mp he).1
  show S2.back (E':={Uc,v,{.ow,t}}::aj [i] E) (SL2.perm ?_) (by simp[aV]) rfl (λm r' C=>?_) (λe he j hj=>?_)
  .have pq:=(ig (k:=0) (Z:=Z) (O:=aB [i] O) (v:=v0) (r:={kd,t0.put p u}) (by rw[S.len];show hil) (by rw[aV];show hil)).append_left (aj [i] E);rw[Ke]at pq;have eZ:Z.set i (Ud v0)=Z:=by
    apply Ly;intro m;by_cases C:m=i;subst C;rw[hv0];simp[S.len,hil];rw[JM (Op C)]
   rw[eZ]at pq;rw[J3];show List.Perm.cons _ ((Ka.symm).trans pq.symm)
  .by_cases e:m=i;subst e;show⟨v0,hv0⟩;rw[JM (Op e)]at C;show S2.al m r' C
  .rcases ycM he with rfl|he;cases hj;rw[aQ];show yaR _ he
abbrev spP(K:yF)(run:!T->↑T):Sp:=λvs H Q _=>∃a t,NU K H a vs/\run a*>t/\∀v H',New K H H' t v->Q v H'
abbrev spI(K:yF)(k:Nat)(run:!T->↑(T×T)):Sp:=λvs H Q _=>∃c s w G t e,vs.length=c.length/\vs[k]?*>w/\c[k]?*>s/\Rp K H s w G/\G.Nodup/\(∀a∈G,Mu H a)/\(∀(m:Nat) x u,m≠k->vs[m]?*>x->c[m]?*>u->∃F,Rp K H u x F/\∀a∈F,a∉G)/\run c*>(t,e) /\
 ∀v H' F d,NJ G H H'->(∀a∈G,∃o,H' a*>o)->(F++d).Nodup->(∀a∈F,H a=Uc/\Mu H' a)->(∀a∈d,(a∈G\/H a=Uc)/\Mu H' a)->Rp K H' e w d->Rp K H' t v F->Q v H'
def wj{run:!T->↑T}{c:TA}{a:MA}(f:hR K c a):aZ K (oS (spP K run) [] E0 c) (mB run a):=by
 have e:oS (spP K run) [] E0 c=tCB (λvs H Q=>spP K run vs H Q E0) c:=by
  funext Z H Q;change(c Z H λvs d=>spP K run (vs++[]) d Q E0)=_;dsimp[Kg];rfl
 rw[e];show uA (λH vs g t Q r e q=>⟨g,t,r,e,q⟩) f
private def ao(k j:Nat)(run:!T->↑(T×T))(a:MA):ME:={λO=>match a.run O with
 | some (c,e)=>(match c[k]? with
  | some ⟨.vw (Ud i) (Ud p),_⟩=>if(decide (i=j)&&(JE c.length).all λm=>decide (m=k)||aM [j] (c.getD m ⟨.ow,.im .non⟩))=Ug then(match run (c.map (·.t))with
   | some (t,g)=>(match e[j]? with
    | some (Ud ⟨d,f⟩)=>if d.isOw=Ug then Ud ({.ow,t},(aB [j] e).set j (Ud {d,f.put p g}))else Uc
    | _=>Uc)
   | none=>Uc)else Uc
  | _=>Uc)
 | none=>Uc,a.mu++[j]}
def wg{k j:Nat}{run:!T->↑(T×T)}{h:TA}{a:MA}(ha:hR K h a):aZ K (oS (spI K k run) [] E0 h) (ao k j run a):=by
 intro Γ H O Z E Q r O' g c S q;change h Z H λvs J=>spI K k run (vs++[]) J Q E0;dsimp[Kg];dsimp[ao]at c q;ext c d O1 e1;ext c i p s z;ext c U;rw[Jv,decide_eq_true_eq]at U;have(rfl,o):=U;ext c t s' e3;ext c kd t0 e4;ext c ho;cases c;show ha Γ H O Z E _ d O1 g e1 S λvs J Y S1=>?_;have A:k<d.length:=(Js.mp z).1;obtain⟨w,P⟩:∃w,vs[k]?*>w:={vs[k],by simp[Y,A]};have f:∀m r,m≠k->d[m]?*>r->aM [i] r=Ug:=λm r l c=>by
  have B:=(Js.mp c).1;have:=K0.mp o m (KO.mpr B);rw[JO,c]at this;simpa[l]using this
 have(G,M,g2,g3,g4,g5):=S1.io z P f e4 ho;rw[g]at M;show{d.map (·.t),s,w,G,t,s',by rw[Jr,Y],P,by rw[JB,z];rfl,M,g2,g3,λm x u l hx e=>?_,e3,λv H' F G' a1 a2 a3 a4 a5 C N=>q v H' ?_}
 .rw[JB]at e;cases c:d[m]? with
  | none=>rw[c]at e;cases e
  | some r=>
   rw[c]at e;cases e;have:=g4 m r x l c hx;rw[g]at this;show this
 .rw[<-g]at C N;have:=g5 H' s' v t F G' a1 a2 a3 a4 a5 C N;rw[ah]at this;show this
abbrev roR:T->R
 | .im i=>{.ow,.im i}
 | t=>{.vw Uc Uc,t}
abbrev dM(ts:!T) (n:Nat):Rho:=(ts.map λt=>Ud (roR t))++Jw (n-ts.length) Uc
def jk:∀(k n m:Nat),aL k (Jw n Uc) (Jw m Uc)=[]
 | _,0,_=>rfl
 | _,n+1,0=>rfl
 | k,n+1,m+1=>by dsimp[Kj,aL];show jk (k+1) n m
def uE{H0:Hp}{io:!Addr}{iov:!V}(n m:Nat):∀{ts:!T} {vs:!V} {k:Nat},NU K H ts vs->∃L:!Hd,L.map (·.e)=aL k (vs.map Ud++Jw n Uc) ((ts.map λt=>Ud (roR t))++Jw m Uc)/\L.flatMap Hd.own=[]/\(∀h∈L,Rp K H h.e.r.t h.e.v h.F)/\(∀h∈L,(h.e.r.k=.ow/\h.F=[])\/h.e.r.k=.vw Uc Uc)
 | [],vs,k,r=>by
  rw[NU]at r;subst r;show{[],by simp[jk],Xr,by simp,by simp}
 | t::ts,vs,k,r=>by
  obtain⟨v,vr,rfl,⟨F,f⟩,u⟩:=r;have(L,p,l,j,o):=uE (H0:=H0) (io:=io) (iov:=iov) n m (k:=k+1) u;have d:∃c,Rp K H (roR t).t v c/\(((roR t).k=.ow/\c=[])\/(roR t).k=.vw Uc Uc):=by
   cases t with
   | im i=>show{[],ji (bE f).1,.inl ⟨Xr,Xr⟩}
   | _=>show{F,f,.inr rfl}
  have(c,q,g):=d;show{{{Ud k,v,roR t},c}::L,by simp[aL,p],?_,λh a=>?_,λh a=>?_}
  .rw[JI,l,Kg];unfold Hd.own;rcases g with⟨e,rfl⟩|e;simp;rw[show({{Ud k,v,roR t},c}:Hd).e.r.k=(roR t).k from rfl,e];rfl
  .rcases ycM a with rfl|a;show q;show j h a
  .rcases ycM a with rfl|a
   .rcases g with⟨e,rfl⟩|e;show .inl ⟨e,Xr⟩;show .inr e
   .show o h a
def NU.length:∀{ts:!T} {vs:!V},NU K H ts vs->vs.length=ts.length
 | [],vs,r=>by rw[NU]at r;subst r;rfl
 | t::ts,vs,r=>by have(v,vr,rfl,_,a):=r;rw[JH,JH,NU.length a]
def rJ{ts:!T}{vs:!V}{n m:Nat}(a:vs.length=ts.length)(i:Nat)(r:R)(h:((ts.map λt=>Ud (roR t))++Jw m Uc)[i]?*>(Ud r)):∃v,(vs.map Ud++Jw n Uc)[i]?*>(Ud v):=by
 have c:i<ts.length:=by
  by_cases e:i<ts.length;show e
  .rw[KP (by simp;omega),Mj]at h;split at h<;>cases h
 show{vs[i],?_};rw[Kr (by simp;omega),JB];simp[a,c]
def t7:((aL k Z O).filterMap λe=>e.key).Nodup:=by
 have:=ph (k:=k) (Z:=Z) (O:=O);show List.Pairwise.filterMap (R:=λa b=>∃i j,a.key*>i/\b.key*>j/\i<j) (λe:En=>e.key) (λa l ⟨i,j,g,f,h⟩ b d m c=>?_) this;rw[g]at d;rw[f]at c;cases d;cases c;omega
def Cv{ts:!T}{vs:!V}{N:!Str}(r:NU K H ts vs):Sim {K,H,[],[]} H (dM ts N.length) (ci N vs) []:=by
 have(L,c,a,d,g):=uE (H0:=H) (io:=[]) (iov:=[]) (N.length-vs.length) (N.length-ts.length) (k:=0) r;show{{L,{by rw[a];show Le,by rw[a];simp,d,λh f=>?_,?_,λb o e _=>e,by simp},by rw[c];rfl},λi l h=>rJ r.length i l h,?_,by simp}
 .unfold NN;rcases g h f with⟨e,j⟩|e;rw[e,j];simp;rw[e,a];simp
 .have:(L.filterMap λh=>h.e.key)=(L.map (·.e)).filterMap λe=>e.key:=by rw[LI];rfl
  rw[this,c];show t7
 .simp[ci,dM,r.length]
abbrev cR(m:MS) (n:Nat) (ts:!T):↑T:=match m.run (dM ts n)with
 | some (.rt t,_)=>Ud t
 | some (.nx,_)=>Ud (.im .non)
 | _=>Uc
def C1(S:Sim {K,H0,[],[]} H' O Z [{Uc,v,{.ow,t}}]):New K H0 H' t v:=by
 have(L,g,e):=S.sl;have(x,l,rfl,d,_):=aJ e;have i:=g.rp x ymS;rw[d]at i;have c:=g.kd x ymS;unfold NN at c;rw[d]at c;have j:x.e.r.k.isOw=Ug:=by rw[d];rfl
 show{λb o h=>g.fr b o h ∅,x.F,i,g.ndF ymS j,λa f=>{c a f,g.muF ymS j a f}}
def Def.mp{P:On}{W:Oq}{l:Str->↑Oa}{g:Heap}{k:Nat}{name:Str}{st:Stmt}{N ps:!Str}(d:Def K l name st ps)(S:p8 N ps (ak st)){m:MS}
  (j:∀(f:Addr) (c:Oa) (A:Ot) (a:!Env) (s:Od) (H:Hp) (E:XK),NQ k (A.deeper (Ql name (ak st) s.heap.objs.size f c))->Gs (nH CX0 P W K l g N name (ak st) f c A a s H E).nox (bO st) m)
  {run:!T->↑T} (i:∀ts,run ts=if ts.length=ps.length then cR m N.length ts else Uc):Has P W K l g (k+1) name ps (spP K run):=by
 show d.has S (λvs H Q E h=>?_) (λf c A a s H vs Q E M h=>?_)
 .have(ts,t,r,e,_):=h;rw[i]at e;split at e;delta U;rw[r.length,U];cases e
 .have(ts,t,r,e,q):=h;rw[i]at e;ext e;have(G,J,z):=j f c A a s H E M;show{G,J,?_};have B:=Cv (N:=N) r;unfold cR at e;split at e
  .delta Y o u;cases e;show z {K,H,[],[]} H _ _ [] _ _ o rfl ∅ u B λv C H' p=>q v H' (C1 p)
  .delta o u;cases e;show z {K,H,[],[]} H _ _ [] _ .nx o rfl ∅ u B λC H' p=>q .non H' (C1 (p.imm dy))
  .cases e
abbrev gN(k:Nat) (ts:!T) (n:Nat):Rho:=(dM ts n).set k (Ud {.io 0,ts.getD k (.im .non)})
abbrev eJ(m:MS) (k n:Nat) (ts:!T):↑(T×T):=match m.run (gN k ts n)with
 | some (.rt t,a)=>(match a[k]? with
  | some (Ud ⟨.io 0,c⟩)=>Ud (t,c)
  | _=>Uc)
 | some (.nx,a)=>(match a[k]? with
  | some (Ud ⟨.io 0,c⟩)=>Ud (.im .non,c)
  | _=>Uc)
 | _=>Uc
def rH{G:!Addr}(n m:Nat):∀{ts:!T} {vs:!V} {k:Nat},vs.length=ts.length->(∀(i:Nat) x u,vs[i]?*>x->ts[i]?*>u->∃F,Rp K H u x F/\∀a∈F,a∉G)->∃L:!Hd,L.map (·.e)=aL k (vs.map Ud++Jw n Uc) ((ts.map λt=>Ud (roR t))++Jw m Uc)/\L.flatMap Hd.own=[]/\(∀h∈L,Rp K H h.e.r.t h.e.v h.F/\∀a∈h.F,a∉G)/\(∀h∈L,(h.e.r.k=.ow/\h.F=[])\/h.e.r.k=.vw Uc Uc)
 | [],[],k,_,_=>{[],by simp[jk],Xr,by simp,by simp}
 | t::ts,v::vs,k,C,r=>by
  have(F,o,j):=r 0 v t rfl rfl;have(L,M,q,p,J):=rH (G:=G) n m (ts:=ts) (vs:=vs) (k:=k+1) (by exists C) (λi x u z A=>r (i+1) x u (by exists z) (by exists A));have f:∃d,Rp K H (roR t).t v d/\(∀a∈d,a∉G)/\(((roR t).k=.ow/\d=[])\/(roR t).k=.vw Uc Uc):=by
   cases t with
   | im i=>show{[],ji (bE o).1,by simp,.inl ⟨Xr,Xr⟩}
   | _=>show{F,o,j,.inr rfl}
  have(d,B,g,l):=f;show{{{Ud k,v,roR t},d}::L,by simp[aL,M],?_,λh c=>?_,λh c=>?_}
  .rw[JI,q,Kg];unfold Hd.own;rcases l with⟨e,rfl⟩|e;simp;rw[show({{Ud k,v,roR t},d}:Hd).e.r.k=(roR t).k from rfl,e];rfl
  .rcases ycM c with rfl|c;show⟨B,g⟩;show p h c
  .rcases ycM c with rfl|c
   .rcases l with⟨e,rfl⟩|e;show .inl ⟨e,Xr⟩;show .inr e
   .show J h c
 | [],_::_,_,h,_=>by cases h
 | _::_,[],_,h,_=>by cases h
def Cu{ts:!T}{vs:!V}{N:!Str}{k:Nat}{G:!Addr}(l:vs.length=ts.length)(hw:vs[k]?*>w)(hs:ts[k]?*>s)(rp:Rp K H s w G)(nd:G.Nodup)(mu:∀a∈G,Mu H a)(ro:∀(m:Nat) x u,m≠k->vs[m]?*>x->ts[m]?*>u->∃F,Rp K H u x F/\∀a∈F,a∉G):Sim {K,H,G,[w]} H (gN k ts N.length) (ci N vs) []:=by
 have d:k<ts.length:=(Js.mp hs).1;have P:(vs.set k .non).length=(ts.set k (.im .non)).length:=by simp[l]
 have(L,S,Y,U,h4):=rH (K:=K) (H:=H) (G:=G) (N.length-vs.length) (N.length-ts.length) (ts:=ts.set k (.im .non)) (vs:=vs.set k .non) (k:=0) P (λm x u B C=>by
  by_cases e:m=k
  .subst e;simp[l,d]at B C;subst B C;show{[],ji dy,by simp}
  .rw[JM (Op e)]at B C;show ro m x u e B C)
 have eZ:(vs.set k .non).map Ud++Jw (N.length-vs.length) Uc=(ci N vs).set k (Ud .non):=by
  unfold ci;rw[MK _ _ (by simp[l,d]),L7]
 have eO:((ts.set k (.im .non)).map λt=>Ud (roR t))++Jw (N.length-ts.length) Uc=(dM ts N.length).set k (↥(.non)):=by
  unfold dM;rw[MK _ _ (by simp[d]),L7];rfl
 rw[eZ,eO]at S;have q:k<(dM ts N.length).length:=by simp[dM];omega
 have p:k<(ci N vs).length:=by simp[ci,l];omega
 have J:=ig (k:=0) (Z:=ci N vs) (O:=dM ts N.length) (v:=.non) (r:={.ow,.im .non}) p q;rw[Ke,<-S]at J;have(L2,pL,eL):=oG J L rfl;have(x,j,rfl,ex,e3):=aJ eL;have g:∀h∈j,h∈L:=λh c=>pL.mem_iff.mpr (ymC _ c);have z:j.flatMap Hd.own=[]:=by
  rw[Mo];intro h c;rw[Mo]at Y;show Y h (g h c)
 have f:(({{Ud k,w,{.io 0,s}},G}:Hd)::j).flatMap Hd.own=G:=by rw[JI,z,Kg];rfl
 have ht:ts.getD k (.im .non)=s:=by rw[JO,hs];rfl
 have M:(ci N vs).set k (Ud w)=ci N vs:=by
  apply Ly;intro m;by_cases hm:m=k
  .subst hm;rw[Kv p];unfold ci;rw[Kr (by simp[l,d]),JB,hw];rfl
  .rw[JM (Op hm)]
 have p2:=ig (k:=0) (Z:=ci N vs) (O:=dM ts N.length) (v:=w) (r:={.io 0,s}) p q;rw[Ke,M]at p2;have gw:GW {K,H,G,[w]} H ({{Ud k,w,{.io 0,s}},G}::j):=by
  show{by rw[f];show nd,λa A=>by rw[f]at A;show{mu a A,.inr A},λh c=>?_,λh c=>?_,?_,λb o e _=>e,λa A=>let ⟨o,e,_⟩:=mu a A;⟨o,e⟩}
  .rcases ycM c with rfl|c;show rp;show(U h (g h c)).1
  .rcases ycM c with rfl|c;rfl
   .unfold NN;rcases h4 h (g h c)with⟨e,eF⟩|e;rw[e,eF];simp;rw[e,f];show(U h (g h c)).2
  .have e5:(({{Ud k,w,{.io 0,s}},G}:Hd)::j).filterMap (λh=>h.e.key)=(x::j).filterMap λh=>h.e.key:=by rw[JY,JY,ex]
   rw[e5];have e6:((x::j).filterMap λh=>h.e.key)=((x::j).map (·.e)).filterMap λe=>e.key:=by rw[LI];rfl
   rw[e6,eL];have:=(J.filterMap (λe:En=>e.key)).nodup_iff.mp (by rw[S];show t7);show this
 show{HE.perm {_,gw,Xr} ?_,λi r' h=>?_,?_,by simp}
 .rw[Jt,e3,KT];unfold gN;rw[ht];show p2.symm
 .unfold gN at h;rw[ht]at h;by_cases e:i=k
  .subst e;show{w,?_};unfold ci;rw[Kr (by simp[l,d]),JB,hw];rfl
  .rw[JM (Op e)]at h;show rJ l i r' h
 .simp[ci,gN,dM,l]
def C0{H0:Hp}{G:!Addr}{B:V}{k:Nat}{J:T}(S:Sim {K,H0,G,[B]} H' O Z [{Uc,v,{.ow,t}}])(h : O[k]?*>(Ud {.io 0,J})):∃F p,NJ G H0 H'/\(∀a∈G,∃o,H' a*>o)/\(F++p).Nodup/\(∀a∈F,H0 a=Uc/\Mu H' a)/\(∀a∈p,(a∈G\/H0 a=Uc)/\Mu H' a)/\Rp K H' J B p/\Rp K H' t v F:=by
 have(w,hw,P):=S.slot h;have(L,g,e):=S.sl;rw[J3]at e P;have(x,Y,rfl,q,e2):=aJ e;have m:({Ud k,w,{.io 0,J}}:En)∈Y.map (·.e):=by
  rw[e2];rcases ycM P with z|z;cases z;show z
 have(y,i,N):=Jz.mp m;have l:=g.rp x ymS;rw[q]at l;have j:=g.rp y (ymC _ i);rw[N]at j;have M:=g.kd x ymS;unfold NN at M;rw[q]at M;have A:=g.kd y (ymC _ i);unfold NN at A;rw[N]at A;have ew:B=w:=by exists A
 subst ew;have f:x.e.r.k.isOw=Ug:=by rw[q];rfl
 have c:y.e.r.k.isOw=Ug:=by rw[N];rfl
 show{x.F,y.F,λb o C n=>g.fr b o C n,g.iol,?_,λa d=>{M a d,g.muF ymS f a d},λa d=>?_,j,l}
 .have u:=g.nd;rw[JI]at u;have nx:x.own=x.F:=by unfold Hd.own;rw[if_pos f]
  rw[nx]at u;have U:=Jy.mp u;show Jy.mpr {U.1,g.ndF (ymC _ i) c,λa d b C=>U.2.2 a d b (Kx.mpr {y,i,jR c C})}
 .have:=g.ad a (Kx.mpr {y,ymC _ i,jR c d});show⟨this.2.symm,this.1⟩
def Def.mi{P:On}{W:Oq}{o:Str->↑Oa}{g:Heap}{k:Nat}{name:Str}{st:Stmt}{N ps:!Str}{j:Nat}(d:Def K o name st ps)(S:p8 N ps (ak st)){m:MS}
  (l:∀(f:Addr) (c:Oa) (A:Ot) (a:!Env) (s:Od) (H:Hp) (E:XK),NQ k (A.deeper (Ql name (ak st) s.heap.objs.size f c))->Gs (nH CX0 P W K o g N name (ak st) f c A a s H E).nox (bO st) m)
  {run:!T->↑(T×T)} (i:∀ts,run ts=if ts.length=ps.length then eJ m j N.length ts else Uc):Has P W K o g (k+1) name ps (spI K j run):=by
 show d.has S (λvs H Q E h=>?_) (λf c A a s H vs Q E hr h=>?_)
 .obtain⟨ts,s0,w,G,t,s',hl,_,_,_,_,_,_,e,_⟩:=h;rw[i]at e;split at e;delta h2;rw[hl,h2];cases e
 .obtain⟨ts,s0,w,G,t,s',hl,hw,hs,rp,nd,mu,ro,e,q⟩:=h;rw[i]at e;ext e;have(tS,p1,p2):=l f c A a s H E hr;show{tS,p1,?_};have S0:=Cu (N:=N) hl hw hs rp nd mu ro;unfold eJ at e;split at e
  .delta t0 r e1;ext e s1 e2;cases e;show p2 {K,H,G,[w]} H _ _ [] _ _ r rfl ∅ e1 S0 λv Z' H' J=>?_;have(F,z,M,U,Y,B,u,p,C):=C0 J e2;show q v H' F z M U Y B u p C
  .delta r e1;ext e s1 e2;cases e;show p2 {K,H,G,[w]} H _ _ [] _ .nx r rfl ∅ e1 S0 λZ' H' J=>?_;have(F,z,M,U,Y,B,u,p,C):=C0 (J.imm dy) e2;show q .non H' F z M U Y B u p C
  .cases e
end
structure CK{ι : Type}(C:ι->Cx)(P:On)(W:Oq)(K:yF)(mg:Str->↑Oa)(base:Heap)(k:Nat):Prop where
 prog:∀i,(C i).prog=P
 w:∀i,(C i).w=W
 kk:∀i,(C i).K=K
 mg:∀i,(C i).mg=mg
 base:∀i,(C i).base=base
 calm:∀i,(C i).calm=Ug
 room:∀i,NQ k (C i).A
section
variable {ι : Type}{C:ι->Cx}{P:On}{W:Oq}{K:yF}{mg:Str->↑Oa}{base:Heap}{k:Nat}
noncomputable abbrev lN(C:ι->Cx) (scope:P5) (N':!Str):ι×Bk->Cx:=λp=>cxB (C p.1) scope N' p.2
def CK.blk(a:CK C P W K mg base k)  : CK (lN C scope N') P W K mg base k:=
 {λp=>a.prog p.1,λp=>a.w p.1,λp=>a.kk p.1,λp=>a.mg p.1,λp=>a.base p.1,λp=>a.calm p.1,λp=>a.room p.1}
structure QE(C:ι->Cx)(K:yF)(e:Expr)(m:ME):Prop where
 ex:∃te,(∀i,PE (C i) e te)/\aZ K te m
structure QT(C:ι->Cx)(K:yF)(e:Expr)(m:MT):Prop where
 ex:∃te,(∀i,PT (C i) e te)/\fO K te m
structure QW(C:ι->Cx)(K:yF)(e:Expr)(m:MT):Prop where
 ex:∃te,(∀i,PW (C i) e te)/\fO K te m
structure QTs(C:ι->Cx)(K:yF)(e:!Expr)(m:MT):Prop where
 ex:∃te,(∀i,PTs (C i) e te)/\fO K te m
structure QA(C:ι->Cx)(K:yF)(es:!Expr)(m:MA):Prop where
 ex:∃ta,(∀i,PA (C i) es ta)/\bD es=Ug/\hR K ta m
structure QS(C:ι->Cx)(K:yF)(st:Stmt)(m:MS):Prop where
 ex:∃ts,(∀i,PS (C i) st ts)/\f8 K ts m
structure QSs(C:ι->Cx)(K:yF)(st:!Stmt)(m:MS):Prop where
 ex:∃ts,(∀i,PSs (C i) st ts)/\f8 K ts m
structure QG(C:ι->Cx)(K:yF)(fr:Option ! ↑Nat)(e:Expr)(m:MG):Prop where
 ex:∃g,(∀i,PG (C i) e g)/\j3 K g m/\∀f,fr*>f->fR f g
structure QGs(C:ι->Cx)(K:yF)(fr:Option ! ↑Nat)(n:Nat)(es:!Expr)(m:MGs):Prop where
 ex:∃g,(∀i,PGs (C i) es g)/\qg K g m/\(∀f,fr*>f->lK f g)/\(∀rs O O',m.run rs O*>O'->rs.length=n)
structure QI(C:ι->Cx)(K:yF)(tg e:Expr)(m:MI):Prop where
 ex:∃wi,(∀i,PI (C i) tg e wi)/\lg K wi m
structure QO(C:ι->Cx)(K:yF)(e:↑Expr)(m:MO):Prop where
 ex:∃t,(∀i,PO (C i) e t)/\wV K t m
section
variable {a b c e o:Expr}{es:!Expr}{ma mb mc m:ME}{ms:MA}{pos:Pos}{mt mt':MT}
def bv:QE C K (.Constant (.int i) j pos) (mC (.int i)):={_,λ_=>EW,zu rfl}
def mQ:QE C K (.Constant (.bool x) j pos) (mC (.bl x)):={_,λ_=>Hm,zu rfl}
def HG:QE C K (.Constant (.str x) j pos) (mC (.str x)):={_,λ_=>E3,zu rfl}
def az(n:Nat)(g:∀i,(C i).N[n]?*>x:=by intro _;rfl)(h:∀i,Vis (C i).env.scope x:=by first|show λ_=>To rfl|show λ_=>R6 (To rfl)|show λ_=>R6 (R6 rfl))(f:(x==("__debug__" : Str))=Ue:=by decide)(d:(x==("__classdict__" : Str))=Ue:=by decide):QE C K (.Name x pos) (ag n):={_,λi=>yy (g i) (h i) f d,Ck}
def aq:QA C K [] mNil:={_,λ_=>sP,Xr,Cd}
def au(g:QE C K e m)(f:QA C K es ms)(hs:cC e=Ue:=by rfl):QA C K (e::es) (ac m ms):=by
 have(j,a,b):=g;have(h,c,n,d):=f;show{_,λi=>iE (a i) (c i) hs,by rw[bD,hs,n];rfl,zw b d}
def wd{op:Operator}{red:yF->R2}{f:T->T->↑T}(d:CK C P W K mg base k)(ho:∀X:Cx,OpR X (OQ op) (red X.K))(g:dH K (red K) f)(q:QE C K a ma)(j:QE C K b mb):QE C K (.BinOp a op b pos) (mOp f ma mb):=by
 have(s,p,r):=q;have(t,h,l):=j;show{_,λi=>Hs (r:=red K) (by have:=ho (C i);rw[d.kk i]at this;show this) (p i) (h i),kK g r l}
def jh(g:CK C P W K mg base k)(f:QE C K a ma)(d:QE C K b mb):QE C K (.BinOp a .Add b pos) (mOp br ma mb):=wd g (red:=zi) (λ_=>Bp) yG f d
def zd(d:CK C P W K mg base k)(g:QE C K a ma)(f:QE C K b mb):QE C K (.BinOp a .Sub b pos) (mOp cz ma mb):=wd d (red:=λ_=>rI0 λi j=>.int (i-j)) (λ_=>ED) yU g f
def rn(g:CK C P W K mg base k)(f:QE C K a ma)(d:QE C K b mb):QE C K (.BinOp a .Mult b pos) (mOp cK ma mb):=wd g (red:=zp) (λ_=>Br) yP f d
def Fp(d:CK C P W K mg base k)(g:QE C K a ma)(f:QE C K b mb):QE C K (.BinOp a .FloorDiv b pos) (mOp ja ma mb):=wd d (red:=λ_=>rI rW λi j=>.int (i / j)) (λ_=>vM) vX g f
def Dg(d:CK C P W K mg base k)(g:QE C K a ma)(f:QE C K b mb):QE C K (.BinOp a .Mod b pos) (mOp hV ma mb):=wd d (red:=λ_=>rI (λ_ j=>0<j) λi j=>.int (i % j)) (λ_=>Ey) yO g f
def HF(d:CK C P W K mg base k)(g:QE C K a ma)(f:QE C K b mb):QE C K (.BinOp a .Pow b pos) (mOp vV ma mb):=wd d (red:=λ_=>rI DF λi j=>.int (i^j.toNat)) (λ_=>EC) yT g f
def zc(d:QE C K a ma):QE C K (.UnaryOp .USub a pos) (mUn vI ma):=by
 have(f,p,r):=d;show{_,λi=>Ht FX (p i),zL yR r}
def HC(d:QE C K a ma):QE C K (.UnaryOp .Not a pos) (ou ma):=by
 have(f,p,r):=d;show{_,λi=>EY (p i),zG r}
abbrev ib(op:SU)(f:T->T->↑T):Prop:=∃d:yF->R2,(∀X:Cx,X.A.units+64<OV->OpR X (OH op) (d X.K))/\∀K,dH K (d K) f
def GA:ib .Lt (ic λi j=>decide (i<j)):={λ_=>_,λ_ _=>G3,λ_=>mO}
def Gz:ib .Gt (ic λi j=>decide (j<i)):={λ_=>_,λ_ _=>GZ,λ_=>mO}
def IR:ib .GtE (ic λi j=>decide (j<=i)):={λ_=>_,λ_ _=>GY,λ_=>mO}
def Gy:ib .Eq eqT:={Fu,λ_ d=>Ev d,λ_=>BP}
def oZ:ib .NotEq neT:={Fx,λ_ d=>EB d,λ_=>BR}
def IS:ib .In inT:={Fv,λ_ d=>Ex d,λ_=>BQ}
def CY:ib .NotIn vJ:={pQ,λ_ d=>vO d,λ_=>yS}
def Hz(g:CK C P W K mg base k)(q:ib op f)(v:QE C K a ma)(u:QE C K b mb)(h:PJ op b=Ue):QE C K (.Compare a [op] [b] pos) (mOp f ma mb):=by
 have(d,j,s):=q;have(w,p,r):=v;have(x,l,t):=u;show{_,λi=>BE (r:=d K) (by have:=j (C i) (g.room i).units;rw[g.kk i]at this;show this) (p i) (l i) h,kK (s K) r t}
def dh(g:CK C P W K mg base k)(q:ib op f)(v:QE C K a ma)(u:QE C K b mb)(h:PJ op b=Ue):QT C K (.Compare a [op] [b] pos) (bc (mOp f ma mb)):=by
 have(d,j,s):=q;have(w,p,r):=v;have(x,l,t):=u;show{_,λi=>BW (r:=d K) (by have:=j (C i) (g.room i).units;rw[g.kk i]at this;show this) (p i) (l i) h,rC (kK (s K) r t)}
def kD(g:QE C K e m)(f:∀i d,RW e (C i).env d=(do let v <-d;Qq e.pos;OZ [v] (SV v)):=by intro _ _;rfl):QT C K e (bc m):=by
 have(h,p,r):=g;show{_,λi=>Fi (p i) (f i),FI r}
def zh(g:CK C P W K mg base k)(h:QE C K e m)(f:∀i d,RW e (C i).env d=(do let v <-d;Qq e.pos;OZ [v] (SV v)):=by intro _ _;rfl):QT C K e (vE m):=by
 have(j,p,r):=h;show{_,λi=>Jk (g.kk i) (p i) (f i),Cj r}
def ju(d:QT C K a mt):QT C K (.UnaryOp .Not a pos) (my mt):=by
 have(f,p,r):=d;show{_,λi=>Fh (p i),Ce r}
def uy(d:QT C K a mt):QW C K (.BoolOp .And [a] pos) mt:=by
 have(f,p,r):=d;show{_,λi=>BY (p i),r}
def mS(d:QT C K a mt):QW C K (.BoolOp .Or [a] pos) mt:=by
 have(f,p,r):=d;show{_,λi=>Fn (p i),r}
def sX{rest:!Expr}(h:QT C K a mt)(f:QW C K (.BoolOp .And (b::rest) pos) mt'):QW C K (.BoolOp .And (a::b::rest) pos) (nM mt mt'):=by
 have(j,p,r):=h;have(l,d,g):=f;show{_,λi=>Fm (p i) (d i),B5 r g}
def oH{rest:!Expr}(h:QT C K a mt)(f:QW C K (.BoolOp .Or (b::rest) pos) mt'):QW C K (.BoolOp .Or (a::b::rest) pos) (mOr mt mt'):=by
 have(j,p,r):=h;have(l,d,g):=f;show{_,λi=>Hw (p i) (d i),FG r g}
def QW.t(h:QW C K e mt):QT C K e mt:=by
 have(d,p,r):=h;show{_,λi=>(p i).pt,r}
def HD(h:QE C K a m):QE C K (.BoolOp op [a] pos) m:=by
 have(d,p,r):=h;show{_,λi=>EZ (p i),r}
def Hy{rest:!Expr}(h:QE C K a ma)(f:QE C K (.BoolOp .And (b::rest) pos) mb):QE C K (.BoolOp .And (a::b::rest) pos) (mq ma mb):=by
 have(j,p,r):=h;have(l,d,g):=f;show{_,λi=>EU (p i) (d i),zv r g}
def Df(f:QT C K c mt)(q:QE C K a ma)(h:QE C K b mb):QE C K (.IfExp c a b pos) (sF mt ma mb):=by
 have(t,l,d):=f;have(s,p,r):=q;have(u,g,j):=h;show{_,λi=>yw (l i) (p i) (g i),B8 d r j}
def rm(mv:!Nat)(h:QA C K es ms):QE C K (.List es pos) (bo mv ms):=by
 have(d,p,_,r):=h;show{_,λi=>EX (p i),zD r}
def g9(mv:!Nat)(h:QA C K es ms):QE C K (.Tuple es x1 pos) (aD mv ms):=by
 have(d,p,_,r):=h;show{_,λi=>E4 (p i),zK r}
def gA(d:CK C P W K mg base k)(j:QE C K a ma)(g:QE C K b mb)(hs:tO b:=by show λ_ _=>rfl):QE C K (.Subscript a b pos) (mIx ma mb):=by
 have(l,p,r):=j;have(q,f,h):=g;show{_,λi=>Hr (Ja (d.kk i)) (p i) (f i) hs,FF r h}
def gL:QO C K Uc mNoPart:={_,λ_=>BN,tf}
def gM(h:QE C K e m):QO C K (Ud e) (eS m):=by
 have(d,p,r):=h;show{_,λi=>pH (p i),zH r}
def sV{lo j:↑Expr}{h g:MO}{w:Pos}(v:CK C P W K mg base k)(u:QE C K a ma)(l:QO C K lo h)(q:QO C K j g):QE C K (.Subscript a (.Slice lo j Uc w) pos) (mSl ma h g):=by
 have(x,p,r):=u;have(z,s,t):=l;have(y,f,d):=q;show{_,λi=>yx (r:=rSl K) (by have:=Jj (X:=C i);rw[v.kk i]at this;show this) (p i) (s i) (f i),FH r t d}
def cO{x:Str}{p:Pos}{j:Nat}{ps:!Str}{run:!T->↑T}(d:CK C P W K mg base k)(h:Has P W K mg base j x ps (spP K run))(s:QA C K (e::es) ms)(g:j<=k:=by first|decide|omega)(l:∀i,Gl (C i) x:=by intro _;rfl)(f:(x==("__debug__" : Str))=Ue:=by decide):QE C K (.Call (.Name x p) (e::es) [] pos) (mB run ms):=by
 have(t,q,n,r):=s;show{_,λi=>yv (by rw[d.prog i,d.w i,d.kk i,d.mg i,d.base i];show h) ((d.room i).mono g) (l i) (q i) n f,wj r}
def eT(l:Nat){x:Str}{p:Pos}{j g:Nat}{ps:!Str}{run:!T->↑(T×T)}(d:CK C P W K mg base k)(h:Has P W K mg base j x ps (spI K g run))(u:QA C K (e::es) ms)(s:j<=k:=by first|decide|omega)(t:∀i,Gl (C i) x:=by intro _;rfl)(f:(x==("__debug__" : Str))=Ue:=by decide):QE C K (.Call (.Name x p) (e::es) [] pos) (ao g l run ms):=by
 have(v,q,n,r):=u;show{_,λi=>yv (by rw[d.prog i,d.w i,d.kk i,d.mg i,d.base i];show h) ((d.room i).mono s) (t i) (q i) n f,wg r}
abbrev jz(x:Str)(f:!T->↑T):Prop:=∃(id:String) (d:yF->!V->Hp->VK->Prop),O7 x*>(.builtin id)/\(∀X:Cx,X.calm=Ug->NK X (.builtin id) (d X.K))/\∀K,eP K (d K) f
abbrev uR(x:Str)(f:!T->↑T):Prop:=∃(id:String) (d:yF->!V->Hp->VK->Prop),O7 x*>(.type id)/\(∀X:Cx,X.calm=Ug->NK X (.type id) (d X.K))/\∀K,eP K (d K) f
def fv(d:CK C P W K mg base k)(w:jz x f)(l:mg x=Uc)(y:QA C K (e::es) ms)(t:∀i,Gl (C i) x:=by intro _;rfl)(j:x≠("__name__" : Str):=by decide)(g:(x==("__debug__" : Str))=Ue:=by decide):QE C K (.Call (.Name x p) (e::es) [] pos) (mB f ms):=by
 have(id,h,v,u,s):=w;have(z,q,n,r):=y;show{_,λi=>oE (r:=h K) (by have:=u (C i) (d.calm i);rw[d.kk i]at this;show this) (t i) (by rw[d.mg i];show l) v (q i) n j g,uA (s K) r}
def we(d:CK C P W K mg base k)(w:uR x f)(l:mg x=Uc)(y:QA C K (e::es) ms)(t:∀i,Gl (C i) x:=by intro _;rfl)(j:x≠("__name__" : Str):=by decide)(g:(x==("__debug__" : Str))=Ue:=by decide):QE C K (.Call (.Name x p) (e::es) [] pos) (mB f ms):=by
 have(id,h,v,u,s):=w;have(z,q,n,r):=y;show{_,λi=>jr (r:=h K) (by have:=u (C i) (d.calm i);rw[d.kk i]at this;show this) (t i) (by rw[d.mg i];show l) v (q i) n j g,uA (s K) r}
def b_len:jz "len" cP:={_,zm,PySem.boot_len,λ_ _=>uT,λ_=>yK}
def b_min:jz "min" qO:={_,λ_=>_,MF,λ_ h=>uX h,λ_=>yN}
def b_max:jz "max" qN:={_,λ_=>_,MH,λ_ h=>uV h,λ_=>yM}
def b_all:jz "all" rZ:={_,HH,NC,λ_ h=>wY h,λ_=>yH}
def b_int:uR "int" vk:={_,λ_=>_,MJ,λ_ _=>uS,λ_=>yI}
def b_tuple:uR "tuple" fe:={_,zr,LN,λ_ _=>nF,λ_=>yW}
def b_list:uR "list" xN:={_,zn,LQ,λ_ _=>o7,λ_=>yL}
abbrev wR(g:String)(name:Str)(f:T->!T->↑T):Prop:=∃(id:String) (d:yF->V->!V->Hp->VK->Prop),Qe g/\Slot g name id/\R3 (.builtin id)=pure (.type "method_descriptor")/\(∀X:Cx,MtR X id (d X.K))/\(∀K,wU K g (d K) f)/\∀K (H:Hp) (x:V) (h:T) i t,Rpx K H h x->f h i*>t->tyV K g x H
abbrev nU(g:String)(name:Str)(f:T->!T->↑(T×I)):Prop:=∃(id:String) (d:yF->V->!V->Hp->VK->Prop),Qe g/\Slot g name id/\R3 (.builtin id)=pure (.type "method_descriptor")/\(∀X:Cx,MtR X id (d X.K))/\(∀K,fS K (d K) f)/\∀K (H:Hp) (x:V) (h:T) i r,Rpx K H h x->f h i*>r->tyV K g x H
def Fs(l:CK C P W K mg base k)(x:wR T0 name f)(ho:QE C K o mo)(y:QA C K (e::es) ms)(h:decide ((e::es).length<30)=Ug:=by rfl)
  (g:∀i,O8 o name (C i).env (eval o (C i).env)=eval o (C i).env:=by intro _;rfl) (d:(apos.endLine==pos.line)=Ug:=by rfl):QE C K (.Call (.Attribute o name apos) (e::es) [] pos) (mM f mo ms):=by
 have(id,j,w,s,p,u,z,A):=x;have(B,q,r):=ho;have(E,t,n,v):=y;show{_,λi=>Gx (r:=j K) (l.kk i) w s p (by have:=u (C i);rw[l.kk i]at this;show this) (q i) (t i) n h (g i) d,HX (z K) (A K) r v}
def HB(l:Nat)(mv:!Nat)(p:CK C P W K mg base k)(y:nU T0 name f)(ho:QE C K o mo)(z:QA C K (e::es) ms)(h:decide ((e::es).length<30)=Ug:=by rfl)
  (g:∀i,O8 o name (C i).env (eval o (C i).env)=eval o (C i).env:=by intro _;rfl) (d:(apos.endLine==pos.line)=Ug:=by rfl):QE C K (.Call (.Attribute o name apos) (e::es) [] pos) (fj l mv f mo ms):=by
 have(id,j,x,t,s,v,A,B):=y;have(E,q,r):=ho;have(G,u,n,w):=z;show{_,λi=>Gx (r:=j K) (p.kk i) x t s (by have:=v (C i);rw[p.kk i]at this;show this) (q i) (u i) n h (g i) d,Cc (A K) (B K) r w}
def sU(l:Nat)(j:CK C P W K mg base k)(v:nU T0 name f)(ho:QE C K o mo)
  (g:∀i,O8 o name (C i).env (eval o (C i).env)=eval o (C i).env:=by intro _;rfl) (d:(apos.endLine==pos.line)=Ug:=by rfl):QE C K (.Call (.Attribute o name apos) [] [] pos) (mw l f mo):=by
 have(id,h,u,s,p,t,w,x):=v;have(y,q,r):=ho;show{_,λi=>IQ (r:=h K) (j.kk i) u s p (by have:=t (C i);rw[j.kk i]at this;show this) (q i) (g i) d,zE (w K) (x K) r}
def El:wR "str" "join" l6:={_,Dk,PySem.F.plainAttrs_str,PySem.F.slot_str_join,PySem.F.type_str_join,λ_=>Bg,λ_=>vY,λK H x d f t r e=>by
 unfold l6 at e;split at e;rw[eK r];rfl;cases e}
def xP:nU "list" "append" apT:={_,λ_=>pM,PySem.F.plainAttrs_list,PySem.F.slot_list_append,PySem.F.type_list_append,λ_=>vF,λ_=>qW,λK=>wI}
def xQ:nU "list" "insert" pv:={_,λ_=>pP,PySem.F.plainAttrs_list,PySem.F.slot_list_insert,PySem.F.type_list_insert,λ_=>vH,λ_=>re,λK=>wK}
end
end
section
variable {ι : Type}{C:ι->Cx}{P:On}{W:Oq}{K:yF}{mg:Str->↑Oa}{base:Heap}{k:Nat}
section
variable {a b c e o tg iter:Expr}{es:!Expr}{ma mb mc m mo mi:ME}{ms:MA}{pos:Pos}{mt mt':MT}{s1 s2:MS}{g g':MG}{gs:MGs}{it it2:MI}{fr:Option ! ↑Nat}
def aH(n:Nat)(q:∀i,(C i).N.Nodup)(p:∀i,(C i).N[n]?*>x:=by intro _;rfl)(r:∀i,Loc (C i).env.scope x:=by first|show λ_=>To rfl|show λ_=>R6 rfl)(l:∀i,(C i).fn x=Ug\/(C i).env.scope.names.lookup x*>.local:=by first|show λ_=>.inl rfl|show λ_=>.inr rfl)
  (d:∀f,fr*>f->f[n]?*>Uc:=by first|(intro f h;cases h;done)|(intro f h;cases h;rfl)):QG C K fr (.Name x pos) (af n):=
 {_,λi=>BH (q i) (p i) (r i) (l i),mV,λf j=>AZ (d f j)}
def bM:QGs C K fr 0 [] mGNil:=by unhygienic show{_,λ_=>BI,zB,λ_ _=>D4,λd O f h=>by cases d<;>first|rfl|cases h}
def aC(s:QG C K fr e g)(p:QGs C K fr n es gs)(hs:∀i,(Pj (e::es) (C i).env).map (·.2)=P0 e (C i).env::(Pj es (C i).env).map (·.2):=by intro _;rfl):QGs C K fr (n+1) (e::es) (av g gs):=by unhygienic
 have(z,q,w,t):=s;have(y,u,v,l,l2):=p;show{_,λi=>yB (q i) (u i) (hs i),wn w v,λf j=>AY (t f j) (l f j),λd O x h=>?_};cases d with
 | nil=>cases h
 | cons r d=>
  dsimp[av]at h;ext h;split at h;rw[JH,l2 _ _ _ h];cases h
def cE(j:CK C P W K mg base k)(h:QGs C K fr n es gs)(t:∀i,(Pj es (C i).env).length=n:=by intro _;rfl)(d:∀i,(Pj es (C i).env).findIdx? (·.1)=Uc:=by intro _;rfl):QG C K fr (.Tuple es k0 pos) (bA gs):=by
 have(g,p,r,s,l):=h;show{_,λi=>tgK (j.kk i) (j.calm i) (p i) (t i) (d i),zC r l,λf q=>D5 (s f q)}
def ze(j:Nat)(ho:QE C K o mo)(q:QE C K e mi)
  (t:∀i v,P0 (.Subscript o e pos) (C i).env v=(do
   let d <-OZ [v] (eval o (C i).env)
   let l <-OZ [v,d] (eval e (C i).env)
   Qq pos
   OZ [v,d,l] (QK d l v)
   SO [v,d,l] []):=by intro _ _;rfl):QG C K Uc (.Subscript o e pos) (qL j mo mi):=by
 have(w,p,r):=ho;have(x,s,u):=q;show{_,λi=>yz (p i) (s i) zW (t i),Ci r u,λf h=>by cases h}
def eC:QSs C K [] mNext:={_,λ_=>BU,zF}
def bu{st:Stmt}(d:QS C K st s1):QSs C K [st] s1:=by
 have(t,p,r):=d;show{_,λi=>BV (p i),r}
def aN{st:Stmt}{rest:!Stmt}(j:QS C K st s1)(d:QSs C K rest s2):QSs C K (st::rest) (ax s1 s2):=by
 have(t,p,r):=j;have(u,f,h):=d;show{_,λi=>y3 (p i) (f i),Ch r h}
def hC(j:QT C K c mt)(s:QSs C K b1 s1)(f:QSs C K b2 s2):QS C K (.If c b1 b2 pos) (mIf mt s1 s2):=by
 have(v,q,d):=j;have(t,p,r):=s;have(u,h,l):=f;show{_,λi=>Hv (q i) (p i) (h i),B9 d r l}
def bQ(h:QE C K e m):QS C K (.Return (Ud e) pos) (bq m):=by
 have(t,p,r):=h;show{_,λi=>Ff (p i),Cg r}
def lF(h:QE C K e m)(hs:∀i,Q0 e Uc pos.line (C i).env=pure Ue:=by intro _;rfl):QS C K (.Expr e pos) (bU m):=by
 have(t,p,r):=h;show{_,λi=>BS (p i) (hs i),zx r}
def pK(h:QE C K e m)(j:QG C K Uc tg g)(hs:∀i,QN [tg] e pos.line (C i).env=pure Ue:=by intro _;rfl)(d:∀i,QP [tg] e (C i).env=pure Uc:=by intro _;rfl)
  (q:∀i,(Pj [tg] (C i).env).map (·.2)=[P0 tg (C i).env]:=by intro _;rfl):QS C K (.Assign [tg] e pos) (aI m g):=by
 have(t,p,r):=h;have(u,f,l,_):=j;show{_,λi=>Fc (p i) (f i) (hs i) (d i) (q i),pT r l}
def dL(n:Nat)(j:∀i,(C i).N.Nodup)(d:QE C K e m)(h:∀i,(C i).N[n]?*>x:=by intro _;rfl)(l:∀i,Loc (C i).env.scope x:=by first|show λ_=>To rfl|show λ_=>R6 rfl)(hs:∀i,Q0 e (Ud (.Name x pos')) pos.line (C i).env=pure Ue:=by intro _;rfl)(f:∀i,(C i).fn x=Ug\/(C i).env.scope.names.lookup x*>.local:=by first|show λ_=>.inl rfl|show λ_=>.inr rfl) :
  QS C K (.Assign [.Name x pos'] e pos) (aI m (af n)):=by
 have(t,p,r):=d;show{_,λi=>Fg (j i) (h i) (l i) (p i) (hs i) (f i),pT r mV}
abbrev Be(i j:Nat) (a:MA):MS:={λO=>match a.run O with
 | some ([h,f],d)=>if(iA d i&&aM [i] h&&aM [i] f&&iA d j&&aM [j] f)=Ug then Ud (.nx,(aB [j] ((aB [i] d).set i (Ud h))).set j (Ud f))else Uc
 | _=>Uc,a.mu++[i,j]}
def vK(h:iA O j=Ug)(f:∀n,r.k ≠ .io n):iA ((aB [i] O).set i (Ud r)) j=Ug:=by
 unfold iA at h|-;by_cases e:j=i
 .subst e;have d:j < O.length:=by
   cases q : O[j]? with
   | none=>rw[q]at h;cases h
   | some o=>show(Js.mp q).1
  rw[Kv (by rw[aV];show d)];have(k,t):=r;cases k with
  | io n=>show absurd rfl (f n)
  | _=>rfl
 .rw[JM (Op e)];unfold aB;rw[JB];cases q : O[j]? with
  | none=>rw[q]at h;cases h
  | some o=>
   rw[q]at h;cases o with
   | none=>rfl
   | some x=>
    change(match Ud (cT [i] (Ud x))with|some (Ud ⟨.io _,_⟩)=>Ue|some _=>Ug|none=>Ue)=Ug;cases hk:cT [i] (Ud x)with
    | none=>rfl
    | some y=>
     have(l,_):=killO_iff.mp hk;cases l;show h
abbrev mH(r:R):Bool:=match r.k with
 | .io _=>Ue
 | _=>Ug
def Cf{i j:Nat}{A:TA}{a:MA}(ha:hR K A a)(Q:∀O rs y,a.run O*>(rs,y)->True):f8 K (Il i j A) (Be i j {λO=>match a.run O with
  | some (rs,l)=>if rs.all mH=Ug then Ud (rs,l)else Uc
  | none=>Uc,a.mu}):=by
 intro L H O Z E D f y hK hE h S q;dsimp[Be]at h q;ext h x r2 l u;ext u rs O2 e2;ext u d;cases u;ext h G;cases h;dsimp[Jv]at G;obtain⟨⟨⟨⟨X,b2⟩,N⟩,U⟩,Y⟩:=G;show ha L H O Z E _ _ _ hK e2 S λvs B s p=>?_;obtain⟨v,w,rfl⟩:∃v w,vs=[v,w]:=by
  cases vs with
  | nil=>cases s
  | cons v r=>cases r with
   | nil=>cases s
   | cons w r=>cases r with
    | nil=>show⟨v,w,Xr⟩
    | cons _ _=>cases s
 have p:Sim L B l Z (⟨Uc,v,x⟩::⟨Uc,w,r2⟩::aj a.mu E):=p;show{v,w,Xr,q _ B ?_};have J:=p.put X (jj b2);rw[aK (cc N)]at J;have t:∀n,x.k ≠ .io n:=λn z=>by
  have:=K0.mp d x ymS;unfold mH at this;rw[z]at this;cases this
 have M:=J.put (vK U t) (jj Y);rw[ah,ah]at M;have:a.mu++([i]++[j])=a.mu++[i,j]:=rfl;rw[<-JK]at this;show M
private def k7(i j:Nat)(a:MA):MS:=Be i j {λO=>match a.run O with
  | some (d,f)=>if d.all mH=Ug then Ud (d,f)else Uc
  | none=>Uc,a.mu}
def sW(i j:Nat){x y:Str}{d f pt:Pos}{kt k2 pt2}(u:CK C P W K mg base k)(q:∀i,(C i).N.Nodup)(t:QA C K [a,b] ms)(v:∀n,(C n).N[i]?*>x:=by intro _;rfl)(l:∀n,(C n).N[j]?*>y:=by intro _;rfl)(h:i≠j:=by decide)
  (s:∀n,(C n).env.scope.names.lookup x*>.local:=by intro _;rfl) (z:∀n,(C n).env.scope.names.lookup y*>.local:=by intro _;rfl)
  (w:∀n,QP [.Tuple [.Name x d,.Name y f] kt pt] (.Tuple [a,b] k2 pt2) (C n).env=pure (Ud [x,y]):=by intro _;rfl)
  (hs:∀n,QN [.Tuple [.Name x d,.Name y f] kt pt] (.Tuple [a,b] k2 pt2) pos.line (C n).env=pure Ue:=by intro _;rfl) :
  QS C K (.Assign [.Tuple [.Name x d,.Name y f] kt pt] (.Tuple [a,b] k2 pt2) pos) (k7 i j ms):=by unhygienic
 have(A,p,_,r):=t;show{_,λn=>Fe (u.calm n) (q n) (v n) (l n) h (s n) (z n) (p n) (w n) (hs n),Cf r (λ_ _ _ _=>trivial)}
def zg(f:∀i,PL (Ol (C i).prog (C i).w) (C i).A (C i).env (C i).xe)(d:QT C K c mt)(j:QSs C K body s1):QS C K (.While c body [] pos) (iu mt s1):=by
 have(q,p,r):=d;have(s,h,l):=j;show{_,λi=>yZ (f i) (p i) (h i),wp r l}
def kB(d:CK C P W K mg base k)(l:∀i,PL (Ol (C i).prog (C i).w) (C i).A (C i).env (C i).xe)(j:QI C K tg iter it)(q:QG C K Uc tg g)(t:QSs C K body s1)(hs:∀i x,OX iter (C i).env x=pure x:=by intro _ _;rfl):QS C K (.For tg iter body [] pos) (cD it g s1):=by
 have(y,p,r):=j;have(v,u,h,_):=q;have(z,s,f):=t;show{_,λi=>Fd (l i) (d.calm i) (p i) (u i) (s i) (hs i),B7 r h f}
def i4(d:CK C P W K mg base k)(T:Bi mg)(h:QA C K [a] ms)(f:∀i,Gl (C i) "range" :=by intro _;rfl)(hs:cC a=Ue:=by rfl):QI C K tg (.Call (.Name "range" p) [a] [] pos) (bp ms):=by
 have(j,q,_,r):=h;show{_,λi=>vS (f i) (by rw[d.mg i];show T.b_range) (q i) (by rw[bF hs];rfl),zI r}
def wf(f:CK C P W K mg base k)(T:Bi mg)(j:QA C K [a,b] ms)(h:∀i,Gl (C i) "range" :=by intro _;rfl)(hs:cC a=Ue:=by rfl)(d:cC b=Ue:=by rfl):QI C K tg (.Call (.Name "range" p) [a,b] [] pos) (g8 ms):=by
 have(l,q,_,r):=j;show{_,λi=>vT (h i) (by rw[f.mg i];show T.b_range) (q i) (by rw[bF hs,bF d];rfl) (by rw[bF d];rfl),zJ r}
def PI.or(i:PI X tg iter w1)(f:PI X tg iter w2):PI X tg iter (λZ H R=>w1 Z H R\/w2 Z H R):=by
 intro d s Z H R I h;rcases h with h|h;show i d s Z H R I h;show f d s Z H R I h
abbrev il:R->Option !R
 | ⟨_,.li d⟩=>Ud (d.map λi=>{.ow,.im i})
 | ⟨.vw h _,.lst f⟩=>Ud (f.map (partV h))
 | ⟨_,.im (.tup d)⟩=>Ud (d.map λi=>{.ow,.im i})
 | ⟨_,.im (.str z)⟩=>Ud ((sL z).map λc=>{.ow,.im (.str {#[c]})})
 | ⟨_,.im (.ls d)⟩=>Ud (d.map λi=>{.ow,.im i})
 | _=>Uc
private def mIt(a:ME):MI:={λO=>match a.run O with
 | some (r,f)=>(match il r with
  | some d=>Ud (([r],d),f)
  | none=>Uc)
 | none=>Uc,a.mu}
def CL:f9 Γ (Its z) [v] [src] ((sL z).map λc=>{.ow,.im (.str {#[c]})}):=λH O Z E S=>by
 show{λi l=>?_,λi r j=>?_}
 .change z.cps.size<=i;simpa[sL]using l
 .have(c,h,rfl):=ay j;have d:z.cps[i]?*>c:=by simpa[sL]using h
  show{?_,λx p y=>?_}
  .change i<z.cps.size;show(Array.getElem?_eq_some_iff.mp d).1
  .have(rfl,q,f,rfl):=y;rw[d]at f;cases f;show S.imm (le rfl)
def FE(j:aZ K ta m):lg K (λZ H R=>ub K ta Z H R\/(A1 K ta Z H R\/GK ta Z H R)) (mIt m):=by unhygienic
 intro h H O Z E s v d p i t S q;dsimp[mIt]at t;ext t r B l;ext t A f;cases t;unfold il at f;split at f
 .delta w G;show .inl (pU j h H O Z E s _ d p i (by dsimp[xO,l,jm];cases f;rfl) S q)
 .show .inl (pU j h H O Z E s _ d p i (by dsimp[xO,l,jm];cases f;rfl) S q)
 .show .inr (.inl (Ca j h H O Z E s _ d p i (by dsimp[Ek,l,l5];cases f;rfl) S q))
 .delta w z;cases f;right;right;show j h H O Z E _ _ _ i l S λx y u=>?_;show{z,eK (u.rd ymS),q h rfl (λ_ _ _ _ S=>S) _ [x] y rfl u CL}
 .show .inl (pU j h H O Z E s _ d p i (by dsimp[xO,l,jm];cases f;rfl) S q)
 .cases f
def gf(d:CK C P W K mg base k)(f:QE C K iter m):QI C K tg iter (mIt m):=by
 have(h,q,r):=f;show{_,λi=>PI.or (ilK (d.kk i) (q i)) (PI.or (itK (d.kk i) (q i)) (BM (q i))),FE r}
private def mYes:MT:={λO=>Ud (Ug,O),[]}
def Cm:fO K Ir mYes:=by unhygienic
 intro h H O Z E Q b f i d S q;cases d;show q H (by rw[show mYes.mu=[]from rfl,cw];show S)
def bS:QTs C K [] mYes:={_,λ_=>BX,Cm}
section
variable {elt tg2 iter2:Expr}{ifs:!Expr}{scope:P5}
def bi(u:CK C P W K mg base k)(h:∀i,Blk (C i).env.scope scope (C i).N N' f)(w:QI C K tg iter it)(l:QG (lN C scope N') K (Ud f) tg g)(r:QTs (lN C scope N') K ifs mt)(q:QE (lN C scope N') K elt m)(hs:∀i x,OX iter (C i).env x=pure x:=by intro _ _;rfl) :
  QE C K (.ListComp elt [{tg,iter,ifs,0}] scope pos) (aO f it g mt m):=by
 have(E,j,s):=w;have(G,p,A,d):=l;have(H,v,y):=r;have(B,t,z):=q;show{_,λi=>BF (u.calm i) (h i) (j i) (λb=>p (i,b)) (d f rfl) (λb=>v (i,b)) (λb=>t (i,b)) (hs i),rB s (d f rfl) A y z}
def bR(n:Nat)(z:CK C P W K mg base k)(p:∀i,(C i).N.Nodup)(j:∀i,Blk (C i).env.scope scope (C i).N N' f)(B:QI C K tg iter it)(s:QG (lN C scope N') K (Ud f) tg g)(v:QTs (lN C scope N') K ifs mt)(u:QE (lN C scope N') K elt m)(r:∀i,(C i).N[n]?*>x:=by intro _;rfl)(t:∀i,(C i).env.scope.names.lookup x*>.local:=by intro _;rfl)
  (d:∀i,Q0 (.ListComp elt [{tg,iter,ifs,0}] scope pos) (Ud (.Name x pos')) spos.line (C i).env=pure Ug:=by intro _;rfl) (hs:∀i x,OX iter (C i).env x=pure x:=by intro _ _;rfl) :
  QS C K (.Assign [.Name x pos'] (.ListComp elt [{tg,iter,ifs,0}] scope pos) spos) (aI (aO f it g mt m) (af n)):=by
 have(L,l,w):=B;have(M,q,H,h):=s;have(O,A,E):=v;have(J,y,G):=u;show{_,λi=>sS (z.calm i) (p i) (r i) (t i) (j i) (l i) (λb=>q (i,b)) (h f rfl) (λb=>A (i,b)) (λb=>y (i,b)) (d i) (hs i),pT (rB w (h f rfl) H E G) mV}
end
end
structure DI(k:Nat)(name:Str)(st:Stmt) where
 f:Addr
 cdv:Oa
 A:Ot
 outer:!Env
 s:Od
 H:Hp
 E:XK
 hr:NQ k (A.deeper (Ql name (ak st) s.heap.objs.size f cdv))
noncomputable abbrev dC(P:On) (W:Oq) (K:yF) (mg:Str->↑Oa) (base:Heap) (k:Nat) (N:!Str) (name:Str) (st:Stmt):DI k name st->Cx:=λd=>(nH CX0 P W K mg base N name (ak st) d.f d.cdv d.A d.outer d.s d.H d.E).nox
def ae{N:!Str}{name:Str}{st:Stmt}:CK (dC P W K mg base k N name st) P W K mg base k:=
 {λ_=>rfl,λ_=>rfl,λ_=>rfl,λ_=>rfl,λ_=>rfl,λ_=>rfl,λd=>d.hr}
def Def.qp{name:Str}{st:Stmt}{N ps:!Str}(d:Def K mg name st ps)(S:p8 N ps (ak st)){m:MS}(h:QSs (dC P W K mg base k N name st) K (bO st) m)
  {run:!T->↑T} (c:∀ts,run ts=if ts.length=ps.length then cR m N.length ts else Uc):Has P W K mg base (k+1) name ps (spP K run):=by
 have(t,p,r):=h;show d.mp S (λf e A a s H E g=>{t,p ⟨f,e,A,a,s,H,E,g⟩,r}) c
def Def.qi{name:Str}{st:Stmt}{N ps:!Str}{j:Nat}(d:Def K mg name st ps)(S:p8 N ps (ak st)){m:MS}(h:QSs (dC P W K mg base k N name st) K (bO st) m)
  {run:!T->↑(T×T)} (c:∀ts,run ts=if ts.length=ps.length then eJ m j N.length ts else Uc):Has P W K mg base (k+1) name ps (spI K j run):=by
 have(t,p,r):=h;show d.mi S (λf e A a s H E g=>{t,p ⟨f,e,A,a,s,H,E,g⟩,r}) c
end
section
variable {Γ:Gm}{H H':Hp}{L:!Hd}{O:Rho}{Z:St}{E X:!En}{v w x y:V}{t s:T}{K:yF}{Q:VK}
private def mCallT(k:Nat)(run:!T->↑(T×T))(a:MA):ME:={λO=>match a.run O with
 | some (c,d)=>(match c[k]? with
  | ⇑_=>(match run (c.map (·.t))with
   | some (t,_)=>Ud ({.ow,t},d)
   | none=>Uc)
  | _=>Uc)
 | none=>Uc,a.mu}
private def jq(j:Nat)(o:ME)(lo e:ME):MG:={λr O=>match r with
 | ⟨.ow,.li f⟩=>match o.run O with
  | some (⟨.vw (Ud i) (Ud p),.li d⟩,h)=>match lo.run h with
   | some (⟨_,.im (.int a)⟩,l)=>match e.run l with
    | some (⟨_,.im (.int c)⟩,g)=>if(decide (i=j) &&  ~~~(lo.mu++e.mu).contains j&&decide (0<=a/\a<=c/\c<=d.length/\d.length+f.length<=sizeLine))=Ug then(match g[j]? with
     | some (Ud ⟨k,t⟩)=>if k.isOw=Ug then Ud ((aB [j] g).set j (Ud {k,t.put p (.li (d.take a.toNat++f++d.drop c.toNat))}))else Uc
     | _=>Uc)else Uc
    | _=>Uc
   | _=>Uc
  | _=>Uc
 | _=>Uc,(o.mu++(lo.mu++e.mu))++[j]}
def wo{to Y th:TE}{o lo m:ME}{j:Nat}(ho:aZ K to o)(hl:aZ K Y lo)(hh:aZ K th m):j3 K (xt to (uK Y) (uK th)) (jq j o lo m):=by
 intro Γ H O Z E Q v r O' h d S q;dsimp[jq]at d q;ext d ys;ext d j' p xs O1 e1;ext d k1 a O2 e2;ext d k2 c O3 e3;ext d hc;rw[Jv,Jv,decide_eq_true_eq,Kf,decide_eq_true_eq]at hc;obtain⟨⟨rfl,N⟩,e⟩:=hc;ext d k t e4;ext d hw;cases d;show ho Γ H O Z _ _ _ _ h e1 S λx H1 S1=>?_;show hl Γ H1 O1 Z _ _ _ _ h e2 S1 λya H2 S2=>?_;show{a,aY (S2.rd ymS),?_};show hh Γ H2 O2 Z _ _ _ _ h e3 (S2.drop rfl) λyc H3 S3=>?_;show{c,aY (S3.rd ymS),?_};have S4:=S3.drop rfl;have u:aF (lo.mu++m.mu) {Uc,x,{.vw (Ud j') (Ud p),.li xs}}=Ug:=by unfold aF;dsimp[Kd.root];rw[N];rfl
 have l:∀M:!Nat,aF M {Uc,v,{.ow,.li ys}}=Ug:=λM=>rfl;rw[ah,aK u,ah,aK (l _)]at S4;have(G,F,h1,h2,h3,h4,h5):=Sim.mut (vs:=[v]) (ts:=[.li ys]) (S4.perm (List.Perm.swap _ _ _)) rfl e4 hw;have(p0,A,rfl,g1,f,rfl):=oz h1 λa U=>h4 a (yaL _ U);have(z,ez,g3):=wt h2;cases ez;have(J,g,rfl,g4,g5,rfl):=oz g3 λa U=>h4 a (yaR _ U);have B:p0≠J:=λz=>by
  have:=h3;rw[z]at this;simp at this
 show{p0,J,A,g,a,c,Xr,Xr,Xr,Xr,g1,g4,B,e.1,e.2.1,by rw[f.length];show e.2.2.1,by rw[f.length,g5.length];show e.2.2.2,?_};show nu (Q:=λ_ H'=>Q Z H') (F:=[J]) (v:=.non) (i:=.non) g1 (((f.take _).append g5).append (f.drop _)) dy λv' H' G' a1 a2 a3 a4 a5 _=>q Z H' ?_;have:=h5 H' _ G' a1 a2 a3 a4 a5;rw[ah]at this;show this
abbrev ij(k:Nat):!I->!R
 | []=>[]
 | i::a=>{.ow,.im (.tup [.int k,i])}::ij (k+1) a
def iQ:∀{is:!I} {k i:Nat},(ij k is)[i]?=(is[i]?).map λx=>{.ow,.im (.tup [.int ((k+i:Nat):Int),x])}
 | [],k,i=>by simp[ij]
 | x::is,k,0=>by simp[ij]
 | x::is,k,i+1=>by
  rw[ij,Ko,Ko,iQ,show k+1+i=k+(i+1) by omega]
def n9:∀{is:!I} {k:Nat},(ij k is).length=is.length
 | [],_=>rfl
 | _::is,k=>by rw[ij,JH,n9,JH]
private def ot(a:MA):MI:={λO=>match a.run O with
 | some ([⟨k,.im (.tup c)⟩],d)=>Ud (([{k,.im (.tup c)}],ij 0 c),d)
 | _=>Uc,a.mu}
abbrev ir:MS:={λ_=>Uc,[]}
def oI{t:TS}:f8 K t ir:=by
 intro Γ H O Z E D f c d e a S q;cases a
end
section
variable {ι : Type}{C:ι->Cx}{P:On}{W:Oq}{K:yF}{mg:Str->↑Oa}{base:Heap}{k:Nat}
section
variable {a b c e o tg iter:Expr}{es:!Expr}{ma mb mc m mo mi ml mh:ME}{ms:MA}{pos:Pos}{mt mt':MT}{s1 s2:MS}{g g':MG}{gs:MGs}{it it2:MI}{fr:Option ! ↑Nat}
def rq{st:Stmt}:QS C K st ir:={_,λ_=>yY,oI}
end
end
section
variable {Γ:Gm}{H H':Hp}{O:Rho}{Z:St}{E:!En}{v w x y:V}{t s:T}{K:yF}{Q:VK}
private def aa(n:Nat)(c:MA):MA:={λO=>match c.run O with
 | some (d,a)=>(match a[n]? with
  | some (Ud r)=>(match O[n]? with
   | some (Ud _)=>Ud (rdR n r::d,a)
   | _=>Uc)
  | _=>Uc)
 | none=>Uc,c.mu}
def wl(h:hR K ta ms):hR K (uI (FR n) ta) (aa n ms):=by unhygienic
 intro Γ H O Z E Q z u i c S q;dsimp[aa]at c;ext c d G o;ext c r l;ext c B j;cases c;have(v,e,_):=S.var j;show{v,e,?_};show h Γ H O Z E _ d _ i o S λvs m f p=>q (v::vs) m (by rw[JH,JH,f]) ?_;have(A,a,g):=p.var l;rw[e]at a;cases a;show g
def Gg:f9 Γ (Ite Γ.K a) [.ref a] [{k,.im (.tup is)}] (ij 0 is):=λH O Z E S=>by
 replace S:Sim Γ H O Z ({Uc,.ref a,{k,.im (.tup is)}}::E):=S;have z:Rpx Γ.K H (.im (.tup is)) (.ref a):=S.rd (e:={Uc,.ref a,{k,.im (.tup is)}}) ymS;have(B,g,o,f,h):=bX z;cases o;show{λi m=>{g,f,by rw[h.length];rw[n9]at m;show m},λi r c=>?_};rw[iQ]at c;cases e:is[i]? with
 | none=>rw[e]at c;cases c
 | some j=>
  rw[e]at c;cases c;have(w,l,d):=h.get e;show{⟨g,w,f,l⟩,λx H' y=>?_};have(p,A,u,rfl,rfl,q):=y;have:=q g f;rw[l]at this;cases this;rw[Ke];show S.fresh (New.tup u (.cons (by rw[RpI]) (.cons d (by rw[p7]))))
def zz(p:hR K ta a):lg K (xC K ta) (ot a):=by unhygienic
 intro Γ H O Z E J m h o j f S q;dsimp[ot]at f;ext f k d B u;cases f;show p Γ H O Z E _ _ _ j u S λvs g i c=>?_;cases vs with
 | nil=>cases i
 | cons v vs=>
  cases vs with
  | cons _ _=>cases i
  | nil=>
   have c:Sim Γ g o Z ({Uc,v,{k,.im (.tup d)}}::aj a.mu E):=c;have A:Rpx Γ.K g (.im (.tup d)) v:=c.rd (e:={Uc,v,{k,.im (.tup d)}}) ymS;have(l,z,rfl,r,G):=bX A;subst j;show{l,z,Xr,r,q Γ rfl (λ_ _ _ _ S=>S) _ [.ref l] g rfl c Gg}
end
section
variable {ι : Type}{C:ι->Cx}{P:On}{W:Oq}{K:yF}{mg:Str->↑Oa}{base:Heap}{k:Nat}
section
variable {a b c e o tg iter:Expr}{es:!Expr}{ma mb mc m mo mi ml mh:ME}{ms:MA}{pos:Pos}{mt mt':MT}{s1 s2:MS}{g g':MG}{gs:MGs}{it it2:MI}{fr:Option ! ↑Nat}
def ai(n:Nat)(l:QA C K es ms)(q:∀i,(C i).N[n]?*>x:=by intro _;rfl)(r:∀i,Vis (C i).env.scope x:=by first|show λ_=>To rfl|show λ_=>R6 (To rfl)|show λ_=>R6 (R6 rfl))(j:(x==("__debug__" : Str))=Ue:=by decide)(f:(x==("__classdict__" : Str))=Ue:=by decide):QA C K (.Name x p::es) (aa n ms):=by
 have(s,c,h,d):=l;show{_,λi=>iE (yy (q i) (r i) j f) (c i) rfl,by rw[bD,h];rfl,wl d}
def zf(j:Nat){lo d:Expr}{t:Pos}(ho:QE C K o mo)(w:QE C K lo ml)(x:QE C K d mh)
  (A:∀i v,P0 (.Subscript o (.Slice (Ud lo) (Ud d) Uc t) pos) (C i).env v=(do
   let l <-OZ [v] (eval o (C i).env)
   let u <-OZ [v,l] (eval (.Slice (Ud lo) (Ud d) Uc t) (C i).env)
   Qq pos
   OZ [v,l,u] (QK l u v)
   SO [u,v,l] []):=by intro _ _;rfl):QG C K Uc (.Subscript o (.Slice (Ud lo) (Ud d) Uc t) pos) (jq j mo ml mh):=by
 have(B,p,r):=ho;have(G,y,z):=w;have(E,s,q):=x;show{_,λi=>yA (p i) (pH (y i)) (pH (s i)) (A i),wo r z q,λf h=>by cases h}
def ux(d:CK C P W K mg base k)(T:Bi mg)(h:QA C K [a] ms)(f:∀i,Gl (C i) "enumerate" :=by intro _;rfl)(hs:cC a=Ue:=by rfl):QI C K (.Tuple elts k0 pt) (.Call (.Name "enumerate" p) [a] [] pos) (ot ms):=by
 have(j,q,_,r):=h;show{_,λi=>ieK (d.kk i) (f i) (by rw[d.mg i];show T.b_enumerate) (q i) (bF hs),zz r}
def kC{st:!Stmt}:QSs C K st ir:={λ_ _ _=>False,λ_ _ _ _ _ _ _ h=>h.elim,oI}
end
end
section
variable {ι : Type}{C:ι->Cx}{P:On}{W:Oq}{K:yF}{mg:Str->↑Oa}{base:Heap}{k:Nat}
section
variable {Γ:Gm}{H:Hp}{O:Rho}{Z:St}{E:!En}
abbrev fgt(i:Nat) (O:Rho):Rho:=(aB [i] O).set i Uc
def Sim.fgt(S:Sim Γ H O Z E)(i:Nat):Sim Γ H (L2.fgt i O) Z (aj [i] E):=by
 have a:=S.kill [i];unfold L2.fgt;cases h:(aB [i] O)[i]? with
 | none=>rw[List.set_eq_of_length_le (by exists h)];show a
 | some o=>
  cases o with
  | none=>
   have:(aB [i] O).set i Uc=aB [i] O:=by
    apply Ly;intro j;by_cases e:i=j
    .subst e;have A:=(Js.mp h).1;rw[Kv A,h]
    .rw[JM e]
   rw[this];show a
  | some r=>
   have(v,z):=a.al i r h;have p:=bP (k:=0) z h;have SL:HE Γ H ({Ud (0+i),v,r}::(aj [i] E++aL 0 Z ((aB [i] O).set i Uc))):=a.sl.perm ((List.Perm.append_left _ p).trans Ka);have(L,g,e):=SL;have(x,q,rfl,w,s):=aJ e;have l:∀y∈aj [i] E++aL 0 Z (aB [i] O),y.r.k.root≠Ud i:=by
    rw[gt,<-aQ];show mF ∅
   show{{q,g.dropK λy f j c u=>?_,s},λm t d=>?_,by rw[K8];show a.len,λy f j c=>by rw[K8];show a.hi y f j c}
   .rw[w]at c;have:j=i:=by exists c.symm
    subst this;have:y.e∈q.map (·.e):=Jz.mpr ⟨y,f,Xr⟩;rw[s]at this;have B:=(List.Perm.append_left (aj [j] E) p).trans Ka;show l y.e (B.mem_iff.mpr (ymC _ this)) u
   .by_cases e:i=m
    .subst e;rw[Kv (Js.mp h).1]at d;cases d
    .rw[JM e]at d;show a.al m t d
abbrev fgts:!Nat->Rho->Rho
 | [],O=>O
 | i::a,O=>fgts a (fgt i O)
def Sim.fgts:∀{ks:!Nat} {O:Rho} {E:!En},Sim Γ H O Z E->Sim Γ H (L2.fgts ks O) Z (aj ks E)
 | [],O,E,S=>by rw[cw];show S
 | i::ks,O,E,S=>by
  have:=Sim.fgts (ks:=ks) (S.fgt i);rw[ah]at this;show this
private def cQ(ks:!Nat)(s:MS):MS:={λO=>match s.run O with
 | some (.nx,a)=>Ud (.nx,fgts ks a)
 | some (.ct,a)=>Ud (.ct,fgts ks a)
 | some (.rt t,a)=>Ud (.rt t,a)
 | some (.bk,a)=>Ud (.bk,a)
 | none=>Uc,s.mu++ks}
def B6(h:f8 K ts s):f8 K ts (cQ ks s):=by
 intro Γ H O Z E D f m d e a S q;dsimp[cQ]at a q;split at a
 .delta l c;cases a;show h Γ H O Z E D _ _ d e c S λi g j=>q i g (by rw[<-ah];show j.fgts)
 .delta l c;cases a;show h Γ H O Z E D _ _ d e c S λi g j=>q i g (by rw[<-ah];show j.fgts)
 .delta t l c;cases a;show h Γ H O Z E D _ _ d e c S q.weak
 .delta l c;cases a;show h Γ H O Z E D _ _ d e c S q.weak
 .cases a
def i5(ks:!Nat){st:!Stmt}{s:MS}(h:QSs C K st s):QSs C K st (cQ ks s):=by
 have(t,p,r):=h;show{t,p,B6 r}
end
end
structure W1{α:Type}(o:↑α)(Q : α->Prop):Prop where
 ex:∃x,o*>x/\Q x
structure W2{α β:Type}(o:↑(α × β))(Q : α->β->Prop):Prop where
 ex:∃x y,o*>(x,y)/\Q x y
structure WE(m:ME)(O:Rho)(Q:R->Rho->Prop):Prop where
 ex:∃x y,m.run O*>(x,y)/\Q x y
structure WT(m:MT)(O:Rho)(Q:Bool->Rho->Prop):Prop where
 ex:∃x y,m.run O*>(x,y)/\Q x y
structure WA(m:MA)(O:Rho)(Q:!R->Rho->Prop):Prop where
 ex:∃x y,m.run O*>(x,y)/\Q x y
structure WS(m:MS)(O:Rho)(Q:Fl->Rho->Prop):Prop where
 ex:∃x y,m.run O*>(x,y)/\Q x y
structure WG(m:MG)(r:R)(O:Rho)(Q:Rho->Prop):Prop where
 ex:∃x,m.run r O*>x/\Q x
structure WGs(m:MGs)(rs:!R)(O:Rho)(Q:Rho->Prop):Prop where
 ex:∃x,m.run rs O*>x/\Q x
structure WI(m:MI)(O:Rho)(Q:!R->!R->Rho->Prop):Prop where
 ex:∃r rs O',m.run O*>((r,rs),O')/\Q r rs O'
structure WO(m:MO)(O:Rho)(Q:↑Int->Rho->Prop):Prop where
 ex:∃x y,m.run O*>(x,y)/\Q x y
structure Gu(b:Bool)(P:Prop):Prop where
 ex:b=Ug/\P
structure IsB(t:T)(Q:Bool->Prop):Prop where
 ex:∃b,t=.im (.bl b)/\Q b
structure IsN(t:T)(Q:Int->Prop):Prop where
 ex:∃n,t=.im (.int n)/\Q n
structure AtV(n:Nat)(O:Rho)(Q:R->Prop):Prop where
 ex:∃r,O[n]?*>(Ud r)/\Q r
structure AtC(k j:Nat)(rs:!R)(O:Rho)(Q:!Ac->Kd->T->Prop):Prop where
 ex:∃p t1 kd t0,rs[k]?*>{.vw (Ud j) (Ud p),t1}/\((JE rs.length).all λm=>decide (m=k)||aM [j] (rs.getD m ⟨.ow,.im .non⟩))=Ug/\O[j]?*>(Ud ⟨kd,t0⟩)/\kd.isOw=Ug/\Q p kd t0
structure AtT(k:Nat)(rs:!R)(P:Prop):Prop where
 ex:∃t1,rs[k]?=⇑t1/\P
structure AtM(l:Nat)(O:Rho)(Q:Kd->T->Prop):Prop where
 ex:∃k t,O[l]?*>(Ud ⟨k,t⟩)/\k.isOw=Ug/\Q k t
structure AtS(j:Nat)(r:R)(Q:!Ac->T->Prop):Prop where
 ex:∃p s,r={.vw (Ud j) (Ud p),s}/\Q p s
structure Two(rs:!R)(Q:R->R->Prop):Prop where
 ex:∃r1 r2,rs=[r1,r2]/\Q r1 r2
structure Three(rs:!R)(Q:R->R->R->Prop):Prop where
 ex:∃r1 r2 r3,rs=[r1,r2,r3]/\Q r1 r2 r3
structure Pa(rs:!R)(Q:Int->Prop):Prop where
 ex:∃n,rs.map (·.t)=[.im (.int n)]/\Q n
structure Pg(rs:!R)(Q:Int->Int->Prop):Prop where
 ex:∃m n,rs.map (·.t)=[.im (.int m),.im (.int n)]/\Q m n
def I8(q:Q b):IsB (.im (.bl b)) Q:=⟨b,Xr,q⟩
def I9(q:Q n):IsN (.im (.int n)) Q:=⟨n,Xr,q⟩
def r9(h : O[n]?*>(Ud r))(q:Q r):AtV n O Q:=⟨r,h,q⟩
def DK(e:rs[k]?*>{.vw (Ud j) (Ud p),t1})(a:((JE rs.length).all λm=>decide (m=k)||aM [j] (rs.getD m ⟨.ow,.im .non⟩))=Ug)(c : O[j]?*>(Ud ⟨kd,t0⟩))(d:kd.isOw=Ug)(q:Q p kd t0):AtC k j rs O Q:=⟨p,t1,kd,t0,e,a,c,d,q⟩
def DL(h : O[l]?*>(Ud ⟨k,t⟩))(ho:k.isOw=Ug)(q:Q k t):AtM l O Q:=⟨k,t,h,ho,q⟩
def IP(q:Q p s):AtS j {.vw (Ud j) (Ud p),s} Q:=⟨p,s,Xr,q⟩
def FT(q:Q r1 r2):Two [r1,r2] Q:=⟨r1,r2,Xr,q⟩
def uc(h:rs.map (·.t)=[.im (.int n)])(q:Q n):Pa rs Q:=⟨n,h,q⟩
def A4(h:rs.map (·.t)=[.im (.int m),.im (.int n)])(q:Q m n):Pg rs Q:=⟨m,n,h,q⟩
section
variable {α β:Type}{O:Rho}{a b c m:ME}{ms:MA}{ct ct':MT}{s1 s2:MS}{g:MG}{gs:MGs}{it:MI}{QE':R->Rho->Prop}{QT':Bool->Rho->Prop}{QA':!R->Rho->Prop}{Q:Fl->Rho->Prop}{QG':Rho->Prop}{P:Prop}{o:↑α}{x : α}{Q1 : α->Prop}
def W2.mono{o:↑(α × β)}{Q1 d : α->β->Prop}(h:W2 o Q1)(k:∀x y,Q1 x y->d x y):W2 o d:=by have(x,y,e,q):=h;show{x,y,e,k x y q}
def w1(h:o*>x)(q:Q1 x):W1 o Q1:=⟨x,h,q⟩
def gu{b:Bool}(h:b=Ug)(p:P):Gu b P:=⟨h,p⟩
def WS.mono(h:WS s1 O Q)(k:∀f O,Q f O->Q2 f O):WS s1 O Q2:=by have(x,y,e,q):=h;show{x,y,e,k x y q}
def WG.mono{r:R}{Q1 d:Rho->Prop}(h:WG g r O Q1)(k:∀O,Q1 O->d O):WG g r O d:=by have(x,e,q):=h;show{x,e,k x q}
def WA.mono{Q1 d:!R->Rho->Prop}(h:WA ms O Q1)(k:∀rs O,Q1 rs O->d rs O):WA ms O d:=by have(x,y,e,q):=h;show{x,y,e,k x y q}
def WT.mono{Q1 d:Bool->Rho->Prop}(h:WT ct O Q1)(k:∀b O,Q1 b O->d b O):WT ct O d:=by have(x,y,e,q):=h;show{x,y,e,k x y q}
def WE.mono(h:WE m O QE')(k:∀f O,QE' f O->Q2 f O):WE m O Q2:=by have(x,y,e,q):=h;show{x,y,e,k x y q}
def w_C(q:QE' {.ow,.im i} O):WE (mC i) O QE':=by unhygienic show{_,_,Xr,q}
def hJ(h : O[n]?*>(Ud r))(q:QE' (rdR n r) O):WE (ag n) O QE':={rdR n r,O,by dsimp[ag,h],q}
def tL(h:WE a O λe j=>WE b j λi d=>Gu (aM b.mu e) (W1 (f e.t i.t) λt=>QE' {.ow,t} d)):WE (mOp f a b) O QE':=by
 obtain⟨e,j,p,i,d,r,l,t,s,q⟩:=h;show{{.ow,t},d,by dsimp[mOp,p,r,l,if_true,s],q}
def Jp(h:WE a O λe d=>W1 (f e.t) λt=>QE' {.ow,t} d):WE (mUn f a) O QE':=by
 have(e,d,i,t,j,q):=h;show{{.ow,t},d,by dsimp[mUn,i,j],q}
def w_B(h:WA ms O λrs d=>W1 (f (rs.map (·.t))) λt=>QE' {.ow,t} d):WE (mB f ms) O QE':=by
 have(j,d,e,t,i,q):=h;show{{.ow,t},d,by dsimp[mB,e,i],q}
def w_M(h:WE a O λe i=>WA ms i λrs d=>Gu (aM ms.mu e) (W1 (f e.t (rs.map (·.t))) λt=>QE' {.ow,t} d)):WE (mM f a ms) O QE':=by
 obtain⟨e,i,l,s,d,p,j,t,r,q⟩:=h;show{{.ow,t},d,by dsimp[mM,l,p,j,if_true,r],q}
def Ix(h:WT ct O λd i=>(d=Ug->WE a i QE')/\(d=Ue->WE b i QE')):WE (sF ct a b) O QE':=by
 have(d,i,j,l,r):=h;cases d with
 | true=>have(p,f,e,q):=l rfl;show{p,f,by dsimp[sF,j,e],q}
 | false=>have(p,f,e,q):=r rfl;show{p,f,by dsimp[sF,j,e],q}
def Am(h:WE a O λe i=>WE b i λf d=>Gu (aM b.mu e) (W1 (ixR e f.t) λr=>QE' r d)):WE (mIx a b) O QE':=by
 obtain⟨e,i,l,f,d,p,j,r,s,q⟩:=h;show{r,d,by dsimp[mIx,l,p,j,if_true,s],q}
def CS(q:QO' Uc O):WO mNoPart O QO':=by unhygienic show{_,_,Xr,q}
def CT(h:WE a O λr d=>IsN r.t λn=>QO' (Ud n) d):WO (eS a) O QO':=by
 obtain⟨⟨k,t⟩,d,e,n,f,q⟩:=h;cases f;show{Ud n,d,by dsimp[eS,e],q}
def Jn{lo f:MO}(h:WE a O λe j=>WO lo j λl i=>WO f i λu d=>Gu (aM (lo.mu++f.mu) e) (W1 (slR e l u) λr=>QE' r d)):WE (mSl a lo f) O QE':=by
 obtain⟨e,j,s,l,i,t,u,d,w,p,r,v,q⟩:=h;show{r,d,by dsimp[mSl,s,t,w,p,if_true,v],q}
def FZ(h:WE a O λr f=>IsB r.t λd=>(d=Ug->WE b f QE')/\(d=Ue->QE' {.ow,.im (.bl Ue)} f)):WE (mq a b) O QE':=by
 obtain⟨⟨k,t⟩,f,i,d,s,j,u⟩:=h;cases s;cases d with
 | true=>have(p,l,e,q):=j rfl;show{p,l,by dsimp[mq,i,e],q}
 | false=>show{_,_,by dsimp[mq,i],u rfl}
def Ga(h:WE a O λr d=>IsB r.t λe=>QE' {.ow,.im (.bl (~~~e))} d):WE (ou a) O QE':=by
 obtain⟨⟨k,t⟩,d,f,e,i,q⟩:=h;cases i;show{_,_,by dsimp[ou,f],q}
def Ao(h:WA ms O λrs e=>Gu (decide (rs.length<=1000)) (W2 (consL mv rs e) λts d=>QE' {.ow,cF ts} d)):WE (bo mv ms) O QE':=by
 have(rs,e,i,f,ts,d,j,q):=h;show{{.ow,cF ts},d,by dsimp[bo,i,if_pos (of_decide_eq_true f),j],q}
def Aq(h:WA ms O λrs e=>Gu (decide (rs.length<=1000)) (W2 (consL mv rs e) λts d=>QE' {.ow,oy ts} d)):WE (aD mv ms) O QE':=by
 have(rs,e,i,f,ts,d,j,q):=h;show{{.ow,oy ts},d,by dsimp[aD,i,if_pos (of_decide_eq_true f),j],q}
def qc{k j:Nat}{run:!T->↑(T×T)}(h:WA ms O λrs d=>AtC k j rs d λp kd e=>W2 (run (rs.map (·.t))) λt f=>QE' {.ow,t} ((aB [j] d).set j (Ud {kd,e.put p f}))):WE (ao k j run ms) O QE':=by
 obtain⟨rs,d,s,p,w,kd,e,u,r,l,v,t,f,i,q⟩:=h;show{{.ow,t},(aB [j] d).set j (Ud {kd,e.put p f}),?_,q};dsimp[ao,s];dsimp[u];rw[if_pos (by rw[Jv];show⟨Xr,r⟩)];dsimp[i,l,v,if_true]
def Ap(h:WE a O λd i=>WA ms i λrs e=>Gu (aM ms.mu d) (W2 (mutR l mv f d rs e) QE')):WE (fj l mv f a ms) O QE':=by
 obtain⟨d,i,s,rs,e,t,r,p,j,u,q⟩:=h;show{p,j,by dsimp[fj,s,t,r,if_true,u],q}
def F8(h:WE a O λd e=>W2 (mutR l [] f d [] e) QE'):WE (mw l f a) O QE':=by
 have(d,e,j,p,i,r,q):=h;show{p,i,by dsimp[mw,j,r],q}
def tK(r:mv.contains l=Ue)(h:W2 (consL mv rs O) λts i=>AtM l i λk t=>W2 (f s ts) λj d=>QQ {.ow,.im d} ((aB [l] i).set l (Ud {k,t.put p j}))):W2 (mutR l mv f {.vw (Ud l) (Ud p),s} rs O) QQ:=by
 obtain⟨ts,i,w,k,t,u,v,j,d,e,q⟩:=h;show{_,_,?_,q};unfold mutR;dsimp[decide_true,r,w,e,u,v,Nn,LC,if_true]
def nB(q:QA' [] O):WA mNil O QA':=by unhygienic show{_,_,Xr,q}
def qd(h:WE m O λr e=>WA ms e λrs d=>Gu (aM ms.mu r) (QA' (r::rs) d)):WA (ac m ms) O QA':=by
 have(j,e,i,l,d,p,f,q):=h;show⟨j::l,d,by dsimp[ac,i,p,f,if_true],q⟩
def fN(e : O[n]?*>(Ud r0))(h:WA ms O λrs d=>AtV n d λr=>QA' (rdR n r::rs) d):WA (aa n ms) O QA':=by
 have(rs,d,i,r,f,q):=h;show{rdR n r::rs,d,by dsimp[aa,i,f,e],q}
def CU(h:WE a O λr d=>IsB r.t λe=>QT' e d):WT (bc a) O QT':=by
 obtain⟨⟨k,t⟩,d,f,e,i,q⟩:=h;cases i;show{e,d,by dsimp[bc,f],q}
def nD(h:WE a O λr e=>W1 (tru r.t) λd=>QT' d e):WT (vE a) O QT':=by
 have(r,e,f,d,i,q):=h;show{d,e,by dsimp[vE,f,i],q}
def nC(h:WT ct O λe d=>QT' (~~~e) d):WT (my ct) O QT':=by
 have(r,d,f,q):=h;show{_,_,by dsimp[my,f],q}
def Gp(h:WT ct O λd f=>(d=Ug->WT ct' f QT')/\(d=Ue->QT' Ue f)):WT (nM ct ct') O QT':=by
 have(d,f,i,j,r):=h;cases d with
 | true=>have(p,l,e,q):=j rfl;show{p,l,by dsimp[nM,i,e],q}
 | false=>show{_,_,by dsimp[nM,i],r rfl}
def II(h:WT ct O λd f=>(d=Ug->QT' Ug f)/\(d=Ue->WT ct' f QT')):WT (mOr ct ct') O QT':=by
 have(d,f,i,j,r):=h;cases d with
 | false=>have(p,l,e,q):=r rfl;show{p,l,by dsimp[mOr,i,e],q}
 | true=>show{_,_,by dsimp[mOr,i],j rfl}
def kU(q:QT' Ug O):WT mYes O QT':=by unhygienic show{_,_,Xr,q}
def CN(h:(iA O i&&aM [i] r)=Ug)(q:QG' ((aB [i] O).set i (Ud r))):WG (af i) r O QG':={(aB [i] O).set i (Ud r),by dsimp[af,h,if_true],q}
def CO(q:QG' O):WGs mGNil [] O QG':=by unhygienic show{_,Xr,q}
def Av(e:rs.all (aM g.mu)=Ug)(h:WG g r O λd=>WGs gs rs d QG'):WGs (av g gs) (r::rs) O QG':=by
 have(d,i,f,j,q):=h;show{f,by dsimp[av,e,if_true,i,j],q}
def Gn(d:parts r*>rs)(h:WGs gs rs O QG'):WG (bA gs) r O QG':=by
 have(e,f,q):=h;show{e,by dsimp[bA,d,f],q}
def Gk(h:WE a O λl f=>WE b f λe d=>AtS j l λp s=>Gu (~~~b.mu.contains j) (AtM j d λk t=>W1 (zU s e.t tv) λi=>QG' ((aB [j] d).set j (Ud {k,t.put p i})))):WG (qL j a b) {.ow,tv} O QG':=by
 obtain⟨l,f,w,e,d,y,p,s,rfl,u,k,t,v,z,i,r,q⟩:=h;show{_,?_,q};dsimp[qL,w,y,u,decide_true,LC,if_true,r,v,z]
def Au(h:WE a O λr f=>WE b f λs l=>WE c l λB e=>∃p d k t i n,r={.vw (Ud j) (Ud p),.li d}/\s.t=.im (.int i)/\B.t=.im (.int n)/\(b.mu++c.mu).contains j=Ue/\(0<=i/\i<=n/\n<=d.length/\d.length+ys.length<=sizeLine)/\e[j]?*>(Ud ⟨k,t⟩)/\k.isOw=Ug/\QG' ((aB [j] e).set j (Ud {k,t.put p (.li (d.take i.toNat++ys++d.drop n.toNat))}))):WG (jq j a b c) {.ow,.li ys} O QG':=by
 obtain⟨r,f,z,⟨_,_⟩,l,A,⟨_,_⟩,e,y,p,d,k,t,i,n,rfl,rfl,rfl,v,w,u,E,q⟩:=h;show{_,?_,q};dsimp[jq,z,A,y,v,decide_true,Nn,Mh];rw[if_pos (decide_eq_true w)];dsimp[u,E,if_true]
def F9(q:Q .nx O):WS mNext O Q:=by unhygienic show{_,_,Xr,q}
@[irreducible] def DW(b:MS)(Q:Fl->Rho->Prop):Fl->Rho->Prop
 | .nx,O=>WS b O Q
 | .rt t,O=>Q (.rt t) O
 | .bk,O=>Q .bk O
 | .ct,O=>Q .ct O
def j2(h:WS s1 O (DW s2 Q)):WS (ax s1 s2) O Q:=by unhygienic
 have(f,i,d,q):=h;cases f with
 | nx=>have q:WS s2 i Q:=q;have(p,j,e,q):=q;show{p,j,by dsimp[ax,d,e],q}
 | rt t=>show{.rt t,i,by dsimp[ax,d],q}
 | bk=>show{.bk,i,by dsimp[ax,d],q}
 | ct=>show{.ct,i,by dsimp[ax,d],q}
def bC(h:WT ct O λd i=>(d=Ug->WS s1 i Q)/\(d=Ue->WS s2 i Q)):WS (mIf ct s1 s2) O Q:=by
 have(d,i,j,l,r):=h;cases d with
 | true=>have(p,f,e,q):=l rfl;show{p,f,by dsimp[mIf,j,e],q}
 | false=>have(p,f,e,q):=r rfl;show{p,f,by dsimp[mIf,j,e],q}
def tJ(h:WE m O λ_ d=>Q .nx d):WS (bU m) O Q:=by
 have(r,d,e,q):=h;show{.nx,d,by dsimp[bU,e],q}
def Iu(h:WE m O λr e=>WG g r e λd=>Q .nx d):WS (aI m g) O Q:=by
 have(r,e,f,d,i,q):=h;show{.nx,d,by dsimp[aI,f,i],q}
def ID(h:WE m O λr e=>W2 (wq r e) λt d=>Q (.rt t) d):WS (bq m) O Q:=by
 have(r,e,f,t,d,i,q):=h;show{.rt t,d,by dsimp[bq,f,i],q}
def IC(h:WA ms O λrs e=>Two rs λf d=>Gu (mH f&&mH d) (Gu (iA e i&&aM [i] f&&aM [i] d&&iA e j&&aM [j] d) (Q .nx ((aB [j] ((aB [i] e).set i (Ud f))).set j (Ud d))))):WS (k7 i j ms) O Q:=by
 have(rs,e,p,f,d,rfl,l,r,q):=h;show{.nx,(aB [j] ((aB [i] e).set i (Ud f))).set j (Ud d),?_,q};rw[Jv]at l;dsimp[k7,Be,p,Ll,M4,l.1,l.2,Nq,LC,if_true,r]
@[irreducible] def GE(ks:!Nat)(Q:Fl->Rho->Prop):Fl->Rho->Prop
 | .nx,O=>Q .nx (fgts ks O)
 | .ct,O=>Q .ct (fgts ks O)
 | .rt t,O=>Q (.rt t) O
 | .bk,O=>Q .bk O
def Iw(h:WS s1 O (GE ks Q)):WS (cQ ks s1) O Q:=by unhygienic
 have(f,e,d,q):=h;cases f with
 | nx=>show{_,_,by dsimp[cQ,d],q}
 | ct=>show{_,_,by dsimp[cQ,d],q}
 | rt t=>show{_,_,by dsimp[cQ,d],q}
 | bk=>show{_,_,by dsimp[cQ,d],q}
abbrev vf(Inv:Nat->Rho->Prop)(i:Nat)(Q:Fl->Rho->Prop):Fl->Rho->Prop
 | .nx,O=>Inv (i+1) O
 | .ct,O=>Inv (i+1) O
 | .bk,O=>Q .nx O
 | .rt t,O=>Q (.rt t) O
def t8{items:!R}(Inv:Nat->Rho->Prop)(hs:∀i r O,items[i]?*>r->Inv i O->WG g r O λp=>WS s1 p (vf Inv i Q))(s:∀O,Inv items.length O->Q .nx O):∀(l:!R) (i:Nat) (O:Rho),items.drop i=l->i<=items.length->Inv i O->W2 (gE g.run s1.run l O) Q
 | [],i,O,d,z,j=>by
  have:i=items.length:=by have:=congrArg KC d;simp at this;omega
  subst this;show{_,_,Xr,s O j}
 | r::l,i,O,d,z,j=>by
  have u:items[i]?*>r:=by rw[<-MC,d];rfl
  have h:=(Js.mp u).1;have e:items.drop (i+1)=l:=by rw[<-ML,d];rfl
  have(p,w,f,v,y,q):=hs i r O u j;have k:=t8 Inv hs s l (i+1) v e h;dsimp[gE,w,y];cases f with
  | nx=>show k q
  | ct=>show k q
  | bk=>show{_,_,Xr,q}
  | rt t=>show{_,_,Xr,q}
def rS(h:WI it O λd items f=>Gu (d.all (aM (g.mu++s1.mu))&&items.all (aM (g.mu++s1.mu))) (∃Inv:Nat->Rho->Prop,Inv 0 f/\(∀i r O,items[i]?*>r->Inv i O->WG g r O λf=>WS s1 f (vf Inv i Q))/\∀O,Inv items.length O->Q .nx O)):WS (cD it g s1) O Q:=by
 have(d,items,f,t,l,Inv,u,v,j):=h;have(p,s,e,q):=t8 (Q:=Q) Inv v j items 0 f rfl (Ku _) u;show{p,s,by dsimp[cD,t];rw[if_pos l];show e,q}
def jA{M:!Nat}{items:!R}(h:∀r∈items,r.k=.ow):items.all (aM M)=Ug:=K0.mpr λr d=>by unfold aM eR;rw[h r d];rfl
def F4{i:Nat}(h:WA ms O λrs d=>∃n:Int,rs.map (·.t)=[.im (.int n)]/\-(2^62)<=n/\n<2^62/\(∃Inv:Nat->Rho->Prop,Inv 0 d/\(∀(j:Nat) O,(j:Int)<n->Inv j O->WG (af i) (mT j) O λd=>WS s1 d (vf Inv j Q))/\∀O,Inv n.toNat O->Q .nx O)):WS (cD (bp ms) (af i) s1) O Q:=by
 obtain⟨rs,d,v,n,w,s,p,Inv,y,A,u⟩:=h;show rS {[sY],jw 0 n.toNat,d,by dsimp[bp,v,w,l1,isI];rw[if_pos ⟨s,p⟩],?_,Inv,y,λj r O e f=>?_,λO f=>u O (by simpa[jw]using f)}
 .rw[Jv];show{Xr,jA λr e=>by have(x,_,rfl):=Jz.mp e;rfl}
 .have(x,q,rfl):=ay e;have(z,l):=Js.mp q;simp at z l;subst l;have:=A j O ⋯ f;rw[NA];show this
def CH{i:Nat}(h:WA ms O λrs d=>∃m n:Int,rs.map (·.t)=[.im (.int m),.im (.int n)]/\(-(2^62)<=m/\m<2^62/\-(2^62)<=n/\n<2^62)/\(∃Inv:Nat->Rho->Prop,Inv 0 d/\(∀(j:Nat) O,m+(j:Int)<n->Inv j O->WG (af i) (mT (m+j)) O λd=>WS s1 d (vf Inv j Q))/\∀O,Inv (n-m).toNat O->Q .nx O)):WS (cD (g8 ms) (af i) s1) O Q:=by
 obtain⟨rs,d,u,m,n,v,q,Inv,w,z,s⟩:=h;show rS {[sY],jw m (n-m).toNat,d,by dsimp[g8,u,v,l2,l1,ii2,isI];rw[if_pos q],?_,Inv,w,λj r O e f=>?_,λO f=>s O (by simpa[jw]using f)}
 .rw[Jv];show{Xr,jA λr e=>by have(x,_,rfl):=Jz.mp e;rfl}
 .have(x,p,rfl):=ay e;have(y,l):=Js.mp p;simp at y l;subst l;show z j O ⋯ f
def F3(h:WE m O λr d=>∃is:!I,il r*>(is.map λi=>{.ow,.im i})/\aM (g.mu++s1.mu) r=Ug/\(∃Inv:Nat->Rho->Prop,Inv 0 d/\(∀j x O,is[j]?*>x->Inv j O->WG g {.ow,.im x} O λd=>WS s1 d (vf Inv j Q))/\∀O,Inv is.length O->Q .nx O)):WS (cD (mIt m) g s1) O Q:=by
 obtain⟨r,d,s,is,t,q,Inv,u,v,p⟩:=h;show rS {[r],is.map (λi=>{.ow,.im i}),d,by dsimp[mIt,s,t],?_,Inv,u,λj r O e f=>?_,λO f=>p O (by exists f)}
 .rw[Jv];show{by rw[Ll,M4,q];rfl,jA λr e=>by have(x,_,rfl):=Jz.mp e;rfl}
 .have(x,l,rfl):=ay e;show v j x O l f
def CJ(Inv:Nat->Rho->Prop)(n:Nat)(A:Inv n O) (hs:∀n O,Inv n O->WT ct O λs l=>(s=Ue->Q .nx l)/\(s=Ug->WS s1 l λf d=>match f with
  | .nx=>∃m,m<n/\Inv m d
  | .ct=>∃m,m<n/\Inv m d
  | .bk=>Q .nx d
  | .rt t=>Q (.rt t) d)):WS (iu ct s1) O Q:=by
 have v:∀n O,Inv n O->W2 (itW ct s1 (n+1) O) Q:=by
  intro n
  induction n using Nat.strongRecOn with
  | _ n w=>
   intro O B;have(s,l,j,y,z):=hs n O B;cases s with
   | false=>show{.nx,l,by dsimp[itW,j],y rfl}
   | true=>
    have(f,d,r,q):=z rfl;cases f with
    | nx=>
     have(m,u,h):=q;have(p,i,e,q):=w m u d h;show{p,i,by dsimp[itW,j,r];show gy e _ ⋯,q}
    | ct=>
     have(m,u,h):=q;have(p,i,e,q):=w m u d h;show{p,i,by dsimp[itW,j,r];show gy e _ ⋯,q}
    | bk=>show{.nx,d,by dsimp[itW,j,r],q}
    | rt t=>show{.rt t,d,by dsimp[itW,j,r],q}
 have(p,i,e,q):=v n O A;show{p,i,wM e,q}
def lT{fr:! ↑Nat}{M:!Nat}{items:!R}{QC:!T->Rho->Prop}(Inv:Nat->!T->Rho->Prop)
  (hs:∀i r d O,items[i]?*>r->Inv i d O->WG g (kM (piF fr) r) (inR fr O) λv=>WT ct v λj s=>(j=Ug->WE m s λr w=>∃t,r={.ow,t}/\Inv (i+1) (d++[t]) (dF fr M w O))/\(j=Ue->Inv (i+1) d (dF fr M s O)))
  (p:∀d O,Inv items.length d O->QC d O):∀(l:!R) (i:Nat) (d:!T) (O:Rho),items.drop i=l->i<=items.length->Inv i d O->W2 (cS fr M g ct m l O d) QC
 | [],i,d,O,h,H,u=>by
  have:i=items.length:=by have:=congrArg KC h;simp at this;omega
  subst this;show{_,_,Xr,p d O u}
 | r::l,i,d,O,h,H,u=>by
  have y:items[i]?*>r:=by rw[<-MC,h];rfl
  have f:=(Js.mp y).1;have e:items.drop (i+1)=l:=by rw[<-ML,h];rfl
  have(v,z,j,s,A,B,E):=hs i r d O y u;cases j with
  | true=>
   have(J,w,G,t,rfl,q):=B rfl;dsimp[cS,z,A,G];show lT Inv hs p l (i+1) _ _ e f q
  | false=>
   dsimp[cS,z,A];show lT Inv hs p l (i+1) _ _ e f (E rfl)
def kT{fr:! ↑Nat} (h:WI it O λj items f=>Gu (fQ fr f.length&&fV (g.mu++(ct.mu++m.mu)) fr.length&&j.all (aM (muF fr (g.mu++(ct.mu++m.mu))))) (items.length<sizeLine/\∃Inv:Nat->!T->Rho->Prop,Inv 0 [] f /\
  (∀i r d O,items[i]?*>r->Inv i d O->WG g (kM (piF fr) r) (inR fr O) λf=>WT ct f λp l=>(p=Ug->WE m l λr v=>∃t,r={.ow,t}/\Inv (i+1) (d++[t]) (dF fr (g.mu++(ct.mu++m.mu)) v O))/\(p=Ue->Inv (i+1) d (dF fr (g.mu++(ct.mu++m.mu)) l O))) /\
  ∀d O,Inv items.length d O->QE' {.ow,cF d} O)):WE (aO fr it g ct m) O QE':=by
 obtain⟨j,items,f,y,w,s,Inv,z,A,u⟩:=h;have(B,l,e,q):=lT (QC:=λd O=>QE' {.ow,cF d} O) Inv A u items 0 [] f rfl (Ku _) z;show{{.ow,cF B},l,?_,q};dsimp[aO,y];rw[if_pos (by rw[Jv];show{w,decide_eq_true s})];dsimp[e]
def CP(h:WA ms O λrs d=>∃n:Int,rs.map (·.t)=[.im (.int n)]/\(-(2^62)<=n/\n<2^62)/\QI' [sY] (jw 0 n.toNat) d):WI (bp ms) O QI':=by
 have(rs,d,e,n,i,f,q):=h;show{_,_,_,by dsimp[bp,e,i,l1,isI];rw[if_pos f],q}
def CQ(h:WA ms O λrs d=>∃m n:Int,rs.map (·.t)=[.im (.int m),.im (.int n)]/\(-(2^62)<=m/\m<2^62/\-(2^62)<=n/\n<2^62)/\QI' [sY] (jw m (n-m).toNat) d):WI (g8 ms) O QI':=by
 have(rs,d,e,m,n,f,i,q):=h;show{_,_,_,by dsimp[g8,e,f,l2,l1,ii2,isI];rw[if_pos i],q}
def Go(h:WE m O λr d=>W1 (il r) λrs=>QI' [r] rs d):WI (mIt m) O QI':=by
 have(r,d,e,rs,f,q):=h;show{[r],rs,d,by dsimp[mIt,e,f],q}
def uQ(h:WA ms O λrs d=>∃k is,rs=[{k,.im (.tup is)}]/\QI' [{k,.im (.tup is)}] (ij 0 is) d):WI (ot ms) O QI':=by
 have(rs,d,e,k,is,rfl,q):=h;show{_,_,_,by dsimp[ot,e],q}
end
section
variable {α β:Type}{O:Rho}{QT1:T->Prop}{QR:R->Prop}{QI1:T->I->Prop}{m:MS}{n k:Nat}{ts:!T}
@[irreducible] def fP(R:T->Prop):Fl->Rho->Prop
 | .rt t,_=>R t
 | .nx,_=>R (.im .non)
 | _,_=>False
@[irreducible] def fI(k:Nat)(R:T->T->Prop):Fl->Rho->Prop
 | .rt t,O=>∃s',O[k]?*>(Ud {.io 0,s'})/\R t s'
 | .nx,O=>∃s',O[k]?*>(Ud {.io 0,s'})/\R (.im .non) s'
 | _,_=>False
def uD{run:!T->↑T}{l:Nat}(a:run ts=if ts.length=l then cR m n ts else Uc)(c:ts.length=l)(h:WS m (dM ts n) (fP QT1)):W1 (run ts) QT1:=by unhygienic
 rw[a,if_pos c];have(f,O,e,q):=h;cases f with
 | nx=>show{_,by dsimp[cR,e],q}
 | rt t=>show{_,by dsimp[cR,e],q}
 | bk=>cases q
 | ct=>cases q
def i7{run:!T->↑(T×T)}{l:Nat}{d:T->T->Prop}(c:run ts=if ts.length=l then eJ m k n ts else Uc)(i:ts.length=l)(h:WS m (gN k ts n) (fI k d)):W2 (run ts) d:=by unhygienic
 rw[c,if_pos i];have(f,O,e,q):=h;cases f with
 | nx=>have q:∃a,O[k]?*>(Ud {.io 0,a})/\d (.im .non) a:=q;obtain⟨a,g,q⟩:=q;show{_,_,by dsimp[eJ,e,g],q}
 | rt t=>have q:∃a,O[k]?*>(Ud {.io 0,a})/\d t a:=q;obtain⟨a,g,q⟩:=q;show{_,_,by dsimp[eJ,e,g],q}
 | bk=>cases q
 | ct=>cases q
variable {a b:Int}{s z:Str}{is js:!I}{i j:I}
def EG(q:QT1 (.im (.int (a+b)))):W1 (br (.im (.int a)) (.im (.int b))) QT1:=by unhygienic show{_,Xr,q}
def pF(h:s.length+z.length<=sizeLine)(q:QT1 (.im (.str (s++z)))):W1 (br (.im (.str s)) (.im (.str z))) QT1:=by unhygienic show{_,if_pos h,q}
def sK(h:is.length+js.length<=sizeLine)(q:QT1 (.im (.tup (is++js)))):W1 (br (.im (.tup is)) (.im (.tup js))) QT1:=by unhygienic show{_,if_pos h,q}
def gJ(h:is.length+js.length<=sizeLine)(q:QT1 (.li (is++js))):W1 (br (.li is) (.li js)) QT1:=by unhygienic show{_,if_pos h,q}
def Hk(q:QT1 (.im (.int (a-b)))):W1 (cz (.im (.int a)) (.im (.int b))) QT1:=by unhygienic show{_,Xr,q}
def pC(d : -(2^64)<a)(c:a<2^64):k8 a b=Ug:=by unfold k8;dsimp[d,c,decide_true,LC,Ny]
def Jc(d : -(2^64)<b)(c:b<2^64):k8 a b=Ug:=by unfold k8;dsimp[d,c,decide_true,LC,Bool.or_true]
def jg(h:k8 a b=Ug)(q:QT1 (.im (.int (a*b)))):W1 (cK (.im (.int a)) (.im (.int b))) QT1:=by unhygienic show{_,if_pos h,q}
def yn(h:is≠[]/\is.length<=1000/\1<=b/\b<=1000)(q:QT1 (.im (.tup (Jw b.toNat is).flatten))):W1 (cK (.im (.tup is)) (.im (.int b))) QT1:=by unhygienic show{_,if_pos h,q}
def sN(h : -(2^63)<=b/\b<2^63/\is.length*b.toNat<=sizeLine)(q:QT1 (.li (Jw b.toNat is).flatten)):W1 (cK (.li is) (.im (.int b))) QT1:=by unhygienic show{_,if_pos h,q}
def EI(h:0<b/\b<2^64)(q:QT1 (.im (.int (a / b)))):W1 (ja (.im (.int a)) (.im (.int b))) QT1:=by unhygienic show{_,if_pos h,q}
def ym(h:0<b)(q:QT1 (.im (.int (a % b)))):W1 (hV (.im (.int a)) (.im (.int b))) QT1:=by unhygienic show{_,if_pos h,q}
def Dc(h:0<=b/\b<=1000000/\a.natAbs<2^64)(q:QT1 (.im (.int (a^b.toNat)))):W1 (vV (.im (.int a)) (.im (.int b))) QT1:=by unhygienic show{_,if_pos h,q}
def Hi(q:QT1 (.im (.int (-a)))):W1 (vI (.im (.int a))) QT1:=by unhygienic show{_,Xr,q}
def G6(q:QT1 (.im (.bl (p a b)))):W1 (ic p (.im (.int a)) (.im (.int b))) QT1:=by unhygienic show{_,Xr,q}
def G9(q:QT1 (.im (.bl (decide (a=b))))):W1 (eqT (.im (.int a)) (.im (.int b))) QT1:=by unhygienic show{_,Xr,by simpa using q}
def Hh(q:QT1 (.im (.bl (~~~decide (a=b))))):W1 (neT (.im (.int a)) (.im (.int b))) QT1:=by unhygienic show{_,Xr,by simpa using q}
def Ha(h:I.doks is=Ug/\I.doks js=Ug/\I.deps is<=50)(q:QT1 (.im (.bl (decide (is=js))))):W1 (eqT (.li is) (.li js)) QT1:={_,by dsimp[eqT,eqB,eqL];rw[if_pos h];rfl,q}
def C5(h:i.dok=Ug/\I.doks is=Ug/\I.deps is<=50):inB (.im i) (.im (.tup is))*>(decide (i∈is)):=by cases i<;>show if_pos h
def Hb(h:i.dok=Ug/\I.doks is=Ug/\I.deps is<=50)(q:QT1 (.im (.bl (decide (i∈is))))):W1 (inT (.im i) (.im (.tup is))) QT1:={_,by unfold inT;rw[C5 h];rfl,q}
def EQ(h:i.dok=Ug/\I.doks is=Ug/\I.deps is<=50)(q:QT1 (.im (.bl (~~~decide (i∈is))))):W1 (vJ (.im i) (.im (.tup is))) QT1:={_,by unfold vJ;rw[C5 h];rfl,q}
def EM(h:s.length<=sizeLine)(q:QT1 (.im (.int s.length))):W1 (cP [.im (.str s)]) QT1:=by unhygienic show{_,if_pos h,q}
def EN(q:QT1 (.im (.int is.length))):W1 (cP [.im (.tup is)]) QT1:=by unhygienic show{_,Xr,q}
def EL(q:QT1 (.im (.int is.length))):W1 (cP [.li is]) QT1:=by unhygienic show{_,Xr,q}
def Bx(q:QT1 (.im (.int us.length))):W1 (cP [.lst us]) QT1:=by unhygienic show{_,Xr,q}
def Hf(q:QT1 (.im (.int (if b<a then b else a)))):W1 (qO [.im (.int a),.im (.int b)]) QT1:=by unhygienic show{_,Xr,q}
def He(q:QT1 (.im (.int (if b>a then b else a)))):W1 (qN [.im (.int a),.im (.int b)]) QT1:=by unhygienic show{_,Xr,q}
def EJ(q:QT1 (.im (.int (if c then 1 else 0)))):W1 (vk [.im (.bl c)]) QT1:=by unhygienic show{_,Xr,q}
def ET(q:QT1 (.im (.tup is))):W1 (fe [.li is]) QT1:=by unhygienic show{_,Xr,q}
def EO(q:QT1 (.li is)):W1 (xN [.li is]) QT1:=by unhygienic show{_,Xr,q}
def DJ{c:!α}{x : α}{n:Nat}{i:Int}(d:i=n)(h:c[n]?*>x):atI c i*>x:=by
 subst d;have:=(Js.mp h).1;unfold atI ixN;rw[if_pos ⋯,if_pos ⋯];exists h
def r6{c:!α}{i:Int}(d:0<=i)(e:i<c.length):∃x,atI c i*>x/\c[i.toNat]?*>x:=by
 have:i.toNat<c.length:=by omega
 show{c[i.toNat],DJ (n:=i.toNat) ⋯ (JW this),JW this}
def uo(h:atI is a*>x)(q:QR {.ow,.im x}):W1 (ixR {kd,.im (.tup is)} (.im (.int a))) QR:={_,by dsimp[ixR,isI,ixX,ixI,h,KU],q}
def Db(h:atI is a*>x)(q:QR {.ow,.im x}):W1 (ixR {kd,.li is} (.im (.int a))) QR:={_,by dsimp[ixR,isI,ixX,ixI,h,KU],q}
def yk{kd:Kd}(c:0<=a)(d:a<is.length)(q:∀x,is[a.toNat]?*>x->QR {.ow,.im x}):W1 (ixR {kd,.im (.tup is)} (.im (.int a))) QR:=by
 have(x,h,e):=r6 c d;show uo h (q x e)
def yi{kd:Kd}(c:0<=a)(d:a<is.length)(q:∀x,is[a.toNat]?*>x->QR {.ow,.im x}):W1 (ixR {kd,.li is} (.im (.int a))) QR:=by
 have(x,h,e):=r6 c d;show Db h (q x e)
def yj{kd:Kd}(hz:s.length<=sizeLine)(d:0<=a)(e:a<(sL s).length)(q:∀c,(sL s)[a.toNat]?*>c->QR {.ow,.im (.str {#[c]})}):W1 (ixR {kd,.im (.str s)} (.im (.int a))) QR:=by
 have(x,h,f):=r6 d e;show{_,by dsimp[ixR,isI,ixX,ixI,if_pos hz,h,KU],q x f}
def sM(e:0<=a)(c:us[a.toNat]?*>u)(f:∀i,u ≠ .im i)(d:ixK (.vw ro p) (Ud (.ix a.toNat))*>kd)(q:QR ⟨kd,u⟩):W1 (ixR {.vw ro p,.lst us} (.im (.int a))) QR:=by
 have g:=(Js.mp c).1;show{⟨kd,u⟩,?_,q};unfold ixR;have:ixN us.length a*>a.toNat:=by unfold ixN;rw[if_pos e,if_pos ⋯]
 dsimp[isI,ixX,this,c,Option.bind_some];cases u with
 | im i=>show absurd rfl (f i)
 | _=>dsimp[ixP,d]
def sO(c:a=n)(h:n<is.length)(q:QT1 (.li (is.set n i))):W1 (zU (.li is) (.im (.int a)) (.im i)) QT1:=by
 subst c;show{_,?_,q};unfold zU;have:ixN is.length (n:Int)*>n:=by unfold ixN;rw[if_pos ⋯,if_pos ⋯];simp
 dsimp[this]
def fu(h:is.length<sizeLine)(q:QI1 (.li (is++[i])) .non):W2 (apT (.li is) [.im i]) QI1:=by unhygienic show{_,_,if_pos h,q}
def Da(h:0<=a/\a<=is.length/\is.length<sizeLine)(q:QI1 (.li (is.take a.toNat++i::is.drop a.toNat)) .non):W2 (pv (.li is) [.im (.int a),.im i]) QI1:=by unhygienic show{_,_,if_pos h,q}
def Hj{kd:Kd}{lo c:↑Int}(q:QR {.ow,.li (cB is lo c)}):W1 (slR {kd,.li is} lo c) QR:={_,by dsimp[slR,slX,slI,slX],q}
def oB{kd:Kd}{lo c:↑Int}(h:¬(HT.sIx is.length 0 lo=0/\HT.sIx is.length is.length c=is.length))(q:QR {.ow,.im (.tup (cB is lo c))}):W1 (slR {kd,.im (.tup is)} lo c) QR:={_,by dsimp[slR,slX,slI,slX];rw[if_neg h],q}
def Dd{kd:Kd}{lo c:↑Int}(h:s.length<=sizeLine)(q:QR {.ow,.im (.str (oL (cB (sL s) lo c)))}):W1 (slR {kd,.im (.str s)} lo c) QR:={_,by dsimp[slR,slX,slI,slX];rw[if_pos h],q}
def ER(q:Q2 t O):W2 (wq {.ow,t} O) Q2:=by unhygienic show{_,_,Xr,q}
def ES(h : O[n]?*>(⇑t'))(q:Q2 t ((aB [n] O).set n Uc)):W2 (wq {.vw (Ud n) (Ud []),t} O) Q2:={_,_,by dsimp[wq,h],q}
def sj(q:Q2 [] O):W2 (consL mv [] O) Q2:={_,_,Xr,q}
def tV(h:W2 (consL mv rs O) λts c=>Q2 (t::ts) c):W2 (consL mv ({.ow,t}::rs) O) Q2:=by
 have(ts,c,e,q):=h;show⟨t::ts,c,by dsimp[consL,e],q⟩
def xR:cF (is.map T.im)=.li is:=by
 have:ims (is.map T.im)*>is:=by induction is with
  | nil=>rfl
  | cons i is c=>dsimp[Jt,ims,c,KU]
 unfold cF;rw[this]
end
def dsp{p:Prop}[Decidable p]{A B:Prop}(c:p->A)(a:¬p->B):(decide p=Ug->A)/\(decide p=Ue->B):={λh=>c (of_decide_eq_true h),λh=>a (of_decide_eq_false h)}
def bsp{A B:Prop}(c:b=Ug->A)(a:b=Ue->B):(b=Ug->A)/\(b=Ue->B):=⟨c,a⟩
def spT{A B:Prop}(h:A):(Ug=Ug->A)/\(Ug=Ue->B):={λ_=>h,λz=>absurd z (by decide)}
def spF{A B:Prop}(h:B):(Ue=Ug->A)/\(Ue=Ue->B):={λz=>absurd z (by decide),λ_=>h}
section
variable {O:Rho}{m:ME}{ms:MA}{g:MG}{ct:MT}{QE':R->Rho->Prop}
def uO{i:Nat}{fr:! ↑Nat} (h:WA ms O λrs c=>∃n:Int,rs.map (·.t)=[.im (.int n)]/\(-(2^62)<=n/\n<16000000)/\Gu (fQ fr c.length&&fV ([i]++([]++m.mu)) fr.length) (∃Inv:Nat->!T->Rho->Prop,Inv 0 [] c /\
  (∀(j:Nat) a O,(j:Int)<n->Inv j a O->WG (af i) (mT j) (inR fr O) λc=>WE m c λr s=>∃t,r={.ow,t}/\Inv (j+1) (a++[t]) (dF fr ([i]++([]++m.mu)) s O)) /\
  ∀a O,Inv n.toNat a O->QE' {.ow,cF a} O)):WE (aO fr (bp ms) (af i) mYes m) O QE':=by unhygienic
 obtain⟨rs,c,v,n,w,o,d,Inv,y,B,p⟩:=h;show kT (CP {rs,c,v,n,w,{o.1,by omega},?_,?_,Inv,y,λj r a O u e=>?_,λa O e=>p a O (by simpa[jw]using e)})
 .rw[Jv]at d|-;rw[Jv];show{⟨d.1,d.2⟩,Xr}
 .rw[Oe];simp[jw];omega
 .have(x,l,rfl):=ay u;have(A,f):=Js.mp l;simp at A f;subst f;have:=B j a O ⋯ e;rw[NA];show WG.mono this λc q=>kU {λ_=>q,λz=>by cases z}
def Ak{i:Nat}{fr:! ↑Nat} (h:WA ms O λrs d=>∃a n:Int,rs.map (·.t)=[.im (.int a),.im (.int n)]/\(-(2^62)<=a/\a<2^62/\-(2^62)<=n/\n<2^62/\n-a<16000000)/\Gu (fQ fr d.length&&fV ([i]++([]++m.mu)) fr.length) (∃Inv:Nat->!T->Rho->Prop,Inv 0 [] d /\
  (∀(j:Nat) c O,a+(j:Int)<n->Inv j c O->WG (af i) (mT (a+j)) (inR fr O) λd=>WE m d λr u=>∃t,r={.ow,t}/\Inv (j+1) (c++[t]) (dF fr ([i]++([]++m.mu)) u O)) /\
  ∀c O,Inv (n-a).toNat c O->QE' {.ow,cF c} O)):WE (aO fr (g8 ms) (af i) mYes m) O QE':=by unhygienic
 obtain⟨rs,d,w,a,n,y,e,f,Inv,A,E,s⟩:=h;show kT (CQ {rs,d,w,a,n,y,⟨e.1,e.2.1,e.2.2.1,e.2.2.2.1⟩,?_,?_,Inv,A,λj r c O v l=>?_,λc O l=>s c O (by simpa[jw]using l)})
 .rw[Jv]at f|-;rw[Jv];show{⟨f.1,f.2⟩,Xr}
 .rw[Oe];simp[jw];omega
 .have(x,p,rfl):=ay v;have(B,o):=Js.mp p;simp at B o;subst o;have:=E j c O ⋯ l;show WG.mono this λd q=>kU {λ_=>q,λz=>by cases z}
def CD{fr:! ↑Nat}{e:ME} (h:WE e O λr c=>∃is:!I,il r*>(is.map λi=>{.ow,.im i})/\is.length<sizeLine/\Gu (fQ fr c.length&&fV (g.mu++(ct.mu++m.mu)) fr.length&&aM (muF fr (g.mu++(ct.mu++m.mu))) r) (∃Inv:Nat->!T->Rho->Prop,Inv 0 [] c /\
  (∀(j:Nat) x a O,is[j]?*>x->Inv j a O->WG g {.ow,.im x} (inR fr O) λc=>WT ct c λl f=>(l=Ug->WE m f λr s=>∃t,r={.ow,t}/\Inv (j+1) (a++[t]) (dF fr (g.mu++(ct.mu++m.mu)) s O))/\(l=Ue->Inv (j+1) a (dF fr (g.mu++(ct.mu++m.mu)) f O))) /\
  ∀a O,Inv is.length a O->QE' {.ow,cF a} O)):WE (aO fr (mIt e) g ct m) O QE':=by
 obtain⟨r,c,w,is,y,o,v,Inv,z,A,q⟩:=h;show kT (Go {r,c,w,_,y,(by rw[Ll,M4,Nq];show v),by simpa using o,Inv,z,λj r a O u d=>?_,λa O d=>q a O (by exists d)});have(x,p,rfl):=ay u;show A j x a O p d
end
def fg{a:Type}{f : a->I}{l:!a}:cF (l.map λx=>T.im (f x))=.li (l.map f):=by
 have:=xR (is:=l.map f);rwa [JJ]at this
section
variable {S α:Type}{O:Rho}{m:ME}{ms:MA}{g:MG}{ct:MT}{s1:MS}{QE':R->Rho->Prop}{Q:Fl->Rho->Prop}{fr:! ↑Nat}{i:Nat}
def cj(st:S->Rho)(emb : α->I)(P:Nat->S->!α->Prop) (h:WA ms O λrs c=>Pa rs λn=>(-(2^62)<=n/\n<16000000)/\(fQ fr c.length&&fV ([i]++([]++m.mu)) fr.length)=Ug/\∃d,c=st d/\P 0 d [] /\
  (∀(j:Nat) s l,(j:Int)<n->P j s l->WG (af i) (mT j) (inR fr (st s)) λc=>WE m c λr t=>∃x f,r={.ow,.im (emb x)}/\dF fr ([i]++([]++m.mu)) t (st s)=st f/\P (j+1) f (l++[x])) /\
  ∀s l,P n.toNat s l->QE' {.ow,.li (l.map emb)} (st s)):WE (aO fr (bp ms) (af i) mYes m) O QE':=by
 obtain⟨rs,c,A,n,B,w,z,d,rfl,E,G,y⟩:=h;show uO {rs,_,A,n,B,w,z,λj a O=>∃s l,a=l.map (λx=>T.im (emb x))/\O=st s/\P j s l,{d,[],Xr,Xr,E},?_,?_}
 .rintro j a O u ⟨s,l,rfl,rfl,o⟩;show(G j s l u o).mono λc q=>q.mono λr t ⟨x,f,e,v,p⟩=>{_,e,f,l++[x],by simp,v,p}
 .rintro a O ⟨s,l,rfl,rfl,o⟩;rw[fg];show y s l o
def wL(st:S->Rho)(emb : α->I)(P:Nat->S->!α->Prop) (h:WA ms O λrs d=>Pg rs λa n=>(-(2^62)<=a/\a<2^62/\-(2^62)<=n/\n<2^62/\n-a<16000000)/\(fQ fr d.length&&fV ([i]++([]++m.mu)) fr.length)=Ug/\∃f,d=st f/\P 0 f [] /\
  (∀(j:Nat) s l,a+(j:Int)<n->P j s l->WG (af i) (mT (a+j)) (inR fr (st s)) λd=>WE m d λr u=>∃x o,r={.ow,.im (emb x)}/\dF fr ([i]++([]++m.mu)) u (st s)=st o/\P (j+1) o (l++[x])) /\
  ∀s l,P (n-a).toNat s l->QE' {.ow,.li (l.map emb)} (st s)):WE (aO fr (g8 ms) (af i) mYes m) O QE':=by
 obtain⟨rs,d,B,a,n,E,y,A,f,rfl,G,H,z⟩:=h;show Ak {rs,_,B,a,n,E,y,A,λj c O=>∃s l,c=l.map (λx=>T.im (emb x))/\O=st s/\P j s l,{f,[],Xr,Xr,G},?_,?_}
 .rintro j c O v ⟨s,l,rfl,rfl,p⟩;show(H j s l v p).mono λd q=>q.mono λr u ⟨x,o,e,w,t⟩=>{_,e,o,l++[x],by simp,w,t}
 .rintro c O ⟨s,l,rfl,rfl,p⟩;rw[fg];show z s l p
def bg(st:S->Rho)(emb : α->I)(P:Nat->S->!α->Prop){u:ME} (h:WE u O λr c=>∃is:!I,il r*>(is.map λi=>{.ow,.im i})/\is.length<sizeLine/\(fQ fr c.length&&fV (g.mu++([]++m.mu)) fr.length&&aM (muF fr (g.mu++([]++m.mu))) r)=Ug/\∃d,c=st d/\P 0 d [] /\
  (∀(j:Nat) x s l,is[j]?*>x->P j s l->WG g {.ow,.im x} (inR fr (st s)) λc=>WE m c λr t=>∃x f,r={.ow,.im (emb x)}/\dF fr (g.mu++([]++m.mu)) t (st s)=st f/\P (j+1) f (l++[x])) /\
  ∀s l,P is.length s l->QE' {.ow,.li (l.map emb)} (st s)):WE (aO fr (mIt u) g mYes m) O QE':=by unhygienic
 obtain⟨r,c,E,is,G,v,B,d,rfl,H,J,A⟩:=h;show CD {r,_,E,is,G,v,B,λj a O=>∃s l,a=l.map (λx=>T.im (emb x))/\O=st s/\P j s l,{d,[],Xr,Xr,H},?_,?_}
 .rintro j x a O w ⟨s,l,rfl,rfl,o⟩;show(J j x s l w o).mono λc q=>kU {λ_=>q.mono λr t ⟨x,f,e,y,p⟩=>{_,e,f,l++[x],by simp,y,p},λz=>by cases z}
 .rintro a O ⟨s,l,rfl,rfl,o⟩;rw[fg];show A s l o
@[irreducible] def fFs(st:S->Rho)(P:S->Prop)(Q:Fl->Rho->Prop):Fl->Rho->Prop
 | .nx,O=>∃s,O=st s/\P s
 | .ct,O=>∃s,O=st s/\P s
 | .bk,O=>Q .nx O
 | .rt t,O=>Q (.rt t) O
def jI{st:S->Rho}{P:Nat->S->Prop}{j:Nat}{f:Fl}{O:Rho}(h:fFs st (P (j+1)) Q f O):vf (λj O=>∃s,O=st s/\P j s) j Q f O:=by unhygienic cases f<;>show h
def cA(st:S->Rho)(P:Nat->S->Prop) (h:WA ms O λrs a=>Pa rs λn=>(-(2^62)<=n/\n<2^62)/\∃c,a=st c/\P 0 c /\
  (∀(j:Nat) s,(j:Int)<n->P j s->WG (af i) (mT j) (st s) λa=>WS s1 a (fFs st (P (j+1)) Q))/\∀s,P n.toNat s->Q .nx (st s)):WS (cD (bp ms) (af i) s1) O Q:=by
 obtain⟨rs,a,p,n,r,e,c,rfl,t,u,o⟩:=h;show F4 {rs,_,p,n,r,e.1,e.2,λj O=>∃s,O=st s/\P j s,⟨c,Xr,t⟩,?_,?_}
 .rintro j O l ⟨s,rfl,d⟩;show(u j s l d).mono λa q=>q.mono λf v q=>jI q
 .rintro O ⟨s,rfl,d⟩;show o s d
def Al(st:S->Rho)(P:Nat->S->Prop) (h:WA ms O λrs c=>Pg rs λa n=>(-(2^62)<=a/\a<2^62/\-(2^62)<=n/\n<2^62)/\∃d,c=st d/\P 0 d /\
  (∀(j:Nat) s,a+(j:Int)<n->P j s->WG (af i) (mT (a+j)) (st s) λc=>WS s1 c (fFs st (P (j+1)) Q))/\∀s,P (n-a).toNat s->Q .nx (st s)):WS (cD (g8 ms) (af i) s1) O Q:=by
 obtain⟨rs,c,r,a,n,t,o,d,rfl,u,v,p⟩:=h;show CH {rs,_,r,a,n,t,o,λj O=>∃s,O=st s/\P j s,⟨d,Xr,u⟩,?_,?_}
 .rintro j O l ⟨s,rfl,e⟩;show(v j s l e).mono λc q=>q.mono λf w q=>jI q
 .rintro O ⟨s,rfl,e⟩;show p s e
def lJ(st:S->Rho)(P:Nat->S->Prop) (h:WE m O λr a=>∃is:!I,il r*>(is.map λi=>{.ow,.im i})/\aM (g.mu++s1.mu) r=Ug/\∃c,a=st c/\P 0 c /\
  (∀(j:Nat) x s,is[j]?*>x->P j s->WG g {.ow,.im x} (st s) λa=>WS s1 a (fFs st (P (j+1)) Q))/\∀s,P is.length s->Q .nx (st s)):WS (cD (mIt m) g s1) O Q:=by
 obtain⟨r,a,p,is,t,o,c,rfl,u,v,l⟩:=h;show F3 {r,_,p,is,t,o,λj O=>∃s,O=st s/\P j s,⟨c,Xr,u⟩,?_,?_}
 .rintro j x O e ⟨s,rfl,d⟩;show(v j x s e d).mono λa q=>q.mono λf w q=>jI q
 .rintro O ⟨s,rfl,d⟩;show l s d
def Ar(st:S->Rho)(P:S->Prop)(c : S->Nat)(h:S)(w : O=st h)(x:P h)(hs:∀s,P s->WT ct (st s) λo l=>(o=Ug->WS s1 l (fFs st (λa=>c a < c s/\P a) Q))/\(o=Ue->Q .nx l)):WS (iu ct s1) O Q:=by unhygienic
 subst w;show CJ (λn O=>∃s,O=st s/\P s/\c s=n) (c h) ⟨h,Xr,x,Xr⟩ ?_;rintro n O ⟨s,rfl,u,rfl⟩;show(hs s u).mono λo l ⟨r,v⟩=>{v,λy=>(r y).mono λf p q=>?_};cases f with
 | nx=>have q:∃a,p=st a/\c a < c s/\P a:=q;have(a,e,j,d):=q;show{c a,j,a,e,d,Xr}
 | ct=>have q:∃a,p=st a/\c a < c s/\P a:=q;have(a,e,j,d):=q;show{c a,j,a,e,d,Xr}
 | bk=>show q
 | rt t=>show q
end
section
variable {S α:Type}{O:Rho}{m:ME}{ms:MA}{QE':R->Rho->Prop}{fr:! ↑Nat}{i:Nat}
def xS(a:∀x i,emb x ≠ .im i):∀{l:!α},l≠[]->cF (l.map emb)=.lst (l.map emb)
 | [],h=>absurd rfl h
 | x::l,_=>by
  unfold cF;have:ims ((x::l).map emb)=Uc:=by
   rw[Jt];cases h:emb x with
   | im i=>show absurd h (a x i)
   | _=>rfl
  rw[this]
def ny(st:S->Rho)(emb : α->T)(p:∀x i,emb x ≠ .im i)(P:Nat->S->!α->Prop) (h:WA ms O λrs c=>Pa rs λn=>(1<=n/\n<16000000)/\(fQ fr c.length&&fV ([i]++([]++m.mu)) fr.length)=Ug/\∃f,c=st f/\P 0 f [] /\
  (∀(j:Nat) s l,(j:Int)<n->P j s l->WG (af i) (mT j) (inR fr (st s)) λc=>WE m c λr u=>∃x g,r={.ow,emb x}/\dF fr ([i]++([]++m.mu)) u (st s)=st g/\P (j+1) g (l++[x])) /\
  ∀s l,P n.toNat s l->l.length=n.toNat->QE' {.ow,.lst (l.map emb)} (st s)):WE (aO fr (bp ms) (af i) mYes m) O QE':=by
 obtain⟨rs,c,E,n,G,y,B,f,rfl,H,J,A⟩:=h;show uO {rs,_,E,n,G,{by omega,y.2},B,λj a O=>∃s l,a=l.map emb/\l.length=j/\O=st s/\P j s l,{f,[],Xr,Xr,Xr,H},?_,?_}
 .rintro j a O v ⟨s,l,rfl,d,rfl,o⟩;show(J j s l v o).mono λc q=>q.mono λr u ⟨x,g,e,w,t⟩=>{_,e,g,l++[x],by simp,by simp[d],w,t}
 .rintro a O ⟨s,l,rfl,d,rfl,o⟩;rw[xS p (by intro z;rw[z]at d;simp at d;omega)];show A s l o d
def y6(h:ts[n]?*>u):T.put (.lst ts) [.ix n] s=.lst (ts.set n s):=by dsimp[T.put,kP,h,Fj]
end
section
variable {O:Rho}{b:MS}{Q:Fl->Rho->Prop}{t s':T}{k:Nat}{ks:!Nat}
def GF{R:T->T->Prop}(h : O[k]?*>(Ud {.io 0,s'}))(q:R t s'):fI k R (.rt t) O:=by unhygienic show⟨s',h,q⟩
def GI{R:T->Prop}(q:R t):fP R (.rt t) O:=by unhygienic show q
def GH{R:T->Prop}(q:R (.im .non)):fP R .nx O:=by unhygienic show q
def t9(h:WS b O Q):DW b Q .nx O:=by unhygienic show h
def AW(h:Q (.rt t) O):DW b Q (.rt t) O:=by unhygienic show h
def AU(h:Q .nx (fgts ks O)):GE ks Q .nx O:=by unhygienic show h
variable {S:Type}{st:S->Rho}{P:S->Prop}
def DX(h:∃s,O=st s/\P s):fFs st P Q .nx O:=by unhygienic show h
end
section
variable {M:!Nat}{O:Rho}{t s:T}{n i:Nat}{p:Option !Ac}{k:Nat}{x:I}
def Ed:aB M []=[]:=rfl
def GP:aB M (⇑t::O)=⇑t::aB M O:=rfl
def GO:aB M (Ud {.io n,t}::O)=Ud {.io n,t}::aB M O:=rfl
def A7:aB M (Uc::O)=Uc::aB M O:=rfl
def GQ:aB M (Ud {.vw Uc p,t}::O)=Ud {.vw Uc p,t}::aB M O:=rfl
def pI:T.put t [] s=s:=by cases t<;>rfl
def B3:mT j={.ow,.im (.int j)}:=rfl
def Fz:rdR i {.ow,.im x}={.ow,.im x}:=rfl
def FB:rdR i {.vw a p,t}={.vw a p,t}:=rfl
def FA:rdR i {.ow,.li l}={.vw (Ud i) (Ud []),.li l}:=rfl
def B4:rdR i {.ow,.lst l}={.vw (Ud i) (Ud []),.lst l}:=rfl
def xm:fgts [] O=O:=rfl
def vg:fgts (i::ks) O=fgts ks ((aB [i] O).set i Uc):=rfl
def ve{run:!T->↑T}{l:Nat}{m:MS}{ts:!T}{c:T->Prop}(O:Rho)(a:run ts=if ts.length=l then cR m n ts else Uc)(d:ts.length=l)(e:dM ts n=O)(h:WS m O (fP c)):W1 (run ts) c:=uD a d (e▸h)
def NL{run:!T->↑(T×T)}{l:Nat}{m:MS}{ts:!T}{c:T->T->Prop}(O:Rho)(a:run ts=if ts.length=l then eJ m k n ts else Uc)(d:ts.length=l)(e:gN k ts n=O)(h:WS m O (fI k c)):W2 (run ts) c:=i7 a d (e▸h)
end
end L2
namespace L2
open PySem PySem.Spec PyProof.Rows
abbrev less(K:yF) (a:Addr):yF:=K.filter λp=> ~~~(p.1==a)
def jO:∀{K:yF} {a b:Addr},b≠a->(less K a).lookup b=K.lookup b
 | [],_,_,_=>rfl
 | (c,o)::K,a,b,h=>by
  have d:=jO (K:=K) h;by_cases e:c=a
  .subst e;have:less ((c,o)::K) c=less K c:=by simp[less]
   rw[this,d];change _=match b==c with|true=>Ud o|false=>LW b K
   rw[beq_eq_false_iff_ne.mpr h]
  .have:less ((c,o)::K) a=(c,o)::less K a:=by simp[less,e]
   rw[this];change(match b==c with|true=>Ud o|false=>LW b (less K a))=match b==c with|true=>Ud o|false=>LW b K
   rw[d]
def kj:∀{K:yF} {a:Addr},(less K a).lookup a=Uc
 | [],_=>rfl
 | (c,o)::K,a=>by
  have d:=kj (K:=K) (a:=a);by_cases e:c=a
  .subst e;have:less ((c,o)::K) c=less K c:=by simp[less]
   rw[this,d]
  .have:less ((c,o)::K) a=(c,o)::less K a:=by simp[less,e]
   rw[this];change(match a==c with|true=>Ud o|false=>LW a (less K a))=Uc;rw[beq_eq_false_iff_ne.mpr (Op e)];show d
def Bc{K:yF}{a:Addr}{h:Heap}(X:K.In h):(less K a).In h:=λb o e=>by
 by_cases q:b=a;subst q;rw[kj]at e;cases e;rw[jO q]at e;show X b o e
abbrev Lst(o:Obj):Prop:=∃vs:Array Oa,o={cls:=.type "list",data:=.seq vs}
abbrev N8(K:yF)(a:Addr):Prop:=∀o,K.lookup a*>o->Lst o
def N8.get{K:yF}{a b:Addr}{o:Obj}(h:N8 K a)(e:K.lookup b*>o)(n:¬ Lst o):(less K a).lookup b*>o:=by
 rw[jO (a:=a) λq:b=a=>n (h o (by rw[<-q];show e))];show e
abbrev p9(K:yF)(mg:Str->↑Oa)(name:Str)(st:Stmt)(ps:!Str):Prop:=
 ∃(f:Addr) (c:Pt),mg name*>(.ref f)/\Fun K name name st f c/\(∀a:!Oa,a.length=ps.length->Tb c {a,[]}=pure (ps.zip a))
def p9.to{K:yF}{mg:Str->↑Oa}{name:Str}{st:Stmt}{ps:!Str}(d:p9 K mg name st ps):Def K mg name st ps:=by
 have(f,e,g,c,a):=d;show{f,e,g,c,.all a}
def p9.less{K:yF}{mg:Str->↑Oa}{name:Str}{st:Stmt}{ps:!Str}{a:Addr}(d:p9 K mg name st ps)(h:N8 K a):p9 (less K a) mg name st ps:=by
 have(f,u,y,F,s):=d;obtain⟨oc,x,kV,l,r,t,j,v,m,e,p,g⟩:=F.ex;have i:=h.get p (by rintro⟨vs,z⟩;cases z);show{f,u,y,{{oc,x,kV,l,r,t,j,v,m,e,i,?_},?_},s}
 .unfold Lz at g|-;cases j with
  | ref c=>
   dsimp only at g|-;cases q:LW c K with
   | none=>rw[q]at g;cases g
   | some o=>
    by_cases w:c=a
    .subst w;have(vs,rfl):=h o q;rw[q]at g;cases g
    .rw[jO w];show g
  | _=>cases g
 .unfold K4;dsimp only;rw[i]
def p9.mk'{K:yF}{h:Heap}{mg:Str->↑Oa}{name:Str}{st:Stmt}{ps:!Str}(X:K.In h)(G:h.Ns OM mg){f:Addr}{oc:Oa}{o i:↑Addr}{m:Array ↑Oa}{kV e g d j:Oa}
  (a:Mt K OM name*>(Ud (.ref f))) (l:K.lookup f*>{oc,o,.func (K3 name name (eU st) (bO st) (ak st) .none kV e g i d j),m}) (c:Lz K d name=Ug) (k:K4 K (.ref f)=Ug)
  (p:∀(kV e g:Oa) (i:↑Addr) (d j:Oa) (us:!Oa),us.length=ps.length->Tb (K3 name name (eU st) (bO st) (ak st) .none kV e g i d j) {us,[]}=pure (ps.zip us)):p9 K mg name st ps:=
 {f,_,PySem.W.mg_of X G a,DZ l c k,p kV e g i d j}
def walkP{l:PySem.W.OpenLaw}{k:Nat}{q:On}{loose:!Str}{XP:(Str->↑Oa)->Heap->Prop}{YP:Oq->Heap->Prop}{d:DefRec}{K:TJ->yF}{x:Str}{st:Stmt}{run:!T->↑T}{A:(Str->↑Oa)->yF->Prop}
  (Z:l.most=Ud 63) (E:d.params.defaults=[]) (hr:NQ k RF)
  (X:∀(w:Oq) (h:Heap),YP w h->(K w.params).In h)
  (hA:∀(w:Oq) (mg:Str->↑Oa) (h:Heap),(K w.params).In h->h.Ns OM mg->A mg (K w.params))
  (U:∀(mg:Str->↑Oa) (K:yF) (a:Addr),A mg K->N8 K a->A mg (less K a))
  (hd:∀(mg:Str->↑Oa) (K:yF),A mg K->Def K mg d.name st [x])
  (hb:∀(kV m J:Oa) (an:↑Addr) (t ct:Oa) (s:Od) (v:Oa),RE s (K3 d.name d.name (eU st) (bO st) (ak st) .none kV m J an t ct) {[v],[]} [(x,v)])
  (F:∀(w:Oq) (mg:Str->↑Oa) (K:yF) (base:Heap),A mg K->Has l.prog w K mg base k d.name [x] (spP K run))
  (u:∀ns:!Int,ns.length<=63->run [.li (ns.map .int)]*>(.im (.bl Ug))) :
  PySem.W.WalkO q loose XP YP l.row.toRowW d [] (λf vs=>PySem.call f vs):=by
 show Att.attach_call Z E λw L N mg mb fa o J cd m a vs ns G Y ho hd' hcd p i j c hg=>?_;have r:=X w _ Y;have Q:=hA w mg _ r G.T.g;have la:N8 (K w.params) a:=λo e=>by
  have O:=r a o e;rw[i]at O;cases O;show{_,Xr}
 have M:=U mg _ a Q la;have(fd,y,hF):=xK p (hd mg _ M) hb λbase _ _=>F w mg (less (K w.params) a) base M;show xJ (Bc r) G.T.g G.T.b G.T.builtins G.T.nolimit hg i j (Ks c (by decide)) hr hF y (λH hO B=>?_) (λ_ _ _ z=>z);rcases B with B|⟨o,S,n,e,_⟩
 .show{[.li (ns.map .int)],_,?_,u ns c,?_}
  .show{_,_,Xr,{[a],?_},Xr};show{a,_,Xr,B,p7.ints ns,Xr}
  .intro v H' z;have(_,F,z,_):=z;rw[Rp]at z;show z.1
 .rw[kj]at e;cases e
abbrev vs(x:String) (t:Tok):Oa:=.str (Oy x) t
abbrev vi(n:Int):Oa:=.int n 0
abbrev vr(a:Addr):Oa:=.ref a
abbrev eO(p:TJ) (x:String) (t:Tok) (v:Oa):RD:={PyData.keyHash p (Oy x),.str (Oy x) t,v}
abbrev oC(vs:!Oa):Obj:={cls:=.type "code",data:=.fields vs.toArray}
abbrev oD(a:!RD) (n:Nat):Obj:={cls:=.type "dict",data:=.dict a.toArray n}
abbrev oF(x:String) (st:Stmt) (a:Oa) (c:Addr):Obj:={cls:=.type "function",data:=.func (K3 (Oy x) (Oy x) (eU st) (bO st) (ak st) .none .none .none a Uc (.ref c) .none)}
abbrev oc(x:String) (t l n r:Nat) (v:↑(Nat×Nat)) (d e:Nat):Obj:=oC [vs x t,vs x (t+1),vs "/claim/cut.py" (t+2),vi l,vi n,vi 0,vi 0,vi 3,vr r,.bool Ug,vi 181,vr (r+1),.none,(match v with|some p=>vr p.1|none=>.none),(match v with|some p=>vr p.2|none=>.none),vr d,vi e,vi l,vs "/claim/cut.py" (e+1)]
def p9.mkO{K:yF}{h:Heap}{mg:Str->↑Oa}{x:String}{st:Stmt}{ps:!Str}(X:K.In h)(G:h.Ns OM mg)(f:Addr)(d:Oa)(c:Addr)
  (o:∀(kV g d:Oa) (i:↑Addr) (e m:Oa) (us:!Oa),us.length=ps.length->Tb (K3 (Oy x) (Oy x) (eU st) (bO st) (ak st) .none kV g d i e m) {us,[]}=pure (ps.zip us))
  (a:Mt K OM (Oy x)*>(Ud (.ref f)):=by rfl') (l:K.lookup f*>(oF x st d c):=by rfl') (j:Lz K (.ref c) (Oy x)=Ug:=by rfl'):p9 K mg (Oy x) st ps:=
 p9.mk' X G a l j (by unfold K4;dsimp only;rw[l];rfl) o
def bN{K:yF}{h:Heap}{mg:Str->↑Oa}(X:K.In h)(G:h.Ns OM mg){n:Str}(e:Mt K OM n*>Uc:=by rfl'):mg n=Uc:=PySem.W.mg_none_of X G e
section
variable {α A B C D E F:Type}{f g:A->B->C->D->E->F->!Oa->α}
def NT{α:Type}{n:Nat}{l:!α}(h:l.length=n+1):∃a r,l=a::r/\r.length=n:=by
 cases l with
 | nil=>cases h
 | cons a r=>show{a,r,Xr,KG.inj h}
def by1(h:∀l a d j i c a0,f l a d j i c [a0]=g l a d j i c [a0]):∀l a d j i c (us:!Oa),us.length=1->f l a d j i c us=g l a d j i c us:=λl a d j i c us e=>by
 have(a0,o,rfl,m):=NT e;obtain rfl:=KI.mp m;show h l a d j i c a0
def by2(h:∀l a d j i c a0 m,f l a d j i c [a0,m]=g l a d j i c [a0,m]):∀l a d j i c (us:!Oa),us.length=2->f l a d j i c us=g l a d j i c us:=λl a d j i c us e=>by
 have(a0,q,rfl,o):=NT e;have(m,r,rfl,p):=NT o;obtain rfl:=KI.mp p;show h l a d j i c a0 m
def by3(h:∀i a c d j l a0 o m,f i a c d j l [a0,o,m]=g i a c d j l [a0,o,m]):∀i a c d j l (us:!Oa),us.length=3->f i a c d j l us=g i a c d j l us:=λi a c d j l us e=>by
 have(a0,s,rfl,p):=NT e;have(o,u,rfl,q):=NT p;have(m,t,rfl,r):=NT q;obtain rfl:=KI.mp r;show h i a c d j l a0 o m
def by5(h:∀i a c d j l a0 p o q m,f i a c d j l [a0,p,o,q,m]=g i a c d j l [a0,p,o,q,m]):∀i a c d j l (us:!Oa),us.length=5->f i a c d j l us=g i a c d j l us:=λi a c d j l us e=>by
 have(a0,w,rfl,t):=NT e;have(p,G,rfl,u):=NT t;have(o,x,rfl,v):=NT u;have(q,z,rfl,s):=NT v;have(m,y,rfl,r):=NT s;obtain rfl:=KI.mp r;show h i a c d j l a0 p o q m
end
end L2
namespace L2
open PySem
noncomputable section
abbrev jP:MS:=(ax (aI (mOp br (mOp cK (mC (.int 7901)) (ag 1)) (mC (.int 24697))) (af 2))
  (ax (mIf (bc (mOp (ic λi j=>decide (i<j)) (ag 1) (mB cP (aa 0 mNil)))) (aI (mIx (ag 0) (ag 1)) (af 2)) (mIf (bc (mOp (ic λi j=>decide (j<i)) (mB cP (aa 0 mNil)) (mC (.int 0)))) (aI (mOp br (mOp cK (mOp hV (mIx (ag 0) (mOp hV (ag 1) (mB cP (aa 0 mNil)))) (mC (.int 2147483629))) (mC (.int 31))) (mOp cK (mC (.int 7901)) (ag 1))) (af 2)) mNext))
  (ax (aI (mC (.int 0)) (af 3))
  (ax (mIf (bc (mOp (ic λi j=>decide (j<=i)) (ag 2) (mOp vV (mC (.int 10)) (mC (.int 18))))) (aI (ag 2) (af 3)) mNext)
  (bq (bo [3] (aa 3 (ac (mOp br (mOp hV (mOp vV (mOp br (mOp cK (mOp hV (ag 2) (mC (.int 2147483629))) (mC (.int 48271))) (mOp cK (mC (.int 40692)) (ag 1))) (mC (.int 5))) (mC (.int 2147483629))) (mC (.int 1))) mNil))))))))
abbrev mU(ts:!T):↑T:=if ts.length=2 then cR jP 4 ts else Uc
abbrev jQ:MS:=(ax (mIf (bc (mOp (ic λi j=>decide (j<i)) (mIx (ag 0) (mC (.int 0))) (mC (.int 0)))) (ax (aI (mOp hV (mIx (ag 0) (mC (.int 0))) (ag 1)) (af 2))
  (ax (aI (mOp ja (mIx (ag 0) (mC (.int 0))) (ag 1)) (qL 0 (ag 0) (mC (.int 0))))
  (bq (ag 2)))) mNext)
  (ax (aI (mOp hV (mOp cK (mIx (ag 0) (mC (.int 1))) (mC (.int 48271))) (mC (.int 2147483647))) (af 3))
  (ax (aI (mOp br (mOp hV (mOp br (mOp cK (ag 3) (mC (.int 40692))) (mC (.int 30103))) (mC (.int 2147483399))) (mC (.int 1))) (qL 0 (ag 0) (mC (.int 1))))
  (bq (mOp hV (mOp ja (mOp br (mOp cK (ag 3) (mC (.int 2147483647))) (mIx (ag 0) (mC (.int 1)))) (mC (.int 8191))) (ag 1))))))
abbrev am(ts:!T):↑(T×T):=if ts.length=2 then eJ jQ 0 4 ts else Uc
abbrev iW:MS:=(ax (aI (mC (.str "abcdefghijklmnopqrstuvwxyz")) (af 2))
  (ax (aI (mM l6 (mC (.str "")) (ac (aO [Ud 0,Uc,Ud 2,Uc,Uc,Uc,Uc,Uc,Uc] (bp (ac (ao 0 0 am (aa 0 (ac (mC (.int 6)) mNil))) mNil)) (af 7) mYes (mIx (ag 2) (ao 0 0 am (aa 0 (ac (mC (.int 26)) mNil))))) mNil)) (af 3))
  (ax (k7 4 5 (ac (ao 0 0 am (aa 0 (ac (mC (.int 26)) mNil))) (ac (ao 0 0 am (aa 0 (ac (mOp br (mB cP (aa 3 mNil)) (mC (.int 1))) mNil))) mNil)))
  (ax (aI (bo [] mNil) (af 6))
  (ax (cD (bp (aa 1 mNil)) (af 7)
  (cQ [7,8] (ax (aI (mOp br (mOp br (mSl (ag 3) mNoPart (eS (ag 5))) (mIx (ag 2) (mOp hV (mOp br (ag 4) (mOp cK (mC (.int 5)) (ag 7))) (mC (.int 26))))) (mSl (ag 3) (eS (ag 5)) mNoPart)) (af 8))
  (ax (mIf (bc (mOp eqT (mOp hV (ag 7) (mC (.int 2))) (mC (.int 1)))) (aI (mOp br (ag 8) (mC (.str "q"))) (af 8)) mNext)
  (ax (mIf (bc (mOp inT (ag 8) (aD [] (ac (mC (.str "min")) (ac (mC (.str "max")) (ac (mC (.str "rest")) (ac (mC (.str "less")) (ac (mC (.str "if")) mNil)))))))) (aI (mOp br (ag 8) (mC (.str "w"))) (af 8)) mNext)
  (bU (fj 6 [8] apT (ag 6) (aa 8 mNil))))))))
  (bq (ag 6)))))))
abbrev kH(ts:!T):↑(T×T):=if ts.length=2 then eJ iW 0 9 ts else Uc
abbrev lB:MS:=(ax (mIf (bc (mOp eqT (ao 0 0 am (aa 0 (ac (mC (.int 4)) mNil))) (mC (.int 0)))) (bq (mOp cK (aD [] (ac (mC (.int 0)) mNil)) (ag 1))) mNext)
  (bq (mB fe (ac (aO [Ud 0,Uc,Uc] (bp (aa 1 mNil)) (af 2) mYes (mIx (bo [] (ac (mC (.int 0)) (ac (mC (.int 1)) (ac (mOp cz (mC (.int 0)) (mC (.int 1))) (ac (mC (.int 2)) (ac (mOp cz (mC (.int 0)) (mC (.int 2))) mNil)))))) (ao 0 0 am (aa 0 (ac (mC (.int 5)) mNil))))) mNil))))
abbrev lG(ts:!T):↑(T×T):=if ts.length=2 then eJ lB 0 2 ts else Uc
abbrev eW:MS:=(ax (aI (ao 0 0 am (aa 0 (aa 1 mNil))) (af 2))
  (ax (aI (aO [Ud 0,Uc,Uc,Uc,Uc] (g8 (ac (mOp br (ag 2) (mC (.int 1))) (aa 1 mNil))) (af 4) mYes (mIx (bo [] (ac (mC (.int 0)) (ac (mC (.int 1)) (ac (mOp cz (mC (.int 0)) (mC (.int 1))) (ac (mC (.int 2)) (ac (mOp cz (mC (.int 0)) (mC (.int 2))) mNil)))))) (ao 0 0 am (aa 0 (ac (mC (.int 5)) mNil))))) (af 3))
  (bq (mB fe (ac (mOp br (mOp br (mOp cK (bo [] (ac (mC (.int 0)) mNil)) (ag 2)) (bo [] (ac (mOp cz (mOp cz (mC (.int 0)) (mC (.int 1))) (ao 0 0 am (aa 0 (ac (mC (.int 2)) mNil)))) mNil))) (ag 3)) mNil)))))
abbrev e7(ts:!T):↑(T×T):=if ts.length=2 then eJ eW 0 4 ts else Uc
abbrev cU:MS:=(ax (aI (aO [Uc,Uc,Uc,Uc,Uc,Uc] (bp (aa 2 mNil)) (af 4) mYes (bo [] mNil)) (af 3))
  (ax (cD (bp (aa 2 mNil)) (af 4)
  (cQ [4,5] (cD (bp (ac (ao 0 0 am (aa 0 (ac (mC (.int 4)) mNil))) mNil)) (af 5)
  (cQ [5] (bU (fj 3 [] apT (mIx (ag 3) (ag 4)) (ac (aD [] (ac (ao 0 0 am (aa 0 (aa 2 mNil))) (ac (ao 0 0 lG (aa 0 (aa 1 mNil))) mNil))) mNil)))))))
  (bq (ag 3))))
abbrev fw(ts:!T):↑(T×T):=if ts.length=3 then eJ cU 0 6 ts else Uc
abbrev cV:MS:=(ax (aI (aO [Uc,Uc,Uc,Uc,Uc,Uc] (bp (aa 2 mNil)) (af 4) mYes (bo [] mNil)) (af 3))
  (ax (cD (bp (aa 2 mNil)) (af 4)
  (cQ [4,5] (cD (bp (ac (mOp br (mC (.int 1)) (ao 0 0 am (aa 0 (ac (mC (.int 3)) mNil)))) mNil)) (af 5)
  (cQ [5] (mIf (nM (bc (mOp (ic λi j=>decide (j<i)) (ag 4) (mC (.int 0)))) (bc (mOp eqT (ao 0 0 am (aa 0 (ac (mC (.int 4)) mNil))) (mC (.int 0))))) (bU (fj 3 [] apT (mIx (ag 3) (ag 4)) (ac (aD [] (ac (ao 0 0 am (aa 0 (aa 4 mNil))) (ac (mOp cK (aD [] (ac (mC (.int 0)) mNil)) (ag 1)) mNil))) mNil))) (bU (fj 3 [] apT (mIx (ag 3) (ag 4)) (ac (aD [] (ac (ao 0 0 am (aa 0 (aa 2 mNil))) (ac (ao 0 0 e7 (aa 0 (aa 1 mNil))) mNil))) mNil))))))))
  (bq (ag 3))))
abbrev dm(ts:!T):↑(T×T):=if ts.length=3 then eJ cV 0 6 ts else Uc
abbrev cX:MS:=(ax (aI (bo [] mNil) (af 3))
  (ax (cD (bp (ac (mB cP (aa 0 mNil)) mNil)) (af 4)
  (cQ [4] (bU (fj 3 [] apT (ag 3) (ac (mOp cK (mIx (ag 0) (mOp hV (mOp br (ag 4) (ag 1)) (mB cP (aa 0 mNil)))) (mIx (ag 2) (ag 4))) mNil)))))
  (bq (mB fe (aa 3 mNil)))))
abbrev du(ts:!T):↑T:=if ts.length=3 then cR cX 5 ts else Uc
abbrev bZ:MS:=(ax (aI (mOp br (mC (.int 1)) (ao 0 0 am (aa 0 (ac (mC (.int 2)) mNil)))) (af 3))
  (ax (aI (bo [] (ac (aD [] (ac (mC (.int 0)) (ac (mC (.int 0)) (ac (aD [3] (ac (mC (.int 0)) (aa 3 mNil))) mNil)))) (ac (aD [] (ac (mC (.int 1)) (ac (mC (.int 1)) (ac (aD [] (ac (mC (.int 0)) (ac (mOp cz (mOp cz (mC (.int 0)) (mC (.int 1))) (ao 0 0 am (aa 0 (ac (mC (.int 2)) mNil)))) mNil))) mNil)))) (ac (aD [] (ac (mC (.int 0)) (ac (mC (.int 1)) (ac (aD [] (ac (mOp cz (mC (.int 0)) (mC (.int 1))) (ac (mOp cz (ao 0 0 am (aa 0 (ac (mC (.int 3)) mNil))) (mC (.int 1))) mNil))) mNil)))) mNil)))) (af 4))
  (ax (bU (fj 4 [] apT (ag 4) (ac (aD [] (ac (mC (.int 1)) (ac (mC (.int 0)) (ac (aD [] (ac (mOp cz (mC (.int 0)) (ao 0 0 am (aa 0 (ac (mC (.int 2)) mNil)))) (ac (mC (.int 0)) mNil))) mNil)))) mNil)))
  (ax (mIf (bc (mOp eqT (ag 1) (mC (.int 3)))) (ax (aI (bo [] (ac (aD [] (ac (mC (.int 0)) (ac (mC (.int 0)) (ac (aD [3] (ac (mC (.int 0)) (ac (mC (.int 0)) (aa 3 mNil)))) mNil)))) (ac (aD [] (ac (mC (.int 1)) (ac (mC (.int 1)) (ac (aD [] (ac (mC (.int 0)) (ac (mC (.int 0)) (ac (mOp cz (mC (.int 0)) (mC (.int 1))) mNil)))) mNil)))) (ac (aD [] (ac (mC (.int 0)) (ac (mC (.int 1)) (ac (aD [] (ac (mC (.int 0)) (ac (mOp cz (mC (.int 0)) (mC (.int 1))) (ac (mC (.int 0)) mNil)))) mNil)))) (ac (aD [] (ac (mC (.int 1)) (ac (mC (.int 0)) (ac (aD [] (ac (mC (.int 0)) (ac (mC (.int 0)) (ac (ao 0 0 am (aa 0 (ac (mC (.int 2)) mNil))) mNil)))) mNil)))) mNil))))) (af 4))
  (aI (mOp br (ag 4) (bo [] (ac (aD [] (ac (mC (.int 2)) (ac (mC (.int 2)) (ac (aD [] (ac (mC (.int 0)) (ac (mOp br (mC (.int 1)) (ao 0 0 am (aa 0 (ac (mC (.int 2)) mNil)))) (ac (mC (.int 0)) mNil)))) mNil)))) (ac (aD [] (ac (mC (.int 0)) (ac (mC (.int 2)) (ac (aD [] (ac (mOp cz (mC (.int 0)) (mC (.int 1))) (ac (mC (.int 0)) (ac (mC (.int 1)) mNil)))) mNil)))) (ac (aD [] (ac (mC (.int 2)) (ac (mC (.int 0)) (ac (aD [] (ac (mC (.int 0)) (ac (mC (.int 0)) (ac (mC (.int 0)) mNil)))) mNil)))) mNil))))) (af 4))) mNext)
  (ax (k7 5 6 (ac (ao 0 0 am (aa 0 (aa 1 mNil))) (ac (aO [Ud 0,Uc,Uc,Uc,Uc,Uc,Uc,Uc,Uc,Uc,Uc,Uc] (bp (aa 1 mNil)) (af 11) mYes (mOp cz (mC (.int 1)) (mOp cK (mC (.int 2)) (ao 0 0 am (aa 0 (ac (mC (.int 2)) mNil)))))) mNil)))
  (ax (aI (aO [Uc,Uc,Uc,Uc,Uc,Uc,Uc,Uc,Uc,Uc,Uc] (bp (aa 2 mNil)) (af 8) mYes (bo [] mNil)) (af 7))
  (ax (cD (mIt (ag 4)) (bA (av (af 8) (av (af 9) (av (af 10) mGNil))))
  (cQ [8,9,10] (bU (fj 7 [] apT (mIx (ag 7) (ag 8)) (ac (aD [9] (aa 9 (ac (mB du (aa 10 (aa 5 (aa 6 mNil)))) mNil))) mNil)))))
  (ax (cD (g8 (ac (mC (.int 3)) (aa 2 mNil))) (af 8)
  (cQ [8] (bU (fj 7 [] apT (mIx (ag 7) (ag 8)) (ac (aD [] (ac (ao 0 0 am (aa 0 (aa 8 mNil))) (ac (ao 0 0 lG (aa 0 (aa 1 mNil))) mNil))) mNil)))))
  (bq (ag 7))))))))))
abbrev dr(ts:!T):↑(T×T):=if ts.length=3 then eJ bZ 0 11 ts else Uc
abbrev cW:MS:=(ax (aI (ao 0 0 dm (aa 0 (aa 1 (aa 2 mNil)))) (af 3))
  (ax (aI (mOp br (mC (.int 1)) (ao 0 0 am (aa 0 (aa 2 mNil)))) (af 4))
  (ax (aI (mOp cK (bo [] (ac (mC (.int 0)) mNil)) (ag 1)) (af 5))
  (ax (cD (bp (aa 4 mNil)) (af 6)
  (cQ [6,7] (ax (aI (aO [Ud 0,Uc,Uc,Uc,Uc,Uc,Uc,Uc,Uc] (bp (aa 1 mNil)) (af 8) mYes (mOp cz (ao 0 0 am (aa 0 (ac (mC (.int 3)) mNil))) (mC (.int 1)))) (af 7))
  (ax (aI (aO [Uc,Uc,Uc,Uc,Uc,Ud 5,Uc,Ud 7,Uc] (bp (aa 1 mNil)) (af 8) mYes (mOp cz (mB qN (ac (mOp cz (mC (.int 0)) (mC (.int 2))) (ac (mB qO (ac (mC (.int 2)) (ac (mOp br (mIx (ag 5) (ag 8)) (mIx (ag 7) (ag 8))) mNil))) mNil))) (mIx (ag 5) (ag 8)))) (af 7))
  (ax (mIf (bc (mOp eqT (mOp br (ag 6) (mC (.int 1))) (ag 4))) (aI (aO [Uc,Uc,Uc,Uc,Uc,Uc,Uc,Uc,Uc] (mIt (ag 5)) (af 8) mYes (mOp cz (mC (.int 0)) (ag 8))) (af 7)) mNext)
  (ax (aI (aO [Uc,Uc,Uc,Uc,Uc,Ud 5,Uc,Ud 7,Uc] (bp (aa 1 mNil)) (af 8) mYes (mOp br (mIx (ag 5) (ag 8)) (mIx (ag 7) (ag 8)))) (af 5))
  (bU (fj 3 [] pv (mIx (ag 3) (ag 6)) (ac (mC (.int 0)) (ac (aD [] (ac (mOp hV (mOp br (ag 6) (mC (.int 1))) (ag 4)) (ac (mB fe (aa 7 mNil)) mNil))) mNil))))))))))
  (bq (ag 3))))))
abbrev fD(ts:!T):↑(T×T):=if ts.length=3 then eJ cW 0 8 ts else Uc
abbrev iY:MS:=(ax (k7 1 2 (ac (ao 0 0 am (aa 0 (ac (mC (.int 8)) mNil))) (ac (ao 0 0 am (aa 0 (ac (mC (.int 16)) mNil))) mNil)))
  (ax (aI (mIx (bo [] (ac (mC (.int 1)) (ac (mC (.int 2)) (ac (mC (.int 2)) (ac (mC (.int 2)) (ac (mC (.int 2)) (ac (mC (.int 1)) (ac (mC (.int 2)) (ac (mC (.int 3)) mNil))))))))) (mOp hV (ag 2) (mC (.int 8)))) (af 3))
  (ax (aI (mOp br (mC (.int 1)) (ao 0 0 am (aa 0 (ac (mIx (bo [] (ac (mC (.int 3)) (ac (mC (.int 6)) mNil))) (mOp ja (ag 2) (mC (.int 8)))) mNil)))) (af 4))
  (ax (mIf (bc (mOp (ic λi j=>decide (i<j)) (ag 1) (mC (.int 3)))) (bq (aD [3] (aa 3 (ac (ao 0 0 fw (aa 0 (aa 3 (aa 4 mNil)))) mNil)))) mNext)
  (ax (mIf (bc (mOp (ic λi j=>decide (i<j)) (ag 1) (mC (.int 5)))) (bq (aD [3] (aa 3 (ac (ao 0 0 dm (aa 0 (aa 3 (aa 4 mNil)))) mNil)))) mNext)
  (ax (mIf (bc (mOp eqT (ag 1) (mC (.int 5)))) (bq (aD [3] (aa 3 (ac (ao 0 0 fD (aa 0 (aa 3 (aa 4 mNil)))) mNil)))) mNext)
  (ax (aI (mB qN (ac (mC (.int 2)) (aa 3 mNil))) (af 3))
  (bq (aD [3] (aa 3 (ac (ao 0 0 dr (aa 0 (aa 3 (ac (mB qN (aa 3 (ac (mB qO (aa 4 (ac (mC (.int 5)) mNil))) mNil))) mNil)))) mNil)))))))))))
abbrev kJ(ts:!T):↑(T×T):=if ts.length=1 then eJ iY 0 5 ts else Uc
abbrev iU:MS:=(ax (aI (mB xN (aa 1 mNil)) (af 2))
  (ax (iu (bc (mOp (ic λi j=>decide (j<i)) (mB cP (aa 2 mNil)) (mC (.int 1))))
  (cQ [3,4] (ax (aI (ao 0 0 am (aa 0 (ac (mOp cz (mB cP (aa 2 mNil)) (mC (.int 1))) mNil))) (af 3))
  (cQ [3,4] (mIf (nM (bc (mOp (ic λi j=>decide (j<i)) (mB cP (aa 2 mNil)) (mC (.int 2)))) (bc (mOp eqT (ao 0 0 am (aa 0 (ac (mC (.int 5)) mNil))) (mC (.int 0))))) (ax (aI (mB qO (aa 3 (ac (mOp cz (mB cP (aa 2 mNil)) (mC (.int 3))) mNil))) (af 3))
  (aI (bo [] (ac (aD [] (ac (mC (.str "if")) (ac (mIx (ag 2) (ag 3)) (ac (mIx (ag 2) (mOp br (ag 3) (mC (.int 1)))) (ac (mIx (ag 2) (mOp br (ag 3) (mC (.int 2)))) mNil))))) mNil)) (jq 2 (ag 2) (ag 3) (mOp br (ag 3) (mC (.int 3)))))) (ax (aI (mIx (bo [] (ac (mC (.str "+")) (ac (mC (.str "-")) (ac (mC (.str "*")) (ac (mC (.str "min")) (ac (mC (.str "max")) (ac (mC (.str "rest")) (ac (mC (.str "less")) mNil)))))))) (ao 0 0 am (aa 0 (ac (mC (.int 7)) mNil)))) (af 4))
  (aI (bo [] (ac (aD [4] (ac (mC (.str "op")) (aa 4 (ac (mIx (ag 2) (ag 3)) (ac (mIx (ag 2) (mOp br (ag 3) (mC (.int 1)))) mNil))))) mNil)) (jq 2 (ag 2) (ag 3) (mOp br (ag 3) (mC (.int 2)))))))))))
  (bq (mIx (ag 2) (mC (.int 0))))))
abbrev kF(ts:!T):↑(T×T):=if ts.length=2 then eJ iU 0 5 ts else Uc
abbrev iV:MS:=(ax (aI (ao 0 0 kJ (aa 0 mNil)) (bA (av (af 1) (av (af 2) mGNil))))
  (ax (aI (mIx (bo [] (ac (mOp br (mC (.int 2)) (ao 0 0 am (aa 0 (ac (mC (.int 9)) mNil)))) (ac (mOp br (mC (.int 2)) (ao 0 0 am (aa 0 (ac (mC (.int 998)) mNil)))) (ac (mOp cz (mC (.int 1000000000)) (ao 0 0 am (aa 0 (ac (mC (.int 9)) mNil)))) mNil)))) (ao 0 0 am (aa 0 (ac (mC (.int 3)) mNil)))) (af 3))
  (ax (aI (ao 0 0 kH (aa 0 (ac (mB cP (aa 2 mNil)) mNil))) (af 4))
  (ax (aI (bo [] mNil) (af 5))
  (ax (cD (bp (ac (mB cP (aa 2 mNil)) mNil)) (af 6)
  (cQ [6,7,8,9] (ax (aI (aO [Uc,Uc,Uc,Uc,Ud 4,Uc,Uc,Uc,Uc,Uc,Uc,Uc] (mIt (mSl (mIx (ag 2) (ag 6)) mNoPart (eS (mOp ja (mC (.int 16)) (mB cP (aa 2 mNil)))))) (bA (av (af 10) (av (af 11) mGNil))) mYes (aD [11] (ac (mC (.str "at")) (ac (mIx (ag 4) (ag 10)) (aa 11 mNil))))) (af 7))
  (ax (cD (bp (ac (mOp br (ao 0 0 am (aa 0 (ac (mC (.int 2)) mNil))) (mB vk (ac (mOp eqT (ag 7) (bo [] mNil)) mNil))) mNil)) (af 8)
  (cQ [8,9] (ax (aI (ao 0 0 am (aa 0 (ac (mIx (bo [] (ac (mC (.int 9)) (ac (mC (.int 1000000001)) mNil))) (ao 0 0 am (aa 0 (ac (mC (.int 2)) mNil)))) mNil))) (af 9))
  (bU (fj 7 [] pv (ag 7) (ac (ao 0 0 am (aa 0 (ac (mOp br (mB cP (aa 7 mNil)) (mC (.int 1))) mNil))) (ac (aD [9] (ac (mC (.str "num")) (aa 9 mNil))) mNil)))))))
  (bU (fj 5 [] apT (ag 5) (ac (aD [] (ac (mIx (ag 4) (ag 6)) (ac (ao 0 0 kF (aa 0 (aa 7 mNil))) mNil))) mNil)))))))
  (bq (aD [1,3] (aa 1 (aa 3 (ac (mB fe (aa 5 mNil)) mNil))))))))))
abbrev kG(ts:!T):↑(T×T):=if ts.length=1 then eJ iV 0 10 ts else Uc
end
end L2
namespace L2
open PySem PySem.Spec PyProof.Rows
inductive TyB(K:yF) (H:Hp):V->String->Prop where
 | non:TyB K H .non "NoneType"
 | bl (x:Bool):TyB K H (.bl x) "bool"
 | int (i:Int):TyB K H (.int i) "int"
 | str (x:Str):TyB K H (.str x) "str"
 | tup {a:Addr} {xs:!V}:SqT K H a xs->TyB K H (.ref a) "tuple"
 | lst {a:Addr} {xs:!V}:SqL K H a xs->TyB K H (.ref a) "list"
 | dK {a:Addr} {kvs:!(Key×V)}:Rd H a (.dK kvs)->TyB K H (.ref a) "dict"
def TyB.kit(I:Inv X Ub Z H s)(r:RelV x u)(t:TyB X.K H x n):∃j,PySem.W.KitX X.K u (.type n) j/\j s.heap/\u≠QX "__main__.__loader__#opaque" :=by
 cases t with
 | non=>cases (show u=OL from r);show{_,PySem.W.kitx_none,PN,λz=>nomatch z}
 | bl y=>cases (show u=Py y from r);show{_,PySem.W.kitx_bool,PN,λz=>nomatch z}
 | int i=>have(t,q):=(show∃t,u=RC i t from r);cases q;show{_,PySem.W.kitx_int,PN,λz=>nomatch z}
 | str y=>have(t,q):=(show∃t,u=Sn y t from r);cases q;show{_,PySem.W.kitx_str,PN,λz=>nomatch z}
 | @tup a l h=>
  cases r;have(g,r,p,_):=I.tuple h;have(o,d,c,_):=p;show{_,PySem.W.kitx_tuple,⟨o,d,c⟩,λz=>nomatch z}
 | @lst a l h=>
  cases r;have(g,r,p,_):=I.list h;have(o,n,d,c,_):=p;show{_,PySem.W.kitx_list,⟨o,d,c⟩,λz=>nomatch z}
 | @dK a f e=>
  cases r;have:=(show NI X.prog X.w H s.heap a (.dK f)from by
   rcases e with e|⟨o,e⟩;show I.hok a _ e;show(show NI X.prog X.w H s.heap a (.frz o (.dK f))from I.hok a _ e).2)
  have(_,_,vs,_,p):=this;have(o,v,m,d,c,_):=p;show{_,PySem.W.kitx_dict,⟨o,d,c.1⟩,λz=>nomatch z}
abbrev Fw(K:yF)(n:String):!V->Hp->VK->Prop:=λa H Q=>∃x t b,a=[x,.ty n]/\TyB K H x t/\MM K (.type t) (.type n)*>b/\Q (.bl b) H
def wZ(n:String):NK X (.builtin "isinstance") (Fw X.K n):=by
 intro m s Z H v o Q I g h;have(x,t,b,rfl,f,e,q):=h;have(u,r,rfl,l,j):=rP g;cases j;have(p,d,c,a):=f.kit I l;show PySem.W.kia_one d I.kIn c e a λi=>{.bl b,H,I.tok i,Xr,q}
abbrev tyN:T->↑String
 | .im .non=>Ud "NoneType"
 | .im (.bl _)=>Ud "bool"
 | .im (.int _)=>Ud "int"
 | .im (.str _)=>Ud "str"
 | .im (.tup _)=>Ud "tuple"
 | .im (.ls _)=>Ud "list"
 | .im (.fd _ _)=>Ud "dict"
 | .im (.exn _ _ _)=>Uc
 | .tup _=>Ud "tuple"
 | .li _=>Ud "list"
 | .lst _=>Ud "list"
 | .di _=>Ud "dict"
 | .dc _=>Ud "dict"
 | .ins _ _=>Uc
 | .dq _=>Uc
abbrev qB(n m:String):Bool:=n==m||(n == "bool" && m == "int")
private def l4(ns:!String)(t:T):↑T:=(tyN t).map λn=>.im (.bl (ns.any (qB n)))
def FV{K:yF}{H:Hp}{x:V}{n:String}:∀{t:T},Rpx K H t x->tyN t*>n->TyB K H x n
 | .im i,r,e=>by
  have h:=cf r;cases i<;>rw[RpI]at h<;>cases e;rw[h];show .non;rw[h];show .bl _;rw[h];show .int _;rw[h];show .str _;have(a,c,rfl,h,_):=h;show .tup h;obtain⟨a,c,rfl,h,_⟩:=oM r;show .lst (aR h);have(a,o,f,rfl,h,_):=h;show .dK (.inr ⟨o,h⟩)
 | .tup d,r,e=>by cases e;have(a,c,F,rfl,h,_):=pX r;show .tup h
 | .li d,r,e=>by cases e;have(a,c,rfl,h,_):=bV r;show .lst (.inl h)
 | .lst d,r,e=>by cases e;have(a,c,F,rfl,h,_):=iF r;show .lst (.inl h)
 | .di d,r,e=>by cases e;obtain⟨F,r⟩:=r;rw[Rp]at r;obtain⟨a,c,rfl,⟨f,h,_⟩,_⟩:=r;show .dK (.inl h)
 | .dc d,r,e=>by cases e;obtain⟨F,r⟩:=r;rw[Rp]at r;obtain⟨a,c,g,rfl,⟨f,h,_⟩,_⟩:=r;show .dK (.inl h)
 | .ins C d,r,e=>by cases e
 | .dq d,r,e=>by cases e
abbrev tH:!String:=["int","bool","str","tuple","list","dict"]
def vy{K:yF}{n m:String}{t:T}(e:tyN t*>n)(c:m∈tH):MM K (.type n) (.type m)*>(qB n m):=by
 have f:n = "NoneType" \/ n∈tH:=by
  unfold tyN at e;split at e<;>cases e<;>first|show .inl rfl|show .inr (by decide)
 rcases f with rfl|f
 .rcases ycM c with rfl|c;rfl;rcases ycM c with rfl|c;rfl;rcases ycM c with rfl|c;rfl;rcases ycM c with rfl|c;rfl;rcases ycM c with rfl|c;rfl;rcases ycM c with rfl|c;rfl;cases c
 .have d:∀a∈tH,∀b∈tH,MM K (.type a) (.type b)*>(qB a b):=by
   intro a h b g;dsimp[tH,JV,JZ,or_false]at h g;rcases h with rfl|rfl|rfl|rfl|rfl|rfl<;>rcases g with rfl|rfl|rfl|rfl|rfl|rfl<;>rfl
  show d n f m c
section
variable {ι : Type}{C:ι->Cx}{P:On}{W:Oq}{K:yF}{mg:Str->↑Oa}{base:Heap}{k:Nat}{e:Expr}{m:ME}{pos:Pos}
def yJ(f:n∈tH):wT K (λx H Q=>Fw K n [x,.ty n] H Q) (l4 [n]):=by
 intro H x c t Q r e q;unfold l4 at e;cases e1:tyN c with
 | none=>rw[e1]at e;cases e
 | some d=>
  rw[e1]at e;cases e;show{x,d,_,Xr,FV r e1,vy e1 f,?_};show q _ H {NP.refl H,[],?_,Le,λa h=>by cases h};rw[Rp,RpI];show{by simp,Xr}
def y9(d:CK C P W K mg base k)(o:mg "isinstance" = Uc)(j:mg x=Uc)(s:O7 x*>(.type n))(h:n∈tH)(l:QE C K e m)(g:∀i,Gl (C i) "isinstance" :=by intro _;rfl)(a:∀i,Gl (C i) x:=by intro _;rfl)
  (hs:cC e=Ue:=by rfl) (c:x≠("__name__" : Str):=by decide) (f:(x==("__debug__" : Str))=Ue:=by decide):QE C K (.Call (.Name "isinstance" p) [e,.Name x p1] [] pos) (mUn (l4 [n]) m):=by
 have(t,q,r):=l;show{_,λi=>oE (r:=Fw K n) (by have:=wZ (X:=C i) n;rw[d.kk i]at this;show this) (g i) (by rw[d.mg i];show o) boot_isinstance (iE (hs:=hs) (q i) (iE (BC (a i) (by rw[d.mg i];show j) s (HY n) c f) sP)) (by change(~~~cC e&&Ug)=Ug;rw[hs];rfl),?_};show zL (yJ h) r
end
def Hc(h:tyN t*>n)(q:QT1 (.im (.bl (ns.any (qB n))))):W1 (l4 ns t) QT1:={_,by unfold l4;rw[h];rfl,q}
def Az{prog:On}{w:Oq}{A:Ot}{E:Oa->Od->Prop}{s:Od}{z TI TO u i2:Addr}{G B:!Addr}{n1 X i:Nat}{P1 P2:Nat->Oa->Prop}{O L:Nat->Heap->Prop}{a b:Oa}{Q:Oa->Od->Prop}
  (D1:RA prog w A u G n1 P1 O) (D2:RA prog w A i2 B X P2 L)
  (hz:Tp s.heap z TI TO .none) (hTI:Pv s.heap TI (.ref u) (.ref i2)) (hTO:Pv s.heap TO a b) (s1:O i s.heap) (s2:L i s.heap) (l1:i<n1) (l2:i<X)
  (ap:TI≠z/\TO≠z/\TI≠TO/\TI≠u/\TI≠i2/\u≠z/\i2≠z/\u≠TO/\i2≠TO/\u≠i2) (Z:z∉G/\TO∉G/\i2∉G) (Y:z∉B/\TO∉B/\u∉B)
  (k:∀x y h' tk,P1 i x->P2 i y->Tp h' z TI TO (PV s.heap.objs.size)->Pv h' TO x y->O (i+1) h'->L (i+1) h'->Pv h' s.heap.objs.size x y->h'.objs.size=s.heap.objs.size+1 ->
   (∀c o,c≠z->c≠TO->c≠u->c≠i2->s.heap.get? c*>o->h'.get? c*>o)->Q (.ref s.heap.objs.size) {s with heap:=h',toks:=tk}) :
  Oj (Ol prog w) A (Om.«zip.__next__» {[.ref z],[]}) (λfin s'=>∃v,fin=Fin.done (Flow.ret v)/\Q v s') E s:=by
 change Oj _ _ (SB (.ref z) 2 >>= _) _ _ _;show NO (OG hz rfl (x:=.bool Ue) rfl ?_);show NO (OG hz rfl (x:=.ref TI) rfl ?_);show NO (OT hTI rfl ?_);change Oj _ _ (PY (.ref z) >>= _) _ _ _;show NO ?_;change Oj _ _ (SB (.ref z) 0 >>= _) _ _ _;show NO (OG hz rfl (x:=.none) rfl ?_);show Of ?_;change Oj _ _ (rule _ >>= _) _ _ _;show NO (Qc ?_);show NO (OG hz rfl (x:=.ref TO) rfl ?_);show NO (Pu hz rfl (Lq _) ?_);have hz1:=O6 (ON λd=>d.setIfInBounds 0 PP) hz rfl;have U:=OY s.heap z (ON λd=>d.setIfInBounds 0 PP);generalize s.heap.update z (ON λd=>d.setIfInBounds 0 PP)=h1 at hz1 U|-;obtain⟨a1,a2,a3,a4,a5,a6,a7,a8,a9,a10⟩:=ap;show NO ?_;change Oj _ _ (forIn [(OR u,0),(OR i2,1)] ((Uc:↑PySem.Fin),()) _) _ _ _;rw[LD];show NO (NO (QY ?_));change Oj _ _ (Os (.ref u) >>= _) _ _ _;show NO (D1.item i _ _ _ l1 (D1.frame i _ _ s1 λc h o e=>(U.2 c λq=>Z.1 (q▸h)).trans e) λx h2 t2 px s1' b2=>?_);show Of ?_;have m:Ou u h1 h2:=b2;have J:Pv h2 TO a b:=((m.2 TO (Op a8)).trans (U.2 TO a2)).trans hTO;change Oj _ _ (Q8 (.ref TO) >>= _) _ _ _;show NO (OT J rfl ?_);show NO (Qh J λh3 hTO3 b3=>?_);have l:Ou TO h2 h3:=b3;show NO (Rz (Of ?_));change Oj _ _ (forIn [(OR i2,1)] ((Uc:↑PySem.Fin),()) _) _ _ _;rw[LD];show NO (NO (QY ?_));change Oj _ _ (Os (.ref i2) >>= _) _ _ _;have S:Pv h3 TO x b:=hTO3;show NO (D2.item i _ _ _ l2 (D2.frame i _ _ s2 λc h o e=>(l.2 c λq=>Y.2.1 (q▸h)).trans ((m.2 c λq=>Y.2.2 (q▸h)).trans ((U.2 c λq=>Y.1 (q▸h)).trans e))) λy h4 t4 py s2' b4=>?_);show Of ?_;have p:Ou i2 h3 h4:=b4;have H:Pv h4 TO x b:=(p.2 TO (Op a9)).trans S;change Oj _ _ (Q8 (.ref TO) >>= _) _ _ _;show NO (OT H rfl ?_);show NO (Qh H λf hTO5 b5=>?_);have r:Ou TO h4 f:=b5;show NO (Rz (Of ?_));have j:Pv f TO x y:=hTO5;change Oj _ _ (forIn ([]:!(Oa×Nat)) ((Uc:↑PySem.Fin),()) _) _ _ _;rw[Nk];show Of ?_;change Oj _ _ (Q8 (.ref TO) >>= _) _ _ _;show NO (OT j rfl ?_);show NO (Tq (items:=[x,y]) ?_ (by change 2<=sizeLine;decide));have hz5:f.get? z=_:=(r.2 z (Op a2)).trans ((p.2 z (Op a7)).trans ((l.2 z (Op a2)).trans ((m.2 z (Op a6)).trans hz1)));have sz:f.objs.size=s.heap.objs.size:=r.1.trans (p.1.trans (l.1.trans (m.1.trans U.1)));have hz6:=Oc {cls:=.type "tuple",data:=.seq [x,y].toArray} hz5;have hn6:=Og f (o:={cls:=.type "tuple",data:=.seq [x,y].toArray}) rfl;change Oj _ _ (RH (.ref z) (.ref f.objs.size) >>= _) _ _ _;show NO ?_;change Oj _ _ (setField (.ref z) 0 (PV f.objs.size) >>= _) _ _ _;show NO (Pu hz6 rfl (Lq _) ?_);have M:=O6 (ON λd=>d.setIfInBounds 0 (PV f.objs.size)) hz6 rfl;have b7:=OY (f.push {cls:=.type "tuple",data:=.seq [x,y].toArray}) z (ON λd=>d.setIfInBounds 0 (PV f.objs.size));generalize (f.push {cls:=.type "tuple",data:=.seq [x,y].toArray}).update z (ON λd=>d.setIfInBounds 0 (PV f.objs.size))=h7 at M b7|-;show Pu M rfl (Nat.succ_lt_succ (Lq _)) ?_;have hz8:=O6 (ON λd=>d.setIfInBounds 1 (Py Ue)) M rfl;have b8:=OY h7 z (ON λd=>d.setIfInBounds 1 (Py Ue));generalize h7.update z (ON λd=>d.setIfInBounds 1 (Py Ue))=h8 at hz8 b8|-;have zl:z<s.heap.objs.size:=Oh hz;have nz:f.objs.size≠z:=by rw[sz];show K2 zl
 have g:∀c o,c≠z->f.get? c*>o->h8.get? c*>o:=λc o n e=>(b8.2 c n).trans ((b7.2 c n).trans (Oc _ e));show Of {_,Xr,?_};have e9:(s.heap.objs.size)=f.objs.size:=sz.symm;rw[<-e9];show k x y h8 t4 px py ?_ ?_ ?_ ?_ ?_ ?_ ?_;rw[e9];show hz8;show g TO _ a2 j;show D1.frame _ _ _ s1' λc h o e=>g c o (λq=>Z.1 (q▸h)) ((r.2 c λq=>Z.2.1 (q▸h)).trans ((p.2 c λq=>Z.2.2 (q▸h)).trans ((l.2 c λq=>Z.2.1 (q▸h)).trans e)));show D2.frame _ _ _ s2' λc h o e=>g c o (λq=>Y.1 (q▸h)) ((r.2 c λq=>Y.2.1 (q▸h)).trans e);rw[e9];show(b8.2 _ nz).trans ((b7.2 _ nz).trans hn6);rw[b8.1,b7.1,OD,e9]
 .intro c o n1 X n3 n4 e;show g c o n1 ((r.2 c X).trans ((p.2 c n4).trans ((l.2 c X).trans ((m.2 c n3).trans ((U.2 c n1).trans e)))))
def CV{prog:On}{w:Oq}{A:Ot}{E:Oa->Od->Prop}{s:Od}{z TI TO g i2:Addr}{r p:!Addr}{j v i:Nat}{P1 P2:Nat->Oa->Prop}{G L:Nat->Heap->Prop}{a b:Oa}{Q:PySem.Fin->Od->Prop}
  (D1:RA prog w A g r j P1 G) (D2:RA prog w A i2 p v P2 L)
  (hz:Tp s.heap z TI TO .none) (hTI:Pv s.heap TI (.ref g) (.ref i2)) (hTO:Pv s.heap TO a b) (s1:G i s.heap) (s2:L i s.heap) (l:i=j\/(i<j/\i=v))
  (ap:TI≠z/\TO≠z/\TI≠TO/\TI≠g/\TI≠i2/\g≠z/\i2≠z/\g≠TO/\i2≠TO/\g≠i2) (f1:z∉r/\TO∉r/\i2∉r) (Z:z∉p/\TO∉p/\g∉p)
  (k:∀h' e N,(∀c o,c≠z->c≠TO->c≠g->c≠i2->s.heap.get? c*>o->h'.get? c*>o)->(∃o,h'.get? e*>o/\o.cls=.type "StopIteration")->E (.ref e) {s with heap:=h',toks:=N}) :
  Oj (Ol prog w) A (Om.«zip.__next__» {[.ref z],[]}) Q E s:=by
 change Oj _ _ (SB (.ref z) 2 >>= _) _ _ _;show NO (OG hz rfl (x:=.bool Ue) rfl ?_);show NO (OG hz rfl (x:=.ref TI) rfl ?_);show NO (OT hTI rfl ?_);change Oj _ _ (PY (.ref z) >>= _) _ _ _;show NO ?_;change Oj _ _ (SB (.ref z) 0 >>= _) _ _ _;show NO (OG hz rfl (x:=.none) rfl ?_);show Of ?_;change Oj _ _ (rule _ >>= _) _ _ _;show NO (Qc ?_);show NO (OG hz rfl (x:=.ref TO) rfl ?_);show NO (Pu hz rfl (Lq _) ?_);have B:=O6 (ON λf=>f.setIfInBounds 0 PP) hz rfl;have J:=OY s.heap z (ON λf=>f.setIfInBounds 0 PP);generalize s.heap.update z (ON λf=>f.setIfInBounds 0 PP)=h1 at B J|-;obtain⟨a1,a2,a3,a4,a5,a6,a7,a8,a9,a10⟩:=ap;show NO ?_;change Oj _ _ (forIn [(OR g,0),(OR i2,1)] ((Uc:↑PySem.Fin),()) _) _ _ _;rw[LD];show NO (NO (QY ?_));change Oj _ _ (Os (.ref g) >>= _) _ _ _;have q1:G i h1:=D1.frame i _ _ s1 λc M o e=>(J.2 c λq=>f1.1 (q▸M)).trans e;have t:∀(H:Heap) (e:Addr) (N:Nat) (X:Obj),H.get? z*>X->(∃vs,X.data=.fields vs/\0<vs.size)->X.cls=.type "zip" -> (∀c o,c≠z->c≠TO->c≠g->c≠i2->s.heap.get? c*>o->H.get? c*>o)->(∃o,H.get? e*>o/\o.cls=.type "StopIteration") ->
   Oj (Ol prog w) A (setField (.ref z) 0 OL) (λ_ s''=>E (.ref e) s'') E {s with heap:=H,toks:=N}:=by
  intro H e N X g1 g2 g3 g4 g5;have(vs,d,lz):=g2;show Pu g1 d lz ?_;have b9:=OY H z (ON λf=>f.setIfInBounds 0 OL);have(o,g6,g7):=g5;have nez:e≠z:=λq=>by
   subst q;rw[g1]at g6;cases g6;rw[g3]at g7;show absurd g7 (by decide +kernel)
  show k _ e N (λc o j v S Y h=>(b9.2 c j).trans (g4 c o j v S Y h)) {o,(b9.2 e nez).trans g6,g7}
 rcases l with rfl|⟨l1,rfl⟩
 .show NO (D1.done _ _ _ q1 λO e x2 st=>?_);show t O e _ _ (x2 z _ (Op a6) B) {_,Xr,Lq _} rfl (λc o j v S Y h=>x2 c o S ((J.2 c j).trans h)) st
 .show NO (D1.item i _ _ _ l1 q1 λx O t2 px s1' b2=>?_);show Of ?_;have m:Ou g h1 O:=b2;have u:Pv O TO a b:=((m.2 TO (Op a8)).trans (J.2 TO a2)).trans hTO;change Oj _ _ (Q8 (.ref TO) >>= _) _ _ _;show NO (OT u rfl ?_);show NO (Qh u λh3 hTO3 b3=>?_);have y:Ou TO O h3:=b3;show NO (Rz (Of ?_));change Oj _ _ (forIn [(OR i2,1)] ((Uc:↑PySem.Fin),()) _) _ _ _;rw[LD];show NO (NO (QY ?_));change Oj _ _ (Os (.ref i2) >>= _) _ _ _;show NO (D2.done _ _ _ (D2.frame i _ _ s2 λc M o e=>(y.2 c λq=>Z.2.1 (q▸M)).trans ((m.2 c λq=>Z.2.2 (q▸M)).trans ((J.2 c λq=>Z.1 (q▸M)).trans e))) λh4 e x4 st=>?_);show t h4 e _ _ (x4 z _ (Op a7) ((y.2 z (Op a2)).trans ((m.2 z (Op a6)).trans B))) {_,Xr,Lq _} rfl (λc o j v S Y h=>x4 c o Y ((y.2 c v).trans ((m.2 c S).trans ((J.2 c j).trans h)))) st
def nP{prog:On}{w:Oq}{A:Ot}{E:Oa->Od->Prop}{s:Od}{z TI TO f i2:Addr}{d e:!Addr}{q p i:Nat}{v r:Nat->Oa->Prop}{h g:Nat->Heap->Prop}{a b:Oa}{Q:↑Oa->Od->Prop}
  (H:RA prog w A.in1 f d q v h) (G:RA prog w A.in1 i2 e p r g)
  (hz:Tp s.heap z TI TO .none) (j:Pv s.heap TI (.ref f) (.ref i2)) (m:Pv s.heap TO a b) (B:h i s.heap) (N:g i s.heap) (l1:i<q) (l2:i<p)
  (M:TI≠z/\TO≠z/\TI≠TO/\TI≠f/\TI≠i2/\f≠z/\i2≠z/\f≠TO/\i2≠TO/\f≠i2) (L:z∉d/\TO∉d/\i2∉d) (J:z∉e/\TO∉e/\f∉e)
  (k:∀x y h' l,v i x->r i y->Tp h' z TI TO (PV s.heap.objs.size)->Pv h' TO x y->h (i+1) h'->g (i+1) h'->Pv h' s.heap.objs.size x y->h'.objs.size=s.heap.objs.size+1 ->
   (∀c o,c≠z->c≠TO->c≠f->c≠i2->s.heap.get? c*>o->h'.get? c*>o)->Q (Ud (.ref s.heap.objs.size)) {s with heap:=h',toks:=l}) :
  Oj (Ol prog w) A (Qk (.ref z)) Q E s:=by
 have t:s.TypeIs (.ref z) "zip" :={_,hz,Xr};unfold Qk;show NO (RO (OJ (name:=Oy "__next__") t Qp (OP Qp t Sx ?_ (Sj _))));show Az H G hz j m B N l1 l2 M L J λx y h' l c1 c2 c3 c4 c5 c6 c7 c8 c9=>?_;show Of (k x y h' l c1 c2 c3 c4 c5 c6 c7 c8 c9)
def jS{prog:On}{w:Oq}{A:Ot}{E:Oa->Od->Prop}{s:Od}{z TI TO g i2:Addr}{d f:!Addr}{m r i:Nat}{S L:Nat->Oa->Prop}{j h:Nat->Heap->Prop}{a b:Oa}{Q:↑Oa->Od->Prop}
  (B:RA prog w A.in1 g d m S j) (y:RA prog w A.in1 i2 f r L h)
  (hz:Tp s.heap z TI TO .none) (p:Pv s.heap TI (.ref g) (.ref i2)) (q:Pv s.heap TO a b) (x:j i s.heap) (U:h i s.heap) (l:i=m\/(i<m/\i=r))
  (M:TI≠z/\TO≠z/\TI≠TO/\TI≠g/\TI≠i2/\g≠z/\i2≠z/\g≠TO/\i2≠TO/\g≠i2) (J:z∉d/\TO∉d/\i2∉d) (H:z∉f/\TO∉f/\g∉f)
  (k:∀h' u,(∀c o,c≠z->c≠TO->c≠g->c≠i2->s.heap.get? c*>o->h'.get? c*>o)->Q Uc {s with heap:=h',toks:=u}) :
  Oj (Ol prog w) A (Qk (.ref z)) Q E s:=by
 have t:s.TypeIs (.ref z) "zip" :={_,hz,Xr};unfold Qk;show NO (RO (OJ (name:=Oy "__next__") t Qp (OP Qp t Sx ?_ (Sj _))));show CV B y hz p q x U l M J H λh' e u O st=>?_;have(o,G,N):=st;show NO (Sw (T:="StopIteration") (b:=Ug) ⟨o,G,N⟩ Tn ?_);show Of (k _ _ O)
abbrev NV(kd:Bool)(h:Heap)(l:Addr)(els:Array Oa):Prop:=match kd with|true=>h.IsList l els|false=>h.IsTuple l els
abbrev NS(kd:Bool)(h:Heap)(it l:Addr)(k:Nat):Prop:=match kd with|true=>h.IsListIter it l k|false=>h.IsTupleIter it l k
abbrev itC(kd:Bool):String:=match kd with|true=>"list_iterator" | false=>"tuple_iterator"
noncomputable abbrev itO(kd:Bool) (l:Addr):Obj:={cls:=.type (itC kd),data:=.fields #[.ref l,.int 0 0]}
def uv(kd:Bool)(h:NV kd s.heap l els)(q:Q (.ref s.heap.objs.size) {s with heap:=s.heap.push (itO kd l)}):Oj (Ol prog w) A (SY (.ref l)) Q E s:=by
 cases kd with
 | true=>show PM h q
 | false=>show OU h q
def NV.keep(x:NV kd h l els)(k:∀o,h.get? l*>o->h'.get? l*>o):NV kd h' l els:=by
 cases kd with
 | true=>have(o,e,r):=x;show{o,k o e,r}
 | false=>have(o,e,r):=x;show{o,k o e,r}
def NV.get(x:NV kd h l els):∃o,h.get? l*>o:=by
 cases kd with
 | true=>have(o,e,r):=x;show⟨o,e⟩
 | false=>have(o,e,r):=x;show⟨o,e⟩
noncomputable abbrev zK2(h:Heap) (k1 k2:Bool) (la1 la2:Addr):Heap:=(h.push (itO k1 la1)).push (itO k2 la2)
noncomputable abbrev zK3(h:Heap) (k1 k2:Bool) (la1 la2:Addr):Heap:=(zK2 h k1 k2 la1 la2).push {cls:=.type "tuple",data:=.seq #[.ref h.objs.size,.ref (h.push (itO k1 la1)).objs.size]}
noncomputable abbrev zK4(h:Heap) (k1 k2:Bool) (la1 la2:Addr):Heap:=(zK3 h k1 k2 la1 la2).push {cls:=.type "tuple",data:=.seq #[.none,.none]}
noncomputable abbrev zK5(h:Heap) (k1 k2:Bool) (la1 la2:Addr):Heap:=(zK4 h k1 k2 la1 la2).push {cls:=.type "zip",data:=.fields #[.none,.bool Ue,.bool Ue,.ref (zK2 h k1 k2 la1 la2).objs.size,.ref (zK3 h k1 k2 la1 la2).objs.size]}
def sH(i h:Bool)(c a:Addr)(u m:Array Oa) :
  Meets (Om.«zip.__new__» {[.type "zip",.ref c,.ref a],[]}) (λ_ R s=>NV i s.heap c u/\NV h s.heap a m/\R (.ok (.ret (.ref (zK4 s.heap i h c a).objs.size))) {s with heap:=zK5 s.heap i h c a}):=
 .of_wp λz w y RR q f=>by
  obtain⟨v,g,d,x,os⟩:=q;obtain⟨t,r,f⟩:=f;have j:=sub_zip;have l:NV h (v.push (itO i c)) a m:=r.keep λo e=>Oc _ e;wp_walk using uv i t,uv h l
  show{_,Xr,f}
def u5(z:NV k1 s.heap la1 xs)(y:NV k2 s.heap la2 ys)
  (G:∀h',Tp h' (s.heap.objs.size+4) (s.heap.objs.size+2) (s.heap.objs.size+3) .none->Pv h' (s.heap.objs.size+2) (.ref s.heap.objs.size) (.ref (s.heap.objs.size+1))->Pv h' (s.heap.objs.size+3) .none .none ->
   NS k1 h' s.heap.objs.size la1 0->NS k2 h' (s.heap.objs.size+1) la2 0->h'.objs.size=s.heap.objs.size+5->(∀c o,s.heap.get? c*>o->h'.get? c*>o)->Q (.ref (s.heap.objs.size+4)) {s with heap:=h'}) :
  Oj (Ol prog w) A (call (.type "zip") [.ref la1,.ref la2]) Q E s:=by
 show callType_new F.called_zip (by decide) (F.typeCall_zip_2 _ _) (F.newCall_zip_2 _ _) (λj=>F.args_object_init_3 j _ _) F.entry_zip_new (sH k1 k2 la1 la2 xs ys) {z,y,?_};have g:(s.heap.push (itO k1 la1)).objs.size=s.heap.objs.size+1:=OD ..;have i:(zK2 s.heap k1 k2 la1 la2).objs.size=s.heap.objs.size+2:=by rw[zK2,OD,g]
 have d:(zK3 s.heap k1 k2 la1 la2).objs.size=s.heap.objs.size+3:=by rw[zK3,OD,i]
 have p:(zK4 s.heap k1 k2 la1 la2).objs.size=s.heap.objs.size+4:=by rw[zK4,OD,d]
 have x:(s.heap.push (itO k1 la1)).get? s.heap.objs.size*>(itO k1 la1):=Og _ rfl;have B:(zK2 s.heap k1 k2 la1 la2).get? (s.heap.objs.size+1)*>(itO k2 la2):=by have:=Og (s.heap.push (itO k1 la1)) (o:=itO k2 la2) rfl;rw[g]at this;show this
 have r:=Og (zK2 s.heap k1 k2 la1 la2) (o:={cls:=.type "tuple",data:=.seq #[.ref s.heap.objs.size,.ref (s.heap.push (itO k1 la1)).objs.size]}) rfl;have q:=Og (zK3 s.heap k1 k2 la1 la2) (o:={cls:=.type "tuple",data:=.seq #[.none,.none]}) rfl;have v:=Og (zK4 s.heap k1 k2 la1 la2) (o:={cls:=.type "zip",data:=.fields #[.none,.bool Ue,.bool Ue,.ref (zK2 s.heap k1 k2 la1 la2).objs.size,.ref (zK3 s.heap k1 k2 la1 la2).objs.size]}) rfl;rw[i,g]at r;rw[d]at q;rw[p,i,d]at v;have m:∀c o,(zK2 s.heap k1 k2 la1 la2).get? c*>o->(zK5 s.heap k1 k2 la1 la2).get? c*>o:=λc o e=>Oc _ (Oc _ (Oc _ e));have it:∀(f:Bool) (h:Heap) (a l:Addr),h.get? a*>(itO f l)->NS f h a l 0:=λf h a l e=>by
  cases f;show{_,e,Xr,Xr};show{_,e,Xr,Xr}
 change _/\_;rw[p];have t:(zK5 s.heap k1 k2 la1 la2).get? (s.heap.objs.size+4)=Ud {cls:=.type "zip",data:=.fields #[.none,.bool Ue,.bool Ue,.ref (s.heap.objs.size+2),.ref (s.heap.objs.size+3)]}:=by
  change(Ua _ _).get? _=_;rw[i,d];show v
 show{{_,t,Xr},G _ t ?_ ?_ (it _ _ _ _ (m _ _ (Oc _ x))) (it _ _ _ _ (m _ _ B)) ?_ λc o e=>m c o (Oc _ (Oc _ e))}
 .show Oc _ (Oc _ ?_);change(Ua _ _).get? _=_;rw[g];show r
 .show Oc _ q
 .rw[zK5,OD,p]
def pe(a:A.handled=Uc)(kd:Bool)(it l:Addr)(c:l≠it)(els:Array Oa):RA prog w A it [it,l] els.size (λk v=>els[k]?*>v) (λk h=>NS kd h it l k/\NV kd h l els):=by
 cases kd with
 | true=>show RA.list a it l c els
 | false=>show kZ a it l c els
def xj(hh:A.handled=Uc)(kd:Bool)(it l:Addr)(els:Array Oa)(i:Nat)(hi:els[i]?=Uc):RA prog w A it [it,l] i (λk v=>els[k]?*>v) (λk h=>k=i/\NS kd h it l k/\NV kd h l els) where
 live:=λk h st=>by
  obtain⟨_,st,_⟩:=st;cases kd;obtain⟨o,e,_⟩:=st;show⟨o,e⟩;obtain⟨o,e,_⟩:=st;show⟨o,e⟩
 frame:=λk h h' st hk=>by
  obtain⟨e,st,sq⟩:=st;show{e,?_,sq.keep λo e=>hk l ∅ o e};cases kd;obtain⟨o,e,r⟩:=st;show{o,hk it ∅ o e,r};obtain⟨o,e,r⟩:=st;show{o,hk it ∅ o e,r}
 item:=λk s Q E hlt st _=>by
  have:=st.1;omega
 done:=λs Q E st kk=>by
  obtain⟨_,st,sq⟩:=st;cases kd with
  | true=>show wpAny_nextOf_list_end hh st sq hi kk
  | false=>show gI hh st sq hi kk
abbrev SqK(K:yF)(H:Hp)(kd:Bool)(a:Addr)(c:!V):Prop:=match kd with|true=>SqL K H a c|false=>SqT K H a c
def Inv.seqK(I:Inv X Ub Z H s)(h:SqK X.K H kd a xs):∃c:!Oa,Vals xs c/\NV kd s.heap a c.toArray:=by
 cases kd with
 | true=>
  have(c,d,p,_):=I.list h;have(o,n,g,e,i,f):=p;show⟨c,d,o,g,e,n,f⟩
 | false=>
  have(c,d,p,_):=I.tuple h;show⟨c,d,p⟩
def Inv.seqK_inj(I:Inv X Ub Z H s)(h:SqK X.K H kd a xs)(h':SqK X.K H kd a ys):xs=ys:=by
 cases kd with
 | true=>show I.list_inj h h'
 | false=>show I.tuple_inj h h'
abbrev Itz(K:yF) (e d:Bool) (g f:Addr):It:=
 {λi H=>∃c a x y,SqK K H e g c/\SqK K H d f a/\c[i]?*>x/\a[i]?*>y,
   λi H v h=>∃p x y,H p=Uc/\v=.ref p/\h=upd H p (.tup [x,y])/\(∀c,SqK K H e g c->c[i]?*>x)/\∀a,SqK K H d f a->a[i]?*>y,
   λi H=>∃c a,SqK K H e g c/\SqK K H d f a/\(c.length<=i\/a.length<=i)}
def Inv.turnedL{X:Cx}{g:!(Addr×Obj)}{Z:St}{H:Hp}{s:Od}{h':Heap}{t':Nat}{fs:!Addr}(I:Inv X g Z H s)(k:∀b o,b∉fs->s.heap.get? b*>o->h'.get? b*>o)(f:∀b∈fs,dU X g H b):Inv X g Z H {s with heap:=h',toks:=t'}:=by
 have d:∀b u,H b*>u->b∉fs:=λb u e z=>by rw[(f b z).1]at e;cases e
 have j:X.env.locals∉fs:=λz=>(f _ z).2.1 rfl;show I.step (g':=s.gens) (d':=s.drawn) (ch:=fs) (λb B=>?_) (λb o _ _ a e _=>k b o a e) (λb o _ _ a e _=>{o.slots,k b o a e}) (λ_ _ _ _ n=>n)
  (λb o a e=>{o,k b o a e}) (λ_ _ e=>e) (λ_ _ _ e=>e) (λb E e=>{#[],by rw[e];simp}) (λm w=>?_) (λb u e=>?_) I.bare
 .have(_,l,_,t,p,i):=f b B;show⟨t,l,p,i⟩
 .have(o,A,x,y,r):=w;show{o,A,x,k _ o j y,r}
 .show(I.hok b u e).stay (λc v a q=>k c v ?_ q) (λ_ q=>q) λ_ _ q=>q;rcases a with z|z;rw[z];show d b u e;show d c _ z
def NS.get(x:NS kd h it l k):∃o,h.get? it*>o/\∀v,o.data ≠ .cell v:=by
 cases kd with
 | true=>have(o,e,c,d):=x;show{o,e,λv z=>by rw[d]at z;cases z}
 | false=>have(o,e,c,d):=x;show{o,e,λv z=>by rw[d]at z;cases z}
def NS.keep(x:NS kd h it l k)(a:∀o,h.get? it*>o->h'.get? it*>o):NS kd h' it l k:=by
 cases kd with
 | true=>have(o,e,r):=x;show{o,a o e,r}
 | false=>have(o,e,r):=x;show{o,a o e,r}
structure ZAp(z TI TO i1 i2 l1 l2:Addr):Prop where
 ap:TI≠z/\TO≠z/\TI≠TO/\TI≠i1/\TI≠i2/\i1≠z/\i2≠z/\i1≠TO/\i2≠TO/\i1≠i2
 f1:z∉[i1,l1]/\TO∉[i1,l1]/\i2∉[i1,l1]
 f2:z∉[i2,l2]/\TO∉[i2,l2]/\i1∉[i2,l2]
 n1:l1≠i1
 n2:l2≠i2
def Ad{P:On}{w:Oq}{K:yF}{elts:!Expr}{k0:Nat}{pos:Pos}(k1 k2:Bool){z TI TO i1 i2 l1 l2:Addr}(A:ZAp z TI TO i1 i2 l1 l2) :
  N5 P w K (.Tuple elts k0 pos) (Itz K k1 k2 l1 l2) [z,TI,TO,i1,i2] z (λi h=>Tp h z TI TO .none/\Pv h TI (.ref i1) (.ref i2)/\(∃a b,Pv h TO a b)/\NS k1 h i1 l1 i/\NS k2 h i2 l2 i) where
 mem:=by simp
 obj:=λi h st b hb=>by
  obtain⟨s1,s2,⟨a,c,s3⟩,s4,s5⟩:=st;dsimp[JV,JZ,or_false]at hb;rcases hb with rfl|rfl|rfl|rfl|rfl;show{_,s1,λv z=>by cases z};show{_,s2,λv z=>by cases z};show{_,s3,λv z=>by cases z};show s4.get;show s5.get
 keep:=λi h h' st k=>by
  obtain⟨s1,s2,⟨a,c,s3⟩,s4,s5⟩:=st;show{k z ∅ _ s1,k TI ∅ _ s2,{a,c,k TO ∅ _ s3},s4.keep λo e=>k i1 ∅ o e,s5.keep λo e=>k i2 ∅ o e}
 item:=by
  intro X hP hw hK hc i Ub s Z H E I hf st hg;subst hP hw hK;have(xs,ys,x,y,hq1,hq2,hx,hy):=hg;have(its1,rv1,p1):=I.seqK hq1;have(its2,rv2,p2):=I.seqK hq2;have(u1,hu1,ru1):=rv1.get hx;have(u2,hu2,ru2):=rv2.get hy;obtain⟨s1,s2,⟨a,c,s3⟩,s4,s5⟩:=st;have hn1:i<its1.toArray.size:=by rw[Ju];show(Js.mp hu1).1
  have hn2:i<its2.toArray.size:=by rw[Ju];show(Js.mp hu2).1
  have hh:X.A.in1.handled=Uc:=I.ok.hd hc;show nP (pe (A:=X.A.in1) hh k1 i1 l1 A.n1 its1.toArray) (pe (A:=X.A.in1) hh k2 i2 l2 A.n2 its2.toArray) s1 s2 s3 ⟨s4,p1⟩ ⟨s5,p2⟩ hn1 hn2 A.ap A.f1 A.f2 λx' y' h1 tk px py hz1 hTO1 st1 st2 hpr hsz kk=>?_;have ex:x'=u1:=by
   have e1:its1.toArray[i]?*>x':=px;have e2:its1.toArray[i]?*>u1:=by exists hu1
   rw[e1]at e2;show JT.inj e2
  have ey:y'=u2:=by
   have e1:its2.toArray[i]?*>y':=py;have e2:its2.toArray[i]?*>u2:=by exists hu2
   rw[e1]at e2;show JT.inj e2
  subst ex ey;show{_,Xr,wpAny_letOwnedTupleGo_zip hz1 λh2 hz2 sb=>?_};have sb':Ou z h1 h2:=sb;have hzl:z<s.heap.objs.size:=Oh s1;obtain⟨a1,a2,a3,a4,a5,a6,a7,a8,a9,a10⟩:=A.ap;have k2':∀b o,b∉[z,TO,i1,i2]->s.heap.get? b*>o->h2.get? b*>o:=λb o n q=>by
   dsimp[JV,JZ,or_false,not_or]at n;show(sb'.2 b n.1).trans (kk b o n.1 n.2.1 n.2.2.1 n.2.2.2 q)
  have I1:Inv X Ub Z H {s with heap:=h2,toks:=tk}:=I.turnedL k2' λb hb=>hf b (by
   dsimp[JV,JZ,or_false]at hb|-;rcases hb with h|h|h|h<;>simp[h])
  have fz:dU X Ub H s.heap.objs.size:=I.fpOk (JA _) (I.hok.fresh (JA _));have hT2:h2.get? s.heap.objs.size=Ud {cls:=.type "tuple",data:=.seq #[x',y']}:=(sb'.2 _ (K2 hzl)).trans hpr;have I2:Inv X Ub Z (upd H s.heap.objs.size (.tup [x,y])) {s with heap:=h2,toks:=tk}:=I1.track fz (.inr I.sz) I.sz {by change 2<=sizeLine;decide,[x',y'],.cons ru1 (.cons ru2 .nil),{_,hT2,⟨Xr,Xr⟩,_,Xr}};show{.ref s.heap.objs.size,_,I2,Xr,{_,x,y,fz.1,Xr,Xr,λys' hy'=>by rw[I.seqK_inj hy' hq1];show hx,λys' hy'=>by rw[I.seqK_inj hy' hq2];show hy},{hz2,?_,{_,_,(sb'.2 TO a2).trans hTO1},st1.1.keep λo e=>(sb'.2 i1 a6).trans e,st2.1.keep λo e=>(sb'.2 i2 a7).trans e},λb hb=>?_};show(sb'.2 TI a1).trans (kk TI _ a1 a3 a4 a5 s2)
  .have hbo:∃o,s.heap.get? b*>o:=by
    dsimp[JV,JZ,or_false]at hb;rcases hb with rfl|rfl|rfl|rfl|rfl;show{_,s1};show{_,s2};show{_,s3};have(o,e,_):=s4.get;show⟨o,e⟩;have(o,e,_):=s5.get;show⟨o,e⟩
   have(o,q):=hbo;rw[aT (JG (Oh q))];show(hf b hb).1
 done:=by
  intro X hP hw hK hc i Ub s Z H E I hf st hg;subst hP hw hK;have(xs,ys,hq1,hq2,hl):=hg;have(its1,rv1,p1):=I.seqK hq1;have(its2,rv2,p2):=I.seqK hq2;obtain⟨s1,s2,⟨a,c,s3⟩,s4,s5⟩:=st;have hh:X.A.in1.handled=Uc:=I.ok.hd hc;have fin:∀h' tk,(∀c o,c≠z->c≠TO->c≠i1->c≠i2->s.heap.get? c*>o->h'.get? c*>o)->(Uc:↑Oa)=Uc/\Inv X Ub Z H {s with heap:=h',toks:=tk}:=λh' tk kk=>
   {Xr,I.turnedL (fs:=[z,TO,i1,i2]) (λb o n q=>by
    dsimp[JV,JZ,or_false,not_or]at n;show kk b o n.1 n.2.1 n.2.2.1 n.2.2.2 q) λb hb=>hf b (by
    dsimp[JV,JZ,or_false]at hb|-;rcases hb with h|h|h|h<;>simp[h])}
  have l1':=rv1.length;have l2':=rv2.length;by_cases h1:xs.length<=i
  .have e1:its1.toArray[i]?=Uc:=by simp;omega
   show jS (xj (A:=X.A.in1) hh k1 i1 l1 its1.toArray i e1) (pe (A:=X.A.in1) hh k2 i2 l2 A.n2 its2.toArray) s1 s2 s3 ⟨Xr,s4,p1⟩ ⟨s5,p2⟩ (.inl rfl) A.ap A.f1 A.f2 fin
  .have h2:ys.length<=i:=by omega
   have e2:its2.toArray[i]?=Uc:=by simp;omega
   have hn1:i<its1.toArray.size:=by rw[Ju];omega
   show jS (pe (A:=X.A.in1) hh k1 i1 l1 A.n1 its1.toArray) (xj (A:=X.A.in1) hh k2 i2 l2 its2.toArray i e2) s1 s2 s3 ⟨s4,p1⟩ ⟨Xr,s5,p2⟩ (.inr ⟨hn1,Xr⟩) A.ap A.f1 A.f2 fin
 self:=λ_ _ _ _ _ st h=>Sy st.1 h
abbrev GL(K:yF)(h:TA):TI:=λZ H R=>h Z H λvs a=>∃f e d c i g,vs=[.ref d,.ref c]/\SqK K a f d i/\SqK K a e c g/\R (Itz K f e d c) a
def E8{X:Cx}{a b:Expr}{L:TA}{elts:!Expr}{k0:Nat}{p pos pt:Pos}(hg:Gl X "zip")(hm:X.mg "zip" = Uc)(ha:PA X [a,b] L)(v:bD [a,b]=Ug):PI X (.Tuple elts k0 pt) (.Call (.Name "zip" p) [a,b] [] pos) (GL X.K L):=by
 intro Ub s Z H R I h;have m:cC a=Ue:=by
  cases q:cC a with
  | true=>rw[bD,q]at v;cases v
  | false=>rfl
 have x:cC b=Ue:=by
  cases q:cC b with
  | true=>rw[bD,m,bD,q]at v;cases v
  | false=>rfl
 show Call_ (jo I hg hm boot_zip (KN (thn (ha pos Ub s Z H _ I h) λus f ⟨vs,H1,r,r1,q1⟩=>?_) (bF m) (by rw[bF x];rfl)));obtain⟨k1,k2,l1,l2,xs,ys,e,y,B,q⟩:=q1;subst e;have(u,u',rfl,ru,w):=rP r1;cases ru;cases w;have(U,rv1,M):=r.seqK y;have(Y,rv2,Q):=r.seqK B;have l:l1<f.heap.objs.size:=by have(o,e):=M.get;show Oh e
 have j:l2<f.heap.objs.size:=by have(o,e):=Q.get;show Oh e
 show u5 M Q λh1 O G J E A hsz kk=>?_;show Sy O ?_;have i:∀c:Nat,f.heap.objs.size+c≠l1:=λc=>K2 (JN l (KD _ c));have g:∀c:Nat,f.heap.objs.size+c≠l2:=λc=>K2 (JN j (KD _ c));have N:∀{c d:Nat},c≠d->f.heap.objs.size+c≠f.heap.objs.size+d:=λh z=>h (Nat.add_left_cancel z);show{f.heap.objs.size+4,[f.heap.objs.size+4,f.heap.objs.size+2,f.heap.objs.size+3,f.heap.objs.size,f.heap.objs.size+1],_,_,H1,Xr,r.kept (t':=f.toks) λb o e=>kk b o e,Ad k1 k2 {?_,?_,?_,?_,?_},{O,G,{_,_,J},E,A},λb S=>?_,q};show{?_,?_,?_,?_,?_,?_,?_,?_,?_,?_}<;>first|show i _|show g _|show i 0|show g 0|show JG l|show JG j|show λz=>absurd (show(_:Nat)=_ from z) ⋯
 .dsimp[JV,JZ,or_false,not_or];show{{?_,?_},{?_,?_},?_,?_}<;>first|show i _|show g _|show i 0|show g 0|show JG l|show JG j|show λz=>absurd (show(_:Nat)=_ from z) ⋯
 .dsimp[JV,JZ,or_false,not_or];show{{?_,?_},{?_,?_},?_,?_}<;>first|show i _|show g _|show i 0|show g 0|show JG l|show JG j|show λz=>absurd (show(_:Nat)=_ from z) ⋯
 .first|show i _|show g _|show i 0|show g 0|show JG l|show JG j|show λz=>absurd (show(_:Nat)=_ from z) ⋯
 .first|show Op (g 1)|show i _|show g _|show i 0|show g 0|show JG l|show JG j|show λz=>absurd (show(_:Nat)=_ from z) ⋯
 .have t:f.heap.objs.size<=b:=by
   dsimp[JV,JZ,or_false]at S;rcases S with rfl|rfl|rfl|rfl|rfl<;>first|show JA _|show KD _ _
  show r.fpOk t (r.hok.fresh t)
abbrev mZ:T->↑(Bool×!I)
 | .im (.tup a)=>Ud (Ue,a)
 | .li a=>Ud (Ug,a)
 | _=>Uc
abbrev qf(is js:!I):!R:=(is.zip js).map λp=>{.ow,.im (.tup [p.1,p.2])}
private def km(a:MA):MI:={λO=>match a.run O with
 | some ([d,c],e)=>(match mZ d.t,mZ c.t with
  | some (_,f),Ud (_,g)=>Ud (([d,c],qf f g),e)
  | _,_=>Uc)
 | _=>Uc,a.mu}
def lH{K:yF}{H:Hp}{kd:Bool}{is:!I}{v:V}:∀{t:T},Rpx K H t v->mZ t*>(kd,is)->∃a c,v=.ref a/\SqK K H kd a c/\p7 K H is c
 | .im (.tup _),r,e=>by cases e;show bX r
 | .li _,r,e=>by cases e;have(a,c,g,f,d):=bV r;show{a,c,g,.inl f,d}
 | .im .non,_,e=>by cases e
 | .im (.bl _),_,e=>by cases e
 | .im (.int _),_,e=>by cases e
 | .im (.str _),_,e=>by cases e
 | .im (.ls _),_,e=>by cases e
 | .im (.fd _ _),_,e=>by cases e
 | .im (.exn _ _ _),_,e=>by cases e
 | .tup _,_,e=>by cases e
 | .lst _,_,e=>by cases e
 | .di _,_,e=>by cases e
 | .dc _,_,e=>by cases e
 | .dq _,_,e=>by cases e
 | .ins _ _,_,e=>by cases e
def Gj{g:Gm}{L G:Bool}{d c:Addr}{a j:R}{is js:!I}(e1:mZ a.t*>(L,is))(e2:mZ j.t*>(G,js)):f9 g (Itz g.K L G d c) [.ref d,.ref c] [a,j] (qf is js):=λH O Z E S=>by
 replace S:Sim g H O Z ({Uc,.ref d,a}::{Uc,.ref c,j}::E):=S;have R1:Rpx g.K H a.t (.ref d):=S.rd (e:={Uc,.ref d,a}) ymS;have R2:Rpx g.K H j.t (.ref c):=S.rd (e:={Uc,.ref c,j}) (ymC _ ymS);have(b1,v,m,u,M):=lH R1 e1;cases m;have(b2,l,m,z,J):=lH R2 e2;cases m;show{λi Q=>{v,l,u,z,?_},λi r Y=>?_}
 .rw[M.length,J.length];unfold qf at Q;rw[Jr,Lv]at Q;omega
 .have(p,hp,rfl):=ay Y;have(q,A):=Ky.mp hp;have(w1,h,s):=M.get q;have(X,f,w):=J.get A;show{⟨v,l,w1,X,u,z,h,f⟩,λx H' y=>?_};have(pp,x',y',o,rfl,rfl,U,hy):=y;have B:=U v u;rw[h]at B;cases B;have N:=hy l z;rw[f]at N;cases N;show S.fresh (New.tup o (.cons s (.cons w (by rw[p7]))))
def Cn{K:yF}{l:TA}{a:MA}(Q:hR K l a):lg K (GL K l) (km a):=by
 intro c H O Z E Rr u h G y d S q;dsimp[km]at d q;ext d j i Y X;ext d J is A js z m;cases d;show Q c H O Z E _ _ _ y X S λvs f g o=>?_;obtain⟨v1,v2,rfl⟩:∃v1 v2,vs=[v1,v2]:=by
  cases vs with
  | nil=>cases g
  | cons v r=>cases r with
   | nil=>cases g
   | cons w r=>cases r with
    | nil=>show⟨v,w,Xr⟩
    | cons _ _=>cases g
 have x:Sim c f G Z (⟨Uc,v1,j⟩::⟨Uc,v2,i⟩::aj a.mu E):=o;have U:Rpx c.K f j.t v1:=x.rd (e:=⟨Uc,v1,j⟩) ymS;have R2:Rpx c.K f i.t v2:=x.rd (e:=⟨Uc,v2,i⟩) (ymC _ ymS);have(s,M,rfl,L,g2):=lH U z;have(p,B,rfl,N,h2):=lH R2 m;subst y;show{J,A,s,p,M,B,Xr,L,N,q c rfl (λ_ _ _ _ S=>S) _ [.ref s,.ref p] f rfl o (Gj z m)}
section
variable {ι : Type}{C:ι->Cx}{P:On}{W:Oq}{K:yF}{mg:Str->↑Oa}{base:Heap}{k:Nat}{a b:Expr}{ms:MA}{pos:Pos}
def pJ(c:CK C P W K mg base k)(T:Bi mg)(e:QA C K [a,b] ms)(d:∀i,Gl (C i) "zip" :=by intro _;rfl):QI C K (.Tuple elts k0 pt) (.Call (.Name "zip" p) [a,b] [] pos) (km ms):=by
 have(f,q,n,r):=e;show{_,λi=>by have:=E8 (X:=C i) (elts:=elts) (k0:=k0) (p:=p) (pos:=pos) (pt:=pt) (d i) (by rw[c.mg i];show T.b_zip) (q i) n;rw[c.kk i]at this;show this,Cn r}
end
def Ax(h:WA ms O λrs e=>∃c a f d is js,rs=[c,a]/\mZ c.t*>(f,is)/\mZ a.t*>(d,js)/\QI' [c,a] (qf is js) e):WI (km ms) O QI':=by
 obtain⟨rs,e,i,c,a,f,d,is,js,rfl,j,g,q⟩:=h;show{_,_,_,by dsimp[km,i,j,g],q}
section
variable {S α:Type}{O:Rho}{m:ME}{ms:MA}{g:MG}{s1:MS}{QE':R->Rho->Prop}{Q:Fl->Rho->Prop}{fr:! ↑Nat}
def jZ(st:S->Rho)(emb : α->I)(P:Nat->S->!α->Prop) (h:WA ms O λrs c=>∃f d w u is js,rs=[f,d]/\mZ f.t*>(w,is)/\mZ d.t*>(u,js)/\min is.length js.length<sizeLine/\(fQ fr c.length&&fV (g.mu++([]++m.mu)) fr.length&&[f,d].all (aM (muF fr (g.mu++([]++m.mu)))))=Ug/\∃i,c=st i/\P 0 i [] /\
  (∀(j:Nat) x y s l,is[j]?*>x->js[j]?*>y->P j s l->WG g {.ow,.im (.tup [x,y])} (inR fr (st s)) λc=>WE m c λr G=>∃x o,r={.ow,.im (emb x)}/\dF fr (g.mu++([]++m.mu)) G (st s)=st o/\P (j+1) o (l++[x])) /\
  ∀s l,P (min is.length js.length) s l->QE' {.ow,.li (l.map emb)} (st s)):WE (aO fr (km ms) g mYes m) O QE':=by unhygienic
 obtain⟨rs,c,Z,f,d,w,u,is,js,rfl,e2,J,X,Y,i,rfl,N,U,L⟩:=h;show kT (Ax {_,_,Z,f,d,w,u,is,js,Xr,e2,J,Y,by unfold qf;rw[Jr,Lv];show X,λj a O=>∃s l,a=l.map (λx=>T.im (emb x))/\O=st s/\P j s l,{i,[],Xr,Xr,N},?_,?_})
 .rintro j r a O H ⟨s,l,rfl,rfl,v⟩;have(p,hp,rfl):=ay H;have(A,E):=Ky.mp hp;show WG.mono (U j p.1 p.2 s l A E v) λc q=>kU {λ_=>q.mono λr G ⟨x,o,e,M,B⟩=>{_,e,o,l++[x],by simp,M,B},λz=>by cases z}
 .rintro a O ⟨s,l,rfl,rfl,v⟩;rw[fg];show L s l ?_;have:(qf is js).length=min is.length js.length:=by unfold qf;rw[Jr,Lv]
  rw[<-this];show v
def CI(st:S->Rho)(P:Nat->S->Prop) (h:WA ms O λrs a=>∃d c o l is js,rs=[d,c]/\mZ d.t*>(o,is)/\mZ c.t*>(l,js)/\[d,c].all (aM (g.mu++s1.mu))=Ug/\∃i,a=st i/\P 0 i /\
  (∀(j:Nat) x y s,is[j]?*>x->js[j]?*>y->P j s->WG g {.ow,.im (.tup [x,y])} (st s) λa=>WS s1 a (fFs st (P (j+1)) Q)) /\
  ∀s,P (min is.length js.length) s->Q .nx (st s)):WS (cD (km ms) g s1) O Q:=by
 obtain⟨rs,a,J,d,c,o,l,is,js,rfl,L,z,H,i,rfl,E,N,A⟩:=h;have G:(qf is js).length=min is.length js.length:=by unfold qf;rw[Jr,Lv]
 show rS (Ax {_,_,J,d,c,o,l,is,js,Xr,L,z,?_,λj O=>∃s,O=st s/\P j s,⟨i,Xr,E⟩,?_,?_})
 .rw[Jv];show{H,jA λr B=>by have(x,_,rfl):=Jz.mp B;rfl}
 .rintro j r O w ⟨s,rfl,e⟩;have(p,M,rfl):=ay w;have(u,v):=Ky.mp M;show(N j p.1 p.2 s u v e).mono λa q=>q.mono λf U q=>jI q
 .rintro O ⟨s,rfl,e⟩;rw[G]at e;show A s e
end
def yg(h:tyN t*>n)(a:ns.any (qB n)=b)(q:QT1 (.im (.bl b))):W1 (l4 ns t) QT1:=Hc h (by rw[a];show q)
end L2
namespace L2
open PySem
noncomputable section
end
end L2
namespace L2
open PySem PySem.Spec PyProof.Rows
section
variable {κ : Type}[DecidableEq κ]
abbrev nT(kvs:!(κ×V)) (k : κ):↑V:=(kvs.find? λa=>decide (a.1=k)).map (·.2)
def nw{p : κ×V}{r:!(κ×V)}{k : κ}(e:p.1=k):nT (p::r) k*>p.2:=by simp[nT,LG,e]
def nv{p : κ×V}{r:!(κ×V)}{k : κ}(e:¬ p.1=k):nT (p::r) k=nT r k:=by simp[nT,LG,e]
def KV.val{kvs:!(κ×V)}{vs:!(κ×Oa)}(r:KV kvs vs)(k : κ):RelO (nT kvs k) (Qt vs k):=by
 unfold KV at r
 induction r with
 | nil=>show PN
 | @cons p q i c h t g=>
  have(d,f):=h;by_cases e:p.1=k
  .have a:q.1=k:=d.symm.trans e;have b:Qt (q::c) k*>q.2:=by simp[Qt,LG,a]
   rw[nw e,b];show f
  .have a:¬ q.1=k:=λz=>e (d.trans z);have b:Qt (q::c) k=Qt c k:=by simp[Qt,LG,a]
   rw[nv e,b];show g
end
def og{P:On}{w:Oq}{k:Key}{u:Oa}(r:RelV (kV k) u):(aU P w).is k u=Ug:=by
 cases k with
 | inl i=>have(t,e):=(show∃t,u=RC i t from r);subst e;show qP P w i t
 | inr x=>have(t,e):=(show∃t,u=Sn x t from r);subst e;show qQ P w x t
section
variable {P:On}{w:Oq}{H:Hp}{h:Heap}{a:Addr}
def HW{u:HO}(c:HOk P w H h)(e:Rd H a u):NI P w H h a u:=e.ok c
def n5{kvs:!(Key×V)}(c:HOk P w H h)(e:Rd H a (.dK kvs)):kvs.length<=sizeLine/\(a==Ps)=Ue/\∃vs,KV kvs vs/\h.DictOf (aU P w) a vs:=
 show NI P w H h a (.dK kvs)from HW c e
end
abbrev N6(H:Hp)(a:Addr)(y:V)(r:↑V):Prop:=∃c k,Rd H a (.dK c)/\y=kV k/\r=nT c k
def N6.k{H:Hp}{a:Addr}{kvs:!(Key×V)}{k:Key}(e:H a*>(.dK kvs)):N6 H a (kV k) (nT kvs k):={kvs,k,.inl e,Xr,Xr}
section
variable {X:Cx}{Ub:!(Addr×Obj)}{Z:St}{H:Hp}{s:Od}{a:Addr}{y v:V}{u r:Oa}{o:↑V}{A:Ot}{E:Oa->Od->Prop}
def Inv.big(I:Inv X Ub Z H s):Ps<s.heap.objs.size:=by
 have h:OM<s.heap.objs.size:=(I.mod.glob.keeps I.bk).lt;show Mr (by decide) h
def u7{Q:Oa->Od->Prop}(B:A.units+1<OV)(I:Inv X Ub Z H s)(g:N6 H a y (Ud v))(j:RelV y u)(h:∀c i,Inv X Ub Z H i->RelV v c->Q c i) :
  Oj (Ol X.prog X.w) A (Rh (.ref a) u) Q E s:=by
 have(q,k,e,m,l):=g;subst m;have(z,x,vs,d,p):=n5 I.hok e;have(c,t,f):=RelO.some_of (v:=v) (o:=Qt vs k) (by rw[l];show d.val k);show wpAny_getItem_of (og j) p.mapOf t (h c _ (I.tok _) f)
end
abbrev wS(i:Expr):Prop:=∀c a,Rx i Ue c a=operate [c,a] (Rh c a)
def Cy{prog:On}{w:Oq}{A:Ot}{E:Oa->Od->Prop}{s:Od}{env:Env}{a slice:Expr}{pos:Pos}{T id:String}{Q:Oa->Od->Prop}
  (p:RY (.type T) "__getitem__" = pure (Ud (.builtin id))) (hs:wS slice)
  (h:Oj (Ol prog w) A (eval a env) (λo e=>Oj (Ol prog w) A (eval slice env) (λi c=>c.TypeIs o T/\Oj (Ol prog w) A (Rh o i) Q E c) E e) E s) :
  Oj (Ol prog w) A (eval (.Subscript a slice pos) env) Q E s:=by
 show Tg (OB h (λo e l=>OB l (λi c d=>?_) λ_ _ x=>x) λ_ _ x=>x);obtain⟨m,d⟩:=d;unfold RN;show NO ?_;rw[getitemInPython_of_ne m.not_modules];show NO (SJ m p ?_);have g:Oj (Ol prog w) A (Rx slice Ue o i) (λr f=>Oj (Ol prog w) A (letTemporaryGo a o r >>= λ_=>pure r) Q E f) E c:=by
  rw[hs o i];show wpAny_operating (OB d (λr f j=>NO (wpAny_letTemporaryGo (Of j))) λ_ _ x=>x)
 first
  | show Of (NO g)
  | show NO (Of (NO g))
  | show NO g
def qr{X:Cx}{c:!(Addr×Obj)}{Z:St}{H:Hp}{s:Od}{a:Addr}{y:V}{o:↑V}(I:Inv X c Z H s)(g:N6 H a y o):s.TypeIs (.ref a) "dict" :=by
 have(f,k,e,_,_):=g;have(_,_,vs,_,d):=n5 I.hok e;show d.typeIs
abbrev Ic(e f:TE):TE:=λZ H Q=>e Z H λx d=>f Z d λy c=>∃a v,x=.ref a/\N6 c a y (Ud v)/\Q v c
section
variable {X:Cx}{o i e value:Expr}{pos pos' tpos:Pos}{td ty tv:TE}
def pG(r:X.A.units+1<OV)(ho:PE X o td)(G:PE X i ty)(hs:wS i):PE X (.Subscript o i pos) (Ic td ty):=by
 intro f s Z H Q I h;show Cy PySem.F.slot_dict_getitem.lookup hs (thn (ho f s Z H _ I h) λu m c=>?_);have(x,t,z,E,l):=c;show thn (G f m Z t _ z l) λM O c=>?_;have(y,B,j,q,a,v,w,g,p):=c;subst w;obtain rfl:u=OR a:=E;show{qr j g,u7 r j g q λN L J d=>⟨v,B,J,d,p⟩}
end
def xi{P:On}{w:Oq}{H:Hp}(h:Heap)(a:Ps<h.objs.size):NI P w H (h.push {cls:=.type "dict",data:=.dict #[]}) h.objs.size (.dK []):=
 {Ku _,beq_eq_false_iff_ne.mpr (Op (JG a)),[],.nil,Rq h}
abbrev Aa:TE:=λ_ H Q=>∀p,H p=Uc->Q (.ref p) (upd H p (.dK []))
section
variable {X:Cx}{pos:Pos}
def yu:PE X (.Dict [] [] pos) Aa:=λc s Z H Q I h=>
 wpAny_Dict_empty {.ref s.heap.objs.size,_,I.laid (a:=s.heap.objs.size) (o:=.dK []) (t':=s.toks) (λ_ _ q=>Oc _ q) (JA _) (xi s.heap I.big),Xr,h _ (I.hok.fresh (JA _))}
end
def nK:RY (.type "tuple") "keys" = pure Uc:=SN (by decide +kernel)
def pB:RY (.type "list") "keys" = pure Uc:=SN (by decide +kernel)
section
variable {prog:On}{w:Oq}{A:Ot}{E:Oa->Od->Prop}{s:Od}
def lm(q:s.heap.get? a*>o)(l:o.cls=.type "tuple" /\ o.dict=Uc)(f:o.data=.seq xs k)(z:A.handled=Uc)
  (h:∀h' r,(∀b u,s.heap.get? b*>u->h'.get? b*>u)->Q Uc {s with heap:=h',toks:=r}):Oj (Ol prog w) A (Tr (.ref a) "keys") Q E s:=by
 have(c,y,v,x):=o;obtain⟨l,m⟩:=l;simp only at l f m;subst l f m;have(B,g,d,r,os):=s;have p:∀i,(⟨B,g,d,i,os⟩:Od).TypeIs (.ref a) "tuple" :=λ_=>{_,q,Xr};have H:=R7;have O:=PU.lookup;have M:=PU.bind (.ref a);have J:=am_tuple_getattr_none;unfold Tr getAttrBy? getAttrBy;repeat (any_goals (first|assumption|show p _|((with_reducible change Oj _ _ (call (QX "tuple.__getattribute__") _ _) _ _ _);show Pk PU (p _) am_entry_tuple_getattribute (F.args_tuple_getattribute_2 _ _) (meets_getattribute_miss_tuple a xs k x (Oy "keys") _ nK (by decide +kernel)) ⟨q,z,λh' i e j=>?_⟩)|wp_step))
 have(G,L,N):=j.there;change Oj _ _ (P3 _ _ _ _ _ _ _) _ _ _;unfold P3;repeat (any_goals (first|assumption|wp_step))
 all_goals (try show h _ _ j.keeps)
def me(q:s.heap.get? a*>o)(l:o.cls=.type "list" /\ o.dict=Uc)(f:o.data=.seq xs k)(z:A.handled=Uc)
  (h:∀h' r,(∀b u,s.heap.get? b*>u->h'.get? b*>u)->Q Uc {s with heap:=h',toks:=r}):Oj (Ol prog w) A (Tr (.ref a) "keys") Q E s:=by
 have(c,y,v,x):=o;obtain⟨l,m⟩:=l;simp only at l f m;subst l f m;have(B,g,d,r,os):=s;have p:∀i,(⟨B,g,d,i,os⟩:Od).TypeIs (.ref a) "list" :=λ_=>{_,q,Xr};have H:=R7;have O:=PZ.lookup;have M:=PZ.bind (.ref a);have J:=am_list_getattr_none;unfold Tr getAttrBy? getAttrBy;repeat (any_goals (first|assumption|show p _|((with_reducible change Oj _ _ (call (QX "list.__getattribute__") _ _) _ _ _);show Pk PZ (p _) am_entry_list_getattribute (F.args_list_getattribute_2 _ _) (meets_getattribute_miss_list a xs k x (Oy "keys") _ pB (by decide +kernel)) ⟨q,z,λh' i e j=>?_⟩)|wp_step))
 have(G,L,N):=j.there;change Oj _ _ (P3 _ _ _ _ _ _ _) _ _ _;unfold P3;repeat (any_goals (first|assumption|wp_step))
 all_goals (try show h _ _ j.keeps)
end
def fU:entryFor table "dict.update.loop" = Ud Om.«dict.update.loop»:=entryFor_of_tree (by rfl')
def fZ:plainId "dict.update.loop" = Ug:=by decide +kernel
abbrev ItK(kd:Bool)(h:Heap)(it l:Addr)(k:Nat):Prop:=match kd with|true=>h.IsListIter it l k|false=>h.IsTupleIter it l k
abbrev SeK(kd:Bool)(h:Heap)(l:Addr)(els:Array Oa):Prop:=match kd with|true=>h.IsList l els|false=>h.IsTuple l els
abbrev sto(ps:!(Key×Oa)) (kvs:!(Key×Oa)):!(Key×Oa):=ps.foldl (λd p=>QZ d p.1 p.2) kvs
def tq{kvs:!(Key×Oa)}{k:Key}{v:Oa}:(QZ kvs k v).length<=kvs.length+1:=by
 unfold QZ;split;rw[Jr];omega;simp
section
variable {prog:On}{w:Oq}
protected def KpG(G:Heap)(d it:Addr)(h:Heap):Prop:=∀b o,b≠d->b≠it->G.get? b*>o->h.get? b*>o
structure DUp(prog:On)(w:Oq)(U:Prop)(G:Heap)(d it:Addr)(Ob : β->Obj->Prop)(len : β->Nat)(stp : β->γ->β)(Pr : γ->Oa->Oa->Prop):Prop where
 set:∀{A:Ot} {E:Oa->Od->Prop} {Q:Unit->Od->Prop} {s:Od} {st o p key val},(U->A.units+1<OV)->KpG G d it s.heap->Pr p key val->s.heap.get? d*>o->Ob st o->len st<sizeLine->(∀h' o' tk,Ou d s.heap h'->h'.get? d*>o'->Ob (stp st p) o'->Q () {s with heap:=h',toks:=tk})->Oj (Ol prog w) A (TN d key val) Q E s
 len:∀st p,len (stp st p)<=len st+1
abbrev PrG(Pr : γ->Oa->Oa->Prop)(G:Heap)(d it:Addr)(x:Oa)(p : γ):Prop:=∃q c a,x=.ref q/\q≠d/\q≠it/\Pr p c a/\∃o n,G.get? q*>o/\o.cls=.type "tuple" /\ o.data=.seq #[c,a] n
def Ai{Ob : β->Obj->Prop}{Q : β->Nat}{M : β->γ->β}{Pr : γ->Oa->Oa->Prop}{kd:Bool}{d it l:Addr}{els:!Oa}{G:Heap}{R:RX->Od->Prop}{Rm:Prop}(U:DUp prog w Rm G d it Ob Q M Pr)(n1:d≠it)(n2:d≠l)(n3:it≠l)(hl:SeK kd G l els.toArray) :
  ∀(m:Nat) {A:Ot} (i:Nat) (ps:!γ) (st : β) (o:Obj) (s:Od),A.handled=Uc->(Rm->A.in1.units+1<OV)->m+i=els.length->Paired (PrG Pr G d it) (els.drop i) ps->ItK kd s.heap it l i->s.heap.get? d*>o->Ob st o->Q st+m<=sizeLine->KpG G d it s.heap ->
   (∀h' o' Y,KpG G d it h'->h'.get? d*>o'->Ob (ps.foldl M st) o'->R (.ok (.ret .none)) {s with heap:=h',toks:=Y}) ->
   Pq (Ol prog w) A (.builtin "dict.update.loop" {[.ref d,.ref it,PV i,.none],[]}) R s:=by
 intro m
 induction m with
 | zero=>
  intro A i ps st o s hA hu hm hp r hd ho hz z q;rw[Ke]at hm;subst hm;rw[LV]at hp;cases hp;show PH fU ?_;rw[Ph fZ _];change Oj _ _ (Qk (.ref it) >>= _) _ _ _;have y:∀h',QM it s.heap h'->R (.ok (.ret .none)) {s with heap:=h'}:=λh' J=>
   q h' o s.toks (λb o j g e=>J b o g (z b o j g e)) (J d o n1 hd) ho
  cases kd with
  | true=>
   have(H,t,u):=hl;show NO (Rt hA r {H,z _ _ (Op n2) (Op n3) t,u} ∅ λh' J=>NO (Of (Of (y h' J))))
  | false=>
   have(H,t,u):=hl;show NO (Rf hA r {H,z _ _ (Op n2) (Op n3) t,u} ∅ λh' J=>NO (Of (Of (y h' J))))
 | succ m ih=>
  intro A i ps st od s hA hu hm hp r hd hob hz z q;have hi:i<els.length:=by omega
  rw[Kz hi]at hp;cases hp with
  | @cons x p _ ps' hx hp'=>
  obtain⟨a,Z,S,ex,na1,N,X,o,n,ho,hc,O⟩:=hx;have L:els[i]?*>(.ref a):=by rw[JW hi,ex]
  show PH fU ?_;rw[Ph fZ _];change Oj _ _ (Qk (.ref it) >>= _) _ _ _;have go:∀h',ItK kd h' it l (i+1)->Ou it s.heap h'->Oj (Ol prog w) A.in1 (OZ [OR a] (do
    let pair <-(Rl (.ref a)).tryCatch λe=>do
     if  ~~~(<-isInstance e (.type "TypeError"))then throw e
     rule "dict.update.element-no-sequence"
     raiseError "TypeError" s!"cannot convert dictionary update sequence element #{(i : Int)} to a sequence"
    match pair with
    | [k,v]=>OZ [k,v] (TN d k v)
    | l=>
     rule "dict.update.element-length"
     raiseError "ValueError" s!"dictionary update sequence element #{(i : Int)} has length {l.length}; 2 is required") >>= λ_=>again (.builtin "dict.update.loop" {[.ref d,.ref it,PV ((i:Int)+1),.none],[]}))
    (λy s'=>match y with|.done f=>R (.ok f) s'|.again c'=>c'.quiet=Ug/\Pq (Ol prog w) A c' R s') (λe s'=>R (.error e) s') {s with heap:=h'}:=λh' c B=>by
   have ho':h'.get? a*>o:=(B.2 a N).trans (z a o na1 N ho);show NO (OI (NO (wpAny_tryCatch ?_)));unfold Rl;show NO (P7 (T:="tuple") ⟨o,ho',hc⟩ ?_);rw[if_pos (by rfl)];show NO (OT ho' O (Of ?_));change Oj _ _ (OZ [Z,S] (TN d Z S)) _ _ _;show OI (U.set (A:=A.in1) (s:={s with heap:=h'}) hu (λb o j g e=>(B.2 b g).trans (z b o j g e)) X ((B.2 d n1).trans hd) hob ⋯ λh2 o2 Y E hd2 hob2=>?_);show Of {QB _ (by decide +kernel),?_};have hit2:ItK kd h2 it l (i+1):=by
    cases kd with
    | true=>have(oi,t,u):=c;show{oi,(E.2 it (Op n1)).trans t,u}
    | false=>have(oi,t,u):=c;show{oi,(E.2 it (Op n1)).trans t,u}
   have:=ih (A:=A) (i+1) ps' _ o2 {s with heap:=h2,toks:=Y} hA hu ⋯ hp' hit2 hd2 hob2 (by have:=U.len st p;omega) (λb ob j g e=>(E.2 b j).trans ((B.2 b g).trans (z b ob j g e))) λh3 o3 Y k3 d3 e3=>q h3 o3 Y k3 d3 e3;show this
  cases kd with
  | true=>
   have(H,t,u):=hl;show NO (Re r {H,z _ _ (Op n2) (Op n3) t,u} (x:=.ref a) (by exists L) λh' c B=>go h' c B)
  | false=>
   have(H,t,u):=hl;show NO (Q3 r {H,z _ _ (Op n2) (Op n3) t,u} (x:=.ref a) (by exists L) λh' c B=>go h' c B)
end
def oP:∀(ps kvs:!(Key×Oa)),((kvs++ps).map (·.1)).Nodup->sto ps kvs=kvs++ps
 | [],kvs,_=>by simp[sto]
 | p::ps,kvs,h=>by
  have d:kvs.any (λa=>decide (a.1=p.1))=Ue:=by
   rw[List.any_eq_false];intro a c;rw[JC,Jy]at h;have:=h.2.2 a.1 (Jz.mpr ⟨a,c,Xr⟩) p.1 ∅;exists this
  have e:QZ kvs p.1 p.2=kvs++[p]:=by unfold QZ;rw[d];rfl
  have:=oP ps (kvs++[p]) (by rw[JK];show h);rw[show sto (p::ps) kvs=sto ps (QZ kvs p.1 p.2)from rfl,e,this,JK];rfl
section
variable {X:Cx}{Ub:!(Addr×Obj)}{Z:St}{H:Hp}{s:Od}{a:Addr}{xs:!V}
def Inv.tupleN(I:Inv X Ub Z H s)(h:SqT X.K H a xs):∃c:!Oa,Vals xs c/\NR s.heap a c.toArray/\xs.length<=sizeLine:=by
 rcases h with h|⟨o,c,n,d,f,g,i,r⟩
 .have(z,c,r,p):=h.ok I.hok;show⟨c,r,p,z⟩
 .show{c.toList,r,{o,I.kIn a o d,f,n,by simpa using g},?_};have e:=r.length;dsimp[Ki]at e;omega
end
abbrev PrV(K:yF)(H:Hp)(y:V)(q:Key×V):Prop:=∃t,y=.ref t/\SqT K H t [kV q.1,q.2]
abbrev uz(K:yF):!V->Hp->VK->Prop:=λd H Q=>∃p a c,d=[.ref p]/\(SqL K H p a\/SqT K H p a)/\Paired (PrV K H) a c/\(c.map (·.1)).Nodup/\∀l,H l=Uc->Q (.ref l) (upd H l (.dK c))
abbrev obK(prog:On)(w:Oq)(kvs:!(Key×Oa))(o:Obj):Prop:=∀(h:Heap) d,h.get? d*>o->h.DictOf (aU prog w) d kvs
abbrev prK(prog:On)(w:Oq)(p:Key×Oa)(key a:Oa):Prop:=(aU prog w).is p.1 key=Ug/\a=p.2
def I0{prog:On}{w:Oq}{G:Heap}{d it:Addr}:DUp prog w False G d it (obK prog w) KC (λkvs p=>QZ kvs p.1 p.2) (prK prog w):=by
 show{λ{A E Q s st o p x i} J _ z h u m q=>?_,λ_ _=>tq};have(l,c):=z;subst c;show RJ (hsz:=Li m) l (u _ _ h) λH v r=>?_;have(a,y,t,g,f,B,j):=v;show q H a _ r g λc L e=>⟨a,y,t,e,f,B,j⟩
section
variable {X:Cx}{Ub:!(Addr×Obj)}{Z:St}{H:Hp}{s:Od}
def Fb(I:Inv X Ub Z H s):∀{f:!V} {ps:!(Key×V)} {us:!Oa},Paired (PrV X.K H) f ps->Vals f us ->
  ∃c:!(Key×Oa),(∀{G:Heap} {d it:Addr},(∀b o,s.heap.get? b*>o->G.get? b*>o)->s.heap.objs.size<=d->s.heap.objs.size<=it->Paired (PrG (prK X.prog X.w) G d it) us c)/\KV ps c
 :=by
 intro f ps us v a
 induction v generalizing us with
 | nil=>cases a;show{[],λ_ _ _=>.nil,.nil}
 | @cons y p _ _ h v A=>
   cases a with
   | @cons _ u _ _ r a=>
  have(c,L,z):=A a;have(t,e,h):=h;subst e;have E:u=OR t:=r;obtain⟨x,i,⟨o,m,M,n,B⟩,_⟩:=I.tupleN h;cases i with
  | cons i g=>cases g with
   | cons g J=>
    cases J;have lt:=Oh m;show{(p.1,_)::c,λl j q=>.cons {t,_,_,E,JG (JN lt j),JG (JN lt q),{og i,Xr},o,n,l _ _ m,M.1,B} (L l j q),.cons ⟨Xr,g⟩ z}
def Ei{ps:!(Key×V)}{a:!(Key×Oa)}(h:KV ps a):ps.map (·.1)=a.map (·.1):=by
 induction h with
 | nil=>rfl
 | cons h _ c=>rw[Jt,Jt,h.1,c]
def vc{Rm:Prop}{Ob:Heap->Addr->Addr->β->Obj->Prop}{N : β->Nat}{M : β->γ->β}{Pr:Heap->Addr->Addr->γ->Oa->Oa->Prop}{st0 : β}{ho:HO}{Ub:!(Addr×Obj)}{s:Od}{Z:St}{H:Hp}{p:Addr}{J:!V}{Q:VK}(hc:X.calm=Ug)(hu:Rm->X.A.units+64<OV)(I:Inv X Ub Z H s)(L:SqL X.K H p J\/SqT X.K H p J)
  (U:∀{G:Heap} {d it:Addr},DUp X.prog X.w Rm G d it (Ob G d it) N M (Pr G d it)) (h0:∀G d it,Ob G d it st0 {cls:=.type "dict",data:=.dict #[]}) (hl0:N st0=0)
  (hps:∀{els:!Oa},Vals J els->∃ps:!γ,(∀{G:Heap} {d it:Addr},(∀b o,s.heap.get? b*>o->G.get? b*>o)->s.heap.objs.size<=d->s.heap.objs.size<=it->Paired (PrG (Pr G d it) G d it) els ps)/\∀{Hx:Hp} {G h:Heap} {d it:Addr} {o:Obj},(d==Ps)=Ue->h.get? d*>o->Ob G d it (ps.foldl M st0) o->NI X.prog X.w Hx h d ho)
  (q:∀l,H l=Uc->Q (.ref l) (upd H l ho)):Oj (Ol X.prog X.w) X.A (call (.type "dict") [.ref p]) (EP X Ub Z Q) X.xe s:=by
 have hA:=I.ok.hd hc;have src:∃(v:Bool) (els:!Oa) (o:Obj) (n:Nat),s.heap.get? p*>o/\(o.cls=.type (if v then "list" else "tuple")/\o.dict=Uc)/\o.data=.seq els.toArray n/\Vals J els/\J.length<=sizeLine:=by
  rcases L with L|L
  .obtain⟨B,r',⟨o,n,g,i,m,e4⟩,hz⟩:=I.list L;show{Ug,B,o,n,g,⟨i,m⟩,e4,r',hz}
  .obtain⟨B,r',⟨o,g,i,n,m⟩,hz⟩:=I.tupleN L;show⟨Ue,B,o,n,g,i,m,r',hz⟩
 have(v,els,o,n,g,i,m,rv,hz):=src;have hlen:J.length=els.length:=rv.length;have(ps,hp,O):=hps rv;show callType_codes (Q₁:=λS y=>S=.ref s.heap.objs.size/\y={s with heap:=s.heap.push {cls:=.type "dict",data:=.dict #[]}}) F.kt_called_dict (F.kt_typeCall_dict_1 _) F.entry_dict_init (kt_code_dict_new _ ⟨Xr,Xr⟩) ?_;rintro S y ⟨rfl,rfl⟩;have hT:∀s':Od,s'.heap.get? s.heap.objs.size=Ud {cls:=.type "dict",data:=.dict #[]}->s'.TypeIs (.ref s.heap.objs.size) "dict" :=λs' e=>{_,e,Xr};have a:(s.heap.push {cls:=.type "dict",data:=.dict #[]}).get? s.heap.objs.size=Ud {cls:=.type "dict",data:=.dict #[]}:=Og _ rfl;have j:∀b c,s.heap.get? b*>c->(s.heap.push {cls:=.type "dict",data:=.dict #[]}).get? b*>c:=λb c e=>Oc _ e;generalize s.heap.push {cls:=.type "dict",data:=.dict #[]}=h1 at a j|-;show{hT _ a,F.args_dict_init_2 _ _,?_};unfold Om.«dict.__init__»;show NO ?_;unfold Tx;show NO (wpAny_notOrdered_dict (hT _ a) ?_);change Oj _ _ (pure (s.heap.objs.size,[OR p])) _ _ _;show Of ?_;change Oj _ _ (Q9 "dict.__init__" s.heap.objs.size (.ref p) [] .none) _ _ _;unfold Q9;have hh:X.A.in1.in1.handled=Uc:=hA;have x:∀(u:Heap) (E:Nat) (it:Addr),(∀b c,h1.get? b*>c->u.get? b*>c)->s.heap.objs.size<it->ItK v u it p 0 ->
   Pq (Ol X.prog X.w) X.A.in1 (.builtin "dict.update.loop" {[.ref s.heap.objs.size,.ref it,PV 0,.none],[]}) (wants (λr Y=>r=.none/\EP X Ub Z Q (.ref s.heap.objs.size) Y) X.xe) {s with heap:=u,toks:=E}:=by
  intro u E it f t hI;have p1:=hp (G:=u) (λb c e=>f b c (j b c e)) (d:=s.heap.objs.size) (it:=it) (JA _) (Li t);have lp:=Oh g;have sl:SeK v u p els.toArray:=by
   cases v with
   | true=>show{o,f _ _ (j _ _ g),i.1,n,m}
   | false=>show{o,f _ _ (j _ _ g),i.1,n,m}
  show Ai (G:=u) (kd:=v) (els:=els) (l:=p) U (JG t) (K2 lp) (K2 (Mr lp t)) sl els.length 0 ps st0 _ _ hh (λz=>show X.A.units+1+1+1<OV by have:=hu z;omega) ⋯ (by exists p1) hI (f _ _ a) (h0 _ _ _) ⋯ (λ_ _ _ _ e=>e) λh3 o3 tk3 k3 d3 b3=>?_;show{Xr,.ref s.heap.objs.size,_,I.laid (t':=tk3) (λb c e=>?_) (JA _) (O (beq_eq_false_iff_ne.mpr (Op (JG I.big))) d3 b3),Xr,q _ (I.hok.fresh (JA _))};have lb:=Oh e;show k3 b c (JG lb) (JG (Mr lb t)) (f b c (j b c e))
 cases v with
 | true=>
  show NO (P7 (T:="list") {o,j _ _ g,i.1} ?_);rw[if_pos (by decide)];show NO (me (j _ _ g) i m hh λu E f=>?_);rw[if_pos (by rfl)];show NO (Qc (NO (PM {o,f _ _ (j _ _ g),i.1,n,m} ?_)));show Of {QB _ (by decide +kernel),?_};show x _ E _ (λb c e=>Oc _ (f b c e)) (Oh (f _ _ a)) {_,Og _ rfl,Xr,Xr}
 | false=>
  show NO (P7 (T:="tuple") {o,j _ _ g,i.1} ?_);rw[if_pos (by decide)];show NO (lm (j _ _ g) i m hh λu E f=>?_);rw[if_pos (by rfl)];show NO (Qc (NO (OU {o,f _ _ (j _ _ g),i.1,n,m} ?_)));show Of {QB _ (by decide +kernel),?_};show x _ E _ (λb c e=>Oc _ (f b c e)) (Oh (f _ _ a)) {_,Og _ rfl,Xr,Xr}
def o4(N:X.calm=Ug):NK X (.type "dict") (uz X.K):=by
 intro Ub s Z H xs us Q I r h;have(p,Y,x,rfl,a,l,m,q):=h;have(u,rfl,y):=ef r;cases y;show vc (Ob:=λ_ _ _=>obK X.prog X.w) (Pr:=λ_ _ _=>prK X.prog X.w) (st0:=[]) (ho:=.dK x) N (λz=>z.elim) I a I0 (λ_ _ _ h d e=>?_) rfl (λ{M} S=>?_) q
 .have(o,B,A,i,L,J,O):=Rq (knd:=aU X.prog X.w) h;rw[Og _ rfl]at i;cases i;show{_,B,A,e,L,J,O}
 .have(c,t,g):=Fb I l S;show{c,t,λ{Hx G h d it o} E e U=>?_};have j:=U h d e;rw[show c.foldl (λf p=>QZ f p.1 p.2) []=sto c []from rfl,oP _ _ (by rw[KT,<-Ei g];show m),KT]at j;show{?_,E,c,g,j};have e1:=l.length;rcases a with a|a;have(_,_,_,v):=I.list a;omega;have(_,_,_,v):=I.tupleN a;omega
end
abbrev nJ(i:I):↑Key:=match i with
 | .int n=>Ud (.inl n)
 | .str x=>Ud (.inr x)
 | _=>Uc
abbrev pr1(i:I):↑(Key×I):=match i with
 | .tup a=>(match a with
  | []=>Uc
  | k::r=>(match r with
   | []=>Uc
   | v::c=>(match c with
    | []=>(nJ k).map λq=>(q,v)
    | _::_=>Uc)))
 | _=>Uc
abbrev wb:!I->Option !(Key×I)
 | []=>Ud []
 | i::a=>match pr1 i with
  | some p=>(wb a).map (p :: ·)
  | none=>Uc
abbrev xh(is:!I):↑T:=match wb is with
 | some l=>if(l.map (·.1)).Nodup then Ud (.di (l.map λp=>(cu p.1,p.2)))else Uc
 | none=>Uc
abbrev Ia(g:!I->↑T) (t:T):↑T:=match t with
 | .im i=>(match i with
  | .tup a=>g a
  | _=>Uc)
 | .li a=>g a
 | _=>Uc
private def qq:!T->↑T:=l1 (Ia xh)
section
variable {K:yF}{H:Hp}
def iT(e:nJ i*>q):i=cu q:=by
 unfold nJ at e;split at e<;>cases e<;>rfl
def jM(e:nJ i*>q)(r:RpI K H i x):x=kV q:=by
 rw[iT e]at r;cases q<;>(rw[cu,RpI]at r;show r)
def E9(e:pr1 i*>p)(r:RpI K H i x):∃w,PrV K H x (p.1,w)/\RpI K H p.2 w:=by
 unfold pr1 at e;ext e;split at e;cases e
 .split at e;cases e
  .ext e;rename_i k _ v _ _;have(q,h,j):=JQ.mp e;cases j;rw[RpI]at r;have(a,l,rfl,d,c):=r;rw[p7]at c;have(y,m,rfl,g,c):=c;rw[p7]at c;have(z,o,rfl,f,c):=c;rw[p7]at c;subst c;rw[jM h g]at d;show{z,⟨a,Xr,d⟩,f}
def ut:∀{is:!I} {l:!(Key×I)} {a:!V},wb is*>l->p7 K H is a->∃ps:!(Key×V),Paired (PrV K H) a ps/\ps.map (·.1)=l.map (·.1)/\p7 K H (l.map (·.2)) (ps.map (·.2))
 | [],_,_,e,r=>by
  cases e;rw[p7]at r;subst r;show{[],.nil,Xr,by rw[Kl,p7];rfl}
 | i::is,l,a,e,r=>by
  rw[p7]at r;have(x,a,rfl,q,o):=r;rw[wb]at e;ext e p j;have(s,m,rfl):=JQ.mp e;have(w,g,d):=E9 j q;have(ps,c,f,h):=ut m o;show{(p.1,w)::ps,.cons g c,by rw[Jt,Jt,f],?_};rw[Jt,Jt,p7];show{w,_,Xr,d,h}
def New.di(c:H p=Uc)(d:ps.map (λq=>cu q.1)=kvs.map (·.1))(h:p7 K H (kvs.map (·.2)) (ps.map (·.2))):New K H (upd H p (.dK ps)) (.di kvs) (.ref p):=by
 show{NP.laid c,[p],?_,by simp,λa e=>?_}
 .rw[Rp];show{p,ps.map (λq=>(cu q.1,q.2)),Xr,⟨ps,aA,Xr⟩,?_,?_,Xr}
  .have:(ps.map (λq=>(cu q.1,q.2))).map (·.2)=ps.map (·.2):=by rw[JJ];rfl
   rw[this];show h.same (NP.laid c)
  .rw[JJ,<-d];rfl
 .cases ysM e;show{c,_,aA,Xr}
def t3(e:xh is*>t)(r:p7 K H is xs)(hs:SqL K H p xs\/SqT K H p xs)(q:∀v H',New K H H' t v->Q v H'):uz K [.ref p] H Q:=by
 unfold xh at e;ext e l g;ext e h;cases e;have(f,i,a,d):=ut g r;show{p,xs,f,Xr,hs,i,by rw[a];show h,λj c=>q _ _ (.di c ?_ ?_)}
 .rw[JJ];have:=congrArg (No cu) a;rw[JJ,JJ]at this;show this
 .rw[JJ];show d
def vW:eP K (uz K) qq:=by
 intro H vs h t Q r e q;unfold qq at e;have f:=cJ e;clear e;have(x,rfl,e):=f;have(v,rfl,d):=jV r;unfold Ia at e;split at e
 .ext e;have(p,g,rfl,c,a):=bX d;show t3 e a (.inr c) q
 .have(p,g,rfl,c,a):=bV d;show t3 e a (.inl (aR c)) q
 .cases e
def b_dict:uR "dict" qq:={_,uz,LR,λ_ h=>o4 h,λ_=>vW}
abbrev i9:!(I×I)->I->↑I
 | [],_=>Uc
 | p::r,k=>if p.1=k then Ud p.2 else i9 r k
abbrev dg1(kvs:!(I×I)) (k:I):↑T:=match nJ k with
 | some _=>(i9 kvs k).map T.im
 | none=>Uc
private def dgT(t u:T):↑T:=match t with
 | .di a=>(match u with
  | .im k=>dg1 a k
  | _=>Uc)
 | _=>Uc
abbrev dgR:R2:=λx y H Q=>∃a v,x=.ref a/\N6 H a y (Ud v)/\Q v H
def l8(h:cu a=cu b):a=b:=by cases a<;>cases b<;>(unfold cu at h;cases h)<;>rfl
def qu:∀{kvs:!(I×I)} {zs:!(Key×V)},i9 kvs (cu q)*>v->zs.map (λz=>cu z.1)=kvs.map (·.1)->p7 K H (kvs.map (·.2)) (zs.map (·.2))->∃w,nT zs q*>w/\RpI K H v w
 | [],_,e,_,_=>by cases e
 | p::r,zs,e,a,d=>by
  cases zs with
  | nil=>cases a
  | cons z zs=>
   rw[Jt,Jt,Kw.injEq]at a;rw[Jt,Jt,p7]at d;have(x,l,f,i,h):=d;rw[Kw.injEq]at f;have(rfl,rfl):=f;rw[i9]at e;split at e
   .delta c;cases e;show{z.2,nw (l8 (a.1.trans c)),i}
   .delta c;have(w,g,j):=qu e a.2 h;show{w,by rw[nv λe=>c (by rw[<-a.1,e])];show g,j}
def ur:dH K dgR dgT:=by
 intro H x y p u t Q c o e q;unfold dgT at e;ext e;ext e;unfold dg1 at e;ext e;rename_i m k _ z g;have(v,h,rfl):=JQ.mp e;obtain⟨F,c⟩:=c;rw[Rp]at c;obtain⟨a,r,rfl,⟨s,j,rfl⟩,f,d,_⟩:=c;rw[JJ]at f d;rw[jM g (cf o)];rw[iT g]at h;have(w,l,i):=qu h d f;show{a,w,Xr,?_,q _ _ (.im i)};rw[<-l];show N6.k j
end
section
variable {ι : Type}{C:ι->Cx}{P:On}{W:Oq}{K:yF}{mg:Str->↑Oa}{base:Heap}{k:Nat}{a b:Expr}{ma mb:ME}{pos:Pos}
def mR(c:CK C P W K mg base k)(g:QE C K a ma)(e:QE C K b mb)(hs:wS b:=by intro _ _;rfl):QE C K (.Subscript a b pos) (mOp dgT ma mb):=by
 have(h,p,r):=g;have(j,d,f):=e;show{_,λi=>pG (xB (c.room i)) (p i) (d i) hs,kK (red:=dgR) ur r f}
end
section
variable {X:Cx}{Ub:!(Addr×Obj)}{Z:St}{H:Hp}{s:Od}
def Inv.frz(I:Inv X Ub Z H s)(h:H a*>(.lst xs)):∃o,Inv X Ub Z (upd H a (.frz o (.lst xs))) s:=by
 have(z,c,n,r,e):=(show NI X.prog X.w H s.heap a (.lst xs)from I.hok a _ h);show{_,I.write (t':=s.toks) (h':=s.heap) (by rw[h];show PN) (.inl rfl) (λb u _ q=>q) {_,e} ⟨e,z,c,n,r,e⟩}
end
abbrev jb:!I->Option !Int
 | []=>Ud []
 | i::a=>match i with
  | .int n=>(jb a).map (n :: ·)
  | _=>Uc
def lX{K:yF}{H:Hp}:∀{is:!I} {ns:!Int} {a:!V},jb is*>ns->p7 K H is a->a=ns.map V.int
 | [],_,_,e,r=>by cases e;rw[p7]at r;show r
 | i::is,ns,a,e,r=>by
  rw[p7]at r;have(x,a,rfl,c,f):=r;cases i with
  | int n=>
   have(g,d,rfl):=JQ.mp (show(jb is).map (n :: ·)*>ns from e);rw[RpI]at c;rw[c,lX d f];rfl
  | _=>cases e
end L2
namespace L2
open PySem
noncomputable section
abbrev lC:MS:=(bq (mB fe (ac (aO [Uc,Uc,Uc,Uc] (km (aa 0 (aa 1 mNil))) (bA (av (af 2) (av (af 3) mGNil))) mYes (mOp br (ag 2) (ag 3))) mNil)))
abbrev pR(ts:!T):↑T:=if ts.length=2 then cR lC 2 ts else Uc
abbrev iX:MS:=(ax (aI (mIx (bo [] (ac (mC (.int 4)) (ac (mC (.int 2001)) mNil))) (ao 0 0 am (aa 0 (ac (mC (.int 2)) mNil)))) (af 2))
  (bq (mB fe (ac (aO [Ud 0,Uc,Ud 2,Uc] (bp (aa 1 mNil)) (af 3) mYes (mOp cz (ao 0 0 am (aa 0 (aa 2 mNil))) (mOp ja (ag 2) (mC (.int 2))))) mNil))))
abbrev kI(ts:!T):↑(T×T):=if ts.length=2 then eJ iX 0 3 ts else Uc
end
end L2
namespace L2
open PySem PySem.Spec PyProof.Rows
def lc(ns:!Int):∀k,k<=ns.length->preSum (λi=>ns.getD i 0) k=(ns.take k).sum
 | 0,_=>by simp[preSum]
 | k+1,h=>by
  have a:k<ns.length:=h;rw[preSum,lc ns k (Li a),JX,JW a,List.sum_append];simp[List.getD,JW a]
def qb:∀{ns:!Int} {us:!Oa} {i:Nat} {v:Oa},Vals (ns.map V.int) us->us[i]?*>v->∃t,v=.int (ns.getD i 0) t
 | [],_,_,_,.nil,e=>by simp at e
 | n::ns,_,0,_,.cons r _,e=>by simp at e;subst e;show r
 | n::ns,_,i+1,v,.cons _ t,e=>by simpa using qb (ns:=ns) (i:=i) t (by exists e)
section
variable {X:Cx}
def w8(E:X.calm=Ug):NK X (.builtin "sum") (λf H Q=>∃(a:Addr) (ns:!Int),f=[.ref a]/\SqL X.K H a (ns.map V.int)/\Q (.int ns.sum) H):=by
 intro t s Z H f O Q I G h;have(a,ns,rfl,m,q):=h;have(u,rfl,w):=ef G;cases w;have(c,r,p,N):=I.list m;have d:a<s.heap.objs.size:=by
  have(o,n,e,_):=p;show Oh e
 show call_sum_walkG (PM p.isList ?_);show{s.heap.objs.size,_,_,_,_,_,λi=>ns.getD i 0,Xr,T5 (A:=X.A.in1) (show X.A.in1.handled=Uc from I.ok.hd E) s.heap.objs.size a (JG d) c.toArray,{{_,Og _ rfl,Xr,Xr},?_},?_,?_,λM J l L=>?_};show p.isList.at λo e=>Oc _ e
 .intro b g;change b<(s.heap.push _).objs.size;rw[OD];dsimp[JV,JZ,or_false]at g;rcases g with rfl|rfl;show LA _;show Lj d
 .intro i v y;show qb r (by exists y)
 .have x:Inv X t Z H {s with heap:=M,toks:=J}:=I.kept λb o e=>L b o (λz=>absurd (ysM z) (JG (Oh e))) (Oc _ e);show{.int _,H,x,⟨l,Xr⟩,?_};have B:c.toArray.size=ns.length:=by rw[Ju,<-r.length,Jr]
  rw[B,lc ns _ (JA _),JU];show q
def D8:∀{kvs:!(Key×V)} {vs:!(Key×Oa)} {us:!Oa},KV kvs vs->us.length=vs.length->(∀(i:Nat) (v:Oa),us[i]?*>v->∃k x,vs[i]?*>(k,x)/\l7 k v=Ug)->Vals (kvs.map λp=>kV p.1) us
 | [],_,us,.nil,a,_=>by have:us=[]:=KI.mp a;subst this;show .nil
 | p::f,_,us,.cons (b:=q) r t,a,h=>by
  cases us with
  | nil=>cases a
  | cons u us=>
   show .cons ?_ (D8 t (by exists a) λi v e=>by simpa using h (i+1) v (by exists e));have(k,x,e,d):=h 0 u rfl;simp at e;have c:p.1=k:=by rw[r.1,e]
   change RelV (kV p.1) u;rw[c];rcases bz d with⟨i,t,rfl,rfl⟩|⟨x,t,rfl,rfl⟩;show{_,Xr};show{_,Xr}
def se(t:X.calm=Ug):NK X (.type "list") (λg H Q=>∃a kvs,g=[.ref a]/\Rd H a (.dK kvs)/\∀l,H l=Uc->Q (.ref l) (upd H l (.lst (kvs.map λp=>kV p.1)))):=by
 intro M s Z H g O Q I A h;have(a,kvs,rfl,r,q):=h;have(u,rfl,m):=ef A;cases m;have(z,y,vs,d,G):=n5 I.hok r;have(j,o):=G.dictAt;have N:kvs.length=vs.length:=Paired.length d;show PySem.W.kdl_call (PySem.W.kdl_dict (kvs:=vs) (ep:=j) y) (I.ok.hd t) o ⋯ λL E c B J x f=>?_;show{.ref s.heap.objs.size,_,I.laid (t':=E) J (JA _) (show NI X.prog X.w _ L _ (.lst (kvs.map λp=>kV p.1))from{by rw[Jr];show z,c.toList,B,?_,by rw[MN];show x}),Xr,q _ (I.hok.fresh (JA _))};show D8 d (by rw[Ki];show f.1) λi v e=>f.2 i v (by rw[<-Lg];show e)
end
section
variable {κ : Type}[DecidableEq κ]
abbrev bL{a:Type}:!(κ × a)->κ->a->!(κ × a)
 | [],k,v=>[(k,v)]
 | p::r,k,v=>if p.1=k then(p.1,v)::r else p::bL r k v
def ui:∀{vs:!(κ×Oa)},k∉vs.map (·.1)->vs.map (λa=>if a.1=k then(a.1,u)else a)=vs
 | [],_=>rfl
 | p::r,h=>by
  rw[Jt,JV,not_or]at h;rw[Jt,if_neg (λz=>h.1 z.symm),ui h.2]
def kO(k : κ)(u:Oa):∀{vs:!(κ×Oa)},(vs.map (·.1)).Nodup->QZ vs k u=bL vs k u
 | [],_=>by simp[QZ,bL]
 | p::r,h=>by
  rw[Jt,JS]at h;have a:=kO k u h.2;have(c,t):=p;unfold QZ at a|-;rw[bL];by_cases e:c=k
  .subst e;rw[if_pos ∅,if_pos rfl,Jt,if_pos rfl,ui h.1]
  .rw[if_neg e,<-a,Mg];dsimp[decide_eq_false e,MW,Jt,if_neg e,J3];split<;>rfl
def KV.put{k : κ}{y:V}{u:Oa}(c:RelV y u){kvs:!(κ×V)}{vs:!(κ×Oa)}(h:KV kvs vs):KV (bL kvs k y) (bL vs k u):=by
 induction h with
 | nil=>show .cons ⟨Xr,c⟩ .nil
 | @cons p q _ _ h t f=>
  have(a,g):=p;have(d,i):=q;have e:a=d:=h.1;subst e;rw[bL,bL];by_cases e:a=k;rw[if_pos e,if_pos e];show .cons ⟨Xr,c⟩ t;rw[if_neg e,if_neg e];show .cons h f
end
abbrev Dp:AE:=λo i v H Q=>∃a c k,o=.ref a/\i=kV k/\H a*>(.dK c)/\(bL c k v).length<=sizeLine/\Q (upd H a (.dK (bL c k v)))
def zV{X:Cx}:DG X Dp:=by
 intro L s Z H o i v N M u Q I t E G h;have(a,d,k,rfl,rfl,e,A,q):=h;cases t;have(z,B,vs,f,g):=(show NI X.prog X.w H s.heap a (.dK d)from I.hok a _ e);have p:vs.length<=sizeLine:=by have:=Paired.length f;omega
 show wpAny_setItem_pairs (hsz:=p) (og E) g λj c J=>{_,?_,q};have r:∃q,j.get? a*>q:=by have(q,_,_,l,_):=c;show⟨q,l⟩
 show I.write (x:=a) (e:=a) (t':=s.toks+1) (by rw[e];show PN) (.inl rfl) (λb q y z=>(J.2 b y).trans z) r (show NI X.prog X.w _ j a (.dK (bL d k v))from{A,B,_,KV.put G f,by rw[kO k u (by have(_,_,_,_,_,_,_,_,m):=g;show m)]at c;show c})
private def tu:!T->↑T:=l1 λt=>match t with
 | .li a=>(jb a).map λc=>.im (.int c.sum)
 | _=>Uc
private def keysT:!T->↑T:=l1 λt=>match t with
 | .di a=>Ud (.li (a.map (·.1)))
 | _=>Uc
abbrev eQ:!Key->!I->Key->↑I
 | k::c,i::a,q=>if k=q then Ud i else eQ c a q
 | _,_,_=>Uc
private def qw(t u:T):↑T:=match t with
 | .im i=>(match i with
  | .fd c a=>(match u with
   | .im k=>(match nJ k with
    | some q=>(eQ c a q).map T.im
    | none=>Uc)
   | _=>Uc)
  | _=>Uc)
 | _=>Uc
private def mDN:ME:={λO=>Ud ({.ow,.di []},O),[]}
abbrev CZ(kvs:!(I×I)) (k v:I):↑T:=match nJ k with
 | some _=>if(bL kvs k v).length<=sizeLine then Ud (.di (bL kvs k v))else Uc
 | none=>Uc
abbrev t5(s k v:T):↑T:=match s with
 | .di a=>(match k with
  | .im c=>(match v with
   | .im vi=>CZ a c vi
   | _=>Uc)
  | _=>Uc)
 | _=>Uc
private def mr(j:Nat)(o i:ME):MG:={λr O=>match r with
 | ⟨.ow,c⟩=>match o.run O with
  | some (⟨.vw (Ud e) (Ud p),s⟩,d)=>match i.run d with
   | some (g,a)=>if(decide (e=j) &&  ~~~i.mu.contains j)=Ug then(match t5 s g.t c with
    | some f=>(match a[j]? with
     | some (Ud ⟨k,t⟩)=>if k.isOw=Ug then Ud ((aB [j] a).set j (Ud {k,t.put p f}))else Uc
     | _=>Uc)
    | none=>Uc)else Uc
   | none=>Uc
  | _=>Uc
 | _=>Uc,(o.mu++i.mu)++[j]}
abbrev jd:!(I×I)->Option !Key
 | []=>Ud []
 | p::r=>match nJ p.1 with
  | some q=>(jd r).map (q :: ·)
  | none=>Uc
abbrev xo(r:R):↑I:=match r.k with
 | .ow=>(match r.t with
  | .di a=>(jd a).map λc=>.fd c (a.map (·.2))
  | _=>Uc)
 | _=>Uc
private def je(a:ME):ME:={λO=>match a.run O with
 | some (r,c)=>(match xo r with
  | some i=>Ud ({.ow,.im i},c)
  | none=>Uc)
 | none=>Uc,a.mu}
section
variable {K:yF}{H:Hp}
abbrev HV(K:yF):!V->Hp->VK->Prop:=λd H Q=>∃(a:Addr) (c:!Int),d=[.ref a]/\SqL K H a (c.map V.int)/\Q (.int c.sum) H
def yV:eP K (HV K) tu:=by
 intro H vs j t Q r e q;unfold tu at e;have g:=cJ e;clear e;have(x,rfl,e):=g;have(v,rfl,a):=jV r;ext e;have(f,h,rfl):=JQ.mp e;have(p,i,rfl,d,c):=bV a;have:=lX h c;subst this;show{p,f,Xr,aR d,q _ H (.sc rfl)}
def b_sum:jz "sum" tu:={_,HV,ND,λ_ h=>w8 h,λ_=>yV}
def ue(q:Key):RpI K H (cu q) (kV q):=by cases q<;>(rw[cu,RpI];rfl)
def qH:∀(zs:!(Key×V)),p7 K H (zs.map λp=>cu p.1) (zs.map λp=>kV p.1)
 | []=>by rw[Kl,Kl,p7]
 | z::zs=>by rw[Jt,Jt,p7];show{_,_,Xr,ue z.1,qH zs}
abbrev Dl:yF->!V->Hp->VK->Prop:=λ_ d H Q=>∃a c,d=[.ref a]/\Rd H a (.dK c)/\∀l,H l=Uc->Q (.ref l) (upd H l (.lst (c.map λp=>kV p.1)))
def qx:∀{ks:!Key} {is:!I} {a:!(Key×V)},eQ ks is q*>v->a.map (·.1)=ks->p7 K H is (a.map (·.2))->∃w,nT a q*>w/\RpI K H v w
 | [],_,_,e,_,_=>by cases e
 | k::ks,[],_,e,_,_=>by cases e
 | k::ks,i::is,a,e,c,f=>by
  cases a with
  | nil=>cases c
  | cons z o=>
   rw[Jt,Kw.injEq]at c;rw[Jt,p7]at f;have(x,p,g,l,j):=f;rw[Kw.injEq]at g;have(rfl,rfl):=g;rw[eQ]at e;split at e
   .delta d;cases e;show{z.2,nw (c.1.trans d),l}
   .delta d;have(w,h,m):=qx e c.2 j;show{w,by rw[nv λe=>d (by rw[<-c.1,e])];show h,m}
def qZ:dH K dgR qw:=by
 intro H x y s u t Q c r e q;unfold qw at e;ext e;ext e;ext e;ext e p l;have(v,m,rfl):=JQ.mp e;have c:=cf c;rw[RpI]at c;have(a,o,d,rfl,h,g,f):=c;rw[jM l (cf r)];have(w,j,i):=qx m g f;show{a,w,Xr,{d,p,.inr ⟨o,h⟩,Xr,j.symm},q _ _ (.im i)}
def FD:aZ K Aa mDN:=by unhygienic
 intro e H O Z E Q r d f a S q;dsimp[mDN]at a q;cases a;show λp c=>q _ _ ?_;rw[cw];show(S.fresh (.di (ps:=[]) (kvs:=[]) c rfl (by rw[Kl,Kl,p7])))
def uu(d:RpI K H vq w):∀{kvs:!(I×I)} {zs:!(Key×V)},zs.map (λz=>cu z.1)=kvs.map (·.1)->p7 K H (kvs.map (·.2)) (zs.map (·.2)) ->
  (bL zs q w).map (λz=>cu z.1)=(bL kvs (cu q) vq).map (·.1)/\p7 K H ((bL kvs (cu q) vq).map (·.2)) ((bL zs q w).map (·.2))
 | [],zs,a,c=>by
  have:zs=[]:=by cases zs with|nil=>rfl|cons _ _=>cases a
  subst this;show{Xr,by change p7 K H [vq] [w];rw[p7];show{w,[],Xr,d,by rw[p7]}}
 | p::r,zs,a,c=>by
  cases zs with
  | nil=>cases a
  | cons z zs=>
   rw[Jt,Jt,Kw.injEq]at a;rw[Jt,Jt,p7]at c;have(x,l,g,i,f):=c;rw[Kw.injEq]at g;have(rfl,rfl):=g;rw[bL,bL];by_cases e:z.1=q
   .rw[if_pos e,if_pos (by rw[<-a.1,e])];show{by rw[Jt,Jt,a.1,a.2],?_};rw[Jt,Jt,p7];show{w,_,Xr,d,f}
   .rw[if_neg e,if_neg (λz=>e (l8 (a.1.trans z)))];have(h,j):=uu d a.2 f;show{by rw[Jt,Jt,a.1,h],?_};rw[Jt,Jt,p7];show{z.2,_,Xr,i,j}
def zy(ho:aZ K to o)(hi:aZ K ti i):j3 K (D3 to ti Dp) (mr j o i):=by unhygienic
 intro L H O Z E Q v r O' X c S q;dsimp[mr]at c q;split at c
 .delta tv;split at c
  .delta j' p s O1 e1;split at c
   .delta ri O2 e2;split at c
    .delta U;rw[Jv,decide_eq_true_eq,Kf]at U;have(rfl,J):=U;split at c
     .delta s' d;split at c
      .delta k t e4;split at c
       .delta hw;cases c;show ho L H O Z _ _ _ _ X e1 S λx H1 S1=>?_;show hi L H1 O1 Z _ _ _ _ X e2 S1 λy A B=>?_;have k1:aF i.mu {Uc,x,{.vw (Ud j') (Ud p),s}}=Ug:=by unfold aF;dsimp[Kd.root];rw[J];rfl
        have k2:∀M:!Nat,aF M {Uc,v,{.ow,tv}}=Ug:=λM=>rfl;rw[aK k1,ah,aK (k2 _)]at B;have ry:=B.rd ymS;have S3:=B.drop rfl;have(G,F,h1,h2,h3,h4,h5):=Sim.mut (vs:=[v]) (ts:=[tv]) (S3.perm (List.Perm.swap _ _ _)) rfl e4 hw;generalize N:ri.t=tri at d;unfold t5 at d;ext d;ext d;ext d;rename_i g _ ki _ vi;unfold CZ at d;ext d e w;ext d Y;cases d;rw[Rp]at h1;obtain⟨a,ys,rfl,⟨u,l,rfl⟩,g1,g2,rfl⟩:=h1;rw[JJ]at g1 g2;have(z,ez,g3):=wt h2;cases ez;have(g4,rfl):=bE g3;have h:∃F,Rp L.K A ri.t y F:=ry;have ey:y=kV e:=by rw[N]at h;show jM w (cf h)
        subst ey;rw[iT w]at Y;have(g5,g6):=uu (q:=e) g4 g2 g1;have m:(bL u e v).length=(bL g (cu e) vi).length:=by have:=congrArg KC g5;exists this
        show{a,u,e,Xr,Xr,l,by rw[m];show Y,q Z _ ?_};have hM:∀b∈[a],Mu A b:=λb f=>by rw[ysM f];show{_,l,Xr}
        have:=h5 (upd A a (.dK (bL u e v))) (.di (bL g ki vi)) [a] NJ.upd (λb f=>by rw[ysM f];show{_,aA}) ∅ (λb f=>by rw[ysM f];show{.inl ∅,_,aA,Xr}) (by
         rw[Rp];show{a,(bL u e v).map (λp=>(cu p.1,p.2)),Xr,{_,aA,Xr},?_,?_,Xr};rw[JJ,iT w];show g6.off NJ.upd hM;rw[JJ,iT w];show g5)
        rw[ah]at this;show this
       .cases (c)
      .cases (c)
     .cases (c)
    .cases (c)
   .cases (c)
  .cases (c)
 .cases (c)
def md:∀{kvs:!(I×I)} {ks:!Key} {zs:!(Key×V)},jd kvs*>ks->zs.map (λz=>cu z.1)=kvs.map (·.1)->zs.map (·.1)=ks
 | [],_,zs,e,h=>by cases e;cases zs with|nil=>rfl|cons _ _=>cases h
 | p::r,ks,zs,e,h=>by
  cases zs with
  | nil=>cases h
  | cons z zs=>
   rw[Jt,Jt,Kw.injEq]at h;rw[jd]at e;ext e q c;have(a,d,rfl):=JQ.mp e;rw[Jt,md d h.2,l8 (h.1.trans (iT c))]
abbrev Dx(t:TE):TE:=λZ H Q=>t Z H λv d=>∃a c,v=.ref a/\d a*>(.dK c)/\∀o,Q v (upd d a (.frz o (.dK c)))
def BG(h:PE X e t):PE X e (Dx t):=by
 intro p s Z H Q I q;show thn (h p s Z H _ I q) λu c m=>?_;have(v,i,g,x,a,f,A,d,l):=m;have z:∃o,c.heap.get? a*>o:=by
  have(_,_,_,_,o,_,_,e,_):=(show NI X.prog X.w i c.heap a (.dK f)from g.hok a _ d);show⟨o,e⟩
 have(o,e):=z;have(r,y,j):=(show NI X.prog X.w i c.heap a (.dK f)from g.hok a _ d);show{v,_,g.write (t':=c.toks) (h':=c.heap) (by rw[d];show PN) (.inl rfl) (λb u _ q=>q) {_,e} (show NI X.prog X.w _ c.heap a (.frz o (.dK f))from⟨e,r,y,j⟩),x,l o}
def xp(h:xo r*>i):∃kvs ks,r={.ow,.di kvs}/\jd kvs*>ks/\i=.fd ks (kvs.map (·.2)):=by
 have(k,t):=r;unfold xo at h;dsimp only at h;ext h;ext h;have(ks,e,rfl):=JQ.mp h;show{_,ks,Xr,e,Xr}
def zA(B:aZ K ta a):aZ K (Dx ta) (je a):=by unhygienic
 intro w H O Z E Q r N z d S q;dsimp[je]at d;ext d ra U G;ext d i J;cases d;have(e,ks,rfl,A,rfl):=xp J;show B w H O Z E _ _ _ z G S λx Y u=>?_;have(F,h,nd,v,k):=Sim.use (vs:=[x]) (ts:=[.di e]) u rfl;rw[Rps]at h;have(y,r,F1,X,s,m,g,rfl):=h;cases s;rw[Rps]at g;have(_,rfl):=g;rw[Rp]at m;obtain⟨b,L,rfl,⟨l,t,rfl⟩,j,p,rfl⟩:=m;rw[JJ]at j p;show{b,l,Xr,t,λo=>q _ _ (k _ _ _ [] ?_ ?_ Le ∅ (ji ?_))};show NJ.upd.mono ∅
 .intro c f;have:c=b:=by exists f
  subst this;show{_,aA}
 .rw[RpI];show{b,o,l,Xr,aA,md A p,?_};show p7.off (M:=[b]) NJ.upd (λc f=>by rw[ysM f];show v _ ∅) j
end
section
variable {ι : Type}{C:ι->Cx}{P:On}{W:Oq}{K:yF}{mg:Str->↑Oa}{base:Heap}{k:Nat}{a b e o:Expr}{es:!Expr}{ma mb mo mi m:ME}{ms:MA}{pos:Pos}
def sT(c:CK C P W K mg base k)(h:QE C K a ma)(f:QE C K b mb)(hs:wS b:=by intro _ _;rfl):QE C K (.Subscript a b pos) (mOp qw ma mb):=by
 have(j,p,r):=h;have(l,d,g):=f;show{_,λi=>pG (xB (c.room i)) (p i) (d i) hs,kK (red:=dgR) qZ r g}
def Jd:QE C K (.Dict [] [] pos) mDN:={_,λ_=>yu,FD}
def kA(h:QE C K e m):QE C K e (je m):=by
 have(t,p,r):=h;show{_,λi=>BG (p i),zA r}
def BZ(j:Nat)(ho:QE C K o mo)(g:QE C K e mi)
  (q:∀i v,P0 (.Subscript o e pos) (C i).env v=(do
   let c <-OZ [v] (eval o (C i).env)
   let d <-OZ [v,c] (eval e (C i).env)
   Qq pos
   OZ [v,c,d] (QK c d v)
   SO [v,c,d] []):=by intro _ _;rfl):QG C K Uc (.Subscript o e pos) (mr j mo mi):=by
 have(t,p,r):=ho;have(u,l,s):=g;show{_,λi=>yz (p i) (l i) zV (q i),zy r s,λf h=>by cases h}
end
end L2
namespace L2
open PySem
noncomputable section
abbrev iZ:MS:=(bq (mB tu (ac (aO [Uc,Uc,Uc,Uc] (km (aa 0 (aa 1 mNil))) (bA (av (af 2) (av (af 3) mGNil))) mYes (mOp cK (ag 2) (ag 3))) mNil)))
abbrev gB(ts:!T):↑T:=if ts.length=2 then cR iZ 2 ts else Uc
end
end L2
namespace L2
open PySem PySem.Spec PyProof.Rows
section
variable {a b m:ME}{O:Rho}{QF:R->Rho->Prop}{QG':Rho->Prop}{Q:T->Prop}
def Iv(q:QF {.ow,.di []} O):WE mDN O QF:=by unhygienic show{_,_,Xr,q}
def nA(h:WE m O λr c=>∃i,xo r*>i/\QF {.ow,.im i} c):WE (je m) O QF:=by unhygienic
 have(r,c,e,i,d,q):=h;show{_,_,by dsimp[je,e,d],q}
def uP(h:WE a O λg e=>WE b e λd c=>AtS j g λp s=>Gu (~~~b.mu.contains j) (AtM j c λk t=>W1 (t5 s d.t tv) λf=>QG' ((aB [j] c).set j (Ud {k,t.put p f})))):WG (mr j a b) {.ow,tv} O QG':=by
 obtain⟨g,e,r,d,c,u,p,s,rfl,l,k,t,o,v,f,i,q⟩:=h;show{_,?_,q};dsimp[mr,r,u,l,decide_true,LC,if_true,i,o,v]
def iS:∀ns:!Int,jb (ns.map .int)*>ns
 | []=>rfl
 | n::ns=>by rw[Jt,jb,iS ns];rfl
def qT{ns:!Int}(q:Q (.im (.int ns.sum))):W1 (tu [.li (ns.map .int)]) Q:=by unhygienic
 show w1 (x:=.im (.int ns.sum)) ?_ q;change(jb (ns.map .int)).map _=_;rw[iS];rfl
def um(h:eQ ks is (.inr z)*>v)(q:Q (.im v)):W1 (qw (.im (.fd ks is)) (.im (.str z))) Q:=by unhygienic
 show w1 (x:=.im v) ?_ q;change(eQ ks is (.inr z)).map _=_;rw[h];rfl
def yf(h:(bL kvs (.str z) v).length<=sizeLine)(q:Q (.di (bL kvs (.str z) v))):W1 (t5 (.di kvs) (.im (.str z)) (.im v)) Q:=by
 show w1 (x:=.di (bL kvs (.str z) v)) ?_ q;change(if(bL kvs (.str z) v).length<=sizeLine then _ else _)=_;rw[if_pos h]
end
abbrev qV(is:!I) (i:Int):↑(T×I):=if 0<=i/\i<1000000000 then(match is[i.toNat]? with
 | some x=>Ud (.li (is.eraseIdx i.toNat),x)
 | none=>Uc)else Uc
abbrev De(is:!I) (t:T):↑(T×I):=match isI t with
 | some i=>qV is i
 | none=>Uc
private def gK(s:T)(ts:!T):↑(T×I):=match s with
 | .li a=>l1 (De a) ts
 | _=>Uc
section
variable {K:yF}{H:Hp}
def p7.erase:∀{is:!I} {c:!V} (n:Nat),p7 K H is c->p7 K H (is.eraseIdx n) (c.eraseIdx n)
 | [],_,n,h=>by rw[p7]at h;subst h;rw[M5,M5,p7]
 | i::is,_,0,h=>by
  rw[p7]at h;have(x,r,rfl,_,a):=h;show a
 | i::is,_,n+1,h=>by
  rw[p7]at h;have(x,r,rfl,d,a):=h;rw[LL,LL,p7];show{x,_,Xr,d,p7.erase n a}
def sR:fS K sZ gK:=by
 intro H w vs s O S i G F Q d o N E e q;unfold gK at e;ext e M;have v:=cJ e;clear e;have(t,rfl,e):=v;unfold De at e;ext e n c;unfold qV at e;ext e B;ext e x u;cases e;have(a,f,rfl,m,j,rfl):=oz d λa L=>E a (yaL _ L);have(z,rfl,g):=wt o;have p:t=.im (.int n):=by
  unfold isI at c;ext c;split at c;cases c;rfl;cases c
 subst p;have J:=aY {_,g};have(_,rfl):=bE g;subst J;have(y,l,r):=j.get u;have A:n.toNat<f.length:=(Js.mp l).1;show{a,f,n,n.toNat,y,Xr,Xr,m,by omega,by omega,?_,l,nu m (j.erase n.toNat) r q};have h:ixN f.length n*>n.toNat:=by
  unfold ixN;rw[if_pos B.1,if_pos ⋯]
 show(pA h).1
def Ag(H:Hp)(x:V)(a:T)(ts:!T)(r:T×I)(h:Rpx K H a x)(e:gK a ts*>r):tyV K "list" x H:=by
 unfold gK at e;split at e;show Af h;cases e
end
def Bf:nU "list" "pop" gK:={_,λ_=>sZ,PySem.F.plainAttrs_list,PySem.F.slot_list_pop,PySem.F.type_list_pop,λ_=>xT,λ_=>sR,λK=>Ag}
section
variable {O:Rho}{is:!I}{n:Nat}{x:I}{QI1:T->I->Prop}
def yE(c:0<=i)(a:i<1000000000)(h:is[i.toNat]?*>x):qV is i*>(.li (is.eraseIdx i.toNat),x):=by
 unfold qV;rw[if_pos ⟨c,a⟩,h]
def vU:gK (.li is) [.im (.int i)]=qV is i:=by unfold gK;rfl
def BA(c:0<=i)(a:i<1000000000)(h:is[i.toNat]?*>x)(q:QI1 (.li (is.eraseIdx i.toNat)) x):W2 (gK (.li is) [.im (.int i)]) QI1:=by
 rw[vU,yE c a h];show{_,_,Xr,q}
end
abbrev Itm(a:Addr) (o:Obj):It:=
 {λi H=>∃c p,H a*>(.frz o (.dK c))/\c[i]?*>p,λi H y d=>∃l p,H l=Uc/\y=.ref l/\d=upd H l (.tup [kV p.1,p.2])/\∀c,H a*>(.frz o (.dK c))->c[i]?*>p,λi H=>∃c,H a*>(.frz o (.dK c))/\c.length<=i}
abbrev DE(o:Obj)(n ep:Nat):Prop:=∃a:Array RD,o.data=.dict a ep/\a.size=n
def xq(I:Inv X Ub Z H s)(h:H a*>(.frz o (.dK ys)))(p:DE o n ep):∃vs,KV ys vs/\vs.length=n/\s.heap.DictAt (aU X.prog X.w) a vs ep:=by
 obtain⟨e,x,y,vs,c,v,t,j,g,r,d,m,f,q⟩:=(show NI X.prog X.w H s.heap a (.frz o (.dK ys))from I.hok a _ h);rw[e]at g;cases (g);have(l,i,u):=p;rw[i]at d;cases (d);show{vs,c,by rw[<-f.length,<-u];simp,o,t,e,r,i,m,f,q}
def xI:∀{a:!(Key×V)} {vs:!(Key×Oa)} {i:Nat} {p:Key×V},KV a vs->a[i]?*>p->∃q,vs[i]?*>q/\p.1=q.1/\RelV p.2 q.2
 | _,_,_,_,.nil,e=>by cases e
 | _,_,0,_,.cons (b:=q) h _,e=>by cases e;show⟨q,Xr,h.1,h.2⟩
 | _,_,i+1,_,.cons _ t,e=>xI (i:=i) t (by exists e)
def tD{P:On}{w:Oq}{K:yF}{elts:!Expr}{k0:Nat}{pos:Pos}(a it:Addr)(o:Obj){n ep:Nat}(de:DE o n ep) :
  N5 P w K (.Tuple elts k0 pos) (Itm a o) [it] it (λi h=>∃ok ov,IsItemIter h it a i n ep ok ov) where
 mem:=by simp
 obj:=λi h st b hb=>by
  have z:b=it:=by exists hb
  subst z;have(ok,ov,e1):=st;show{_,e1,λv z=>by cases z}
 keep:=λi h h' st k=>let ⟨ok,ov,e1⟩:=st;{ok,ov,k it ∅ _ e1}
 item:=by
  intro X hP hw hK hc i Ub s Z H E I hf st hg;subst hP hw hK;have(ys,p,hq,hx):=hg;have(vs,rel,hl,da):=xq I hq de;obtain⟨⟨k,v⟩,hv,hk1,rv⟩:=xI rel hx;have(ok,ov,hit):=st;have(f0,f1,f2,f3,f4,f5):=hf it ∅;subst hl;show wpAny_pyNext_items_item hit da hv λkey h1 hkey ho ht hz kk=>?_;show{_,Xr,wpAny_letOwnedTupleGo_items ho λh2 he2 sb=>?_};have sb':Ou it h1 h2:=sb;have hel:it<s.heap.objs.size:=Oh hit;have k2:∀b o,b≠it->s.heap.get? b*>o->h2.get? b*>o:=λb o n1 q=>(sb'.2 b n1).trans (kk b o n1 q);have I1:Inv X Ub Z H {s with heap:=h2,toks:=s.toks}:=I.turned k2 f0 f1 f3 f4 f5;have fz:dU X Ub H s.heap.objs.size:=I.fpOk (JA _) (I.hok.fresh (JA _));have hT2:h2.get? s.heap.objs.size=Ud {cls:=.type "tuple",data:=.seq #[key,v]}:=(sb'.2 _ (K2 hel)).trans ht;have rk:RelV (kV p.1) key:=by
   have hk1':p.1=k:=hk1;rw[hk1'];rcases bz hkey with⟨i,t,rfl,rfl⟩|⟨x,t,rfl,rfl⟩;show{_,Xr};show{_,Xr}
  have I2:Inv X Ub Z (upd H s.heap.objs.size (.tup [kV p.1,p.2])) {s with heap:=h2,toks:=s.toks}:=I1.track fz (.inr I.sz) I.sz {by change 2<=sizeLine;decide,[key,v],.cons rk (.cons rv .nil),{_,hT2,⟨Xr,Xr⟩,_,Xr}};show{.ref s.heap.objs.size,_,I2,Xr,{_,p,fz.1,Xr,Xr,λys' hy=>by rw[hq]at hy;cases hy;show hx},⟨key,v,he2⟩,λb hb=>?_};have z:b=it:=by exists hb
  subst z;rw[aT (JG hel)];show f0
 done:=by
  intro X hP hw hK hc i Ub s Z H E I hf st hg;subst hP hw hK;have(ys,hq,hx):=hg;have(vs,rel,hl,da):=xq I hq de;have(ok,ov,hit):=st;have(f0,f1,f2,f3,f4,f5):=hf it ∅;have hlen:ys.length=vs.length:=Paired.length rel;subst hl;show wpAny_pyNext_items_end (I.ok.hd hc) hit da (List.getElem?_eq_none ⋯) λh1 eb=>{Xr,I.turned (t':=s.toks) (λb o hb e=>eb b o hb e) f0 f1 f3 f4 f5}
 self:=λA i s Q E st h=>by
  have(ok,ov,e1):=st;have hT:s.TypeIs (.ref it) "dict_itemiterator" :={_,e1,Xr};show wpAny_pyIter_slot hT Qi (OP Qi hT (by first|show kcp_entry|show PySem.W.kcp_entry|show PySem.kcp_entry) ?_ (F.args_dict_itemiterator_iter_1 _));change Oj _ _ (ret (.ref it)) _ _ s;show Of {_,Xr,"dict_itemiterator",_,hT,F.slot_dict_itemiterator_next.lookup,h}
abbrev GJ(e:TE):TI:=λZ H R=>e Z H λx c=>∃a o d,x=.ref a/\c a*>(.frz o (.dK d))/\R (Itm a o) c
def yC{X:Cx}{o:Expr}{u:TE}{elts:!Expr}{k0:Nat}{c pos pt:Pos}(ho:PE X o u)
  (f:O8 o "items" X.env (eval o X.env)=eval o X.env:=by rfl) (d:(c.endLine==pos.line)=Ug:=by rfl):PI X (.Tuple elts k0 pt) (.Call (.Attribute o "items" c) [] [] pos) (GJ u):=by
 intro O s Z H R I h;show Q5 f d (thn (ho O s Z H _ I h) λv i Y=>?_);have(x,r,j,r1,J):=Y;have(a,G,L,rfl,Q,q):=J;cases r1;have(e,z1,z2,vs,rel,l):=(show NI X.prog X.w r i.heap a (.frz G (.dK L))from j.hok a _ Q);have(g,t,m,B,E,p,e4,y,e6):=id l;have U:g=G:=by rw[e]at B;cases B;rfl
 subst U;have N:DE g vs.length m:={t,p,by rw[<-y.length];simp};show{"dict","dict.items",PySem.F.plainAttrs_dict,Sk,F.type_dict_items,l.typeIs,λb M=>?_,P9 rfl (MQ ?_)}
 .cases M;show⟨g,e,E.2.1⟩
 show Sl Sk l.typeIs F.entry_dict_items (F.args_dict_items_1 _) (meets_dict_items (aU X.prog X.w) a z2) {⟨vs,l⟩,?_};show wpAny_pyIter_items (knd:=aU X.prog X.w) (kvs:=vs) (ep:=m) {_,Og _ rfl,Xr,Xr} {g,t,Oc _ e,E,p,e4,y,e6} ?_;have A:(i.heap.push {cls:=.type "dict_items",data:=.fields #[.ref a]}).objs.size=i.heap.objs.size+1:=OD _ _;show{_,[_],_,Itm a g,r,Xr,j.kept (t':=i.toks) λb o q=>Oc _ (Oc _ q),tD a _ g N,{.none,.none,Og _ rfl},λb S=>?_,q};have z:=ysM S;subst z;show j.fpOk (by rw[A];show LM _) (j.hok.fresh (by rw[A];show LM _))
abbrev pz(ks:!Key) (is:!I):!I:=KB (λk i=>.tup [cu k,i]) ks is
private def nN(a:ME):MI:={λO=>match a.run O with
 | some (⟨k,.im (.fd d c)⟩,e)=>Ud (([{k,.im (.fd d c)}],(pz d c).map λi=>{.ow,.im i}),e)
 | _=>Uc,a.mu}
section
variable {Γ:Gm}{H H':Hp}{O:Rho}{Z:St}{E:!En}{v w x y:V}{K:yF}
abbrev Gm.hold(Γ:Gm) (a:Addr) (o:HO):Gm:={Γ.K,upd Γ.H0 a o,Γ.io.filter (λb=>decide (b≠a)),Γ.iov}
def lA(h:b≠a):b∈(Γ.hold a o).io↔b ∈ Γ.io:=by
 change b ∈ Γ.io.filter _↔_;rw[JD];show{λz=>z.1,λz=>{z,decide_eq_true h}}
def Bv{L:!Hd}{h:Hd}(d:h∈L)(a:h.e.r.k=.ow){b:Addr}(c:b∈h.F):b∈L.flatMap Hd.own:=by
 show Kx.mpr {h,d,?_};unfold Hd.own;rw[a];show c
def GW.hold{L:!Hd}{a:Addr}{o:HO}(g:GW Γ H L)(r:H a*>o)(t:D9 o=Ue):GW (Γ.hold a o) H L:=by
 have p:∀b,Mu H b->b≠a:=λb ⟨u,j,l⟩ e=>by
  subst e;rw[r]at j;cases j;rw[t]at l;cases l
 show{g.nd,λb i=>?_,g.rp,λh m=>?_,g.ks,λb u q s=>?_,λb i=>g.iol b (JD.mp i).1}
 .have(j,l):=g.ad b i;have n:=p b j;show{j,l.imp (λz=>by change upd Γ.H0 a o b=Uc;rw[aT n];show z) (lA n).mpr}
 .have d:=g.kd h m;unfold NN at d|-;split
  .delta f;rw[f]at d;intro b i;have n:=p b (g.ad b (Bv m f i)).1;change upd Γ.H0 a o b=Uc;rw[aT n];show d b i
  .delta f;rw[f]at d;show d
  .delta f;rw[f]at d;show d
  .delta f;rw[f]at d;show d
 .by_cases e:b=a
  .subst e;have c:upd Γ.H0 b o b*>u:=q;rw[aA]at c;cases c;show r
  .have c:upd Γ.H0 a o b*>u:=q;rw[aT e]at c;show g.fr b u c λz=>s ((lA e).mpr z)
def GW.unhold(g:GW (Γ.hold a o) H L)(hz:∀u,Γ.H0 a*>u->a∉Γ.io->u=o):GW Γ H L:=by
 have m:∀b,(Γ.hold a o).H0 b=Uc->b≠a/\Γ.H0 b=Uc:=λb i=>by
  have d:upd Γ.H0 a o b=Uc:=i;have n:b≠a:=λe=>by subst e;rw[aA]at d;cases d
  rw[aT n]at d;show⟨n,d⟩
 have l:a∉(Γ.hold a o).io:=λz=>by
  have:=(JD.mp z).2;simp at this
 have q:H a*>o:=g.fr a o (aA) l;show{g.nd,λb i=>?_,g.rp,λh s=>?_,g.ks,λb u p j=>?_,λb i=>?_}
 .have(t,r):=g.ad b i;show{t,r.imp (λz=>(m b z).2) λz=>(JD.mp z).1}
 .have c:=g.kd h s;unfold NN at c|-;split
  .delta f;rw[f]at c;show λb i=>(m b (c b i)).2
  .delta f;rw[f]at c;show c
  .delta f;rw[f]at c;show c
  .delta f;rw[f]at c;show c
 .by_cases e:b=a
  .subst e;rw[hz u p j];show q
  .show g.fr b u (by change upd Γ.H0 a o b*>u;rw[aT e];show p) λz=>j ((lA e).mp z)
 .by_cases e:b=a;subst e;show⟨o,q⟩;show g.iol b ((lA e).mpr i)
def Sim.hold(S:Sim Γ H O Z E)(i:H a*>o)(h:D9 o=Ue):Sim (Γ.hold a o) H O Z E:=by
 obtain⟨⟨L,g,e⟩,d,c,f⟩:=S;show{{L,g.hold i h,e},d,c,f}
def Sim.held(S:Sim (Γ.hold a o) H O Z E):H a*>o:=by
 obtain⟨⟨L,g,e⟩,c,d,f⟩:=S;show g.fr a o (aA) λz=>by
  have:=(JD.mp z).2;simp at this
def Sim.unhold(hz:∀u,Γ.H0 a*>u->a∉Γ.io->u=o)(S:Sim (Γ.hold a o) H O Z E):Sim Γ H O Z E:=by
 obtain⟨⟨L,g,e⟩,d,c,f⟩:=S;show{{L,g.unhold hz,e},d,c,f}
def Sim.holdz(S:Sim Γ H O Z E)(f:H a*>o):∀u,Γ.H0 a*>u->a∉Γ.io->u=o:=by
 obtain⟨⟨L,g,e⟩,c,h,i⟩:=S;intro u d c;have:=g.fr a u d c;rw[f]at this;cases this;rfl
def A6{ks:!Key}{is:!I}{i:Nat}{j:I}:(pz ks is)[i]?*>j->∃k x,ks[i]?*>k/\is[i]?*>x/\j=.tup [cu k,x]:=by
 unfold pz;rw[List.getElem?_zipWith];intro h;cases e1:ks[i]? with
 | none=>rw[e1]at h;cases e2:is[i]?<;>rw[e2]at h<;>cases h
 | some k=>
  cases e2:is[i]? with
  | none=>rw[e1,e2]at h;cases h
  | some x=>rw[e1,e2]at h;cases h;show⟨k,x,Xr,Xr,Xr⟩
def At{a:Addr}{o:Obj}{c:!(Key×V)}{k:Kd}{ks:!Key}{is:!I}(s:c.map (·.1)=ks)(N:is.length=c.length):f9 (Γ.hold a (.frz o (.dK c))) (Itm a o) [.ref a] [{k,.im (.fd ks is)}] ((pz ks is).map λi=>{.ow,.im i}):=λH O Z E S=>by
 have f:=S.held;replace S:Sim (Γ.hold a (.frz o (.dK c))) H O Z ({Uc,.ref a,{k,.im (.fd ks is)}}::E):=S;have r1:Rpx (Γ.hold a (.frz o (.dK c))).K H (.im (.fd ks is)) (.ref a):=S.rd (e:={Uc,.ref a,{k,.im (.fd ks is)}}) ymS;have z:=cf r1;rw[RpI]at z;have(a',o',Q,J,d,_,U):=z;cases J;rw[f]at d;cases d;have A:ks.length=c.length:=by rw[<-s,Jr]
 have B:(pz ks is).length=c.length:=by unfold pz;rw[L0,A,N,M3]
 show{λi u=>{c,f,by rw[Jr,B]at u;show u},λi r M=>?_};have(j,G,rfl):=ay M;have(X,x0,t,e2,rfl):=A6 G;have(w0,q,g):=U.get e2;rw[JB]at q;have(p,m,rfl):=JQ.mp q;have Y:X=p.1:=by
  rw[<-s,JB,m]at t;cases t;rfl
 subst Y;show{⟨c,p,f,m⟩,λx H' y=>?_};have(l,p',h,rfl,rfl,L):=y;have:=L c f;rw[m]at this;cases this;show S.fresh (New.tup h (.cons (ue _) (.cons g (by rw[p7]))))
def Cb(z:aZ K ta a):lg K (GJ ta) (nN a):=by unhygienic
 intro Γ H O Z E L s g G u d S q;dsimp[nN]at d;ext d k l j J A;cases d;show z Γ H O Z E _ _ _ u A S λv m h=>?_;have B:Rpx Γ.K m (.im (.fd l j)) v:=h.rd (e:={Uc,v,{k,.im (.fd l j)}}) ymS;have p:=cf B;rw[RpI]at p;have(f,o,i,rfl,c,t,r):=p;show{f,o,i,Xr,c,q (Γ.hold f (.frz o (.dK i))) rfl (λ_ _ _ _ S=>S.unhold (h.holdz c)) _ [.ref f] m rfl (h.hold c rfl) (At t (by rw[<-r.length,Jr]))}
end
section
variable {ι : Type}{C:ι->Cx}{P:On}{W:Oq}{K:yF}{mg:Str->↑Oa}{base:Heap}{k:Nat}{o:Expr}{m:ME}{pos:Pos}
def jU(d:CK C P W K mg base k)(ho:QE C K o m)(a:∀i,O8 o "items" (C i).env (eval o (C i).env)=eval o (C i).env:=by intro _;rfl)(c:(apos.endLine==pos.line)=Ug:=by rfl):QI C K (.Tuple elts k0 pt) (.Call (.Attribute o "items" apos) [] [] pos) (nN m):=by
 have(e,q,r):=ho;show{_,λi=>yC (q i) (a i) c,Cb r}
end
def rV(h:WE m O λr a=>∃k ks is,r={k,.im (.fd ks is)}/\QI' [{k,.im (.fd ks is)}] ((pz ks is).map λi=>{.ow,.im i}) a):WI (nN m) O QI':=by
 have(r,a,c,k,ks,is,rfl,q):=h;show{_,_,_,by dsimp[nN,c],q}
end L2
namespace L2
open PySem
noncomputable section
abbrev cY:MS:=(ax (aI (ag 0) (bA (av (af 2) (av (af 3) mGNil))))
  (bq (aD [2] (aa 2 (ac (mB pR (aa 3 (ac (mOp qw (ag 1) (ag 2)) mNil))) mNil)))))
abbrev fF(ts:!T):↑T:=if ts.length=2 then cR cY 4 ts else Uc
abbrev fW:MS:=(ax (aI (mIx (ag 1) (mC (.int 0))) (af 2))
  (ax (aI (aO [Uc,Uc,Uc,Uc,Uc,Uc,Uc,Uc,Uc] (mIt (mIx (ag 1) (mC (.int 2)))) (bA (av (af 6) (av (af 8) mGNil))) mYes (ag 6)) (af 3))
  (ax (aI (ao 0 0 am (aa 0 (ac (mB cP (aa 3 mNil)) mNil))) (af 4))
  (ax (aI mDN (af 5))
  (ax (cD (mIt (mOp br (mSl (ag 3) (eS (ag 4)) mNoPart) (mSl (ag 3) mNoPart (eS (ag 4))))) (af 6)
  (cQ [6,7] (ax (aI (mIx (bo [] (ac (mC (.int 1)) (ac (mC (.int 3)) (ac (mC (.int 7)) mNil)))) (ao 0 0 am (aa 0 (ac (mC (.int 3)) mNil)))) (af 7))
  (aI (mB fe (ac (aO [Ud 0,Uc,Uc,Uc,Uc,Uc,Uc,Ud 7,Uc] (bp (aa 2 mNil)) (af 8) mYes (mOp cz (ao 0 0 am (aa 0 (aa 7 mNil))) (mOp ja (ag 7) (mC (.int 2))))) mNil)) (mr 5 (ag 5) (ag 6))))))
  (bq (ag 5)))))))
abbrev f6(ts:!T):↑(T×T):=if ts.length=2 then eJ fW 0 8 ts else Uc
end
end L2
namespace L2
open PySem PySem.Spec PyProof.Rows
def hU{prog:On}{w:Oq}{A:Ot}{R:RX->Od->Prop}{s:Od}{M L a iter:Expr}{y:!Expr}{j:P5}{pos:Pos}{it:Oa}{D:Addr}{env:Env}(I:Nat->Od->Prop)
  (B:∀n s,I n s->Oj (Ol prog w) A (Qk it) (λr i=>match r with
   | none=>R (.ok .next) i
   | some v=>Oj (Ol prog w) A (PD a it v) (λ_ g=>Oj (Ol prog w) A (P0 a env v) (λ_ t=>
     Oj (Ol prog w) A (lI y env) (λN f=>
      if N=Ug then Oj (Ol prog w) A (eval M env) (λO p=>Oj (Ol prog w) A (eval L env) (λQ u=>
       Oj (Ol prog w) A (TN D O Q) (λ_ l=>∃m,m<n/\I m l) (Rk (Ol prog w) A env λe c=>R (.error e) c) u) (Rk (Ol prog w) A env λe c=>R (.error e) c) p) (Rk (Ol prog w) A env λe c=>R (.error e) c) f
      else∃m,m<n/\I m f) (Rk (Ol prog w) A env λe c=>R (.error e) c) t) (Rk (Ol prog w) A env λe c=>R (.error e) c) g) (Rk (Ol prog w) A env λe c=>R (.error e) c) i) (Rk (Ol prog w) A env λe c=>R (.error e) c) s)
  (n:Nat) (h:I n s):Pq (Ol prog w) A (.compLoop (.DictComp M L [{a,iter,y,0}] j pos) 0 it (.ref D) env) R s:=by
 show codeAny_loop rfl I (λn s S=>?_) n h;change Oj _ A ((compTurn (.DictComp M L [{a,iter,y,0}] j pos) 0 it (.ref D) env).onRaise (λx=>do noteFrame x env;SK x)) _ _ s;show wpAny_noted ?_;rw[compTurn_dict];show NO (PK (NO (OB (B n s S) (λr i q=>?_) λ_ _ d=>d)));cases r with
 | none=>show Of q
 | some v=>
  show NO (OB q (λ_ g z=>?_) λ_ _ d=>d);show NO (OB z (λ_ t E=>NO (OB E (λN f o=>?_) λ_ _ d=>d)) λ_ _ d=>d);cases N with
  | false=>show Of ⟨Xr,o⟩
  | true=>
   show NO (NO (OB o (λO p G=>NO (OI (OB G (λQ u J=>NO (PK (OI (OB J (λ_ l H=>Of ⟨Xr,H⟩) λ_ _ d=>d)))) λ_ _ d=>d))) λ_ _ d=>d))
abbrev z8(o:TI)(fr:! ↑Nat)(g:TG)(p:TT)(t w:TE):TE:=λZ H Q=>
 o Z H λJ s=>∃W:Nat->Nat->!(Key×V)->Hp->Prop,(∃m,W 0 m [] s)/\∀i m a H,W i m a H->a.length<sizeLine /\
  ((J.stop i H/\∀d,H d=Uc->Q (.ref d) (upd H d (.dK a))) \/
  (J.go i H/\∃N:!(Key×V)->Hp->Prop,(∀c e,N c e->∃j,j<m/\W (i+1) j c e) /\
   ∀x e,J.yld i H x e->g x (bG fr Z) e λf u=>p f u λb h=>if b=Ug then t f h λy r=>∃q,y=kV q/\w f r λv l=>N (bL a q v) l else N a h))
section
variable {X:Cx}{kx vx tg iter:Expr}{ifs:!Expr}{scope:P5}{pos:Pos}{N':!Str}{fr:! ↑Nat}{wi:TI}{g:TG}{tc:TT}{tk tv:TE}
def qm(hc:X.calm=Ug)(B:Blk X.env.scope scope X.N N' fr)
  (hg:∀b,PG (cxB X scope N' b) tg g) (hgk:fR fr g) (ht:∀b,PTs (cxB X scope N' b) ifs tc) (hek:∀b,PE (cxB X scope N' b) kx tk) (hev:∀b,PE (cxB X scope N' b) vx tv)
  {U:!(Addr×Obj)} {Z:St} {Q:VK} {itv:Oa} {O:Od} {E:Oa->Od->Prop} {RR:Oa->Addr->RX->Od->Prop}
  (h2:PIE X U Z tg (λJ H1=>∃W:Nat->Nat->!(Key×V)->Hp->Prop,(∃m,W 0 m [] H1)/\∀i m f H,W i m f H->f.length<sizeLine /\
   ((J.stop i H/\∀d,H d=Uc->Q (.ref d) (upd H d (.dK f))) \/
   (J.go i H/\∃N:!(Key×V)->Hp->Prop,(∀acc' H',N acc' H'->∃m',m'<m/\W (i+1) m' acc' H') /\
    ∀x H',J.yld i H x H'->g x (bG fr Z) H' λZ2 H2=>tc Z2 H2 λb H3=>if b=Ug then tk Z2 H3 λy H4=>∃q,y=kV q/\tv Z2 H4 λv H5=>N (bL f q v) H5 else N f H3))) itv O)
  (hRR:∀(d C:Addr) (v:V) (H':Hp) (s':Od) m',Inv X U Z H' s'->v=.ref d->Q v H'->s'.heap.Ns C m'->dU X U H' C->C≠d->RR (.ref d) C (.ok .next) s') :
  Oj (Ol X.prog X.w) X.A newDict (λf s₃=>Oj (Ol X.prog X.w) X.A (Qa scope X.env.globals (bT X.env scope.names []) [] X.env.qual Uc .none (Ud X.env)) (λcenv s₄=>
   Pq (Ol X.prog X.w) X.A (.compStart (.DictComp kx vx [{tg,iter,ifs,0}] scope pos) 0 itv f {cenv with scope:=Rj scope X.env}) (RR f cenv.locals) s₄) E s₃) E O:=by
 obtain⟨it,Y,tn,J,H2,rfl,I2,T,st2,f2,W,⟨m0,w0⟩,turn⟩:=h2;show OC ?_;have hnew:(O.heap.push {cls:=.type "dict",dict:=Uc,data:=.dict #[]}).DictOf (aU X.prog X.w) O.heap.objs.size []:=Rq O.heap;have hbig:(O.heap.objs.size==Ps)=Ue:=beq_eq_false_iff_ne.mpr (Op (JG I2.big));generalize hd:O.heap.objs.size=d at hnew hbig;have I3:Inv X U Z H2 {O with heap:=O.heap.push {cls:=.type "dict",dict:=Uc,data:=.dict #[]}}:=I2.kept (t':=O.toks) λb o e=>Oc _ e;have fd:dU X U H2 d:=I2.fpOk (by rw[hd];show JA _) (I2.hok.fresh (by rw[hd];show JA _));have od:(O.heap.push {cls:=.type "dict",dict:=Uc,data:=.dict #[]}).get? d=Ud {cls:=.type "dict",dict:=Uc,data:=.dict #[]}:=by rw[<-hd];show Og _ rfl
 have st3:tn 0 (O.heap.push {cls:=.type "dict",dict:=Uc,data:=.dict #[]}):=T.keep _ _ _ st2 λb _ o e=>Oc _ e;have ne_d:∀b∈Y,b≠d:=λb l=>by
  have(o,e,_):=T.obj _ _ st2 b l;rw[<-hd];show JG (Oh e)
 have hd0:X.s₀.heap.objs.size<=d:=by rw[<-hd];show I2.sz
 generalize hs3:({O with heap:=O.heap.push {cls:=.type "dict",dict:=Uc,data:=.dict #[]}}:Od)=s3 at I3;have od3:s3.heap.get? d=Ud {cls:=.type "dict",dict:=Uc,data:=.dict #[]}:=by rw[<-hs3];show od
 have hnew3:s3.heap.DictOf (aU X.prog X.w) d []:=by rw[<-hs3];show hnew
 have st3':tn 0 s3.heap:=by rw[<-hs3];show st3
 have hex:∀b∈d::Y,dU X U H2 b/\∃o,s3.heap.get? b*>o:=λb l=>by
  rcases ycM l with e|l;subst e;show{fd,_,od3}
  .have(o,e,_):=T.obj _ _ st3' b l;show{f2 b l,o,e}
 show iK λh4 hns hk hcl=>?_;have J0:=I3.enter (ex:=d::Y) (xe:=λ_ _=>False) B hex hns hk hcl;generalize hCs:Oz (s3.heap.objs.size+1) scope.names (bT X.env scope.names [])=cells at J0;have hCd:s3.heap.objs.size≠d:=λz=>by have:=Oh od3;rw[z]at this;show KA _ this
 let M:Bk:={cells,s3.heap.objs.size,s3,H2,d::Y,X.pn++U}
 have L:Inv (cxB X scope N' M) [] (bG fr Z) H2 {s3 with heap:=h4}:=J0;change Pq (Ol X.prog X.w) X.A (.compStart (.DictComp kx vx [{tg,iter,ifs,0}] scope pos) 0 (.ref it) (.ref d) (cxB X scope N' M).env) (RR (.ref d) s3.heap.objs.size) {s3 with heap:=h4};have ne_pn:∀p∈X.pn++U,p.1≠d/\∀b∈Y,p.1≠b:=λp S=>{fd.2.2.2.2.2 p S,λb l=>(f2 b l).2.2.2.2.2 p S};have fpk:∀{Hx:Hp} {o:Obj},(∀b∈Y,Hx b=Uc)->∀b∈Y,dU (cxB X scope N' M) [(d,o)] Hx b:=λ{Hx o} hn b l=>by
  have hb':b∈d::Y:=ymC _ l;show{hn b l,(L.ok.exf b hb').1,L.ok.exfs b hb',.inl hb',λx c e=>(L.ok.exf b hb').2 x c e,λp S=>?_};have hp':p∈(X.pn++U)++[(d,o)]:=S;rcases yaM hp' with z|z;show(ne_pn p z).2 b l
  .have:p=(d,o):=by exists z
   rw[this];show Op (ne_d b l)
 have dat:∀{h:Heap} {vs:!(Key×Oa)},h.DictOf (aU X.prog X.w) d vs->∃o,h.get? d*>o/\∀v,o.data ≠ .cell v:=λx=>by
  have(o,es,ep,e1,e2,e3,_):=x;show{o,e1,λv z=>by rw[e3]at z;cases z}
 have loop:∀s4:Od,Inv (cxB X scope N' M) [] (bG fr Z) H2 s4->tn 0 s4.heap->s4.heap.DictOf (aU X.prog X.w) d [] ->
   Pq (Ol X.prog X.w) X.A (.compLoop (.DictComp kx vx [{tg,iter,ifs,0}] scope pos) 0 (.ref it) (.ref d) (cxB X scope N' M).env) (RR (.ref d) s3.heap.objs.size) s4:=by
  intro s4 J4 st4 pl4;show hU (λn s'=>∃i f vs H' Z',Inv (cxB X scope N' M) [] Z' H' s'/\Kp fr (bG fr Z) Z'/\tn i s'.heap/\(∀b∈Y,H' b=Uc)/\H' d=Uc/\s'.heap.DictOf (aU X.prog X.w) d vs/\KV f vs/\W i n f H') ?_ m0
   {0,[],[],H2,bG fr Z,J4,Kp.refl _ _,st4,λb l=>(f2 b l).1,fd.1,pl4,.nil,w0}
  rintro n s5 ⟨i,f,vs,H5,Z5,J5,kp5,st5,fr5,hd5,dd5,va5,w5⟩;have(hz,cs):=turn i n f H5 w5;have(ob,pl5,ncell):=dat dd5;have J5p:Inv (cxB X scope N' M) [(d,ob)] Z5 H5 s5:=J5.pins_of λp S=>by
   have:p=(d,ob):=by exists S
   subst this;show{pl5,hd5,(L.ok.exf d ymS).1,L.ok.exfs d ymS,ncell}
  have same:∀{h:Heap},h.get? d*>ob->h.DictOf (aU X.prog X.w) d vs:=λe=>dd5.at λo eo=>by rw[pl5]at eo;cases eo;show e
  rcases cs with⟨stop,q⟩|⟨go,N,hN,step⟩
  .show thn (T.done (cxB X scope N' M) rfl rfl rfl hc i _ s5 Z5 H5 _ J5p (fpk fr5) st5 stop) λr s6 ⟨hr,J6⟩=>?_;subst hr;have(e6,n6,_):=J6.pin (d,ob) (yaR _ ∅);have I6:Inv X U Z H5 s6:=I3.leave (λb l=>(hex b l).1) J6;have I6t:Inv X U Z (upd H5 d (.dK f)) s6:=I6.track ⟨hd5,fd.2⟩ (.inr hd0) hd0 {by omega,hbig,vs,va5,same e6};have(m6,hn6,_):=J6.loc;show hRR d s3.heap.objs.size (.ref d) _ s6 m6 I6t rfl (q d hd5) hn6 ?_ hCd;show I3.fpOk (JA _) (by rw[aT hCd];show J6.free)
  .show thn (T.item (cxB X scope N' M) rfl rfl rfl hc i _ s5 Z5 H5 _ J5p (fpk fr5) st5 go) λr s6 z9=>?_;have(u,hr,h6):=z9;subst hr;show thn h6 λ_ s7 z9=>?_;have(x,H7,J7,r7,y7,st7,fr7):=z9;have J7w:Inv (cxB X scope N' M) [(d,ob)] (bG fr Z) H7 s7:=J7.weak kp5.1.symm λk v e=>by
    cases q:fr[k]? with
    | none=>
     unfold bG at e;rw[JB,q]at e;cases e
    | some o=>
     cases o with
     | none=>
      unfold bG at e;rw[JB,q]at e;simp at e
     | some j=>rw[kp5.2 k j q];show e
   have J7p:=J7w.pinned (fpk fr7) (T.obj _ _ st7);have never:∀{α:Type} {t:Sem α} {QQ : α->Od->Prop} {EE:Oa->Od->Prop} {ss:Od},Oj (Ol X.prog X.w) X.A t QQ (λ_ _=>False) ss->Oj (Ol X.prog X.w) X.A t QQ EE ss:=λhh=>OB hh (λ_ _ z=>z) λ_ _ z=>z.elim;have G:=hgk x (bG fr Z) H7 _ (λZ2 H2=>(tc Z2 H2 λb H3=>if b=Ug then tk Z2 H3 λy H4=>∃q,y=kV q/\tv Z2 H4 λv H5=>N (bL f q v) H5 else N f H3)/\Kp fr (bG fr Z) Z2) (λZ' H' a b=>⟨a,b⟩) (step x H7 y7);show never (thn (hg M _ s7 (bG fr Z) H7 x u _ J7p r7 G) λ_ s8 z9=>?_);have(Z8,H8,J8,q8,kp8):=z9;show never (thn (ht M _ s8 Z8 H8 _ J8 q8) λok s9 z9=>?_);have(H9,J9,q9):=z9;have keepT:∀{Zx:St} {Hx:Hp} {sx:Od},Inv (cxB X scope N' M) ([(d,ob)]++eB Y s7.heap) Zx Hx sx->(∀b∈Y,∀o,s7.heap.get? b*>o->sx.heap.get? b*>o)/\(∀b∈Y,Hx b=Uc)/\sx.heap.get? d*>ob/\Hx d=Uc:=λ{Zx Hx sx} Jx=>by
    show{λb l o e=>(Jx.pin (b,o) (yaR _ (yaR _ (ft l e)))).1,λb l=>?_,?_}
    .have(o,e,_):=T.obj _ _ st7 b l;show(Jx.pin (b,o) (yaR _ (yaR _ (ft l e)))).2.1
    .have:=Jx.pin (d,ob) (yaR _ (yaL _ ∅));show⟨this.1,this.2.1⟩
   cases ok with
   | false=>
    rw[if_neg (by decide)]at q9|-;have(m',hm,w9):=hN _ _ q9;have(k1,k2,k3,k4):=keepT J9;show{m',hm,i+1,f,vs,H9,Z8,J9.pins_of (λp S=>by simp at S),kp8,T.keep _ _ _ st7 k1,k2,k4,same k3,va5,w9}
   | true=>
    rw[if_pos rfl]at q9|-;show never (thn (hek M _ s9 Z8 H9 _ J9 q9) λkv s10 z9=>?_);have(y,H10,J10,r10,q,ey,q10):=z9;subst ey;show never (thn (hev M _ s10 Z8 H10 _ J10 q10) λvv s11 z9=>?_);have(v,H11,J11,r11,q11):=z9;have(m',hm,w11):=hN _ _ q11;have(k1,k2,k3,k4):=keepT J11;have hlen:f.length=vs.length:=Paired.length va5;have dd11:=same k3;show RJ (knd:=aU X.prog X.w) (hsz:=by omega) (og r10) dd11 λh12 dd12 sb12=>?_;have J11':Inv (cxB X scope N' M) [] Z8 H11 s11:=J11.pins_of (λp S=>by simp at S);have J12:Inv (cxB X scope N' M) [] Z8 H11 {s11 with heap:=h12,toks:=s11.toks+1}:=J11'.turned (it:=d) (t':=s11.toks+1) (λb o l e=>(sb12.2 b l).trans e) k4 (L.ok.exf d ymS).1 (.inl ymS) (λx c e=>(L.ok.exf d ymS).2 x c e) λp S=>by
     have hp':p∈(X.pn++U)++[]:=S;rw[Kg]at hp';show(ne_pn p hp').1
    show{m',hm,i+1,bL f q v,bL vs q vv,H11,Z8,J12,kp8,T.keep _ _ _ st7 (λb l o e=>(sb12.2 b (ne_d b l)).trans (k1 b l o e)),k2,k4,?_,KV.put r11 va5,w11};rw[kO q vv (let ⟨_,_,_,_,_,_,_,_,hn⟩:=dd11;hn)]at dd12;show dd12
 have st4:tn 0 h4:=T.keep _ _ _ st3' λb _ o e=>hk b o e;have pl4:h4.DictOf (aU X.prog X.w) d []:=hnew3.at λo e=>hk d o e;have L4:=loop {s3 with heap:=h4} L st4 pl4;show codeAny_compStart_dict L4 (T.self X.A 0 _ _ _ st4 L4)
def yt(G:X.calm=Ug)(B:Blk X.env.scope scope X.N N' fr)(Y:PI X tg iter wi)
  (L:∀b,PG (cxB X scope N' b) tg g) (i:fR fr g) (S:∀b,PTs (cxB X scope N' b) ifs tc) (f:∀b,PE (cxB X scope N' b) kx tk) (c:∀b,PE (cxB X scope N' b) vx tv)
  (hs:∀x,OX iter X.env x=pure x:=by intro _;rfl):PE X (.DictComp kx vx [{tg,iter,ifs,0}] scope pos) (z8 wi fr g tc tk tv):=by
 intro j s Z H Q I h;rw[arm_eval_DictComp];show PX (use:=Uc) rfl hs (gb (I.freeCells B)) B.kind B.locl (thn (Y j s Z H _ I h) λv s1 M=>thn M λitv s2 l=>?_);show qm (RR:=λa C=>TX (Ol X.prog X.w) X.A X.xe Uc (EP X j Z Q) a C) G B L i S f c l ?_;intro d C v z J r E u q m t U;show{r,m,λp O=>?_};have(c0,c1,c2,c3,c4,c5):=t;show{v,z,E.turned (it:=C) (t':=J.toks) (λb o y e=>(O.2 b y).trans e) c0 c1 c3 c4 c5,by rw[u];rfl,q}
end
abbrev xH(r:R):↑Key:=match r.t with
 | .im i=>nJ i
 | _=>Uc
abbrev D6(ks:!Key) (q:Key):Bool:=ks.any λk=>decide (k=q)
def hasK_iff:D6 ks q=Ug↔q∈ks:=by
 unfold D6;rw[Nd];show{fun⟨k,c,a⟩=>of_decide_eq_true a▸c,λh=>{q,h,decide_eq_true rfl}}
abbrev ce(fr:! ↑Nat) (M:!Nat) (g:MG) (c:MT) (h e:ME):!R->Rho->!Key->!T->↑((!Key×!T)×Rho)
 | [],O,a,d=>Ud ((a,d),O)
 | r::i,O,a,d=>match g.run (kM (piF fr) r) (inR fr O)with
  | some j=>(match c.run j with
   | some (Ug,f)=>(match h.run f with
    | some (o,l)=>(match xH o with
     | some q=>(match e.run l with
      | some (⟨.ow,t⟩,m)=>if D6 a q=Ug then Uc else ce fr M g c h e i (dF fr M m O) (a++[q]) (d++[t])
      | _=>Uc)
     | none=>Uc)
    | none=>Uc)
   | some (Ue,f)=>ce fr M g c h e i (dF fr M f O) a d
   | none=>Uc)
  | none=>Uc
abbrev sI(ks:!Key) (ts:!T):T:=.dc (KB (λk t=>(cu k,t)) ks ts)
private def iq(fr:! ↑Nat)(it:MI)(g:MG)(c:MT)(d e:ME):ME:={λO=>match it.run O with
 | some ((f,a),h)=>if(fQ fr h.length&&fV (g.mu++(c.mu++(d.mu++e.mu))) fr.length&&f.all (aM (muF fr (g.mu++(c.mu++(d.mu++e.mu)))))&&decide (a.length<sizeLine))=Ug then(match ce fr (g.mu++(c.mu++(d.mu++e.mu))) g c d e a h [] []with
  | some ((j,l),i)=>Ud ({.ow,sI j l},i)
  | none=>Uc)else Uc
 | none=>Uc,it.mu++muF fr (g.mu++(c.mu++(d.mu++e.mu)))}
def rf{c:Type}{q:Key}{v : c}:∀{a:!(Key × c)},q∉a.map (·.1)->bL a q v=a++[(q,v)]
 | [],_=>rfl
 | p::r,h=>by
  rw[Jt,JV,not_or]at h;rw[bL,if_neg (λz=>h.1 z.symm),rf h.2];rfl
section
variable {Γ:Gm}{H H':Hp}{O:Rho}{Z:St}{E X:!En}{v x y:V}{t:T}{K:yF}{Q:VK}
def zO:∀{a:!(Key×V)} {ts:!T} {F:!Addr},Rps K H ts (a.map (·.2)) F->Rpk K H (KB (λk t=>(cu k,t)) (a.map (·.1)) ts) (a.map λp=>(cu p.1,p.2)) F
 | [],[],F,h=>by rw[Rps]at h;rw[Kl,List.zipWith_nil_left,Rpk];show⟨Xr,h.2⟩
 | p::a,[],F,h=>by rw[Rps]at h;cases h.1
 | [],t::ts,F,h=>by rw[Rps]at h;have(_,_,_,_,e,_):=h;cases e
 | p::a,t::ts,F,h=>by
  rw[Rps]at h;have(x,r,g,f,e,d,c,rfl):=h;rw[Jt,Kw.injEq]at e;have(rfl,rfl):=e;rw[Jt,Mw,Jt,Rpk];show{p.2,_,g,f,Xr,d,zO c,Xr}
def Sim.mkD(S:Sim Γ H O Z (bf (acc.map (·.2)) ts++E))(i:acc.length=ts.length)(g:H p=Uc):Sim Γ (upd H p (.dK acc)) O Z ({Uc,.ref p,{.ow,sI (acc.map (·.1)) ts}}::E):=by
 have(F,q,j,f,l):=S.use (by rw[Jr];show i);have d:=NP.laid (o:=.dK acc) g;have h:p∉F:=λz=>by have(o,e,_):=f p z;rw[g]at e;cases e
 show l _ (.ref p) (sI (acc.map (·.1)) ts) (p::F) (d.offM _) (λa c=>let ⟨o,e,_⟩:=f a c;{o,d a o e}) (JS.mpr ⟨h,j⟩) (λa c=>?_) ?_
 .rcases ycM c with rfl|c;show{.inr g,_,aA,Xr};show{.inl c,let ⟨o,e,m⟩:=f a c;{o,d a o e,m}}
 .unfold sI;rw[Rp];show{p,_,F,Xr,⟨acc,aA,Xr⟩,zO (q.same d),Xr}
def so{J:It}{fr:! ↑Nat}{g:TG}{tc:TT}{tk tv:TE}{mg:MG}{c:MT}{U L:ME}{M:!Nat}{vs:!V}{f:!R}{items:!R}(hK : Γ.K=K)(wk:f9 Γ J vs f items)(hgk:fR fr g)(hg:j3 K g mg)(hc:fO K tc c)(hek:aZ K tk U)(hev:aZ K tv L)(hM:M=mg.mu++(c.mu++(U.mu++L.mu)))
  (hmu:∀j∈M,j<fr.length) (ks:∀e∈ens vs f,aF (muF fr M) e=Ug) {u:!En} (kE:aj (muF fr M) u=u) {s:!Key} {r:!T} {OF:Rho} (hz:items.length<sizeLine)
  (hf:fQ fr O.length=Ug) (S:Sim Γ H O Z (ens vs f++u)) (hr:ce fr M mg c U L items O [] []*>((s,r),OF))
  (q:∀(a:!(Key×V)) H',a.map (·.1)=s->a.length=r.length->Sim Γ H' OF Z (ens vs f++(bf (a.map (·.2)) r++u))->∀d,H' d=Uc->Q (.ref d) (upd H' d (.dK a))) :
  ∃W:Nat->Nat->!(Key×V)->Hp->Prop,(∃m,W 0 m [] H)/\∀i m a H,W i m a H->a.length<sizeLine /\
   ((J.stop i H/\∀d,H d=Uc->Q (.ref d) (upd H d (.dK a))) \/
   (J.go i H/\∃N:!(Key×V)->Hp->Prop,(∀acc' H',N acc' H'->∃m',m'<m/\W (i+1) m' acc' H') /\
    ∀x H',J.yld i H x H'->g x (bG fr Z) H' λp H2=>tc p H2 λb H3=>if b=Ug then tk p H3 λy H4=>∃q,y=kV q/\tv p H4 λv H5=>N (bL a q v) H5 else N a H3)):=by
 have kE2:∀a h,aj (muF fr M) (ens vs f++(bf a h++u))=ens vs f++(bf a h++u):=λa h=>by rw[aQ,cM ks,aQ,jn,kE]
 show{λi m a H=>m=items.length-i/\i<=items.length/\a.length<=i/\∃o h,ce fr M mg c U L (items.drop i) o (a.map (·.1)) h*>((s,r),OF)/\a.length=h.length/\o.length=O.length/\Sim Γ H o Z (ens vs f++(bf (a.map (·.2)) h++u)),{items.length,by simp,Ku _,JA _,O,[],by simpa using hr,Xr,Xr,S},?_};rintro i m a H1 ⟨rfl,hil,hal,o,h,l,hl,hO,G⟩;show{by omega,?_};have(w1,w2):=wk H1 o Z _ G;by_cases hlt:i<items.length
 .have hx:items[i]?=Ud items[i]:=by simp[hlt]
  have(w3,w4):=w2 i _ hx;rw[Kz hlt,ce]at l;show .inr {w3,λacc' H'=>acc'.length<=i+1/\∃o h,ce fr M mg c U L (items.drop (i+1)) o (acc'.map (·.1)) h*>((s,r),OF)/\acc'.length=h.length/\o.length=O.length/\Sim Γ H' o Z (ens vs f++(bf (acc'.map (·.2)) h++u)),λacc' H' ⟨ha,O3,ts3,h3,hl3,hO3,S3⟩=>{items.length-(i+1),by omega,Xr,hlt,ha,O3,ts3,h3,hl3,hO3,S3},λx H2 y=>?_};have S2:=w4 x H2 y;have hf1:fQ fr o.length=Ug:=by rw[hO];show hf
  have S3:=S2.inn hf1;rw[i3]at S3;ext l O2 e2;show hgk x (bG fr Z) H2 (λp H3=>Kp fr (bG fr Z) p->_) _ (λp H3 z kp=>z kp) ?_;show hg Γ H2 (inR fr o) (bG fr Z) _ _ x _ O2 hK e2 S3 λp H3 S4 kp=>?_;split at l
  .delta O3 e3;show hc Γ H3 O2 p _ _ Ug O3 hK e3 S4 λH4 S5=>qD ?_;ext l rk O4 e4;ext l q0 e5;show hek Γ H4 O3 p _ _ _ O4 hK e4 S5 λy0 H5 S6=>?_;have ry:=S6.rd ymS;have ey:y0=kV q0:=by
    have(kk,tt):=rk;unfold xH at e5;dsimp only at e5;ext e5 ii;have ry':∃F,Rp Γ.K H5 (.im ii) y0 F:=ry;show jM e5 (cf ry')
   show{q0,ey,?_};ext l t O5 e6;split at l;cases l
   .delta hnew;show hev Γ H5 O4 p _ _ _ O5 hK e6 (S6.drop rfl) λw H6 S7=>?_;rw[ah,ah,ah]at S7;have hM':mg.mu++c.mu++U.mu++L.mu=M:=by rw[hM,JK,JK]
    rw[show mg.mu++(c.mu++(U.mu++L.mu))=M from hM.symm]at S7;have S8:Sim Γ H6 O5 p (aj M (mJ fr Z o ({Uc,w,{.ow,t}}::(ens vs f++(bf (a.map (·.2)) h++u))))):=by
     rw[i3,aK (show aF M (dw (piF fr) {Uc,w,{.ow,t}})=Ug from rfl)];show S7
    have Y : O5.length=fr.length:=by rw[<-S7.len,kp.1,gx]
    have S9:=S8.outt hf1 hmu Y kp G.al G.len (λe' he' j hj=>by
     rcases ycM he' with rfl|he';cases hj;show G.hi e' he' j hj)
    rw[aK (show aF (muF fr M) {Uc,w,{.ow,t}}=Ug from rfl),kE2]at S9;rw[rf (λz=>hnew (hasK_iff.mpr z))];show{by simp;omega,_,_,by rw[JC];show l,by simp[hl],by rw[jT,hO],?_};rw[JC,show No (λx=>x.2) [(q0,w)]=[w]from rfl,kS (by rw[Jr];show hl),JK];show S9.perm ?_;have pp:∀(A B C:!En) (x:En),(x::(A++(B++C))).Perm (A++(B++(x::C))):=λA B C x=>by
     rw[<-JK,<-JK];show Ka.symm
    show pp _ _ _ _
  .delta O3 e3;show hc Γ H3 O2 p _ _ Ue O3 hK e3 S4 λH4 S5=>qC ?_;have S6:=S5.weak (U.mu++L.mu);rw[ah,ah]at S6;rw[<-hM]at S6;have Y : O3.length=fr.length:=by rw[<-S6.len,kp.1,gx]
   have S8:=S6.outt hf1 hmu Y kp G.al G.len G.hi;rw[kE2]at S8;show{by omega,_,_,l,hl,by rw[jT,hO],S8}
  .cases l
 .have ei:i=items.length:=by omega
  subst ei;rw[LV,ce]at l;cases l;show .inl {w1 _ (JA _),q a H1 rfl hl G}
def wm(hi:lg K wi it)(p:fR fr g)(hg:j3 K g mg)(hc:fO K tc c)(o:aZ K tk ek)(l:aZ K tv ev):aZ K (z8 wi fr g tc tk tv) (iq fr it mg c ek ev):=by
 intro Γ H O Z E Q r O' h f S q;dsimp[iq]at f q;ext f a e B e1;ext f w;dsimp[Jv,decide_eq_true_eq]at w;obtain⟨⟨⟨b1,b2⟩,A⟩,b5⟩:=w;ext f ksF ts O2 e2;cases f;show hi Γ H O Z E _ a e B h e1 S λΓ i bk J vs H1 hlv u U=>?_;replace h:=i.trans h;replace q:=λv H' S=>q v H' (bk _ _ _ _ S);rw[<-ah]at q;generalize aj it.mu E=E1 at q u;have z:∀Y∈ens vs a,aF (muF fr (mg.mu++(c.mu++(ek.mu++ev.mu)))) Y=Ug:=jG A;have m:=u.weak (muF fr (mg.mu++(c.mu++(ek.mu++ev.mu))));rw[aQ,cM z]at m;have s:=ff (M:=muF fr (mg.mu++(c.mu++(ek.mu++ev.mu)))) (N:=muF fr (mg.mu++(c.mu++(ek.mu++ev.mu)))) (λj G=>G) E1;generalize aj (muF fr (mg.mu++(c.mu++(ek.mu++ev.mu)))) E1=E2 at q m s;show so h U p hg hc o l rfl (qJ b2) z s b5 b1 m e2 λL H' hk hl S3 d hd=>?_;subst hk;show q _ _ (S3.drops.mkD hl hd)
end
section
variable {ι : Type}{C:ι->Cx}{P:On}{W:Oq}{K:yF}{mg:Str->↑Oa}{base:Heap}{k:Nat}{kx vx tg iter:Expr}{ifs:!Expr}{scope:P5}{pos:Pos}{it:MI}{g:MG}{mt:MT}{mk mv:ME}
def uw(r:CK C P W K mg base k)(e:∀i,Blk (C i).env.scope scope (C i).N N' f)(u:QI C K tg iter it)(j:QG (lN C scope N') K (Ud f) tg g)(o:QTs (lN C scope N') K ifs mt)(a:QE (lN C scope N') K kx mk)(c:QE (lN C scope N') K vx mv)(hs:∀i x,OX iter (C i).env x=pure x:=by intro _ _;rfl) :
  QE C K (.DictComp kx vx [{tg,iter,ifs,0}] scope pos) (iq f it g mt mk mv):=by
 have(B,z,p):=u;have(E,l,h,d):=j;have(G,s,v):=o;have(A,q,y):=a;have(t,w,m):=c;show{_,λi=>yt (r.calm i) (e i) (z i) (λb=>l (i,b)) (d f rfl) (λb=>s (i,b)) (λb=>q (i,b)) (λb=>w (i,b)) (hs i),wm p (d f rfl) h v y m}
end
section
variable {O:Rho}{it:MI}{g:MG}{ct:MT}{ek ev:ME}{QE':R->Rho->Prop}
def j9{fr:! ↑Nat}{M:!Nat}{items:!R}{QC:!Key×!T->Rho->Prop}(Inv:Nat->!Key->!T->Rho->Prop)
  (hs:∀i r ks ts O,items[i]?*>r->Inv i ks ts O->WG g (kM (piF fr) r) (inR fr O) λo=>WT ct o λd h=>(d=Ug->WE ek h λu p=>∃q,xH u*>q/\q∉ks/\WE ev p λr x=>∃t,r={.ow,t}/\Inv (i+1) (ks++[q]) (ts++[t]) (dF fr M x O))/\(d=Ue->Inv (i+1) ks ts (dF fr M h O)))
  (f:∀ks ts O,Inv items.length ks ts O->QC (ks,ts) O):∀(l:!R) (i:Nat) (ks:!Key) (ts:!T) (O:Rho),items.drop i=l->i<=items.length->Inv i ks ts O->W2 (ce fr M g ct ek ev l O ks ts) QC
 | [],i,ks,ts,O,e,H,j=>by
  have:i=items.length:=by have:=congrArg KC e;simp at this;omega
  subst this;show{_,_,Xr,f ks ts O j}
 | r::l,i,ks,ts,O,e,H,j=>by
  have s:items[i]?*>r:=by rw[<-MC,e];rfl
  have c:=(Js.mp s).1;have a:items.drop (i+1)=l:=by rw[<-ML,e];rfl
  have(o,v,d,h,w,y,E):=hs i r ks ts O s j;cases d with
  | true=>
   obtain⟨u,p,B,L,m,A,J,x,G,t,rfl,q⟩:=y rfl;dsimp[ce,v,w,B,m,G];rw[if_neg (λz=>A (hasK_iff.mp z))];show j9 Inv hs f l (i+1) _ _ _ a c q
  | false=>
   dsimp[ce,v,w];show j9 Inv hs f l (i+1) _ _ _ a c (E rfl)
def CF{fr:! ↑Nat} (h:WI it O λc items a=>Gu (fQ fr a.length&&fV (g.mu++(ct.mu++(ek.mu++ev.mu))) fr.length&&c.all (aM (muF fr (g.mu++(ct.mu++(ek.mu++ev.mu)))))) (items.length<sizeLine/\∃Inv:Nat->!Key->!T->Rho->Prop,Inv 0 [] [] a /\
  (∀i r ks ts O,items[i]?*>r->Inv i ks ts O->WG g (kM (piF fr) r) (inR fr O) λa=>WT ct a λf d=>(f=Ug->WE ek d λw m=>∃q,xH w*>q/\q∉ks/\WE ev m λr v=>∃t,r={.ow,t}/\Inv (i+1) (ks++[q]) (ts++[t]) (dF fr (g.mu++(ct.mu++(ek.mu++ev.mu))) v O))/\(f=Ue->Inv (i+1) ks ts (dF fr (g.mu++(ct.mu++(ek.mu++ev.mu))) d O))) /\
  ∀ks ts O,Inv items.length ks ts O->QE' {.ow,sI ks ts} O)):WE (iq fr it g ct ek ev) O QE':=by
 obtain⟨c,items,a,s,o,j,Inv,u,x,l⟩:=h;obtain⟨⟨ks,ts⟩,d,e,q⟩:=j9 (QC:=λp O=>QE' {.ow,sI p.1 p.2} O) Inv x l items 0 [] [] a rfl (Ku _) u;show{{.ow,sI ks ts},d,?_,q};dsimp[iq,s];rw[if_pos (by rw[Jv];show{o,decide_eq_true j})];dsimp[e]
end
open AutoSeq1 (wpAny_loadPart')
open MeetsSeq MeetsSeq2 MeetsSeq3 SeqRoads2
abbrev wr(n:Nat):!V:=(JE n).map λi:Nat=>V.int (i:Int)
def zM(h:TQ (λi v=>∃t,v=.int (0+i*1) t) acc n):Vals (wr n) acc.toList:=by
 have d:∀(a:!Oa) (k:Nat),(∀i v,a[i]?*>v->∃t,v=RC (((k+i:Nat):Int)) t)->Vals ((JE a.length).map λi:Nat=>V.int ((k+i:Nat):Int)) a:=by
  intro a
  induction a with
  | nil=>intro k _;show .nil
  | cons u a j=>
   intro k f;rw[JH,Ms,Jt,JJ];show .cons ?_ ?_
   .have(t,e):=f 0 u rfl;rw[e];show⟨t,Xr⟩
   .have:=j (k+1) λi v e=>by
     have(t,c):=f (i+1) v (by exists e);show{t,by rw[c];congr 1;omega}
    have l:((λi:Nat=>V.int ((k+i:Nat):Int))∘KG)=λi:Nat=>V.int ((k+1+i:Nat):Int):=by funext i;change V.int _=V.int _;congr 2;omega
    rw[l];show this
 have:=d acc.toList 0 λi v e=>by
  have(t,c):=h.2 i v (by rw[<-Lg];show e);show{t,by rw[c];congr 1;simp}
 have g:acc.toList.length=n:=by rw[Ki];show h.1
 rw[g]at this;have e:(λi:Nat=>V.int ((0+i:Nat):Int))=λi:Nat=>V.int (i:Int):=by funext i;rw[Ke]
 rw[e]at this;show this
section
variable {X:Cx}
abbrev Fy:!V->Hp->VK->Prop:=λa H Q=>∃n:Nat,a=[.int (n:Int)]/\∀r,H r=Uc->Q (.ref r) (upd H r (.rng 0 n))
def w6:NK X (.type "range") Fy:=by
 intro d s Z H f e Q I a h;have(n,rfl,q):=h;have(u,rfl,c):=ef a;have(t,rfl):=c;show call_range_1 ?_;show{.ref s.heap.objs.size,_,I.laid (t':=s.toks+1+1) (o:=.rng 0 n) (λb o q=>Oc _ q) (JA _) (show NI X.prog X.w _ _ _ (.rng 0 n)from{_,_,_,Og _ rfl}),Xr,q _ (I.hok.fresh (JA _))}
abbrev zk:!V->Hp->VK->Prop:=λc H Q=>∃(a:Addr) (n:Nat),c=[.ref a]/\H a*>(.rng 0 n)/\n<=1000000/\∀l,H l=Uc->Q (.ref l) (upd H l (.lst (wr n)))
def uU(g:X.calm=Ug):NK X (.type "list") zk:=by
 intro A s Z H E B Q I m h;have(a,n,rfl,j,y,q):=h;have(u,rfl,l):=ef m;cases l;have(t,u,v,e):=(show NI X.prog X.w H s.heap a (.rng 0 n)from I.hok a _ j);have z:(1000000:Nat)<=sizeLine:=by rw[Oe];decide
 show call_list_range (n:=n) (I.ok.hd g) (show IsRange s.heap a 0 n 1 t u v from e) (small_one ⋯ ⋯ ⋯ ⋯) (by rw[rangeSize_one];split<;>omega) ⋯ λx p c o r i f=>?_;have d:(wr n).length=n:=by simp[wr]
 show{.ref s.heap.objs.size,_,I.laid (t':=p) r (JA _) (show NI X.prog X.w _ x _ (.lst (wr n))from{by rw[d];omega,c.toList,o,zM f,by rw[MN];show i}),Xr,q _ (I.hok.fresh (JA _))}
end
abbrev rE(n:Nat):!I:=(JE n).map λi:Nat=>I.int (i:Int)
private def mn:!T->↑T:=l1 λt=>match isI t with
 | some n=>if 0<=n/\n<=1000000 then Ud (.li (rE n.toNat))else Uc
 | none=>Uc
section
variable {K:yF}{H:Hp}
def FJ:p7 K H (rE n) (wr n):=by
 have c:∀l:!Nat,p7 K H (l.map λi:Nat=>I.int (i:Int)) (l.map λi:Nat=>V.int (i:Int)):=by
  intro l
  induction l with
  | nil=>rw[Kl,Kl,p7]
  | cons a l d=>rw[Jt,Jt,p7];show{_,_,Xr,by rw[RpI],d}
 show c _
def vZ:eP K (λvs H Q=>Fy vs H λx p=>zk [x] p Q) mn:=by
 intro H vs B t Q r e q;unfold mn at e;have m:=cJ e;clear e;have(x,rfl,e):=m;have(v,rfl,A):=jV r;ext e n j;cases dS j;ext e c;cases e;have s:=aY A;subst s;show{n.toNat,by rw[Int.toNat_of_nonneg c.1],λa w=>{a,n.toNat,Xr,by rw[aA],by omega,λl d=>q _ _ ?_}};have y:l≠a:=λz=>by subst z;rw[aA]at d;cases d
 have f:=NP.laid (o:=.rng 0 n.toNat) w;have(i,F,u,h,g):=New.li (K:=K) d (FJ (n:=n.toNat));show{λb o c=>i b o (f b o c),F,u,h,λb c=>{?_,(g b c).2}};have:=(g b c).1;cases e:H b with
 | none=>rfl
 | some o=>rw[f b o e]at this;cases this
end
section
variable {ι : Type}{C:ι->Cx}{P:On}{W:Oq}{K:yF}{mg:Str->↑Oa}{base:Heap}{k:Nat}{a e o:Expr}{es:!Expr}{ms:MA}{pos:Pos}
def Fq(c:CK C P W K mg base k)(T:Bi mg)(h:QA C K [a] ms)(j:∀i,Gl (C i) "list" :=by intro _;rfl)(d:∀i,Gl (C i) "range" :=by intro _;rfl):QE C K (.Call (.Name "list" p) [.Call (.Name "range" p2) [a] [] pos2] [] pos) (mB mn ms):=by
 have(f,q,n,r):=h;show{_,λi=>jr (uU (c.calm i)) (j i) (by rw[c.mg i];show T.b_list) LQ (iE (jr w6 (d i) (by rw[c.mg i];show T.b_range) Nu (q i) n (by decide) (by decide)) sP rfl) rfl (by decide) (by decide),(show aZ K (tCB (λvs H Q=>Fy vs H λx g=>zk [x] g Q) f) (mB mn ms)from uA vZ r)}
end
section
variable {Q:T->Prop}{QI1:T->I->Prop}{is:!I}{i:I}
def yl(h:0<=n/\n<=1000000)(q:Q (.li (rE n.toNat))):W1 (mn [.im (.int n)]) Q:=by unhygienic show{_,if_pos h,q}
end
abbrev zY:!I->Option !Str
 | []=>Ud []
 | .str z::a=>match zY a with
  | some c=>Ud (z::c)
  | none=>Uc
 | _=>Uc
def wA:∀(a:!Str),zY (a.map .str)*>a
 | []=>rfl
 | z::a=>by rw[Jt,zY,wA a]
def uG{K:yF}{H:Hp}:∀{a:!Str},p7 K H (a.map .str) (a.map V.str)
 | []=>by rw[Kl,Kl,p7]
 | z::a=>by rw[Jt,Jt,p7];show{_,_,Xr,by rw[RpI],uG}
open PySem.W (KasT kas_sort)
abbrev ni{c:Type} (f:Nat->Nat->Bool):KasT c->c
 | .ret a=>a
 | .ask i j k=>ni f (k (f i j))
abbrev AC{a:Type}(f:Nat->Nat->Bool)(P:Nat->Prop):KasT a->Prop
 | .ret _=>True
 | .ask i j k=>P i/\P j/\AC f P (k (f i j))
def tP{c:Type}{f:Nat->Nat->Bool}{P:Nat->Prop}{cmp:Nat->Nat->(Bool->Od->Prop)->Od->Prop}{s:Od}(a:∀i j C,P i->P j->C (f i j) s->cmp i j C s){Q : c->Od->Prop}:∀{t:KasT c},AC f P t->Q (ni f t) s->t.kasWp cmp Q s
 | .ret _,_,q=>q
 | .ask i j k,h,q=>a i j _ h.1 h.2.1 (tP a (t:=k (f i j)) h.2.2 q)
structure Ord(f:Nat->Nat->Bool):Prop where
 as:∀{i j},f i j=Ug->f j i=Ue
 tr:∀{i j k},f j i=Ue->f k j=Ue->f k i=Ue
abbrev lnk(L:!(Nat×Nat)):Nat->Nat->Nat->Bool
 | 0,_,_=>Ue
 | n+1,a,b=>L.any λe=>e.1==a&&(e.2==b||lnk L n e.2 b)
abbrev Cp(L:!(Nat×Nat)):!Nat->Bool
 | []=>Ug
 | a::l=>(match l with
  | []=>Ug
  | b::_=>lnk L 5 a b)&&Cp L l
abbrev chk(n:Nat):KasT (Array Nat)->!(Nat×Nat)->Bool
 | .ret p,L=>p.toList.isPerm (JE n)&&Cp L p.toList
 | .ask i j k,L=>(Nat.blt i n&&Nat.blt j n)&&(chk n (k Ug) ((i,j)::L)&&chk n (k Ue) ((j,i)::L))
section
variable {f:Nat->Nat->Bool}{L:!(Nat×Nat)}
def xM(o:Ord f)(g:∀e∈L,f e.2 e.1=Ue):∀{n a b:Nat},lnk L n a b=Ug->f b a=Ue
 | 0,_,_,h=>by cases h
 | n+1,a,b,h=>by
  rw[lnk,Nd]at h;obtain⟨e,i,h⟩:=h;rw[Jv,beq_iff_eq,LF,beq_iff_eq]at h;have d:=g e i;rw[h.1]at d;rcases h.2 with c|c;rw[<-c];show d;show o.tr d (xM o g c)
def uC(o:Ord f)(d:∀e∈L,f e.2 e.1=Ue):∀{l:!Nat},Cp L l=Ug->l.Pairwise λi j=>f j i=Ue
 | [],_=>.nil
 | a::l,h=>by
  unfold Cp at h;rw[Jv]at h;have m:=uC o d h.2;show M0.mpr {λx c=>?_,m};cases l with
  | nil=>cases c
  | cons b l=>
   have g:=xM o d h.1;rcases ycM c with rfl|c;show g;show o.tr g ((M0.mp m).1 x c)
def si(o:Ord f)  : ∀{t:KasT (Array Nat)} {L:!(Nat×Nat)},chk n t L=Ug->(∀e∈L,f e.2 e.1=Ue) ->
  AC f (λi=>i<n) t/\(ni f t).toList.Perm (JE n)/\(ni f t).toList.Pairwise λi j=>f j i=Ue
 | .ret p,L,h,d=>by
  rw[chk,Jv]at h;show{trivial,List.isPerm_iff.mp h.1,uC o d h.2}
 | .ask i j k,L,h,d=>by
  rw[chk,Jv,Jv,Jv]at h;have a:i<n/\j<n:={Lx h.1.1,Lx h.1.2};cases e:f i j with
  | true=>
   have(l,g):=si o h.2.1 λx c=>by
    rcases ycM c with rfl|c;show o.as e;show d x c
   show{{a.1,a.2,by rw[e];show l},by rw[ni,e];show g}
  | false=>
   have(l,g):=si o h.2.2 λx c=>by
    rcases ycM c with rfl|c;show e;show d x c
   show{{a.1,a.2,by rw[e];show l},by rw[ni,e];show g}
def IT(a:2<=n)(c:n<=6):chk n (Ra n) []=Ug:=by
 have:n=2\/n=3\/n=4\/n=5\/n=6:=by omega
 rcases this with rfl|rfl|rfl|rfl|rfl<;>rfl'
def Ct(o:Ord f)(c:2<=n)(d:n<=6):AC f (λi=>i<n) (Ra n)/\(ni f (Ra n)).toList.Perm (JE n)/\(ni f (Ra n)).toList.Pairwise λi j=>f j i=Ue:=
 si o (IT c d) λe a=>by cases a
end
open PySem.W (KasT kas_sort kas_ask kat_run kat_snds KatLex kat_lt kat_cons kat_nil kat_one kat_yes kat_no kat_kind KatTups)
section
variable {prog:On}{w:Oq}{A:Ot}{E:Oa->Od->Prop}{s:Od}
def wx{vs:!Oa}(h:vs.length<2):(No (λi=>vs.getD i OL) (JE vs.length)).toArray=Array.map (·.2) (vs.toArray.zip vs.toArray)/\(JE vs.length).Pairwise λi j=>False:=by
 cases vs with
 | nil=>show{by simp,by simp}
 | cons v t=>
  cases t with
  | nil=>show{by simp,by simp}
  | cons _ _=>rw[JH,JH]at h;omega
def mj{a:Addr}{vs:!Oa}{n:Nat}{P:PySem.Fin->Od->Prop}{κ : SortKind}{f:Nat->Nat->Bool}(o:Ord f)(ho:s.heap.get? a*>(RB "list" vs.toArray n))(h6:vs.length<=6)
  (hk:∀h':Heap,(∀b u,b≠a->s.heap.get? b*>u->h'.get? b*>u)->2<=vs.length->∀Q:SortKind->Od->Prop,Q κ {s with heap:=h'}->Oj (Ol prog w) A (keyKind' vs.toArray) Q E {s with heap:=h'})
  (hc:∀h':Heap,(∀b u,b≠a->s.heap.get? b*>u->h'.get? b*>u)->∀i j C,i<vs.length->j<vs.length->C (f i j) {s with heap:=h'}->kas_ask prog w A κ vs i j C {s with heap:=h'})
  (h:∀p:!Nat,p.Perm (JE vs.length)->(p.Pairwise λi j=>f j i=Ue)->P (.done (.ret .none)) {s with heap:=sortedHeap s.heap a vs (p.map λi=>vs.getD i OL).toArray}) :
  Oj (Ol prog w) A (Om.«list.sort» {[.ref a],[]}) P E s:=by
 have ha:a<s.heap.objs.size:=Oh ho;have m:vs.toArray.size=vs.length:=by simp
 rw[list_sort_plain];show NO (listItems_at ho rfl (NO (RP ho rfl ?_ (by rw[m,Oe];omega) (Ku _))));obtain⟨G,B⟩:∃G,(s.heap.update a (PB λ_=>#[])).get? a*>(RB "list" #[] G):={_,get?_update_seq ho (λ_=>#[])};show NO (SC B rfl (NO (Tq ?_ (by change vs.length<=_;rw[Oe];omega))));show NO (wpAny_newList (OI ?_) (Ku _));change Oj (Ol prog w) A _ P E {s with heap:=((s.heap.update a (PB λ_=>#[])).push (RB "tuple" vs.toArray 0)).push (RB "list" #[] 0)};generalize L:((s.heap.update a (PB λ_=>#[])).push (RB "tuple" vs.toArray 0)).push (RB "list" #[] 0)=g;have x:∀b u,b≠a->s.heap.get? b*>u->g.get? b*>u:=λb u Y e=>by
  rw[<-L];show Oc _ (Oc _ ((P8 _ _ (Op Y)).trans e))
 have l:g.get? a*>(RB "list" #[] G):=by
  rw[<-L];show Oc _ (Oc _ B)
 have v:∀(r:Array Oa),P (.done (.ret .none)) {s with heap:=sortedHeap s.heap a vs r}->P (.done (.ret .none)) {s with heap:=g.update a (PB λ_=>r)}:=λr q=>by rw[<-L];show q
 dsimp only;by_cases t:vs.toArray.size<2
 .rw[if_pos t,if_pos t];show NO (Of ?_);rw[StateT.run_pure];show NO (Of ?_);dsimp only;show NO (SC l rfl ?_);show NO (RP l rfl ?_ (Ku _) (by rw[Array.size_map];change(pairsOf vs).size<=_;rw[pairsOf_size,Oe];omega));dsimp[bne_self_eq_false,Lr,if_false];show Of (v _ ?_);have(G,e2):=wx (by rw[<-m];show t);have q:=h (JE vs.length) (List.Perm.refl _) (e2.imp λz=>z.elim);rw[G]at q;show q
 .rw[if_neg t,if_neg t];rw[m]at t;show NO (hk g x ⋯ _ ?_);have(s0,H,O):=Ct o (n:=vs.length) ⋯ h6;have run:=tP (s:={s with heap:=g}) (cmp:=kas_ask prog w A κ vs) (hc g x) (Q:=λp y=>p=ni f (Ra vs.length)/\y={s with heap:=g}) s0 ⟨Xr,Xr⟩;show NO (OB (kat_run (Q:=λd y=>∃p:Array Nat,arrOf d=p.map (PySem.W.kas_item (vs.toArray.zip vs.toArray))/\failedOf d=Uc/\p=ni f (Ra vs.length)/\y={s with heap:=g})
   rfl ⋯ ⋯ (λp d y a1 X Z N=>⟨p,X,Z,N.1,N.2⟩) run) ?_ λ_ _ e=>e)
  rintro⟨⟨⟩,d⟩ y ⟨p,M,U,rfl,rfl⟩;have S:=kat_snds (ks:=vs) rfl M;generalize ni f (Ra vs.length)=p at H O S;have J:p.size=vs.length:=by have:=H.length_eq;exists this
  dsimp only;show NO (SC l rfl ?_);rw[S];show NO (RP l rfl ?_ (Ku _) (by rw[Ju,Jr,Ki,J,Oe];omega));rw[U];dsimp[bne_self_eq_false,Lr,if_false];show Of (v _ (h p.toList H O))
end
open PySem.W (KasT kas_sort kas_ask kat_run kat_snds KatLex KatGo kat_lt kat_cons kat_nil kat_one kat_yes kat_no kat_kind KatTups)
abbrev ltL:!Str->!Str->Bool
 | [],[]=>Ue
 | [],_::_=>Ug
 | _::_,[]=>Ue
 | a::l,b::m=>if a=b then ltL l m else decide (a.cps.toList<b.cps.toList)
def uF{a b:Str}(h:a.cps.toList=b.cps.toList):a=b:=by
 obtain⟨⟨a⟩⟩:=a;obtain⟨⟨b⟩⟩:=b;dsimp only at h;rw[h]
def sD:∀{l m:!Str},ltL l m=Ug->ltL m l=Ue
 | [],[],h=>by cases h
 | [],_::_,_=>rfl
 | _::_,[],h=>by cases h
 | a::l,b::m,h=>by
  rw[ltL]at h|-;by_cases c:a=b
  .rw[if_pos c]at h;rw[if_pos c.symm];show sD h
  .rw[if_neg c,decide_eq_true_eq]at h;rw[if_neg (Op c),decide_eq_false_iff_not];show List.lt_asymm h
def qK:∀{l m:!Str},ltL l m=Ue->ltL m l=Ue->l=m
 | [],[],_,_=>rfl
 | [],_::_,h,_=>by cases h
 | _::_,[],_,h=>by cases h
 | a::l,b::m,h,g=>by
  rw[ltL]at h g;by_cases c:a=b
  .rw[if_pos c]at h;rw[if_pos c.symm]at g;rw[c,qK h g]
  .rw[if_neg c,decide_eq_false_iff_not,LX]at h;rw[if_neg (Op c),decide_eq_false_iff_not,LX]at g;show absurd (uF (Nf g h)) c
def sE:∀{l m n:!Str},ltL m l=Ue->ltL n m=Ue->ltL n l=Ue
 | [],_,[],_,_=>rfl
 | [],_,_::_,_,_=>rfl
 | _::_,[],_,h,_=>by cases h
 | _::_,_::_,[],_,g=>by cases g
 | a::l,b::m,c::n,h,g=>by
  rw[ltL]at h g|-;by_cases e:b=a
  .subst e;rw[if_pos rfl]at h;by_cases d:c=b
   .rw[if_pos d]at g|-;show sE h g
   .rw[if_neg d]at g|-;show g
  .rw[if_neg e,decide_eq_false_iff_not,LX]at h;by_cases d:c=b
   .subst d;rw[if_neg e,decide_eq_false_iff_not,LX];show h
   .rw[if_neg d,decide_eq_false_iff_not,LX]at g;have:=List.le_trans h g;by_cases f:c=a
    .subst f;show absurd (uF (Nf h g)) d
    .rw[if_neg f,decide_eq_false_iff_not,LX];show this
def Bd(L:! !Str):Ord λi j=>ltL (L.getD i []) (L.getD j []):=⟨sD,sE⟩
abbrev leL(a b:!Str):Bool:= ~~~ltL b a
abbrev m7(L:! !Str):! !Str:=L.mergeSort leL
def leL_iff:leL a b=Ug↔ltL b a=Ue:=by unfold leL;rw[Kf]
def vA(a b c:!Str)(h:leL a b=Ug)(g:leL b c=Ug):leL a c=Ug:=leL_iff.mpr (sE (leL_iff.mp h) (leL_iff.mp g))
def vz(a b:!Str):(leL a b||leL b a)=Ug:=by
 rw[LF,leL_iff,leL_iff];cases e:ltL b a with
 | false=>show .inl rfl
 | true=>show .inr (sD e)
def jy(l:! !Str):(m7 l).Perm l:=List.mergeSort_perm l _
def rF(l:! !Str):(m7 l).Pairwise λa b=>leL a b=Ug:=List.pairwise_mergeSort vA vz l
def m8(c:m.Perm l)(h:m.Pairwise λa b=>leL a b=Ug):m=m7 l:=
 List.Perm.eq_of_pairwise (λa b _ _ h g=>qK (leL_iff.mp g) (leL_iff.mp h)) h (rF l) (c.trans (jy l).symm)
def tp(h:l.Perm m):m7 l=m7 m:=m8 ((jy l).trans h) (rF l)
def qU{L:! !Str}{p:!Nat}(c:p.Perm (JE L.length))(h:p.Pairwise λi j=>ltL (L.getD j []) (L.getD i [])=Ue):p.map (λi=>L.getD i [])=m7 L:=by
 show m8 ?_ (List.pairwise_map.mpr (h.imp λ{i j} e=>leL_iff.mpr e));have e:(JE L.length).map (λi=>L.getD i [])=L:=by
  show List.ext_getElem ∅ λi d a=>?_;simp[a]
 have:=c.map λi=>L.getD i [];rw[e]at this;show this
def rR(r:Vals xs us)(a:i<xs.length):RelV (xs.getD i .non) (us.getD i OL):=by
 have d:xs[i]?*>(xs.getD i .non):=by simp[a]
 have(u,e,c):=r.get d;rw[JO,JO,e]at *;simpa[a]using c
def rQ(r:Vals xs us):∀{p:!Nat},(∀i∈p,i<xs.length)->Vals (p.map λi=>xs.getD i .non) (p.map λi=>us.getD i OL)
 | [],_=>.nil
 | i::p,h=>.cons (rR r (h i ymS)) (rQ r λj a=>h j (ymC _ a))
abbrev one(z:Str):!Str:=[z]
def rL(h:StrsAre us ss)(a:i<us.length):∃z t,us.getD i OL=.str z t/\(ss.map one).getD i []=[z]:=by
 induction h generalizing i with
 | nil=>cases a
 | cons z t _ c=>
  cases i with
  | zero=>show⟨z,t,Xr,Xr⟩
  | succ i=>show c (Nat.lt_of_succ_lt_succ a)
abbrev lf(l:!Str):!Str:=(m7 (l.map one)).map λk=>k.headD ""
def xx(l:!Str):(l.map one).map (λk=>k.headD "")=l:=by
 rw[JJ];show(Lp λz _=>rfl).trans (NF l)
def m9(l:!Str):(lf l).Perm l:=by
 have:=(jy (l.map one)).map λk=>k.headD "";rw[xx]at this;show this
def sort_same:lf l=lf m↔l.Perm m:=
 {λh=>(m9 l).symm.trans (h▸m9 m),λh=>by unfold lf;rw[tp (h.map one)]}
section
variable (P:On)(w:Oq)
abbrev It1(h:Heap):K1->Oa->Prop
 | .inl k,v=>(aU P w).is k v=Ug
 | .inr a,v=>∃b,v=.ref b/\IsTupleKey (aU P w) h a b
abbrev Pe(h:Heap)(ks:!K1)(a:Addr):Prop:=∃o c n,h.get? a*>o/\o.cls=.type "tuple" /\ o.data=.seq c n/\Paired (It1 P w h) ks c.toList
end
section
variable {P:On}{w:Oq}{h h':Heap}{a b:Addr}{k x y:K1}{v u:Oa}{A:Ot}{E:Oa->Od->Prop}{s:Od}
def It1.inj(d:It1 P w h x v)(f:It1 P w h y v):x=y:=by
 cases x with
 | inl i=>
  cases y with
  | inl j=>rw[(aU P w).inj _ _ _ d f]
  | inr j=>have(b,rfl,_):=f;show absurd ((aU P w).byValue _ _ d) (by simp[Ts])
 | inr i=>
  cases y with
  | inl j=>have(b,rfl,_):=d;show absurd ((aU P w).byValue _ _ f) (by simp[Ts])
  | inr j=>have(b,rfl,q):=d;have(c,e,g):=f;cases e;rw[q.inj g]
def Paired.injK:∀{d c:!K1} {vs:!Oa},Paired (It1 P w h) d vs->Paired (It1 P w h) c vs->d=c
 | _,_,_,.nil,.nil=>rfl
 | _,_,_,.cons r t,.cons f e=>by rw[r.inj f,Paired.injK t e]
def Pe.inj{j i:!K1}(q:Pe P w h j a)(z:Pe P w h i a):j=i:=by
 have(o,g,n,r,_,m,t):=q;have(l,d,B,e,_,c,f):=z;obtain rfl:o=l:=JT.inj (r.symm.trans e);rw[m]at c;injection c with p _;subst p;show Paired.injK t f
end
abbrev kQ(K:yF)(H:Hp):K1->V->Prop
 | .inl k,v=>v=kV k
 | .inr a,v=>∃b,v=.ref b/\SqT K H b (a.map kV)
abbrev KQ(K:yF)(H:Hp)(ks:!K1)(b:Addr):Prop:=∃a,SqT K H b a/\Paired (kQ K H) ks a
protected def Eq3:=!K1×Addr×V
section
variable {X:Cx}{Ub:!(Addr×Obj)}{Z:St}{H:Hp}{s:Od}{a b:Addr}{ks:!K1}{ys:!Eq3}
def qI{P:On}{w:Oq}:∀{ks:!Key} {c:!Oa},Vals (ks.map kV) c->ItemsAre (aU P w) ks c
 | [],_,h=>by cases h;show .nil
 | k::ks,_,h=>by
  cases h with
  | cons r t=>show .cons (og r) (qI t)
def KQ.is(I:Inv X Ub Z H s)(h:KQ X.K H ks b):Pe X.prog X.w s.heap ks b:=by
 have(O,j,l):=h;obtain⟨d,r,⟨o,J,L,n,g⟩,v⟩:=I.tupleN j;show{o,d.toArray,n,J,L.1,g,?_};change Paired _ ks d;clear j g v
 induction l generalizing d with
 | nil=>cases r;show .nil
 | @cons k x _ _ q t p=>
  cases r with
  | @cons _ u _ _ i y=>
   show .cons ?_ (p _ y);cases k with
   | inl k=>
    have e:x=kV k:=q;subst e;show og i
   | inr m=>
    have(c,e,B):=(show∃c,x=V.ref c/\SqT X.K H c (m.map kV)from q);subst e;obtain rfl:u=OR c:=i;obtain⟨f,M,⟨E,N,z,A,G⟩,_⟩:=I.tupleN B;show{c,Xr,E,f.toArray,A,N,z.1,G,qI M}
end
protected def Ev3:=!K1×Addr×Oa
abbrev imR(r:R):↑I:=match r.t with
 | .im i=>Ud i
 | _=>Uc
section
variable {Γ:Gm}{H H':Hp}{O:Rho}{Z:St}{E:!En}{v x y:V}{t:T}{K:yF}{Q:VK}
def Sim.own{r:R}(S:Sim Γ H O Z (⟨Uc,v,r⟩::E))(e:imR r*>i):RpI Γ.K H i v/\Sim Γ H O Z ({Uc,v,{.ow,.im i}}::E):=by
 have(F,a):=S.rd ymS;have(k,t):=r;unfold imR at e;dsimp only at e;ext e;cases e;have h:=(bE a).1;show{h,(S.drop rfl).imm h}
end
abbrev pN(x:V)(vs:!V)(H:Hp)(Q:VK):Prop:=∃a c,x=.ref a/\vs=[]/\H a*>(.dK c)/\Q .non (upd H a (.dK []))
def vG{X:Cx}:MtR X "dict.clear" pN:=by
 intro A s Z H x vs v B Q I p u h;have(a,j,rfl,rfl,e,q):=h;cases p;have d:=u.zero;subst d;have(z,t,vs,f,g):=(show NI X.prog X.w H s.heap a (.dK j)from I.hok a _ e);have m:vs.length<=sizeLine:=by have:=Paired.length f;omega
 show Sl PySem.F.slot_dict_clear g.typeIs PySem.F.entry_dict_clear (PySem.F.args_dict_clear_1 _) (meets_dict_clear (aU X.prog X.w) a) {vs,g,m,λi c y=>?_};have o:∃q,i.get? a*>q:=by have(q,_,_,l,_):=c;show⟨q,l⟩
 show{.non,_,I.write (x:=a) (e:=a) (t':=s.toks) (by rw[e];show PN) (.inl rfl) (λb q r z=>(y.2 b r).trans z) o (show NI X.prog X.w _ i a (.dK [])from{Ku _,t,[],.nil,c}),Xr,q}
abbrev i8(f:Int->Int->Bool) (ns:!Int):Int:=ns.getD (argBest (λi j=>f (ns.getD i 0) (ns.getD j 0)) (ns.length-1)) 0
section
variable {X:Cx}
def gZ{ns:!Int}{a:!Oa}(r:Vals (ns.map V.int) a){i:Nat}{v:Oa}(h:a.toArray[i]?*>v):∃t,v=.int (ns.getD i 0) t:=by
 have(t,e):=qb r (by exists h);show⟨t,e⟩
def uW(M:X.calm=Ug):NK X (.builtin "max") (λl H Q=>∃(a:Addr) (ns:!Int),l=[.ref a]/\SqT X.K H a (ns.map V.int)/\ns≠[]/\Q (.int (i8 (λi j=>decide (i>j)) ns)) H):=by
 intro E s Z H l us Q I N h;have(a,ns,rfl,y,B,q):=h;have(u,rfl,G):=ef N;obtain rfl:u=OR a:=G;have(d,r,p,Y):=I.tuple y;have f:a<s.heap.objs.size:=p.lt;have w:d.toArray.size=ns.length:=by rw[Ju,<-r.length,Jr]
 show call_max_walk (OU p ?_);show{s.heap.objs.size,_,_,_,_,_,_,Xr,TY (A:=X.A.in1) (show X.A.in1.handled=Uc from I.ok.hd M) s.heap.objs.size a (JG f) d.toArray,{{_,Og _ rfl,Xr,Xr},?_},λb m=>?_,by rw[w];show L5.mpr B,CmpOf.ints_gt (λi=>ns.getD i 0) (λi v L=>gZ r L),λv U O g S=>?_}
 .have(o,e,c):=p;show{o,Oc _ e,c}
 .change b<(s.heap.push _).objs.size;rw[OD];dsimp[JV,JZ,or_false]at m;rcases m with rfl|rfl;show LA _;show Lj f
 .have J:Inv X E Z H {s with heap:=U,toks:=O}:=I.kept λb o e=>S b o (λz=>absurd (ysM z) (JG (Oh e))) (Oc _ e);rw[w]at g;have(t,rfl):=gZ r g;show{.int _,H,J,⟨t,Xr⟩,q}
def uY(M:X.calm=Ug):NK X (.builtin "min") (λl H Q=>∃(a:Addr) (ns:!Int),l=[.ref a]/\SqT X.K H a (ns.map V.int)/\ns≠[]/\Q (.int (i8 (λi j=>decide (i<j)) ns)) H):=by
 intro E s Z H l us Q I N h;have(a,ns,rfl,y,B,q):=h;have(u,rfl,G):=ef N;obtain rfl:u=OR a:=G;have(d,r,p,Y):=I.tuple y;have f:a<s.heap.objs.size:=p.lt;have w:d.toArray.size=ns.length:=by rw[Ju,<-r.length,Jr]
 show call_min_walk (OU p ?_);show{s.heap.objs.size,_,_,_,_,_,_,Xr,TY (A:=X.A.in1) (show X.A.in1.handled=Uc from I.ok.hd M) s.heap.objs.size a (JG f) d.toArray,{{_,Og _ rfl,Xr,Xr},?_},λb m=>?_,by rw[w];show L5.mpr B,CmpOf.ints_lt (λi=>ns.getD i 0) (λi v L=>gZ r L),λv U O g S=>?_}
 .have(o,e,c):=p;show{o,Oc _ e,c}
 .change b<(s.heap.push _).objs.size;rw[OD];dsimp[JV,JZ,or_false]at m;rcases m with rfl|rfl;show LA _;show Lj f
 .have J:Inv X E Z H {s with heap:=U,toks:=O}:=I.kept λb o e=>S b o (λz=>absurd (ysM z) (JG (Oh e))) (Oc _ e);rw[w]at g;have(t,rfl):=gZ r g;show{.int _,H,J,⟨t,Xr⟩,q}
end
end L2
namespace L2
open PySem PySem.Spec PyProof.Rows PySem.W
section
variable {prog:On}{w:Oq}{A:Ot}{E:Oa->Od->Prop}{s:Od}{T:String}{r d:Addr}{n:Nat}{P:Nat->Oa->Prop}{OK:Heap->Prop}
def qk{Q:!Oa->Od->Prop}(K:KdlSrc prog w T r d n P OK)(U:A.handled=Uc)(y:OK s.heap)(M:n<=sizeLine)
  (q:∀(g:Heap) t (a:Array Oa),(∀b u,s.heap.get? b*>u->g.get? b*>u)->s.heap.objs.size<=g.objs.size->TQ P a n->Q a.toList {s with heap:=g,toks:=t}):Oj (Ol prog w) A (collect (.ref r)) Q E s:=by
 generalize L:({cls:=.type "list",data:=.seq ([]:!Oa).toArray}:Obj)=N;have new:(s.heap.push N).get? s.heap.objs.size=Ud {cls:=.type "list",data:=.seq #[] 0}:=by rw[<-L];show Og _ rfl
 have v:=K.there _ y;unfold collect;show NO (wpAny_runValue (PH F.entry_proto_collect ?_));rw[Ph F.plain_proto_collect _];show NO (m:=newList []) (OC ?_);rw[L];show Of {RQ Sm _,PH F.entry_list_iadd ?_};rw[Ph Sm _];show OB (kdl_extend (A:=A) (s:={s with heap:=s.heap.push N}) (R:=λH z=>H=.ok (.ret (.ref s.heap.objs.size))/\∃(p:Heap) (t:Nat) (a:Array Oa) (c:Nat),z={s with heap:=p,toks:=t}/\(∀b o,b≠s.heap.objs.size->(s.heap.push N).get? b*>o->p.get? b*>o)/\p.get? s.heap.objs.size=Ud {cls:=.type "list",dict:=Uc,data:=.seq a c,slots:=#[]}/\TQ P a n) K U (K.keep _ _ y λb _ o e=>Oc _ e) s.heap.objs.size (K2 v.1) (K2 v.2) (.ref s.heap.objs.size) 0 new (λp t a c J G i=>⟨Xr,p,t,a,c,Xr,J,G,i⟩) M) (λf z h=>?_) λe z h=>absurd h.1 ∅;have B:∀{z:Od},(∃(p:Heap) (t:Nat) (a:Array Oa) (c:Nat),z={s with heap:=p,toks:=t}/\(∀b o,b≠s.heap.objs.size->(s.heap.push N).get? b*>o->p.get? b*>o)/\p.get? s.heap.objs.size=Ud {cls:=.type "list",dict:=Uc,data:=.seq a c,slots:=#[]}/\TQ P a n)->Oj (Ol prog w) A (load s.heap.objs.size >>= λx=>match x.data with
   | Data.seq S _=>pure S.toList
   | _=>unsupported "internal:collect") Q E z:=fun⟨p,t,a,c,j,J,G,i⟩=>by
  rw[j];show NO (wpAny_load G (Of ?_));show q p t a (λb u e=>J b u (JG (Oh e)) (Oc _ e)) (Li (Oh G)) i
 cases f with
 | done f=>
  have(e,j):=h;cases e;show B j
 | again c=>show{h.1,Rg h.2 λr X O=>by have(rfl,j):=O;show B j}
end
section
variable {X:Cx}
def uZ(hc:X.calm=Ug):NK X (.builtin "sorted") (λY H Q=>∃(a:Addr) (S:!(Key×V)) (o:!Str),Y=[.ref a]/\Rd H a (.dK S)/\S.map (·.1)=o.map OO/\o.length<=6/\∀(l:Addr) (p:!Nat),p.Perm (JE o.length)->(p.Pairwise λi j=>ltL ((o.map one).getD j []) ((o.map one).getD i [])=Ue)->H l=Uc->Q (.ref l) (upd H l (.lst (p.map λi=>(o.map V.str).getD i .non)))):=by
 intro Ub s Z H Y us Q I rv h;have(a,f,o,rfl,hd,L,hn,q):=h;have(u,rfl,ru):=ef rv;cases ru;have(z,ha,vs,A,dd):=n5 I.hok hd;have(N,da):=dd.dictAt;have hl:f.length=vs.length:=Paired.length A;show Calls.call_function_entry kind_sorted plain_sorted entry_sorted (args_sorted1 _) ?_;unfold Om.«sorted»;show NO (m:=checkCount "sorted" 1 1 _) (Of ?_);show NO (qk (kdl_dict (kvs:=vs) (ep:=N) ha) (I.ok.hd hc) da ⋯ λg tk d w hg r=>NO (wpAny_newList (hsz:=by rw[Ki,r.1];omega) ?_));have G:Vals (f.map λp=>kV p.1) d.toList:=D8 A (by rw[Ki];show r.1) λi v e=>r.2 i v (by rw[<-Lg];show e);have ek:(f.map λp=>kV p.1)=o.map V.str:=by
  rw[show(f.map λp=>kV p.1)=(f.map (·.1)).map kV by rw[JJ];rfl,L,JJ];rfl
 rw[ek]at G;have J:StrsAre d.toList o:=nh G;have B:d.toList.length=o.length:=by rw[<-G.length,Jr]
 have arr:d.toList.toArray=d:=by simp
 have x:(g.push (RB "list" d.toList.toArray 0)).get? g.objs.size*>(RB "list" d.toList.toArray 0):=Og _ rfl;show NO (OI (OP slot_list_sort {_,x,Xr} entry_list_sort (mj (κ:=oneType') (Bd (o.map one)) x ⋯ (λh' k U Q' y=>?_) (λh' k i j C M hj y=>?_) λp E p2=>{_,Xr,Of {_,Xr,?_}}) (args_list_sort _)))
 .generalize d.toList=its at *;cases its with
  | nil=>cases U
  | cons v t=>
   cases t with
   | nil=>show absurd U (KA 1)
   | cons v2 t=>rw[keyKind_strs J];show Of y
 .have(z,t,e1,e2):=rL J M;have(z',t',e3,e4):=rL J hj;rw[e2,e4,ltL,ltL]at y;change Oj _ _ (keyLt' oneType' (d.toList.getD i OL) (d.toList.getD j OL)) _ _ _;rw[e1,e3,keyLt'_oneType];show oneLt_str ?_;by_cases c:z=z'
  .rw[if_pos c]at y;rw[c,decide_eq_false (List.lt_irrefl _)];show y
  .rw[if_neg c]at y;show y
 .have(e,he):=sortedHeap_at (out:=(p.map λi=>d.toList.getD i OL).toArray) x;rw[B]at E;have hp:∀i∈p,i<(o.map V.str).length:=λi M=>by rw[Jr];show KO.mp (E.mem_iff.mp M)
  show{.ref g.objs.size,upd H g.objs.size (.lst (p.map λi=>(o.map V.str).getD i .non)),I.laid (t':=tk) (λb o' z=>?_) hg ?_,Xr,q _ _ E p2 (I.hok.fresh hg)}
  .have O:=Oh (w _ _ z);rw[sortedHeap_old (JG O) (by rw[size_push'];show Lj O)];show Oc _ (w _ _ z)
  .show{by rw[Jr,E.length_eq,Kq,Oe];omega,_,e,rQ G hp,he}
end
end L2
namespace L2
open PySem PySem.Spec PyProof.Rows
section
variable {K:yF}{H:Hp}
private def dfT(t u:T):↑T:=match dgT t u with
 | some r=>Ud r
 | none=>qw t u
def BO:dH K dgR dfT:=by
 intro H x y a f t Q d c e q;unfold dfT at e;split at e
 .delta g;cases e;show ur H x y a f _ Q d c g q
 .show qZ H x y a f t Q d c e q
abbrev qF(t:T):Option !Key:=match t with
 | .im i=>(match i with
  | .fd c _=>Ud c
  | _=>Uc)
 | .di a=>jd a
 | _=>Uc
def qG{t:T}{v:V}{ks:!Key}(r:Rpx K H t v)(e:qF t*>ks):∃a c,v=.ref a/\Rd H a (.dK c)/\c.map (·.1)=ks:=by
 unfold qF at e;split at e
 .ext e;cases e;have h:=cf r;rw[RpI]at h;have(a,o,c,rfl,f,d,_):=h;show{a,c,Xr,.inr ⟨o,f⟩,d}
 .obtain⟨F,r⟩:=r;rw[Rp]at r;obtain⟨a,c,rfl,⟨g,i,rfl⟩,f,d,_⟩:=r;rw[JJ]at d;show{a,g,Xr,.inl i,md e d}
 .cases e
private def l9:!T->↑T:=l1 λt=>(qF t).map λa=>.li (a.map cu)
def sQ:eP K (Dl K) l9:=by
 intro H vs m t Q r e q;unfold l9 at e;have h:=cJ e;clear e;have(x,rfl,e):=h;have(v,rfl,f):=jV r;have(j,i,rfl):=JQ.mp e;have(a,c,rfl,g,rfl):=qG f i;show{a,c,Xr,g,λl d=>q _ _ (.li d ?_)};rw[JJ];show qH c
def AH:uR "list" l9:={_,Dl,LQ,λ_ h=>se h,λ_=>sQ}
abbrev nt:!Key->Option !Str
 | []=>Ud []
 | k::l=>match k with
  | .inr z=>(nt l).map (z :: ·)
  | .inl _=>Uc
def wG:∀{ks:!Key} {a:!Str},nt ks*>a->ks=a.map OO:=by
 intro ks
 induction ks with
 | nil=>intro a h;cases h;rfl
 | cons k l d=>
  intro a h;cases k with
  | inl n=>cases h
  | inr z=>
   have(c,e,rfl):=JQ.mp (show(nt l).map (z :: ·)*>a from h);rw[Jt,<-d e]
def wH:∀a:!Str,nt (a.map OO)*>a:=by
 intro a
 induction a with
 | nil=>rfl
 | cons z a c=>change(nt (a.map OO)).map (z :: ·)=_;rw[c];rfl
abbrev rG(t:T):↑T:=match qF t with
 | some a=>if a.length<=6 then(nt a).map λc=>.li ((lf c).map .str)else Uc
 | none=>Uc
private def ng:!T->↑T:=l1 rG
abbrev Dr:yF->!V->Hp->VK->Prop:=λ_ e H Q=>∃(a:Addr) (d:!(Key×V)) (c:!Str),e=[.ref a]/\Rd H a (.dK d)/\d.map (·.1)=c.map OO/\c.length<=6/\∀(l:Addr) (p:!Nat),p.Perm (JE c.length)->(p.Pairwise λi j=>ltL ((c.map one).getD j []) ((c.map one).getD i [])=Ue)->H l=Uc->Q (.ref l) (upd H l (.lst (p.map λi=>(c.map V.str).getD i .non)))
def wa:eP K (Dr K) ng:=by
 intro H vs G t Q r e q;unfold ng at e;have u:=cJ e;clear e;have(x,rfl,e):=u;have(v,rfl,E):=jV r;unfold rG at e;ext e J z;ext e h;have(c,A,rfl):=JQ.mp e;have(a,j,rfl,y,m):=qG E z;have B:=wG A;subst B;rw[Jr]at h;show{a,j,c,Xr,y,m,h,λl p g s w=>q _ _ (New.li w ?_)};have f:∀i∈p,i<c.length:=λi f=>KO.mp (g.mem_iff.mp f);have o:p.map (λi=>(c.map V.str).getD i .non)=(lf c).map V.str:=by
  unfold lf;rw[<-qU (L:=c.map one) (by rw[Jr];show g) s,JJ,JJ];show Lp λi d=>?_;have:=f i d;simp[this,one]
 rw[o];show uG
def tT:jz "sorted" ng:={_,Dr,Nr,λ_ h=>uZ h,λ_=>wa}
abbrev AK(f:Int->Int->Bool) (t:T):↑T:=match t with
 | .im i=>(match i with
  | .tup c=>(match jb c with
   | some a=>if a.isEmpty then Uc else Ud (.im (.int (i8 f a)))
   | none=>Uc)
  | _=>Uc)
 | _=>Uc
private def uj:!T->↑T:=l1 (AK λi j=>decide (i>j))
private def uk:!T->↑T:=l1 (AK λi j=>decide (i<j))
abbrev Ft(f:Int->Int->Bool)(K:yF):!V->Hp->VK->Prop:=λd H Q=>∃(a:Addr) (c:!Int),d=[.ref a]/\SqT K H a (c.map V.int)/\c≠[]/\Q (.int (i8 f c)) H
def qX{f:Int->Int->Bool}:eP K (Ft f K) (l1 (AK f)):=by
 intro H vs m t Q r e q;have i:=cJ e;clear e;have(x,rfl,e):=i;have(v,rfl,a):=jV r;unfold AK at e;ext e;ext e;ext e h j;split at e;cases e
 .delta d;cases e;have(p,l,rfl,g,c):=bX a;have:=lX j c;subst this;show{p,h,Xr,g,λz=>d (by rw[z];rfl),q _ H (.sc rfl)}
def DM:jz "max" uj:={_,Ft _,MH,λ_ h=>uW h,λ_=>by unfold uj;show qX}
def DN:jz "min" uk:={_,Ft _,MF,λ_ h=>uY h,λ_=>by unfold uk;show qX}
abbrev kX:T->!T->↑(T×I)
 | .di a,[]=>Ud (.di [],.non)
 | _,_=>Uc
def qY:fS K pN kX:=by
 intro H w vs s t o i G F Q d g r u e q;unfold kX at e;ext e;cases e;rw[Rp]at d;obtain⟨a,l,rfl,⟨h,j,rfl⟩,p,m,rfl⟩:=d;have(rfl,rfl):=g.nil_inv;show{a,h,Xr,Xr,j,q _ _ [a] NJ.upd (λc f=>by rw[ysM f];show{_,aA}) ∅ (λc f=>by rw[ysM f];show{.inl ∅,_,aA,Xr}) ?_ (by rw[RpI])};rw[Rp];show{a,[],Xr,{[],aA,Xr},by rw[Kl,Kl,p7],Xr,Xr}
def wJ(H:Hp)(x:V)(c:T)(ts:!T)(r:T×I)(h:Rpx K H c x)(e:kX c ts*>r):tyV K "dict" x H:=by
 unfold kX at e;ext e;obtain⟨F,h⟩:=h;rw[Rp]at h;obtain⟨a,f,rfl,⟨g,d,rfl⟩,_⟩:=h;show .inr (.inr (.inl {Xr,.inl {_,d}}))
def qM:nU "dict" "clear" kX:={_,λ_=>pN,PySem.F.plainAttrs_dict,PySem.F.slot_dict_clear,PySem.F.type_dict_clear,λ_=>vG,λ_=>qY,λK=>wJ}
abbrev sA:!(I×T)->Option !(I×I)
 | []=>Ud []
 | p::l=>match p.2 with
  | .im i=>(sA l).map ((p.1,i) :: ·)
  | _=>Uc
abbrev xa(t:T):↑T:=match t with
 | .dc a=>(sA a).map .di
 | _=>Uc
private def mDi(a:ME):ME:={λO=>match a.run O with
 | some (⟨.ow,t⟩,c)=>(xa t).map λu=>({.ow,u},c)
 | _=>Uc,a.mu}
def A3:∀{kvs:!(I×T)} {l:!(I×I)} {a:!(I×V)} {F:!Addr},sA kvs*>l->Rpk K H kvs a F->p7 K H (l.map (·.2)) (a.map (·.2))/\a.map (·.1)=l.map (·.1):=by
 intro kvs
 induction kvs with
 | nil=>
  intro l a F e r;cases e;rw[Rpk]at r;rw[r.1];show{by rw[Kl,Kl,p7],Xr}
 | cons p kvs f=>
  intro l a F e r;have(k,t):=p;rw[Rpk]at r;have(x,o,s,q,rfl,c,d,rfl):=r;cases t with
  | im i=>
   have(m,j,rfl):=JQ.mp (show(sA kvs).map ((k,i) :: ·)*>l from e);have(h,g):=f j d;rw[Rp]at c;show{?_,?_};rw[Jt,Jt,p7];show{_,_,Xr,c.1,h};rw[Jt,Jt,g]
  | _=>cases e
def FC{e:TE}{a:ME}(G:aZ K e a):aZ K e (mDi a):=by unhygienic
 intro p H O Z E Q r L y c S q;dsimp[mDi]at c;ext c t M J;have(u,d,i):=JQ.mp c;cases i;show G p H O Z E _ _ _ y J S λx N m=>?_;unfold xa at d;ext d;have(l,z,rfl):=JQ.mp d;have(w,rfl,o):=m.takeO (s:=.di l) (P:=λw=>w=x) λF h=>by
  rw[Rp]at h;have(a,f,v,rfl,A,g,rfl):=h;have(j,B):=A3 z g;show{_,[],[a],v,Xr,?_,Xr};rw[Rp];show⟨a,f,Xr,A,j,B,Xr⟩
 show q _ _ o
end
section
variable {ι : Type}{C:ι->Cx}{P:On}{W:Oq}{K:yF}{mg:Str->↑Oa}{base:Heap}{k:Nat}{a b e:Expr}{ma mb m:ME}{pos:Pos}
def Fo(c:CK C P W K mg base k)(h:QE C K a ma)(f:QE C K b mb)(hs:wS b:=by intro _ _;rfl):QE C K (.Subscript a b pos) (mOp dfT ma mb):=by
 have(j,p,r):=h;have(l,d,g):=f;show{_,λi=>pG (xB (c.room i)) (p i) (d i) hs,kK (red:=dgR) BO r g}
def HA(h:QE C K e m):QE C K e (mDi m):=by
 have(t,p,r):=h;show{_,p,FC r}
end
section
variable {m:ME}{O:Rho}{QF:R->Rho->Prop}{Q:T->Prop}{kvs:!(I×I)}{ks:!Key}{is:!I}{v:I}{z:Str}{ns:!Int}{QI1:T->I->Prop}
def G7(h:i9 kvs (.str z)*>v)(q:Q (.im v)):W1 (dfT (.di kvs) (.im (.str z))) Q:=by
 have e:dgT (.di kvs) (.im (.str z))*>(.im v):=by unhygienic (change(i9 kvs (.str z)).map T.im=_;rw[h];rfl)
 show{_,by unfold dfT;rw[e],q}
def G8(h:eQ ks is (.inr z)*>v)(q:Q (.im v)):W1 (dfT (.im (.fd ks is)) (.im (.str z))) Q:=by
 have(t,e,a):=um (Q:=λt=>t=.im v) h rfl;subst a;show{_,by unfold dfT;rw[show dgT (.im (.fd ks is)) (.im (.str z))=Uc by unhygienic rfl];show e,q}
def Bw(q:Q (.li (ks.map cu))):W1 (l9 [.im (.fd ks is)]) Q:=by unhygienic show{_,Xr,q}
def By(h:ns≠[])(q:Q (.im (.int (i8 (λi j=>decide (i>j)) ns)))):W1 (uj [.im (.tup (ns.map .int))]) Q:=by unhygienic
 show{_,?_,q};change(match jb (ns.map .int)with|some ns=>if ns.isEmpty then Uc else Ud (T.im (.int (i8 _ ns)))|none=>Uc)=_;rw[iS];dsimp only;rw[if_neg (by exists h)]
def Bz(h:ns≠[])(q:Q (.im (.int (i8 (λi j=>decide (i<j)) ns)))):W1 (uk [.im (.tup (ns.map .int))]) Q:=by unhygienic
 show{_,?_,q};change(match jb (ns.map .int)with|some ns=>if ns.isEmpty then Uc else Ud (T.im (.int (i8 _ ns)))|none=>Uc)=_;rw[iS];dsimp only;rw[if_neg (by exists h)]
def yd(q:QI1 (.di []) .non):W2 (kX (.di kvs) []) QI1:={_,_,Xr,q}
def Jl(h:WE m O λr a=>∃t u,r={.ow,t}/\xa t*>u/\QF {.ow,u} a):WE (mDi m) O QF:=by unhygienic
 have(r,a,e,t,u,rfl,c,q):=h;show{_,_,by dsimp[mDi,e,c,KU],q}
end
section
variable {prog:On}{w:Oq}{l b:Addr}{us vs:Array Oa}{n m:Nat}{p q:↑Addr}{sl tl:Array ↑Oa}
abbrev wO(prog:On)(w:Oq)(l b:Addr)(us vs:Array Oa)(n m:Nat)(p q:↑Addr)(sl tl:Array ↑Oa)(A:Ot)(R:RX->Od->Prop)(s:Od):Prop:=
 s.heap.get? l=Ud {cls:=.type "list",dict:=p,data:=.seq us n,slots:=sl}/\s.heap.get? b=Ud {cls:=.type "list",dict:=q,data:=.seq vs m,slots:=tl} /\
 (∀j (c:j<us.size) (a:j<vs.size) (E:Oa->Od->Prop) (Q:Bool->Od->Prop),Q Ug s->Oj (Ol prog w) A.in1 (eqBool us[j] vs[j]) Q E s)/\R (.ok (.ret (.bool Ue))) s
def xX(hsz:us.size=vs.size)(k:Nat):∀i:Nat,us.size-i=k->MeetsIn prog w (Om.«list.__eq__.loop» {[.ref l,.ref b,PV i,PV 3],[]}) (wO prog w l b us vs n m p q sl tl):=by
 induction k with
 | zero=>
  intro i u A R s h;have(t,g,d,r,os):=s;obtain⟨a,c,e,h⟩:=h;wp_walk using Ow a,Ow c
  rw[show us[((i:Nat):Int).toNat]?=Uc by simp;omega,show vs[((i:Nat):Int).toNat]?=Uc by simp;omega];wp_walk using Ow a,Ow c
  change R (.ok (.ret (.bool (us.size != vs.size)))) _;rw[hsz];exists h
 | succ k o=>
  intro i u A R s h;have(t,g,d,r,os):=s;obtain⟨a,c,e,h⟩:=h;wp_walk using Ow a,Ow c
  have j:i<us.size:=by omega
  have f:i<vs.size:=by omega
  rw[show us[((i:Nat):Int).toNat]?=Ud us[i] by simp[j],show vs[((i:Nat):Int).toNat]?=Ud vs[i] by simp[f]];show NO (e i j f _ _ ?_);wp_walk
  rw[show((i:Int)+1)=((i+1:Nat):Int) by push_cast;rfl];show{RQ Pw _,PH Rb (by
   rw[Ph Pw _];show o (i+1) ⋯ A R _ ⟨a,c,e,h⟩)}
def xL(hsz:us.size=vs.size):MeetsIn prog w (Om.«list.__ne__» {[.ref l,.ref b],[]}) (wO prog w l b us vs n m p q sl tl):=by
 intro A R s h;have(j,g,d,i,os):=s;obtain⟨a,c,e,h⟩:=h;have o:=AutoSeq1.sub_list_list;have f:¬ (us.size != vs.size)=Ug:=by simp[hsz]
 wp_walk using Ow a,Ow c
 show{RQ Pw _,PH Rb (by
  rw[Ph Pw _];show xX hsz _ 0 rfl A R _ ⟨a,c,e,h⟩)}
end
section
variable {X:Cx}{Ub:!(Addr×Obj)}{Z:! ↑V}{H:Hp}{s:Od}{A:Ot}
def tI{a:!(Key×Oa)}(d:(a.map (·.1)).Nodup){q:Key×Oa}(c:q∈a):Qt a q.1*>q.2:=by
 unfold Qt
 induction a with
 | nil=>cases c
 | cons p a e=>
  rw[Jt,JS]at d;rw[LG];rcases ycM c with rfl|c;simp
  .have:p.1≠q.1:=λz=>d.1 (z▸Jz.mpr ⟨q,c,Xr⟩);dsimp[decide_eq_false this];show e d.2 c
def xz{c:!(Key×Oa)}:∀{a:!(Key×Oa)},(∀p∈a,∃y,Qt c p.1*>y/\OA A s p.2 y Ug)->PySem.W.KeqHits A s c a Ug:=by
 intro a
 induction a with
 | nil=>show λ_=>.nil
 | cons p a g=>
  intro h;have(y,f,e):=h p ymS;show PySem.W.KeqHits.hit (k:=p.1) (v:=p.2) f e (g λq d=>h q (ymC _ d))
abbrev DAl(K:yF)(H:Hp)(x y:V):Prop:=∃(c d:Addr) (a f:!(Key×V)),x=.ref c/\y=.ref d/\Rd H c (.dK a)/\Rd H d (.dK f)/\a.length=f.length/\∀p∈a,∃q∈f,q.1=p.1/\∃e:D,Rep K H e p.2/\Rep K H e q.2/\e.depth<=50
def mL{e i:Type}{F : e->i->Prop}{l:!e}{m:!i}(h:Paired F l m):(∀b∈m,∃a∈l,F a b)/\∀a∈l,∃b∈m,F a b:=by
 induction h with
 | nil=>show{λ_ z=>(nomatch z),λ_ z=>(nomatch z)}
 | @cons a b l m h t g=>
  show{λz c=>?_,λz c=>?_}
  .rcases ycM c with rfl|c;show⟨a,ymS,h⟩
   .have(x,d,f):=g.1 z c;show{x,ymC _ d,f}
  .rcases ycM c with rfl|c;show⟨b,ymS,h⟩
   .have(x,d,f):=g.2 z c;show{x,ymC _ d,f}
def DU(I:Inv X Ub Z H s){x y:V}{u v:Oa}(hu:A.units+60<OV)(h:DAl X.K H x y)(rx:RelV x u)(U:RelV y v){E:Oa->Od->Prop}{Q:Bool->Od->Prop}(q:Q Ug s):Oj (Ol X.prog X.w) A (eqBool u v) Q E s:=by
 obtain⟨c,d,ka,kb,rfl,rfl,h1,G,hl,O⟩:=h;cases rx;cases U;by_cases e:c=d
 .subst e;show SE _ X.prog X.w E Q q
 .have(za,ha,va,o,da):=n5 I.hok h1;have(zb,hb,M,t,z):=n5 I.hok G;have j:(M.map (·.1)).Nodup:=by have(_,_,_,_,_,_,_,_,N):=z;show N
  have l1:=Paired.length o;have l2:=Paired.length t;unfold eqBool;show OI ?_;show wpAny_ite_split (λa=>absurd (by have:=eq_of_beq a;injection this) e) (λ_=>?_);show NO (PySem.W.keq_eq (r:=Ug) ha hb da z ⋯ (λ_=>xz λp hp=>?_) ?_)
  .have(L,f,e1,B):=(mL o).1 p hp;have(J,i,e2,D,Y,g2,g3):=O L f;have(q0,l,S,r2):=(mL t).2 J i;show{q0.2,?_,?_}
   .have:=tI j l;rwa [<-S,e2,e1]at this
   .have(b,g,m):=su I D D (A:=A.in1) Y g2 B r2 (by change A.units+1+_<_;omega);rw[g.mpr rfl]at m;show m
  .rw[<-l1,<-l2,hl,beq_self_eq_true];show OW q
abbrev zq(K:yF):R2:=λx y H Q=>∃(a b:Addr) (d c:!V),x=.ref a/\y=.ref b/\SqL K H a d/\SqL K H b c/\Paired (DAl K H) d c/\Q (.bl Ue) H
def uN:∀{a:!V} {us:!Oa},Vals a us->∀(j:Nat) {u:Oa},us[j]?*>u->∃x,a[j]?*>x/\RelV x u:=by
 intro a us h
 induction h with
 | nil=>intro j u e;simp at e
 | cons r _ c=>
  intro j u e;cases j with
  | zero=>simp at e;subst e;show{_,Xr,r}
  | succ j=>show c j (by exists e)
def vQ{d c:Type}{F : d->c->Prop}{l:!d}{m:!c}(h:Paired F l m):∀(j:Nat) {a : d} {b : c},l[j]?*>a->m[j]?*>b->F a b:=by
 induction h with
 | nil=>intro j a b e;simp at e
 | cons h _ g=>
  intro j a b e f;cases j with
  | zero=>simp at e f;subst e f;show h
  | succ j=>show g j (by exists e) (by exists f)
def Bs(hu:X.A.units+64<OV):OpR X (OH .NotEq) (zq X.K):=by
 intro Ub s Z H x y v u Q I l g h;obtain⟨a,b,xs,ys,rfl,rfl,h1,O,G,q⟩:=h;cases l;cases g;obtain⟨f,J,⟨o,n,m,w,S,r⟩,_⟩:=I.list h1;obtain⟨vs,B,⟨L,n',d,c,z,e⟩,_⟩:=I.list O;have l1:=Paired.length G;have l2:=J.length;have l3:=B.length;have(N,dd,t,sl):=o;have(p,dd',i,sl'):=L;simp only at w r c e;subst w r c e;show wpAny_richCompare_same_room (op:=.NotEq) {_,m,Xr} {_,d,Xr} Tt (Sl Tt {_,m,Xr} F.entry_list_ne (F.args_list_ne_2 _ _) (xL (us:=f.toArray) (vs:=vs.toArray) (by simp;omega)) {m,d,λj Y g2 E Q' M=>?_,?_}) ⋯
 .have e1:f[j]?*>(f.toArray[j]'Y):=by simp
  have e2:vs[j]?*>(vs.toArray[j]'g2):=by simp
  have(x,U,l):=uN J j e1;have(y,ey,g):=uN B j e2;show DU I (A:=X.A.in1) (show X.A.units+1+60<OV by omega) (vQ G j U ey) l g M
 .show{(λx=>nomatch x),.bl Ue,H,I,Xr,q}
end
abbrev oO(d:!Key) (c:!I):!Key->!I->Bool
 | [],a=>a.isEmpty
 | k::e,a=>match a with
  | i::a=>decide (eQ d c k*>i)&&(i.dok&&decide (i.dep<=50))&&oO d c e a
  | []=>Ue
abbrev oN(i j:I):Bool:=match i with
 | .fd d e=>(match j with
  | .fd a c=>decide (d.length=a.length)&&oO a c d e
  | _=>Ue)
 | _=>Ue
abbrev mY:!I->!I->Bool
 | [],a=>a.isEmpty
 | i::c,a=>match a with
  | j::a=>oN i j&&mY c a
  | []=>Ue
private def xW(t u:T):↑T:=match t with
 | .li a=>(match u with
  | .li c=>if mY a c=Ug then Ud (.im (.bl Ue))else Uc
  | _=>Uc)
 | _=>Uc
section
variable {K:yF}{H:Hp}
def xn{k:Key}{i:I}:∀{ks:!Key} {is:!I} {a:!(Key×V)},eQ ks is k*>i->a.map (·.1)=ks->p7 K H is (a.map (·.2))->∃q∈a,q.1=k/\RpI K H i q.2:=by
 intro ks
 induction ks with
 | nil=>intro is a e;simp[eQ]at e
 | cons p ks o=>
  intro is a e d f;cases a with
  | nil=>cases d
  | cons y a=>
   cases is with
   | nil=>simp[eQ]at e
   | cons s is=>
    rw[Jt,Kw.injEq]at d;rw[Jt,p7]at f;have(x,r,h,m,l):=f;rw[Kw.injEq]at h;have(rfl,rfl):=h;unfold eQ at e;by_cases c:p=k
    .rw[if_pos c]at e;cases e;show{y,ymS,d.1.trans c,m}
    .rw[if_neg c]at e;have(q,j,g):=o e d.2 l;show{q,ymC _ j,g}
def zR{d:!Key}{g:!I}{h:!(Key×V)}(u:h.map (·.1)=d)(s:p7 K H g (h.map (·.2))):∀{ks:!Key} {is:!I} {a:!(Key×V)},oO d g ks is=Ug->a.map (·.1)=ks->p7 K H is (a.map (·.2))->∀p∈a,∃q∈h,q.1=p.1/\∃e:D,Rep K H e p.2/\Rep K H e q.2/\e.depth<=50:=by
 intro ks
 induction ks with
 | nil=>
  intro is a _ f _ p c;have:a=[]:=MU.mp f;rw[this]at c;cases c
 | cons k ks w=>
  intro is a e f l p c;cases a with
  | nil=>cases c
  | cons y a=>
   cases is with
   | nil=>cases e
   | cons i is=>
    rw[Jt,Kw.injEq]at f;rw[Jt,p7]at l;have(x,r,m,v,t):=l;rw[Kw.injEq]at m;have(rfl,rfl):=m;unfold oO at e;rw[Jv,Jv,Jv]at e;obtain⟨⟨G,j,z⟩,B⟩:=e;rcases ycM c with rfl|c
    .have(q,o,E,A):=xn (of_decide_eq_true G) u s;show{q,o,E.trans f.1.symm,i.toD,jv j v,jv j A,by rw[xg];show of_decide_eq_true z}
    .show w B f.2 t p c
def wu:∀{is js:!I} {h g:!V},mY is js=Ug->p7 K H is h->p7 K H js g->Paired (DAl K H) h g:=by
 intro is
 induction is with
 | nil=>
  intro js h g e f d;cases js with
  | nil=>rw[p7]at f d;rw[f,d];show .nil
  | cons _ _=>cases e
 | cons i is u=>
  intro js h g e f d;cases js with
  | nil=>cases e
  | cons j js=>
   rw[p7]at f d;have(x,t,rfl,q,s):=f;have(y,z,rfl,m,B):=d;unfold mY at e;rw[Jv]at e;show .cons ?_ (u e.2 s B);have c:=e.1;unfold oN at c;ext c;ext c;rw[Jv]at c;rw[RpI]at q m;have(a,o,J,rfl,E,l,v):=q;have(b,r,G,rfl,w,p,A):=m;show{a,b,J,G,Xr,Xr,.inr ⟨o,E⟩,.inr ⟨r,w⟩,?_,zR p A c.2 l v};have:=of_decide_eq_true c.1;rw[<-l,<-p,Jr,Jr]at this;show this
def yQ:dH K (zq K) xW:=by
 intro H x y o p t Q l j e q;unfold xW at e;ext e;ext e;ext e h;cases e;have(a,m,rfl,i,f):=bV l;have(b,c,rfl,d,g):=bV j;show{a,b,m,c,Xr,Xr,aR i,aR d,wu h f g,q _ H (.sc rfl)}
def GB:ib .NotEq xW:={zq,λ_ a=>Bs a,λ_=>yQ}
def Hg{is js:!I}{Q:T->Prop}(h:mY is js=Ug)(q:Q (.im (.bl Ue))):W1 (xW (.li is) (.li js)) Q:=by unhygienic show{_,if_pos h,q}
end
end L2
namespace L2
open PySem
noncomputable section
abbrev cH:MS:=(bq (mB fe (ac (aO [Uc,Ud 1,Uc,Uc] (mIt (ag 0)) (bA (av (af 2) (av (af 3) mGNil))) mYes (aD [2] (aa 2 (ac (mOp cz (ag 3) (mB gB (aa 2 (aa 1 mNil)))) mNil)))) mNil)))
abbrev eH(ts:!T):↑T:=if ts.length=2 then cR cH 2 ts else Uc
abbrev eg:MS:=(bq (mDi (iq [Uc,Ud 1,Uc,Uc,Uc] (nN (ag 0)) (bA (av (af 2) (av (bA (av (af 3) (av (af 4) mGNil))) mGNil))) mYes (ag 2) (aD [3] (aa 3 (ac (mB eH (aa 4 (ac (mOp qw (ag 1) (ag 2)) mNil))) mNil))))))
abbrev eG(ts:!T):↑T:=if ts.length=2 then cR eg 2 ts else Uc
abbrev gH:MS:=(bq (mB fe (ac (aO [Uc,Ud 1,Uc] (mIt (ag 0)) (af 2) mYes (mB gB (aa 2 (aa 1 mNil)))) mNil)))
abbrev gO(ts:!T):↑T:=if ts.length=2 then cR gH 2 ts else Uc
abbrev cI:MS:=(ax (aI (ag 0) (bA (av (af 2) (av (af 3) mGNil))))
  (bq (aD [2] (aa 2 (ac (mB gO (aa 1 (aa 3 mNil))) mNil)))))
abbrev eI(ts:!T):↑T:=if ts.length=2 then cR cI 4 ts else Uc
abbrev bt(rec:!T->↑T):MS:=(ax (aI (aO [Uc,Uc,Ud 2,Uc,Uc] (mIt (mOp br (mSl (ag 0) mNoPart (eS (ag 1))) (mSl (ag 0) (eS (mOp br (ag 1) (mC (.int 1)))) mNoPart))) (af 4) mYes (mOp br (mSl (ag 4) mNoPart (eS (ag 2))) (mSl (ag 4) (eS (mOp br (ag 2) (mC (.int 1)))) mNoPart))) (af 3))
  (bq (sF (bc (mOp eqT (mOp hV (mOp br (ag 1) (ag 2)) (mC (.int 2))) (mC (.int 0)))) (mB rec (aa 3 mNil)) (mUn vI (mB rec (aa 3 mNil))))))
abbrev bK(rec:!T->↑T):MS:=(ax (mIf (my (vE (ag 0))) (bq (mC (.int 1))) mNext)
  (bq (mB tu (ac (aO [Ud 0,Uc,Uc] (ot (ac (mIx (ag 0) (mC (.int 0))) mNil)) (bA (av (af 1) (av (af 2) mGNil))) mYes (mOp cK (ag 2) (mB rec (aa 0 (ac (mC (.int 0)) (aa 1 mNil)))))) mNil))))
abbrev aE:Nat->!T->↑T
 | 0=>λa=>if a.length=1 then cR ir 1 a else Uc
 | n+1=>λa=>if a.length=1 then cR (bK λc=>if c.length=3 then cR (bt (aE n)) 4 c else Uc) 1 a else Uc
abbrev be(n:Nat) (us:!T):↑T:=if us.length=3 then cR (bt (aE n)) 4 us else Uc
abbrev fo:MS:=(mIf (bc (mOp vJ (mB (aE 24) (aa 0 mNil)) (aD [] (ac (mC (.int 1)) (ac (mUn vI (mC (.int 1))) mNil))))) ir mNext)
abbrev fE(ts:!T):↑T:=if ts.length=1 then cR fo 1 ts else Uc
abbrev cb:MS:=(ax (aI (mB (aE 24) (aa 0 mNil)) (af 1))
  (ax (aI (mB mn (ac (mB cP (aa 0 mNil)) mNil)) (af 2))
  (bq (mB fe (ac (aO [Ud 0,Ud 1,Ud 2,Uc] (mIt (ag 2)) (af 3) mYes (mB fe (ac (aO [Ud 0,Ud 1,Uc,Ud 3,Uc] (mIt (ag 2)) (af 4) mYes (mOp cK (ag 1) (mB (be 24) (aa 0 (aa 3 (aa 4 mNil)))))) mNil))) mNil)))))
abbrev dv(ts:!T):↑T:=if ts.length=1 then cR cb 3 ts else Uc
abbrev cx:MS:=(bq (mB fe (ac (aO [Uc,Ud 1,Uc,Uc] (mIt (ag 0)) (bA (av (af 2) (av (af 3) mGNil))) mYes (aD [3] (ac (mB gO (aa 1 (aa 2 mNil))) (aa 3 mNil)))) mNil)))
abbrev dP(ts:!T):↑T:=if ts.length=2 then cR cx 2 ts else Uc
abbrev dJ:MS:=(ax (bU (mB fE (aa 1 mNil)))
  (ax (aI (mB dv (aa 1 mNil)) (af 2))
  (bq (mDi (iq [Uc,Uc,Ud 2,Uc,Uc,Uc] (nN (ag 0)) (bA (av (af 3) (av (bA (av (af 4) (av (af 5) mGNil))) mGNil))) mYes (ag 3) (aD [4] (aa 4 (ac (mB dP (aa 5 (aa 2 mNil))) mNil))))))))
abbrev dO(ts:!T):↑T:=if ts.length=2 then cR dJ 3 ts else Uc
abbrev cZ:MS:=(ax (aI (ag 1) (bA (av (af 2) (av (af 3) mGNil))))
  (ax (aI (mOp dgT (ag 0) (ag 2)) (bA (av (af 4) (av (af 5) mGNil))))
  (bq (mB fe (ac (mOp br (bo [4] (aa 4 mNil)) (aO [Uc,Uc,Uc,Ud 3,Uc,Uc,Uc,Uc] (mIt (ag 5)) (bA (av (af 6) (av (af 7) mGNil))) mYes (mOp br (mB gB (aa 6 (aa 3 mNil))) (ag 7)))) mNil)))))
abbrev fG(ts:!T):↑T:=if ts.length=2 then cR cZ 6 ts else Uc
abbrev cG:MS:=(ax (aI (mB mn (aa 1 mNil)) (af 2))
  (ax (aI (bo [] mNil) (af 3))
  (ax (cD (bp (aa 1 mNil)) (af 4)
  (cQ [4,5,6] (ax (aI (aD [] (ac (fj 2 [] gK (ag 2) (ac (ao 0 0 am (aa 0 (ac (mB cP (aa 2 mNil)) mNil))) mNil)) (ac (mOp cz (mC (.int 1)) (mOp cK (mC (.int 2)) (ao 0 0 am (aa 0 (ac (mC (.int 2)) mNil))))) mNil))) (bA (av (af 5) (av (af 6) mGNil))))
  (bU (fj 3 [] apT (ag 3) (ac (mB fe (ac (aO [Uc,Uc,Uc,Uc,Uc,Ud 5,Ud 6,Uc] (bp (aa 1 mNil)) (af 7) mYes (mOp cK (ag 6) (mB vk (ac (mOp eqT (ag 7) (ag 5)) mNil)))) mNil)) mNil))))))
  (bq (ag 3)))))
abbrev eD(ts:!T):↑(T×T):=if ts.length=2 then eJ cG 0 7 ts else Uc
abbrev fk:MS:=(ax (aI (ao 0 0 eD (aa 0 (aa 1 mNil))) (af 2))
  (ax (cD (bp (ac (mC (.int 2)) mNil)) (af 3)
  (cQ [3,4,5,6,7] (ax (aI (aD [] (ac (ao 0 0 am (aa 0 (aa 1 mNil))) (ac (ao 0 0 am (aa 0 (aa 1 mNil))) (ac (mOp cz (ao 0 0 am (aa 0 (ac (mC (.int 7)) mNil))) (mC (.int 3))) mNil)))) (bA (av (af 4) (av (af 5) (av (af 6) mGNil)))))
  (ax (aI (mB fe (ac (aO [Uc,Uc,Uc,Uc,Uc,Uc,Ud 6,Uc,Uc,Uc] (km (ac (mIx (ag 2) (ag 4)) (ac (mIx (ag 2) (ag 5)) mNil))) (bA (av (af 8) (av (af 9) mGNil))) mYes (mOp br (ag 8) (mOp cK (ag 6) (ag 9)))) mNil)) (af 7))
  (mIf (nM (bc (mOp neT (ag 4) (ag 5))) (nM (bc (mOp (ic λi j=>decide (i<j)) (mB uj (aa 7 mNil)) (mC (.int 4)))) (bc (mOp (ic λi j=>decide (j<i)) (mB uk (aa 7 mNil)) (mOp cz (mC (.int 0)) (mC (.int 4))))))) (aI (ag 7) (qL 2 (ag 2) (ag 4))) mNext)))))
  (bq (mB fe (aa 2 mNil)))))
abbrev fA(ts:!T):↑(T×T):=if ts.length=2 then eJ fk 0 8 ts else Uc
abbrev gF:MS:=(ax (aI (ao 0 0 am (aa 0 (ac (mC (.int 3)) mNil))) (af 1))
  (bq (mIx (bo [] (ac (mOp cz (ao 0 0 am (aa 0 (ac (mC (.int 7)) mNil))) (mC (.int 3))) (ac (mOp cz (ao 0 0 am (aa 0 (ac (mC (.int 2000000001)) mNil))) (mC (.int 1000000000))) (ac (mC (.int 0)) mNil)))) (ag 1))))
abbrev fB(ts:!T):↑(T×T):=if ts.length=1 then eJ gF 0 2 ts else Uc
abbrev eX:MS:=(ax (aI (ao 0 0 am (aa 0 (ac (mC (.int 7)) mNil))) (af 2))
  (ax (aI mDN (af 3))
  (ax (cD (mIt (mIx (ag 1) (mC (.int 2)))) (bA (av (af 4) (av (af 5) mGNil)))
  (cQ [4,5,6,7,8] (ax (aI (bo [] mNil) (af 6))
  (ax (cD (bp (aa 2 mNil)) (af 7)
  (cQ [7,8] (ax (aI (mB fe (ac (aO [Ud 0,Uc,Uc,Uc,Uc,Uc,Uc,Uc,Uc,Uc] (bp (ac (mIx (ag 1) (mC (.int 0))) mNil)) (af 9) mYes (ao 0 0 fB (aa 0 mNil))) mNil)) (af 8))
  (bU (fj 6 [] apT (ag 6) (ac (aD [8] (aa 8 (ac (ao 0 0 fB (aa 0 mNil)) mNil))) mNil))))))
  (aI (aD [] (ac (ao 0 0 fB (aa 0 mNil)) (ac (mB fe (aa 6 mNil)) mNil))) (mr 3 (ag 3) (ag 4)))))))
  (bq (ag 3)))))
abbrev e8(ts:!T):↑(T×T):=if ts.length=2 then eJ eX 0 9 ts else Uc
abbrev fX:MS:=(ax (aI (mOp dfT (ag 0) (mIx (ag 1) (mC (.int 0)))) (bA (av (af 2) (av (af 3) mGNil))))
  (bq (mB fe (ac (mOp br (bo [2] (aa 2 mNil)) (aO [Uc,Ud 1,Uc,Uc,Uc,Uc] (mIt (ag 3)) (bA (av (af 4) (av (af 5) mGNil))) mYes (mOp br (ag 5) (mB tu (ac (aO [Uc,Uc,Uc,Uc,Uc,Uc,Uc,Uc] (km (aa 4 (ac (mIx (ag 1) (mC (.int 1))) mNil))) (bA (av (af 6) (av (af 7) mGNil))) mYes (mOp cK (ag 6) (ag 7))) mNil))))) mNil))))
abbrev dZ(ts:!T):↑T:=if ts.length=2 then cR fX 4 ts else Uc
abbrev fm(rec:!T->↑T):MS:=(ax (mIf (bc (mUn (l4 ["tuple"]) (ag 0))) (bq (mB rZ (ac (aO [Uc,Uc] (mIt (ag 0)) (af 1) mYes (mB rec (aa 1 mNil))) mNil))) mNext)
  (bq (mq (mUn (l4 ["int"]) (ag 0)) (ou (mUn (l4 ["bool"]) (ag 0))))))
abbrev dN:Nat->!T->↑T
 | 0=>λa=>if a.length=1 then cR ir 1 a else Uc
 | n+1=>λa=>if a.length=1 then cR (fm (dN n)) 1 a else Uc
abbrev gG:MS:=(ax (mIf (mOr (my (bc (mUn (l4 ["dict"]) (ag 1)))) (bc (mOp neT (mB ng (aa 1 mNil)) (mB ng (aa 0 mNil))))) (bq (mC (.bl Ue))) mNext)
  (ax (cD (nN (ag 0)) (bA (av (af 5) (av (bA (av (af 6) (av (af 7) mGNil))) mGNil)))
  (cQ [5,6,7] (ax (mIf (mOr (my (bc (mB (dN 24) (ac (mOp dgT (ag 1) (ag 5)) mNil)))) (mOr (bc (mOp neT (mB cP (ac (mOp dgT (ag 1) (ag 5)) mNil)) (mC (.int 2)))) (bc (mOp neT (mIx (mOp dgT (ag 1) (ag 5)) (mC (.int 0))) (ag 6))))) (bq (mC (.bl Ue))) mNext)
  (ax (mIf (mOr (my (bc (mUn (l4 ["tuple"]) (mOp dgT (ag 1) (ag 5))))) (bc (mOp neT (aO [Uc,Uc,Uc,Uc,Uc,Uc,Uc,Uc,Uc,Uc,Uc,Uc] (mIt (mIx (mOp dgT (ag 1) (ag 5)) (mC (.int 1)))) (af 11) mYes (mB cP (aa 11 mNil))) (mOp cK (bo [] (ac (mC (.int 2)) mNil)) (mB cP (aa 7 mNil)))))) (bq (mC (.bl Ue))) mNext)
  (mIf (bc (mOp neT (aO [Uc,Uc,Uc,Uc,Ud 4,Uc,Uc,Uc,Uc,Uc,Uc,Uc] (mIt (mIx (mOp dgT (ag 1) (ag 5)) (mC (.int 1)))) (af 11) mYes (mIx (ag 11) (ag 4))) (aO [Uc,Uc,Uc,Uc,Ud 4,Uc,Uc,Uc,Uc,Uc,Uc,Uc] (mIt (ag 7)) (af 11) mYes (mIx (ag 11) (ag 4))))) (bq (mC (.bl Ue))) mNext)))))
  (ax (cD (km (aa 2 (aa 3 mNil))) (bA (av (af 8) (av (af 9) mGNil)))
  (cQ [8,9,10] (ax (aI (mB dZ (aa 0 (aa 8 mNil))) (af 10))
  (mIf (mOr (bc (mOp neT (mB dZ (aa 1 (aa 9 mNil))) (ag 10))) (bc (mOp neT (mB fG (aa 1 (aa 9 mNil))) (ag 10)))) (bq (mC (.bl Ue))) mNext))))
  (bq (mC (.bl Ug))))))
abbrev fb(ts:!T):↑T:=if ts.length=5 then cR gG 11 ts else Uc
abbrev dI:MS:=(ax (aI (mB l9 (aa 1 mNil)) (af 2))
  (ax (aI (ao 0 0 am (aa 0 (ac (mB cP (aa 2 mNil)) mNil))) (af 3))
  (bq (je (mB qq (ac (aO [Uc,Ud 1,Uc,Uc,Uc] (mIt (mOp br (mSl (ag 2) (eS (ag 3)) mNoPart) (mSl (ag 2) mNoPart (eS (ag 3))))) (af 4) mYes (aD [4] (aa 4 (ac (mOp qw (ag 1) (ag 4)) mNil)))) mNil))))))
abbrev cy(ts:!T):↑(T×T):=if ts.length=2 then eJ dI 0 4 ts else Uc
abbrev iw:MS:=(ax (cD (bp (ac (mB qN (ac (mC (.int 2)) (ac (mB qO (ac (mB cP (aa 0 mNil)) (ac (mC (.int 5)) mNil))) mNil))) mNil)) (af 1)
  (cQ [1,2,3,4,5,6,7,8,9,10,11,12,13] (ax (aI (mB mU (aa 0 (aa 1 mNil))) (af 2))
  (ax (aI (ao 0 2 kG (aa 2 mNil)) (af 3))
  (ax (k7 4 5 (ac (je (ao 0 2 e8 (aa 2 (aa 3 mNil)))) (ac (je (ao 0 2 f6 (aa 2 (aa 3 mNil)))) mNil)))
  (ax (k7 6 7 (ac (je (ao 0 2 e8 (aa 2 (aa 3 mNil)))) (ac (je (ao 0 2 f6 (aa 2 (aa 3 mNil)))) mNil)))
  (ax (aI (ao 0 2 fA (aa 2 (ac (mIx (ag 3) (mC (.int 0))) mNil))) (af 8))
  (ax (aI (aO [Uc,Uc,Ud 2,Ud 3,Uc,Uc,Uc,Uc,Uc,Uc,Uc,Uc,Uc,Uc,Uc] (bp (ac (mC (.int 4)) mNil)) (af 14) mYes (aD [] (ac (mIx (mIx (mIx (ag 3) (mC (.int 2))) (ao 0 2 am (aa 2 (ac (mB cP (ac (mIx (ag 3) (mC (.int 2))) mNil)) mNil)))) (mC (.int 0))) (ac (ao 0 2 kI (aa 2 (ac (mIx (ag 3) (mC (.int 0))) mNil))) mNil)))) (af 9))
  (cD (mIt (aD [] (ac (aD [4,5] (aa 4 (aa 5 mNil))) (ac (aD [6,5] (aa 6 (aa 5 mNil))) (ac (aD [6,7] (aa 6 (aa 7 mNil))) (ac (aD [4,5] (aa 4 (aa 5 mNil))) mNil)))))) (bA (av (af 10) (av (af 11) mGNil)))
  (cQ [10,11,12,13] (ax (aI (bo [] (ac (ao 0 2 cy (aa 2 (aa 10 mNil))) (ac (ao 0 2 cy (aa 2 (aa 11 mNil))) mNil))) (af 12))
  (ax (aI (mB eG (ac (mIx (ag 12) (mC (.int 0))) (ac (mIx (ag 12) (mC (.int 1))) mNil))) (af 13))
  (ax (mIf (my (bc (mB fb (aa 10 (aa 13 (aa 9 (ac (aO [Uc,Uc,Uc,Uc,Uc,Uc,Uc,Uc,Uc,Uc,Uc,Ud 11,Uc,Uc,Uc] (mIt (ag 9)) (af 14) mYes (mB fF (aa 14 (aa 11 mNil)))) (ac (mC (.int 0)) mNil)))))))) (bq (mC (.bl Ue))) mNext)
  (ax (bU (mw 13 kX (ag 13)))
  (ax (aI (mB dO (ac (mIx (ag 12) (mC (.int 0))) (aa 8 mNil))) (af 13))
  (ax (mIf (my (bc (mB fb (aa 10 (aa 13 (aa 9 (ac (aO [Uc,Uc,Uc,Uc,Uc,Uc,Uc,Uc,Ud 8,Uc,Uc,Uc,Uc,Uc,Uc] (mIt (ag 9)) (af 14) mYes (mB eI (aa 14 (aa 8 mNil)))) (ac (mC (.int 1)) mNil)))))))) (bq (mC (.bl Ue))) mNext)
  (ax (bU (mw 13 kX (ag 13)))
  (mIf (bc (mOp xW (ag 12) (bo [10,11] (aa 10 (aa 11 mNil))))) (bq (mC (.bl Ue))) mNext))))))))))))))))))
  (bq (mC (.bl Ug))))
abbrev r_l_law_v12(ts:!T):↑T:=if ts.length=1 then cR iw 14 ts else Uc
end
end L2
namespace K48
open PySem PySem.Spec PyProof.Rows L2
abbrev top(i:Nat):Stmt:=PySem.Challenge.pw_clockhouse_k48_cells_and_clocks_carried.main.body.getD i (.Pass {0,0,0,0})
noncomputable abbrev zQ:Stmt:=top 4
noncomputable abbrev pZ:Stmt:=top 5
noncomputable abbrev gY:Stmt:=top 7
noncomputable abbrev gm:Stmt:=top 8
noncomputable abbrev gn:Stmt:=top 9
noncomputable abbrev gp:Stmt:=top 10
noncomputable abbrev fL:Stmt:=top 11
noncomputable abbrev fM:Stmt:=top 12
noncomputable abbrev mX:Stmt:=top 13
noncomputable abbrev gX:Stmt:=top 14
noncomputable abbrev gl:Stmt:=top 15
noncomputable abbrev fK:Stmt:=top 16
noncomputable abbrev eN:Stmt:=top 17
noncomputable abbrev kN:Stmt:=top 19
noncomputable abbrev iG:Stmt:=top 21
noncomputable abbrev iH:Stmt:=top 22
noncomputable abbrev gS:Stmt:=top 23
noncomputable abbrev jx:Stmt:=top 24
noncomputable abbrev eM:Stmt:=top 25
noncomputable abbrev dz:Stmt:=top 26
noncomputable abbrev dB:Stmt:=top 27
noncomputable abbrev dE:Stmt:=top 28
noncomputable abbrev cg:Stmt:=top 29
noncomputable abbrev dD:Stmt:=top 30
noncomputable abbrev gU:Stmt:=top 31
noncomputable abbrev gQ:Stmt:=top 32
noncomputable abbrev gR:Stmt:=top 33
noncomputable abbrev gT:Stmt:=top 34
noncomputable abbrev cL:Stmt:=top 35
noncomputable abbrev dA:Stmt:=top 36
noncomputable abbrev fJ:Stmt:=top 37
noncomputable abbrev gj:Stmt:=top 38
noncomputable abbrev gP:Stmt:=top 39
noncomputable abbrev iI:Stmt:=top 40
noncomputable abbrev gk:Stmt:=top 41
noncomputable abbrev gW:Stmt:=top 42
noncomputable abbrev dQ:Stmt:=top 43
noncomputable abbrev s_law:Stmt:=top 44
structure GT(K:yF)(mg:Str->↑Oa):Prop where
 triv:True
end K48
namespace L2
open PySem PySem.Spec PyProof.Rows
section
variable {O:Rho}{a b m:ME}{ms:MA}{QE':R->Rho->Prop}{QA':!R->Rho->Prop}
def wW:aM M {.ow,t}=Ug:=by unhygienic rfl
def cq:aM [] r=Ug:=by
 have(k,t):=r;cases k with
 | vw o p=>cases o<;>unhygienic rfl
 | _=>unhygienic rfl
def IF(h:WA ms O λrs c=>QA' ({.ow,.im i}::rs) c):WA (ac (mC i) ms) O QA':=qd (w_C (WA.mono h λ_ _ q=>gu wW q))
def Jq(h:WE m O λr c=>QA' [r] c):WA (ac m mNil) O QA':=qd (WE.mono h λ_ _ q=>nB (gu (by unhygienic show cq) q))
def IA(h:WE a O λc d=>W1 (f c.t (.im i)) λt=>QE' {.ow,t} d):WE (mOp f a (mC i)) O QE':=tL (WE.mono h λ_ _ q=>w_C (gu (by unhygienic show cq) q))
def IB(h:WE a O λg e=>WE (ag n) e λd c=>W1 (f g.t d.t) λt=>QE' {.ow,t} c):WE (mOp f a (ag n)) O QE':=tL (WE.mono h λ_ _ h=>WE.mono h λ_ _ q=>gu (by unhygienic show cq) q)
abbrev owL:Nat->!R->Option !T
 | _,[]=>Ud []
 | n+1,⟨.ow,t⟩::d=>match owL n d with
  | some c=>Ud (t::c)
  | none=>Uc
 | _,_=>Uc
def mK{mv:!Nat}{O:Rho}:∀{n:Nat} {rs:!R} {ts:!T},owL n rs*>ts->rs.length<=n/\consL mv rs O*>(ts,O)
 | _,[],ts,h=>by rw[owL]at h;cases h;show{Ku _,Xr}
 | 0,_::_,ts,h=>by simp[owL]at h
 | n+1,⟨k,t⟩::rs,ts,h=>by
  cases k with
  | ow=>
   rw[owL]at h;cases e:owL n rs with
   | none=>rw[e]at h;cases h
   | some f=>
    rw[e]at h;cases h;have(d,c):=mK (mv:=mv) (O:=O) e;show{M8 d,by rw[consL,c]}
  | _=>simp[owL]at h
abbrev OwT(rs:!R)(Q:!T->Prop):Prop:=∃c,owL 1000 rs*>c/\Q c
def G4(h:owL 1000 rs*>ts)(q:Q ts):OwT rs Q:=⟨ts,h,q⟩
def Gf(h:WA ms O λrs c=>OwT rs λts=>QE' {.ow,oy ts} c):WE (aD [] ms) O QE':=Aq (WA.mono h λ_ _ ⟨_,e,q⟩=>gu (decide_eq_true (mK (mv:=[]) (O:=O) e).1) {_,_,(mK e).2,q})
def F7(h:WA ms O λrs c=>OwT rs λts=>QE' {.ow,cF ts} c):WE (bo [] ms) O QE':=Ao (WA.mono h λ_ _ ⟨_,e,q⟩=>gu (decide_eq_true (mK (mv:=[]) (O:=O) e).1) {_,_,(mK e).2,q})
def Jo{run:!T->↑(T×T)}{k0:Nat}{t:T}{i:I}(h:W2 (run [t,.im i]) λx s=>QE' {.ow,x} (Ud {.io k0,s}::aB [0] O)):WE (ao 0 0 run (aa 0 (ac (mC i) mNil))) (Ud {.io k0,t}::O) QE':=
 qc (fN rfl (IF (nB (r9 rfl (DK rfl (by unhygienic rfl) rfl rfl (W2.mono h λx s q=>by rw[pI];show q))))))
def IE{run:!T->↑(T×T)}{k0 n:Nat}{t:T}{r0:R}(c : O[n]?*>(Ud r0))(d:aM [0] (rdR (n+1) r0)=Ug)(h:W2 (run [t,(rdR (n+1) r0).t]) λx s=>QE' {.ow,x} (Ud {.io k0,s}::aB [0] O)):WE (ao 0 0 run (aa 0 (aa (n+1) mNil))) (Ud {.io k0,t}::O) QE':=
 qc (fN rfl (fN (r0:=r0) c (nB (r9 (r:=r0) c (r9 rfl (DK rfl (by change(Ug&&_)=Ug;simp[JE,JE.loop,d]) rfl rfl (W2.mono h λx s q=>by rw[pI];show q)))))))
def As(c : O[n]?*>(Ud r0))(q:QA' [rdR n r0] O):WA (aa n mNil) O QA':=fN (r0:=r0) c (nB (r9 (r:=r0) c q))
def IH{n:Nat}{r0:R}{k:Int}{Q:Int->Rho->Prop}(e : O[n]?*>(Ud r0))(d:(rdR n r0).t=.im (.int k))(q:Q k O):WA (aa n mNil) O (λrs c=>Pa rs λk=>Q k c):=As e (uc (by rw[Jt,d];rfl) q)
def F5(c : O[n]?*>(Ud r0))(h:W1 (ixR (rdR n r0) (.im i)) λr=>QE' r O):WE (mIx (ag n) (mC i)) O QE':=Am (hJ c (w_C (gu (by unhygienic show cq) h)))
def F6{n m:Nat}{r0 c:R}(d : O[n]?*>(Ud r0))(e : O[m]?*>(Ud c))(h:W1 (ixR (rdR n r0) (rdR m c).t) λr=>QE' r O):WE (mIx (ag n) (ag m)) O QE':=Am (hJ d (hJ e (gu (by unhygienic show cq) h)))
def Ge{f:T->T->↑T}{n m:Nat}{r0 c:R}(d : O[n]?*>(Ud r0))(e : O[m]?*>(Ud c))(h:W1 (f (rdR n r0).t (rdR m c).t) λt=>QE' {.ow,t} O):WE (mOp f (ag n) (ag m)) O QE':=tL (hJ d (hJ e (gu (by unhygienic show cq) h)))
def Gd(c : O[n]?*>(Ud r0))(h:W1 (f (rdR n r0).t (.im i)) λt=>QE' {.ow,t} O):WE (mOp f (ag n) (mC i)) O QE':=tL (hJ c (w_C (gu (by unhygienic show cq) h)))
def Gc(c : O[n]?*>(Ud r0))(h:W1 (f (.im i) (rdR n r0).t) λt=>QE' {.ow,t} O):WE (mOp f (mC i) (ag n)) O QE':=tL (w_C (hJ c (gu (by unhygienic show cq) h)))
def Gb(h:W1 (f (.im i) (.im j)) λt=>QE' {.ow,t} O):WE (mOp f (mC i) (mC j)) O QE':=tL (w_C (w_C (gu (by unhygienic show cq) h)))
def DD{n m:Nat}{r0 d:R}(c : O[n]?*>(Ud r0))(e : O[m]?*>(Ud d))(q:QA' [rdR n r0,rdR m d] O):WA (aa n (aa m mNil)) O QA':=fN (r0:=r0) c (As e (r9 (r:=r0) c q))
def IG{n m k:Nat}{r0 e c:R}(d : O[n]?*>(Ud r0))(g : O[m]?*>(Ud e))(f : O[k]?*>(Ud c))(q:QA' [rdR n r0,rdR m e,rdR k c] O):WA (aa n (aa m (aa k mNil))) O QA':=fN (r0:=r0) d (DD g f (r9 (r:=r0) d q))
end
local macro_rules|`(tactic| ac_nf)=>`(tactic| try simp only[Ed,GP,GO,A7,GQ,List.set_cons_zero,MZ,pI,B3,Fz,FB,FA,B4,xm,vg])
local macro_rules|`(tactic| injection $x:ident)=>`(tactic| refine $x ?_)
local macro_rules|`(tactic| infer_instance)=>`(tactic| first
 | injection t9|injection AW|(refine AU ?_;try ac_nf)|injection DX|refine GF rfl ?_|injection GI|injection GH
 | injection j2|injection Iu|injection ID|injection tJ|injection F9|injection Iw|injection IC
 | injection w_C|refine hJ rfl ?_|refine Ge rfl rfl ?_|refine Gd rfl ?_|refine Gc rfl ?_|injection Gb|injection IA|injection IB|injection tL|injection Jp|injection w_B|injection w_M|refine F5 rfl ?_|refine F6 rfl rfl ?_|injection Am|injection Jn|injection Gf|injection F7|refine G4 (by unhygienic rfl) ?_|injection Ao|injection Aq|injection Ix|injection FZ|injection Ga|injection Jo|refine IE rfl (by unhygienic rfl) ?_|injection qc|injection Ap|injection F8
 | injection CS|injection CT
 | injection nB|injection IF|injection Jq|refine IH rfl rfl ?_|refine As rfl ?_|refine DD rfl rfl ?_|refine IG rfl rfl rfl ?_|injection qd|refine fN rfl ?_
 | injection CU|injection nD|injection nC|injection Gp|injection II|injection kU
 | (refine CN (by unhygienic rfl) ?_;try ac_nf)|refine Gn rfl ?_|refine Av (by unhygienic rfl) ?_|injection CO|injection Gk|injection Au
 | refine gu (by unhygienic rfl) ?_
 | injection EG|injection Hk|injection Hi|injection G6|injection G9|injection Hh|injection EN|injection EL|injection Bx|injection Hf|injection He|injection EJ|injection ET|injection EO|injection Hj|injection ER|refine ES rfl ?_
 | refine Db rfl ?_|refine uo rfl ?_|refine sO (n:=0) rfl (Lx rfl) ?_|refine sO (n:=1) rfl (Lx rfl) ?_
 | refine jg (Jc (by decide) (by decide)) ?_|refine jg (pC (by decide) (by decide)) ?_|refine ym ⋯ ?_|refine EI ⋯ ?_
 | refine tK (by rfl) ?_|injection sj|injection tV
 | refine yg (b:=true) rfl (by decide) ?_|refine yg (b:=false) rfl (by decide) ?_
 | injection I8|injection I9|refine r9 rfl ?_|refine DK rfl (by unhygienic rfl) rfl rfl ?_|refine DL rfl rfl ?_|injection IP|injection FT|refine uc rfl ?_|refine A4 rfl ?_)
local macro_rules|`(tactic| omega)=>`(tactic| decide)
local macro_rules|`(tactic| and_intros)=>`(tactic| repeat infer_instance)
local macro_rules|`(tactic| cbv)=>`(tactic| unhygienic rfl)
local macro_rules|`(tactic| clear_value $h:ident)=>`(tactic| first|refine dsp (fun $h=>?_) (fun $h=>?_)|refine dspN (fun $h=>?_) (fun $h=>?_)|refine bsp (fun $h=>?_) (fun $h=>?_))
def bB{ns:!Int}{kd:Kd}{a:Int}{d:R->Prop}(g:0<=a)(f:a<ns.length)(q:∀y,y∈ns->ns[a.toNat]?*>y->d {.ow,.im (.int y)}):W1 (ixR {kd,.li (ns.map .int)} (.im (.int a))) d:=by
 show yi g (by exists f) λx c=>?_;rw[JB]at c;cases e:ns[a.toNat]? with
 | none=>rw[e]at c;cases c
 | some y=>rw[e]at c;cases c;show q y (ymG e) e
def vP{ns:!Int}{kd:Kd}{a:Int}{d:R->Prop}(g:0<=a)(f:a<ns.length)(q:∀y,y∈ns->ns[a.toNat]?*>y->d {.ow,.im (.int y)}):W1 (ixR {kd,.im (.tup (ns.map .int))} (.im (.int a))) d:=by
 show yk g (by exists f) λx c=>?_;rw[JB]at c;cases e:ns[a.toNat]? with
 | none=>rw[e]at c;cases c
 | some y=>rw[e]at c;cases c;show q y (ymG e) e
def ba{a:Type}{P : a->Prop}{l:!a}{y : a}(h:∀x∈l,P x)(d:P y):∀x∈l++[y],P x:=λx c=>(yaM c).elim (h x) λz=>by rw[ysM z];show d
abbrev fT(f:Int×Int):T:=.li [.int f.1,.int f.2]
def ar(a:0<n)(e:n<2^64)(q:∀d c,0<=d->d<n->Q (.im (.int d)) (fT c)):W2 (am [fT f,.im (.int n)]) Q:=by
 show i7 rfl rfl ?_;unfold jQ;and_intros
 (refine bC ?_;and_intros;clear_value h)
 .and_intros;show q _ (f.1 / n,f.2) (Lw _ (by lia)) (Lf _ a)
 .and_intros;show q _ (f.1,(f.2*48271 % 2147483647*40692+30103) % 2147483399+1) (Lw _ (by lia)) (Lf _ a)
abbrev tw(is:!Int):T:=.im (.tup (is.map .int))
def zN{f:Int×Int}{n:Int}(p:1<=n)(o:n<=3){Q:T->T->Prop}(q:∀is i,is.length=n.toNat->(∀x∈is,-2<=x/\x<=2)->Q (tw is) (fT i)):W2 (lG [fT f,.im (.int n)]) Q:=by
 show i7 rfl rfl ?_;unfold lB;and_intros;show bC ?_;and_intros;show ar (by lia) (by lia) λd f e a=>?_;ac_nf;and_intros;clear_value h
 .and_intros;show yn (is:=[.int 0]) {by simp,by decide,by lia,by lia} ?_;and_intros;have:(Jw n.toNat [I.int 0]).flatten=(Jw n.toNat (0:Int)).map .int:=by simp
  rw[this];show q _ f ∅ (by intro x c;rw[(Ls.mp c).2];decide)
 .and_intros;show cj (λf:Int×Int=>[Ud {.io 0,fT f},↥(.int n)]) I.int (λj _ is=>is.length=j/\∀x∈is,-2<=x/\x<=2) ?_;and_intros;show{{by lia,by lia},by cbv,f,by cbv,{Xr,by simp},λj f is m ⟨g,c⟩=>?_,λf is ⟨g,c⟩=>?_}
  .and_intros;show ar (by lia) (by lia) λd f e a=>?_;ac_nf;and_intros;show bB (ns:=[0,1,0-1,2,0-2]) e a λy l _=>{y,f,Xr,by cbv,by simp[g],ba c (by simp at l;lia)}
  .and_intros;show q is f g c
def AI{f:Int×Int}{n:Int}(u:1<=n)(t:n<=3){Q:T->T->Prop}(q:∀is p,is.length=n.toNat->(∀x∈is,-2<=x/\x<=2)->(∃(k:Nat) (y:Int) (m:!Int),is=Jw k 0++y::m/\y<0)->Q (tw is) (fT p)):W2 (e7 [fT f,.im (.int n)]) Q:=by
 show i7 rfl rfl ?_;unfold eW;and_intros;show ar (by lia) (by lia) λd f e c=>?_;ac_nf;and_intros;show wL (λf:Int×Int=>[Ud {.io 0,fT f},↥(.int n),↥(.int d),Uc]) I.int (λj _ is=>is.length=j/\∀x∈is,-2<=x/\x<=2) ?_;and_intros;show{{by lia,by lia,by lia,by lia,by lia},by cbv,f,by cbv,{Xr,by simp},λj f is s ⟨i,h⟩=>?_,λf is ⟨i,h⟩=>?_}
 .and_intros;show ar (by lia) (by lia) λd f e c=>?_;ac_nf;and_intros;show bB (ns:=[0,1,0-1,2,0-2]) e c λy r _=>{y,f,Xr,by cbv,by simp[i],ba h (by simp at r;lia)}
 .and_intros;show sN (is:=[.int 0]) {by lia,by lia,by simp;rw[Oe];lia} ?_;and_intros;show ar (by lia) (by lia) λg f l o=>?_;ac_nf;and_intros;show gJ (is:=(Jw d.toNat [I.int 0]).flatten) (js:=[.int (0-1-g)]) (by simp;rw[Oe];lia) ?_;and_intros;show gJ (is:=(Jw d.toNat [I.int 0]).flatten++[.int (0-1-g)]) (js:=is.map I.int) (by simp;rw[Oe];lia) ?_;and_intros;have:(Jw d.toNat [I.int 0]).flatten++[.int (0-1-g)]++is.map I.int=(Jw d.toNat 0++(0-1-g)::is).map I.int:=by simp
  rw[this];show q _ f (by simp;lia) (λx a=>by
   rcases yaM a with a|a;rw[(Ls.mp a).2];decide
   .rcases ycM a with rfl|a
    .lia
    .show h x a) {d.toNat,_,is,Xr,by lia}
def wF{row signs:!Int}{a:Int}(d:1<=row.length)(c:row.length<=1000)(v:0<=a)(hs:signs.length=row.length)(h:∀x∈row,-(2^64)<x/\x<2^64){Q:T->Prop}(q:∀is:!Int,is.length=row.length->(∀(k:Nat) x s,row[(k+a.toNat) % row.length]?*>x->signs[k]?*>s->is[k]?*>(x*s))->Q (tw is)):W1 (du [tw row,.im (.int a),.li (signs.map .int)]) Q:=by
 show uD rfl rfl ?_;unfold cX;and_intros;show cA (λp:!Int=>[⇑(tw row),↥(.int a),Ud {.vw Uc Uc,.li (signs.map .int)},⇑(.li (p.map .int)),Uc]) (λj p=>p.length=j/\∀(k:Nat),k<j->∀x s,row[(k+a.toNat) % row.length]?*>x->signs[k]?*>s->p[k]?*>(x*s)) ?_;and_intros;rw[Jr];show{{by lia,by lia},[],by cbv,{Xr,λk e=>absurd e (Ni _)},λj is t ⟨f,g⟩=>?_,λis ⟨f,g⟩=>?_}
 .and_intros;show ym (by simp;lia) ?_;and_intros;rw[Jr];have r:((j:Int)+a) % (row.length:Int)=(((j+a.toNat) % row.length:Nat):Int):=by
   rw[Int.natCast_emod,Int.natCast_add];congr 1;lia
  rw[r];have o:(j+a.toNat) % row.length<row.length:=Mc _ (by lia);show vP (ns:=row) (by lia) (by lia) λy m i=>?_;and_intros;show bB (ns:=signs) (by lia) (by lia) λz u l=>?_;and_intros;show jg (pC (h y m).1 (h y m).2) ?_;and_intros;show fu (by simp[f];rw[Oe];lia) ?_;and_intros;show{is++[y*z],?_,by simp[f],λk e x s d c=>?_}
  .change _=[_,_,_,_,_];rw[JC]
   cbv
  .rcases Nat.lt_succ_iff_lt_or_eq.mp e with e|rfl;rw[Kr (by lia)];show g k e x s d c
   .rw[JR]at i l;rw[i]at d;rw[l]at c;cases d;cases c;rw[KP (by lia),f];simp
 .and_intros;show q is (by lia) λk x s d c=>g k (by have:=(Js.mp c).1;lia) x s d c
inductive Ru where
 | num (n:Int)|rd (x:Str) (row:!Int)|op (s:Str) (a b:Ru)|cond (a b c:Ru)
abbrev tRu:Ru->I
 | .num n=>.tup [.str "num",.int n]
 | .rd x d=>.tup [.str "at",.str x,.tup (d.map .int)]
 | .op s a b=>.tup [.str "op",.str s,tRu a,tRu b]
 | .cond a b c=>.tup [.str "if",tRu a,tRu b,tRu c]
abbrev Ru.leaves:Ru->!Ru
 | .op _ a b=>a.leaves++b.leaves
 | .cond a b c=>a.leaves++(b.leaves++c.leaves)
 | r=>[r]
abbrev Ru.depth:Ru->Nat
 | .op _ a b=>max a.depth b.depth+1
 | .cond a b c=>max a.depth (max b.depth c.depth)+1
 | _=>0
abbrev tm:!Str:=["+","-","*","min","max","rest","less"]
abbrev Ru.ok:Ru->Prop
 | .op s a b=>s∈tm/\a.ok/\b.ok
 | .cond a b c=>a.ok/\b.ok/\c.ok
 | _=>True
def iD{f:Type}{emb : f->I}{ns:!f}{kd:Kd}{a:Int}{d:R->Prop}(h:0<=a)(g:a<ns.length)(q:∀y,ns[a.toNat]?*>y->d {.ow,.im (emb y)}):W1 (ixR {kd,.li (ns.map emb)} (.im (.int a))) d:=by
 show yi h (by exists g) λx c=>?_;rw[JB]at c;cases e:ns[a.toNat]? with
 | none=>rw[e]at c;cases c
 | some y=>rw[e]at c;cases c;show q y e
def yh{f:Type}{emb : f->I}{ns:!f}{kd:Kd}{a:Int}{d:R->Prop}(h:0<=a)(g:a<ns.length)(q:∀y,ns[a.toNat]?*>y->d {.ow,.im (emb y)}):W1 (ixR {kd,.im (.tup (ns.map emb))} (.im (.int a))) d:=by
 show yk h (by exists g) λx c=>?_;rw[JB]at c;cases e:ns[a.toNat]? with
 | none=>rw[e]at c;cases c
 | some y=>rw[e]at c;cases c;show q y e
def Iy{c:MT}{a d:MS}{O:Rho}{Q:Fl->Rho->Prop}(M:Bool->Rho->Prop)(h:WT c O M)(g:∀O,M Ug O->WS a O Q)(f:∀O,M Ue O->WS d O Q):WS (mIf c a d) O Q:=bC (WT.mono h λb O m=>{λe=>g O (e▸m),λe=>f O (e▸m)})
def IX{c:Type}{l:!c}{n:Nat}{a b : c}(g:l[n]?*>a)(f:l[n+1]?*>b):l=l.take n++a::b::l.drop (n+2):=by
 have(i,d):=Js.mp g;have(h,e):=Js.mp f;rw[<-d,<-e,Lb,Lb,KY]
def IY{d:Type}{l:!d}{n:Nat}{a b c : d}(g:l[n]?*>a)(i:l[n+1]?*>b)(h:l[n+2]?*>c):l=l.take n++a::b::c::l.drop (n+3):=by
 have(p,f):=Js.mp g;have(o,e):=Js.mp i;have(m,j):=Js.mp h;rw[<-f,<-e,<-j,Lb,Lb,Lb,KY]
def xv{f:Int×Int}{rs:!Ru}(o:rs≠[])(A:rs.length<=1000)(e:∀r∈rs,r.ok){Q:T->T->Prop}(q:∀r J,r.leaves=rs.flatMap Ru.leaves->r.ok->Q (.im (tRu r)) (fT J)):W2 (kF [fT f,.li (rs.map tRu)]) Q:=by
 show NL [Ud {.io 0,fT f},Ud {.vw Uc Uc,.li (rs.map tRu)},Uc,Uc,Uc] rfl rfl rfl ?_;unfold iU;and_intros;show Ar (λs:(Int×Int)×!Ru=>[Ud {.io 0,fT s.1},Ud {.vw Uc Uc,.li (rs.map tRu)},⇑(.li (s.2.map tRu)),Uc,Uc]) (λs=>s.2≠[]/\s.2.length<=1000/\(∀r∈s.2,r.ok)/\s.2.flatMap Ru.leaves=rs.flatMap Ru.leaves) (λs=>s.2.length) (f,rs) (by cbv) ⟨o,A,e,Xr⟩ λs ⟨o,A,e,m⟩=>?_;have(f,i):=s;dsimp only at o A e m|-;and_intros;rw[Jr];clear_value x
 .and_intros;rw[Jr];show ar ⋯ ⋯ λg f v M=>?_;ac_nf;and_intros;show Iy (λb O=>∃f:Int×Int,O=[Ud {.io 0,fT f},Ud {.vw Uc Uc,.li (rs.map tRu)},⇑(.li (i.map tRu)),↥(.int g),Uc]/\(b=Ug->2<i.length)) ?_ ?_ ?_
  .and_intros;rw[Jr];clear_value y
   .and_intros;show ar ⋯ ⋯ λd f u w=>?_;ac_nf;and_intros;show{f,Xr,λ_=>by omega}
   .show{f,Xr,λz=>absurd z (by decide)}
  .rintro O ⟨f,rfl,y⟩;have y:=y rfl;and_intros;rw[Jr];generalize E:(if(i.length:Int)-3<g then(i.length:Int)-3 else g)=at1;have H:0<=at1/\at1+3<=i.length:=by subst E;split<;>omega
   show iD (ns:=i) H.1 ⋯ λa t=>?_;and_intros;show iD (ns:=i) ⋯ ⋯ λb p=>?_;and_intros;show iD (ns:=i) ⋯ ⋯ λc B=>?_;and_intros;rw[show(at1+1).toNat=at1.toNat+1 by omega]at p;rw[show(at1+2).toNat=at1.toNat+2 by omega]at B;have l:=IY t p B;show{[],i.map tRu,_,_,at1,at1+3,Xr,Xr,Xr,by cbv,{H.1,by omega,by simp;omega,by simp;rw[Oe];omega},Xr,Xr,?_};ac_nf;and_intros;show{(f,i.take at1.toNat++Ru.cond a b c::i.drop (at1.toNat+3)),?_,?_,by simp,?_,?_,?_}
   .rw[JC,Jt,Lc,Lm,show(at1+3).toNat=at1.toNat+3 by omega,JK]
    cbv
   .simp;omega
   .simp;omega
   .intro r j;rcases yaM j with j|j;show e r (KM j)
    .rcases ycM j with rfl|j;show{e a (ymG t),e b (ymG p),e c (ymG B)};show e r (K6 j)
   .rw[<-m]
    conv=>rhs;rw[l]
    simp[Ru.leaves]
  .rintro O ⟨f,rfl,_⟩;and_intros;show ar ⋯ ⋯ λd f u w=>?_;ac_nf;and_intros;show iD (emb:=I.str) (ns:=tm) u (by simpa[tm]using w) λL G=>?_;and_intros;show iD (ns:=i) v ⋯ λa t=>?_;and_intros;show iD (ns:=i) ⋯ ⋯ λb p=>?_;and_intros;rw[show(g+1).toNat=g.toNat+1 by omega]at p;have l:=IX t p;show{[],i.map tRu,_,_,g,g+2,Xr,Xr,Xr,by cbv,{v,by omega,by simp;omega,by simp;rw[Oe];omega},Xr,Xr,?_};ac_nf;and_intros;show{(f,i.take g.toNat++Ru.op L a b::i.drop (g.toNat+2)),?_,?_,by simp,?_,?_,?_}
   .rw[JC,Jt,Lc,Lm,show(g+2).toNat=g.toNat+2 by omega,JK]
    cbv
   .simp;omega
   .simp;omega
   .intro r j;rcases yaM j with j|j;show e r (KM j)
    .rcases ycM j with rfl|j;show{ymG G,e a (ymG t),e b (ymG p)};show e r (K6 j)
   .rw[<-m]
    conv=>rhs;rw[l]
    simp[Ru.leaves]
 .and_intros;obtain⟨r,rfl⟩:∃r,i=[r]:=by
   match i,o,x with
   | [r],_,_=>show⟨r,Xr⟩
   | _::_::_,_,h=>simp at h;omega
  and_intros;show q r f (by exists m) (e r ∅)
abbrev Ru.pre:Ru->!Ru
 | .num n=>[.num n]
 | .rd x d=>[.rd x d]
 | .op s a b=>.op s a b::(a.pre++b.pre)
 | .cond a b c=>.cond a b c::(a.pre++(b.pre++c.pre))
def yq(q:Q (~~~is.isEmpty)):W1 (tru (.li is)) Q:=w1 rfl q
abbrev tRd(p:Int×!Int):I:=.tup [.int p.1,.tup (p.2.map .int)]
abbrev aP(l:!(Int×!Int)):T:=.li (l.map tRd)
def gC(l:!(Int×!Int))(i:I):aP l ≠ .im i:=by unfold aP;intro z;cases z
def y8{ls:! !(Int×!Int)}{n:Nat}{l:!(Int×!Int)}{p:Int×!Int}(h:ls[n]?*>l):T.put (.lst (ls.map aP)) [.ix n] (.li (l.map tRd++[tRd p]))=.lst ((ls.set n (l++[p])).map aP):=by
 rw[y6 (u:=aP l) (by rw[JB,h];rfl),L7];simp[aP]
def An{O:Rho}{Q:Fl->Rho->Prop}{L X:Nat}{a:MA}{ls:! !(Int×!Int)}{i:Int}(n:Nat){l:!(Int×!Int)}(h : O[L]?*>(⇑(.lst (ls.map aP))))(j : O[X]?*>(↥(.int i)))(r:i=(n:Int))(g:ls[n]?*>l)(hz:l.length<1000)(m:a.mu.contains L=Ue)
  (o:WA a O λrs c=>∃p,rs=[{.ow,.im (tRd p)}]/\c[L]?*>(⇑(.lst (ls.map aP)))/\Q .nx ((aB [L] c).set L (⇑(.lst ((ls.set n (l++[p])).map aP))))):WS (bU (fj L [] apT (mIx (ag L) (ag X)) a)) O Q:=by
 subst r;show tJ (Ap (Am (hJ h (hJ j (gu (by cbv) ?_)))));have f:(ls.map aP)[(n:Int).toNat]?*>(aP l):=by rw[JR,JB,g];rfl
 show sM (u:=aP l) (kd:=.vw (Ud L) (Ud [.ix (n:Int).toNat])) ⋯ f (gC l) rfl ?_;rw[JR];show WA.mono o λrs c ⟨p,e,d,q⟩=>?_;subst e;show gu ?_ (tK rfl (tV (sj (DL d rfl ?_))))
 .change eR a.mu {.vw (Ud L) (Ud [.ix n]),aP l}=Ug;unfold eR;dsimp[Kd.root];rw[m];rfl
 .show fu (is:=l.map tRd) (by simp;rw[Oe];omega) ?_;rw[y8 g];show q
abbrev Looks(P:Nat->Int×!Int->Prop)(c:Nat)(m:Nat)(ls:! !(Int×!Int)):Prop:=ls.length=m/\∀x l,ls[x]?*>l->l.length<=c/\∀p∈l,P x p
def Looks.get(h:Looks P c m ls)(a:n<m):∃l,ls[n]?*>l/\l.length<=c/\∀p∈l,P n p:=by
 have:n<ls.length:=by rw[h.1];show a
 show{ls[n],JW this,h.2 n _ (JW this)}
def f7{c:Type}{l:!c}{n x:Nat}{a b : c}(h:(l.set n a)[x]?*>b):(n=x/\b=a)\/(n≠x/\l[x]?*>b):=by
 by_cases e:n=x
 .subst e;have:=(Js.mp h).1;rw[Kv (by exists this)]at h;cases h;show .inl ⟨Xr,Xr⟩
 .rw[JM e]at h;show .inr ⟨e,h⟩
def Looks.set{P:Nat->Int×!Int->Prop}{c m:Nat}{ls:! !(Int×!Int)}{n:Nat}{l a:!(Int×!Int)}(h:Looks P c m ls)(g:ls[n]?*>l)(e:a.length<=c)(f:∀p∈a,P n p):Looks P c m (ls.set n a):=by
 show{by rw[K8];show h.1,λx a d=>?_};rcases f7 d with⟨rfl,rfl⟩|⟨_,d⟩;show⟨e,f⟩;show h.2 x a d
abbrev nE(w m:Int)(p:Int×!Int):Prop:=0<=p.1/\p.1<m/\p.2.length=w.toNat/\∀x∈p.2,-2<=x/\x<=2
def AV{f:Int×Int}{w m:Int}(X:1<=w)(H:w<=3)(Y:1<=m)(Z:m<=6){Q:T->T->Prop}(q:∀ls N,Looks (λ_ p=>nE w m p) 3 m.toNat ls->Q (.lst (ls.map aP)) (fT N)):W2 (fw [fT f,.im (.int w),.im (.int m)]) Q:=by
 show i7 rfl rfl ?_;unfold cU;and_intros;show ny (λ_:Unit=>[Ud {.io 0,fT f},↥(.int w),↥(.int m),Uc,Uc,Uc]) aP gC (λ_ _ l=>∀x∈l,x=[]) ?_;and_intros;show{{by omega,by omega},by cbv,(),by cbv,by simp,λj _ l J a=>?_,λ_ l a L=>?_}
 .and_intros;show{[],(),Xr,by cbv,ba a rfl}
 and_intros;show cA (λs:(Int×Int)×! !(Int×!Int)=>[Ud {.io 0,fT s.1},↥(.int w),↥(.int m),⇑(.lst (s.2.map aP)),Uc,Uc]) (λj s=>Looks (λ_ p=>nE w m p) 3 m.toNat s.2/\∀y l,j<=y->s.2[y]?*>l->l=[]) ?_;and_intros;show{{by omega,by omega},(f,l),by cbv,{{L,λx i o=>by rw[a i (ymG o)];simp},λy i _ o=>a i (ymG o)},λx s o ⟨g,h⟩=>?_,λs ⟨g,_⟩=>?_}
 .and_intros;show cA (λt:(Int×Int)×! !(Int×!Int)=>[Ud {.io 0,fT t.1},↥(.int w),↥(.int m),⇑(.lst (t.2.map aP)),↥(.int x),Uc]) (λj t=>Looks (λ_ p=>nE w m p) 3 m.toNat t.2/\(∀l,t.2[x]?*>l->l.length<=j)/\∀y l,x+1<=y->t.2[y]?*>l->l=[]) ?_;and_intros;show ar ⋯ ⋯ λd f M O=>?_;ac_nf;and_intros;show{{by omega,by omega},(f,s.2),by cbv,{g,λl a=>by rw[h x l (JA _) a];simp,λy l G a=>h y l ⋯ a},λj t J ⟨g,U,h⟩=>?_,λt ⟨g,_,h⟩=>by and_intros;show{t,by cbv,g,h}};have(l,a,S,u):=g.get (n:=x) ⋯;iterate 2 infer_instance
  show An (ls:=t.2) x rfl rfl rfl a ⋯ (by cbv) ?_;and_intros;show ar ⋯ ⋯ λe f A B=>?_;ac_nf;and_intros;show zN X H λE f r v=>?_;ac_nf;and_intros;have:=U l a;show{(e,E),Xr,Xr,?_};and_intros;show{(f,t.2.set x (l++[(e,E)])),by cbv,g.set a (by simp;omega) (ba u ⟨A,B,r,v⟩),λi c=>?_,λy i G c=>?_}
  .rcases f7 c with⟨_,rfl⟩|⟨z,_⟩;simp;omega;show absurd rfl z
  .rcases f7 c with⟨z,_⟩|⟨_,c⟩;omega;show h y i G c
 .and_intros;show q s.2 s.1 g
abbrev rX(w m:Int)(x:Nat)(p:Int×!Int):Prop:=nE w m p/\((p.1<x/\∀e∈p.2,e=0) \/ ∃(k:Nat) (y:Int) (r:!Int),p.2=Jw k 0++y::r/\y<0)
def ug(h1:1<=w)(U:w<=3)(h3:1<=m)(h4:m<=6)(q:∀ls f',Looks (rX w m) 3 m.toNat ls->Q (.lst (ls.map aP)) (fT f')):W2 (dm [fT f,.im (.int w),.im (.int m)]) Q:=by
 show i7 rfl rfl ?_;unfold cV;and_intros;show ny (λ_:Unit=>[Ud {.io 0,fT f},↥(.int w),↥(.int m),Uc,Uc,Uc]) aP gC (λ_ _ l=>∀x∈l,x=[]) ?_;and_intros;show{{by lia,by lia},by cbv,(),by cbv,by simp,λj _ l X c=>?_,λ_ l c Y=>?_}
 .and_intros;show{[],(),Xr,by cbv,ba c rfl}
 and_intros;show cA (λs:(Int×Int)×! !(Int×!Int)=>[Ud {.io 0,fT s.1},↥(.int w),↥(.int m),⇑(.lst (s.2.map aP)),Uc,Uc]) (λj s=>Looks (rX w m) 3 m.toNat s.2/\∀y l,j<=y->s.2[y]?*>l->l=[]) ?_;and_intros;show{{by lia,by lia},(f,l),by cbv,{{Y,λx g J=>by rw[c g (ymG J)];simp},λy g _ J=>c g (ymG J)},λx s J ⟨o,B⟩=>?_,λs ⟨o,_⟩=>?_}
 .and_intros;show cA (λt:(Int×Int)×! !(Int×!Int)=>[Ud {.io 0,fT t.1},↥(.int w),↥(.int m),⇑(.lst (t.2.map aP)),↥(.int x),Uc]) (λj t=>Looks (rX w m) 3 m.toNat t.2/\(∀l,t.2[x]?*>l->l.length<=j)/\∀y l,x+1<=y->t.2[y]?*>l->l=[]) ?_;and_intros;show ar (by lia) (by lia) λd f Z hd1=>?_;ac_nf;and_intros;show{{by lia,by lia},(f,s.2),by cbv,{o,λl c=>by rw[B x l (JA _) c];simp,λy l E c=>B y l (by lia) c},λj t X ⟨o,hc,B⟩=>?_,λt ⟨o,_,B⟩=>by and_intros;show{t,by cbv,o,B}};have(l,c,hl3,M):=o.get (n:=x) (by lia);have hcl:=hc l c;have r:∀(e:Int) (a:!Int) (f:Int×Int),rX w m x (e,a)->Looks (rX w m) 3 m.toNat (t.2.set x (l++[(e,a)]))/\(∀g,(t.2.set x (l++[(e,a)]))[x]?*>g->g.length<=j+1)/\∀y g,x+1<=y->(t.2.set x (l++[(e,a)]))[y]?*>g->g=[]:=λe a f p=>by
   show{o.set c (by simp;lia) (ba M p),λg h=>?_,λy g E h=>?_}
   .rcases f7 h with⟨_,rfl⟩|⟨z,_⟩;simp;lia;show absurd rfl z
   .rcases f7 h with⟨z,_⟩|⟨_,h⟩
    .lia
    .show B y g E h
  have i:∀f,WS (bU (fj 3 [] apT (mIx (ag 3) (ag 4)) (ac (aD [] (ac (ao 0 0 am (aa 0 (aa 2 mNil))) (ac (ao 0 0 e7 (aa 0 (aa 1 mNil))) mNil))) mNil))) [Ud {.io 0,fT f},↥(.int w),↥(.int m),⇑(.lst (t.2.map aP)),↥(.int x),↥(.int j)] λG O=>G=.nx/\∃e a f,O=[Ud {.io 0,fT f},↥(.int w),↥(.int m),⇑(.lst ((t.2.set x (l++[(e,a)])).map aP)),↥(.int x),↥(.int j)]/\rX w m x (e,a):=λf=>by
   show An (ls:=t.2) x rfl rfl rfl c (by lia) (by cbv) ?_;and_intros;show ar (by lia) (by lia) λe f u v=>?_;ac_nf;and_intros;show AI h1 U λa f L N hb=>?_;ac_nf;and_intros;show{(e,a),Xr,Xr,by trivial,e,a,f,by cbv,⟨u,v,L,N⟩,.inr hb}
  have A:∀f,(0:Int)<x->WS (bU (fj 3 [] apT (mIx (ag 3) (ag 4)) (ac (aD [] (ac (ao 0 0 am (aa 0 (aa 4 mNil))) (ac (mOp cK (aD [] (ac (mC (.int 0)) mNil)) (ag 1)) mNil))) mNil))) [Ud {.io 0,fT f},↥(.int w),↥(.int m),⇑(.lst (t.2.map aP)),↥(.int x),↥(.int j)] λG O=>G=.nx/\∃e a f,O=[Ud {.io 0,fT f},↥(.int w),↥(.int m),⇑(.lst ((t.2.set x (l++[(e,a)])).map aP)),↥(.int x),↥(.int j)]/\rX w m x (e,a):=λf H=>by
   show An (ls:=t.2) x rfl rfl rfl c (by lia) (by cbv) ?_;and_intros;show ar (by lia) (by lia) λe f u v=>?_;ac_nf;and_intros;show yn (is:=[.int 0]) {by simp,by decide,by lia,by lia} ?_;have er:(Jw w.toNat [I.int 0]).flatten=(Jw w.toNat (0:Int)).map .int:=by simp
   rw[er];and_intros;show{(e,Jw w.toNat 0),Xr,Xr,by trivial,e,_,f,by cbv,{u,by lia,by simp,λy E=>?_},.inl {v,λy E=>(Ls.mp E).2}};rw[(Ls.mp E).2];decide
  and_intros
  (refine bC ?_;and_intros;clear_value H)
  .and_intros;show ar (by lia) (by lia) λz f S hz1=>?_;ac_nf;and_intros;clear_value hz
   .show WS.mono (A f H) ?_;rintro G O ⟨rfl,e,a,f,rfl,p⟩;and_intros;show{(f,_),by cbv,r e a f p}
   .show WS.mono (i f) ?_;rintro G O ⟨rfl,e,a,f,rfl,p⟩;and_intros;show{(f,_),by cbv,r e a f p}
  .show{λz=>absurd z (by decide),λ_=>?_};show WS.mono (i _) ?_;rintro G O ⟨rfl,e,a,f,rfl,p⟩;and_intros;show{(f,_),by cbv,r e a f p}
 .and_intros;show q s.2 s.1 o
def Looks.mono(h:Looks P c m ls)(d:c<=c'):Looks P c' m ls:={h.1,λx l a=>{Ks (h.2 x l a).1 d,(h.2 x l a).2}}
abbrev tTr(p:Int×Int×!Int):I:=.tup [.int p.1,.int p.2.1,.tup (p.2.2.map .int)]
abbrev IL(w:Int)(p:Int×Int×!Int):Prop:=0<=p.1/\p.1<w/\0<=p.2.1/\p.2.1<w/\p.2.2.length=w.toNat/\∀x∈p.2.2,-2<=x/\x<=2
def tG{row signs:!Int}{a:Int}(p:1<=row.length)(j:row.length<=1000)(u:0<=a)(hs:signs.length=row.length)(d:∀x∈row,-2<=x/\x<=2)(l:∀x∈signs,x=1\/x = -1){Q:T->Prop}(q:∀is:!Int,is.length=row.length->(∀x∈is,-2<=x/\x<=2)->(∀(k:Nat) x s,row[(k+a.toNat) % row.length]?*>x->signs[k]?*>s->is[k]?*>(x*s))->Q (tw is)):W1 (du [tw row,.im (.int a),.li (signs.map .int)]) Q:=by
 show wF p j u hs (λx o=>by have:=d x o;lia) λis i g=>q is i (λy v=>?_) g;have(k,h):=KW.mp v;have t:=(Js.mp h).1;have r:(k+a.toNat) % row.length<row.length:=Mc _ (by lia);have e:row[(k+a.toNat) % row.length]?=Ud row[(k+a.toNat) % row.length]:=JW r;have f:signs[k]?=Ud signs[k]:=JW (by lia);have c:=g k _ _ e f;rw[h]at c;have w:=d _ (ymG e);have m:=l _ (ymG f);have:y=row[(k+a.toNat) % row.length]*signs[k]:=by exists c
 rw[this];rcases m with z|z<;>rw[z]<;>lia
def EF{f:Int×Int}{w m:Int}(h1:2<=w)(h2:w<=3)(h3:w<=m)(h4:m<=6){Q:T->T->Prop}(q:∀ls f',Looks (λ_ p=>nE w m p) 7 m.toNat ls->Q (.lst (ls.map aP)) (fT f')):W2 (dr [fT f,.im (.int w),.im (.int m)]) Q:=by
 show NL [Ud {.io 0,fT f},↥(.int w),↥(.int m),Uc,Uc,Uc,Uc,Uc,Uc,Uc,Uc] rfl rfl rfl ?_;unfold bZ;and_intros;show ar (by lia) (by lia) λE f a1 b1=>?_;ac_nf;and_intros;show ar (by lia) (by lia) λd2 f a2 b2=>?_;ac_nf;and_intros;show ar (by lia) (by lia) λd3 f a3 b3=>?_;ac_nf;and_intros;show ar (by lia) (by lia) λd4 f a4 b4=>?_;ac_nf;and_intros;show fu (by simp;rw[Oe];lia) ?_;show t9 (j2 ?_);show WS.mono (Q:=λfl O=>fl=.nx/\∃(f:Int×Int) (i:!(Int×Int×!Int)),O=[Ud {.io 0,fT f},↥(.int w),↥(.int m),↥(.int (1+E)),⇑(.li (i.map tTr)),Uc,Uc,Uc,Uc,Uc,Uc]/\(∀p∈i,IL w p)/\i.length<=7) ?_ ?_
 .and_intros
  (refine bC ?_;and_intros;clear_value hw)
  .subst hw;and_intros;show ar (by lia) (by lia) λd5 f a5 b5=>?_;ac_nf;and_intros;show ar (by lia) (by lia) λd6 f a6 b6=>?_;ac_nf;and_intros;show gJ (by simp;rw[Oe];lia) ?_;and_intros;show{by trivial,f,[(0,0,[0,0,1+E]),(1,1,[0,0,0-1]),(0,1,[0,0-1,0]),(1,0,[0,0,d5]),(2,2,[0,1+d6,0]),(0,2,[0-1,0,1]),(2,0,[0,0,0])],by cbv,?_,by simp};dsimp[JV,JZ,or_false];rintro p (rfl|rfl|rfl|rfl|rfl|rfl|rfl)<;>(refine{by simp,by simp,by simp,by simp,Xr,?_};dsimp[JV,JZ,or_false];lia)
  .have M:w=2:=by lia
   subst M;and_intros;show{by trivial,f,[(0,0,[0,1+E]),(1,1,[0,0-1-d2]),(0,1,[0-1,d3-1]),(1,0,[0-d4,0])],by cbv,?_,by simp};dsimp[JV,JZ,or_false];rintro p (rfl|rfl|rfl|rfl)<;>(refine{by simp,by simp,by simp,by simp,Xr,?_};dsimp[JV,JZ,or_false];lia)
 rintro fl O ⟨rfl,f,i,rfl,N,hel⟩;and_intros;show ar (by lia) (by lia) λB f aw bw=>?_;ac_nf;and_intros;show cj (λf:Int×Int=>[Ud {.io 0,fT f},↥(.int w),↥(.int m),↥(.int (1+E)),⇑(.li (i.map tTr)),Uc,Uc,Uc,Uc,Uc,Uc]) I.int (λj _ l=>l.length=j/\∀x∈l,x=1\/x = -1) ?_;and_intros;show{{by lia,by lia},by cbv,f,by cbv,{Xr,by simp},λj f l X ⟨c,g⟩=>?_,λf signs ⟨hsl,Z⟩=>?_}
 .and_intros;show ar (by lia) (by lia) λd f hd0 hd1=>?_;ac_nf;and_intros;show{1-2*d,f,Xr,by cbv,by simp[c],ba g (by lia)}
 and_intros;show ny (λ_:Unit=>[Ud {.io 0,fT f},↥(.int w),↥(.int m),↥(.int (1+E)),⇑(.li (i.map tTr)),↥(.int B),⇑(.li (signs.map .int)),Uc,Uc,Uc,Uc]) aP gC (λ_ _ l=>∀x∈l,x=[]) ?_;and_intros;show{{by lia,by lia},by cbv,(),by cbv,by simp,λj _ l X c=>?_,λ_ l c hn=>?_}
 .and_intros;show{[],(),Xr,by cbv,ba c rfl}
 and_intros;show lJ (λt:! !(Int×!Int)=>[Ud {.io 0,fT f},↥(.int w),↥(.int m),↥(.int (1+E)),⇑(.li (i.map tTr)),↥(.int B),⇑(.li (signs.map .int)),⇑(.lst (t.map aP)),Uc,Uc,Uc]) (λj t=>Looks (λ_ p=>nE w m p) j m.toNat t/\∀y l,3<=y->t[y]?*>l->l=[]) ?_;and_intros;show{_,(show il _*>((i.map tTr).map _)from rfl),by cbv,l,by cbv,{{hn,λx r g=>by rw[c r (ymG g)];simp},λy r _ g=>c r (ymG g)},λj x t g ⟨h,G⟩=>?_,λt ⟨h,G⟩=>?_}
 .rw[JB]at g;cases e:i[j]? with
  | none=>rw[e]at g;cases g
  | some p=>
   rw[e]at g;cases g;have(x,o,J):=p;have hp:=N _ (ymG e);have(p1,p2,p3,p4,p5,p6):=hp;simp only at p1 p2 p3 p4 p5 p6;have X:=(Js.mp e).1;have(l,c,S,v):=h.get (n:=x.toNat) (by lia);iterate 9 infer_instance
   show An (ls:=t) x.toNat rfl rfl (by lia) c (by lia) (by cbv) ?_;and_intros;show tG (row:=J) (signs:=signs) (by lia) (by lia) aw (by lia) p6 Z λH u A _=>?_;and_intros;show{(o,H),Xr,Xr,?_};and_intros;show{t.set x.toNat (l++[(o,H)]),by cbv,(h.mono (LM j)).set c (by simp;lia) (ba v {p3,(by lia:o<m),u.trans p5,A}),λy r L a=>?_};rcases f7 a with⟨z,_⟩|⟨_,a⟩
   .lia
   .show G y r L a
 .and_intros;show Al (λs:(Int×Int)×! !(Int×!Int)=>[Ud {.io 0,fT s.1},↥(.int w),↥(.int m),↥(.int (1+E)),⇑(.li (i.map tTr)),↥(.int B),⇑(.li (signs.map .int)),⇑(.lst (s.2.map aP)),Uc,Uc,Uc]) (λj s=>Looks (λ_ p=>nE w m p) 7 m.toNat s.2/\∀y l,3+j<=y->s.2[y]?*>l->l=[]) ?_;and_intros;rw[Jr]at h;show{{by lia,by lia,by lia,by lia},(f,t),by cbv,{h.mono hel,λy r L a=>G y r (by lia) a},λj s X ⟨h,G⟩=>?_,λs ⟨h,_⟩=>?_}
  .have(l,c,S,v):=h.get (n:=3+j) (by lia);have U:=G _ l (JA _) c;iterate 2 infer_instance
   show An (ls:=s.2) (3+j) rfl rfl (by lia) c (by lia) (by cbv) ?_;and_intros;show ar (by lia) (by lia) λe f Y he1=>?_;ac_nf;and_intros;show zN (by lia) h2 λH f u A=>?_;ac_nf;and_intros;show{(e,H),Xr,Xr,?_};and_intros;show{(f,s.2.set (3+j) (l++[(e,H)])),by cbv,h.set c (by simp[U]) (ba v {Y,(by lia:e<m),u,A}),λy r L a=>?_};rcases f7 a with⟨z,_⟩|⟨_,a⟩
   .lia
   .show G y r (by lia) a
  .and_intros;show q s.2 s.1 h
def wc{ls:! !(Int×!Int)}{n:Nat}{l:!(Int×!Int)}{p:Int×!Int}(h:ls[n]?*>l):T.put (.lst (ls.map aP)) [.ix n] (.li (tRd p::l.map tRd))=.lst ((ls.set n (p::l)).map aP):=by
 rw[y6 (u:=aP l) (by rw[JB,h];rfl),L7];simp[aP]
def Iz{O:Rho}{Q:Fl->Rho->Prop}{L X:Nat}{a:MA}{ls:! !(Int×!Int)}{i:Int}(n:Nat){l:!(Int×!Int)}(h : O[L]?*>(⇑(.lst (ls.map aP))))(j : O[X]?*>(↥(.int i)))(r:i=(n:Int))(g:ls[n]?*>l)(hz:l.length<1000)(m:a.mu.contains L=Ue)
  (o:WA a O λrs c=>∃p,rs=[{.ow,.im (.int 0)},{.ow,.im (tRd p)}]/\c[L]?*>(⇑(.lst (ls.map aP)))/\Q .nx ((aB [L] c).set L (⇑(.lst ((ls.set n (p::l)).map aP))))):WS (bU (fj L [] pv (mIx (ag L) (ag X)) a)) O Q:=by
 subst r;show tJ (Ap (Am (hJ h (hJ j (gu (by cbv) ?_)))));have f:(ls.map aP)[(n:Int).toNat]?*>(aP l):=by rw[JR,JB,g];rfl
 show sM (u:=aP l) (kd:=.vw (Ud L) (Ud [.ix (n:Int).toNat])) (by lia) f (gC l) rfl ?_;rw[JR];show WA.mono o λrs c ⟨p,e,d,q⟩=>?_;subst e;show gu ?_ (tK rfl (tV (tV (sj (DL d rfl ?_)))))
 .change eR a.mu {.vw (Ud L) (Ud [.ix n]),aP l}=Ug;unfold eR;dsimp[Kd.root];rw[m];rfl
 .show Da (is:=l.map tRd) {by lia,by simp,by simp;rw[Oe];lia} ?_;change Q _ (Mp _ _ (Ud {_,T.put _ _ (.li (tRd p::l.map tRd))}));rw[wc g];show q
abbrev RR(rest row:!Int):Prop:=row.length=rest.length/\∀(i:Nat) y r,row[i]?*>y->rest[i]?*>r->-2<=y/\y<=2/\-2<=r+y/\r+y<=2
def Co{f:Int×Int}{w m:Int}(h1:1<=w)(h2:w<=3)(h3:1<=m)(h4:m<=6){Q:T->T->Prop}(q:∀ls f',Looks (λ_ p=>nE w m p) 4 m.toNat ls->Q (.lst (ls.map aP)) (fT f')):W2 (fD [fT f,.im (.int w),.im (.int m)]) Q:=by
 show NL [Ud {.io 0,fT f},↥(.int w),↥(.int m),Uc,Uc,Uc,Uc,Uc] rfl rfl rfl ?_;unfold cW;and_intros;show ug h1 h2 h3 h4 λls f t=>?_;ac_nf;and_intros;show ar (by lia) (by lia) λd f hd0 hd1=>?_;ac_nf;and_intros;show sN (is:=[.int 0]) {by lia,by lia,by simp;rw[Oe];lia} ?_;have A:(Jw w.toNat [I.int 0]).flatten=(Jw w.toNat (0:Int)).map .int:=by simp
 rw[A];and_intros;show cA (λs:(Int×Int)×! !(Int×!Int)×!Int=>[Ud {.io 0,fT s.1},↥(.int w),↥(.int m),⇑(.lst (s.2.1.map aP)),↥(.int (1+d)),⇑(.li (s.2.2.map .int)),Uc,Uc]) (λj s=>Looks (λ_ p=>nE w m p) 4 m.toNat s.2.1/\(∀y l,j<=y->s.2.1[y]?*>l->l.length<=3)/\s.2.2.length=w.toNat/\∀x∈s.2.2,-2<=x/\x<=2) ?_;and_intros;show{{by lia,by lia},(f,ls,Jw w.toNat 0),by cbv,{{t.1,λx l c=>{by have:=(t.2 x l c).1;lia,λp M=>((t.2 x l c).2 p M).1}},λy l _ c=>(t.2 y l c).1,by simp,λx c=>by rw[(Ls.mp c).2];decide},λk s hk ⟨G,hE,X,u⟩=>?_,λs ⟨G,_⟩=>?_}
 .have(f,ls,rest):=s;simp only at G hE X u;have(l,h,Z,hlP):=G.get (n:=k) (by lia);have hl3:=hE k l (JA _) h;and_intros;show cj (λf:Int×Int=>[Ud {.io 0,fT f},↥(.int w),↥(.int m),⇑(.lst (ls.map aP)),↥(.int (1+d)),⇑(.li (rest.map .int)),↥(.int k),Uc]) I.int (λj _ l=>l.length=j/\∀x∈l,-1<=x/\x<=1) ?_;and_intros;show{{by lia,by lia},by cbv,f,by cbv,{Xr,by simp},λj f l hj ⟨h,c⟩=>?_,λf r1 ⟨hl1,hx1⟩=>?_}
  .and_intros;show ar (by lia) (by lia) λd f hd0 hd1=>?_;ac_nf;and_intros;show{d-1,f,Xr,by cbv,by simp[h],ba c (by lia)}
  and_intros;show cj (λ_:Unit=>[Ud {.io 0,fT f},↥(.int w),↥(.int m),⇑(.lst (ls.map aP)),↥(.int (1+d)),⇑(.li (rest.map .int)),↥(.int k),⇑(.li (r1.map .int))]) I.int (λj _ l=>l.length=j/\∀(i:Nat) y r,l[i]?*>y->rest[i]?*>r->-2<=y/\y<=2/\-2<=r+y/\r+y<=2) ?_;and_intros;show{{by lia,by lia},by cbv,(),by cbv,{Xr,by simp},λj _ l hj ⟨h,c⟩=>?_,λ_ r2 ⟨hl2,hx2⟩=>?_}
  .and_intros;show bB (ns:=rest) (by lia) (by lia) λr S A=>?_;and_intros;show bB (ns:=r1) (by lia) (by lia) λy H ey=>?_;and_intros;show bB (ns:=rest) (by lia) (by lia) λY g N=>?_;rw[A]at N;cases (N);and_intros;have b1:=u r S;have b2:=hx1 y H;show{_,(),Xr,by cbv,by simp[h],λi y' Y a g=>?_};by_cases E:i<l.length
   .rw[Kr E]at a;show c i y' Y a g
   .have:=(Js.mp a).1;simp at this;have B:i=j:=by lia
    subst B;rw[KP (by lia)]at a;simp[h]at a;rw[JR]at A;rw[A]at g;cases g;subst a;split<;>split<;>lia
  and_intros;show WS.mono (Q:=λfl O=>fl=.nx/\∃o:!Int,O=[Ud {.io 0,fT f},↥(.int w),↥(.int m),⇑(.lst (ls.map aP)),↥(.int (1+d)),⇑(.li (rest.map .int)),↥(.int k),⇑(.li (No .int o))]/\RR rest o) ?_ ?_
  ·(refine bC ?_;and_intros;clear_value hlast)
   .and_intros;show bg (λ_:Unit=>[Ud {.io 0,fT f},↥(.int w),↥(.int m),⇑(.lst (ls.map aP)),↥(.int (1+d)),⇑(.li (rest.map .int)),↥(.int k),⇑(.li (r2.map .int))]) I.int (λj _ l=>l.length=j/\∀(i:Nat) y r,l[i]?*>y->rest[i]?*>r->y = -r) ?_;and_intros;show{rest.map .int,Xr,by simp;rw[Oe];lia,by cbv,(),by cbv,{Xr,by simp},λj x _ l c ⟨h,hq⟩=>?_,λ_ o ⟨J,hq3⟩=>?_}
    .rw[JB]at c;cases e:rest[j]? with
     | none=>rw[e]at c;cases c
     | some r=>
      rw[e]at c;cases c;and_intros;show{0-r,(),Xr,by cbv,by simp[h],λi y' Y a g=>?_};by_cases E:i<l.length
      .rw[Kr E]at a;show hq i y' Y a g
      .have:=(Js.mp a).1;simp at this;have B:i=j:=by lia
       subst B;rw[KP (by lia)]at a;simp[h]at a;rw[e]at g;cases g
       lia
    .and_intros;show{by trivial,o,by cbv,by simpa using J,λi y r H S=>?_};have:=hq3 i y r H S;have:=u r (ymG S)
     lia
   .and_intros;show{by trivial,r2,by cbv,by lia,hx2}
  .rintro fl O ⟨rfl,o,rfl,U,L⟩;and_intros;show cj (λ_:Unit=>[Ud {.io 0,fT f},↥(.int w),↥(.int m),⇑(.lst (ls.map aP)),↥(.int (1+d)),⇑(.li (rest.map .int)),↥(.int k),⇑(.li (o.map .int))]) I.int (λj _ l=>l.length=j/\∀x∈l,-2<=x/\x<=2) ?_;and_intros;show{{by lia,by lia},by cbv,(),by cbv,{Xr,by simp},λj _ l hj ⟨h,c⟩=>?_,λ_ r4 ⟨Z,hx4⟩=>?_}
   .and_intros;show bB (ns:=rest) (by lia) (by lia) λr S A=>?_;and_intros;show bB (ns:=o) (by lia) (by lia) λy H ey=>?_;and_intros;have:=L _ y r ey A;show{r+y,(),Xr,by cbv,by simp[h],ba c (by lia)}
   iterate 2 infer_instance
   show Iz (ls:=ls) k rfl rfl rfl h (by lia) (by cbv) ?_;and_intros;have hkm:((k:Int)+1) % (1+d)<m:=by have:=Lf ((k:Int)+1) (show 0<1+d by lia);lia
   have hk0:0<=((k:Int)+1) % (1+d):=Lw _ (by lia);show{(((k:Int)+1) % (1+d),o),Xr,Xr,?_};and_intros;show{(f,ls.set k ((((k:Int)+1) % (1+d),o)::l),r4),by cbv,G.set h (by simp;lia) (λp M=>?_),λy l' H v=>?_,by lia,hx4}
   .rcases ycM M with rfl|M
    .show{hk0,hkm,by simpa[X]using U,λx c=>?_};have(i,hi):=KW.mp c;have hil:=(Js.mp hi).1;have:i<rest.length:=by simp only at hil;lia
     have:=L i x _ hi (JW this)
     lia
    .show hlP p M
   .rcases f7 v with⟨z,_⟩|⟨_,v⟩
    .lia
    .show hE y l' (by lia) v
 .and_intros;show q s.2.1 s.1 G
def Looks.imp(h:Looks P c m ls)(d:c<=c')(e:∀x p,P x p->P' x p):Looks P' c' m ls:={h.1,λx l a=>{Ks (h.2 x l a).1 d,λp f=>e x p ((h.2 x l a).2 p f)}}
def zt(q:∀(w m:Int) ls s,1<=w->w<=3->1<=m->m<=6->Looks (λ_ p=>nE w m p) 7 m.toNat ls->Q (.tup [.im (.int w),.lst (ls.map aP)]) (fT s)):W2 (kJ [fT f]) Q:=by
 show NL [Ud {.io 0,fT f},Uc,Uc,Uc,Uc] rfl rfl rfl ?_;unfold iY;and_intros;show ar (by lia) (by lia) λi f v r=>?_;ac_nf;and_intros;show ar (by lia) (by lia) λe f u t=>?_;ac_nf;and_intros;try ac_nf
 show bB (ns:=[1,2,2,2,2,1,2,3]) (Lw _ (by lia)) (by have:=Lf e (show(0:Int)<8 by lia);exists this) λw y _=>?_;have a:1<=w/\w<=3:=by simp at y;lia
 and_intros;show bB (ns:=[3,6]) (by lia) (by simp;lia) λj g _=>?_;have h:3<=j/\j<=6:=by simp at g;lia
 and_intros;show ar (by lia) (by lia) λd f o l=>?_;ac_nf;and_intros
 (refine bC ?_;and_intros;clear_value E)
 .and_intros;show AV a.1 a.2 (by lia) (by lia) λls f c=>?_;ac_nf;and_intros;show q w (1+d) ls f a.1 a.2 (by lia) (by lia) (c.mono (by lia))
 and_intros
 (refine bC ?_;and_intros;clear_value B)
 .and_intros;show ug a.1 a.2 (by lia) (by lia) λls f c=>?_;ac_nf;and_intros;show q w (1+d) ls f a.1 a.2 (by lia) (by lia) (c.imp (by lia) λx p z=>z.1)
 and_intros
 (refine bC ?_;and_intros;clear_value A)
 .and_intros;show Co a.1 a.2 (by lia) (by lia) λls f c=>?_;ac_nf;and_intros;show q w (1+d) ls f a.1 a.2 (by lia) (by lia) (c.mono (by lia))
 and_intros;try ac_nf
 show EF (by split<;>lia) (by split<;>lia) (by split<;>split<;>split<;>lia) (by split<;>split<;>split<;>lia) λls f c=>?_;ac_nf;and_intros;show q _ _ ls f (by split<;>lia) (by split<;>lia) (by split<;>split<;>split<;>lia) (by split<;>split<;>split<;>lia) c
abbrev NY:!Str:=["min","max","rest","less","if"]
abbrev nmB(S:!Nat) (a:Nat) (ch k:Nat):!Nat:=S.take a++ch::S.drop a++(if k % 2=1 then [113]else [])
abbrev nmS(S:!Nat) (a:Nat) (ch k:Nat):Str:=if oL (nmB S a ch k)∈NY then oL (nmB S a ch k++[119])else oL (nmB S a ch k)
def Je:113∈sL LET:=by decide +kernel
def Jm:119∈sL LET:=by decide +kernel
def AD:∀i<26,∀j<26,(sL LET).getD i 0=(sL LET).getD j 0->i=j:=by decide +kernel
def DY:∀z∈NY,oL (sL z++[119])∉NY:=by decide +kernel
def fY:(nmB S a ch k).length=S.length+1+k % 2:=by
 unfold nmB;have h:k % 2=0\/k % 2=1:=by lia
 rw[JP,JP,JH,J1,Kt];rcases h with h|h<;>simp[h]<;>lia
def Eo(d:∀c∈S,c∈sL LET)(e:ch∈sL LET):∀c∈nmB S a ch k,c∈sL LET:=λc h=>by
 unfold nmB at h;rcases yaM h with h|h
 .rcases yaM h with h|h;show d c (KM h)
  .rcases ycM h with rfl|h;show e;show d c (K6 h)
 .split at h;rw[ysM h];show Je;cases h
def ul(h:nmB S a ch k=nmB S a ch' k'):ch=ch'/\k % 2=k' % 2:=by
 have d:=congrArg KC h;rw[fY,fY]at d;have c:k % 2=k' % 2:=by lia
 show{?_,c};unfold nmB at h;rw[c]at h;have e:=Mi h;have f:=List.append_cancel_left e;show(Kw.inj f).1
def qR(c:k % 2=1):(nmB S a ch k).getLast?=Ud 113:=by
 unfold nmB;rw[if_pos c,LY];rfl
def pD(h:oL x=oL y):x=y:=congrArg sL h
def Bm(h:nmS S a ch k=nmS S a ch' k'):ch=ch'/\k % 2=k' % 2:=by
 unfold nmS at h;split at h<;>split at h;show ul (Mi (pD h))
 .have d:=pD h;have c:=congrArg KC d;rw[JP,fY,fY]at c;have e:k' % 2=1:=by simp at c;lia
  have:=qR (S:=S) (a:=a) (ch:=ch') e;rw[<-d,LY]at this;cases this
 .have d:=pD h;have c:=congrArg KC d;rw[JP,fY,fY]at c;have e:k % 2=1:=by simp at c;lia
  have:=qR (S:=S) (a:=a) (ch:=ch) e;rw[d,LY]at this;cases this
 .show ul (pD h)
abbrev lL(z:Str):Prop:=1<=z.length/\z.length<=8/\z∉NY/\∀c∈sL z,c∈sL LET
def Ep(g:∀c∈S,c∈sL LET)(i:ch∈sL LET)(l:S.length<=5):lL (nmS S a ch k):=by
 have f:=Eo (a:=a) (k:=k) g i;have d:=fY (S:=S) (a:=a) (ch:=ch) (k:=k);unfold lL nmS;split
 .delta c;have j:(oL (nmB S a ch k++[119])).length=S.length+1+k % 2+1:=by rw[gi,fH,JP,d];rfl
  show{by lia,by lia,DY _ c,λx e=>?_};rw[fH]at e;rcases yaM e with h|h;show f x h;rw[ysM h];show Jm
 .delta c;have j:(oL (nmB S a ch k)).length=S.length+1+k % 2:=by rw[gi,fH,d]
  show{by lia,by lia,c,λx e=>f x (by rwa [fH]at e)}
def xc{c:Type}{a:!c}{n:Nat}(h:n<=a.length):cB a Uc (Ud (n:Int))=a.take n:=by
 unfold cB;rw[HT.sIx_none,HT.sIx_nat,LZ h];simp
def xb{c:Type}{a:!c}{n:Nat}(h:n<=a.length):cB a (Ud (n:Int)) Uc=a.drop n:=by
 unfold cB;rw[HT.sIx_none,HT.sIx_nat,LZ h];show Kc (by rw[Kt];show JA _)
def oR:∀{zs:!Str},rM (zs.map I.str)*>zs
 | []=>rfl
 | z::zs=>by rw[Jt,rM,oR];rfl
def EK(h:(zs.map (·.length)).sum+zs.length*z.length<=16777216)(q:QT1 (.im (.str (Qb z zs)))):W1 (l6 (.im (.str z)) [.li (zs.map .str)]) QT1:=w1 (by dsimp[l6,oR];rw[if_pos h]) q
def sJ{c:Type}{g:Nat->c}{n:Nat}(a:∀x<n,∀y<n,g x=g y->x=y):((JE n).map g).Nodup:=kq Ng λx f y d e=>a x (KO.mp f) y (KO.mp d) e
abbrev iz(S:!Nat) (a fn m:Nat):!Str:=(JE m).map λk=>nmS S a ((sL LET).getD ((fn+5*k) % 26) 0) k
def tN(h:i<26):(sL LET)[i]?*>((sL LET).getD i 0):=by
 rw[JO,JW (by rw[oV];show h)];rfl
def xY{S:!Nat}{a fn m:Nat}(f:∀c∈S,c∈sL LET)(d:S.length<=5)(l:m<=6):(iz S a fn m).length=m/\(iz S a fn m).Nodup/\∀z∈iz S a fn m,lL z:=by
 show{by simp[iz],sJ λx j y i e=>?_,λz g=>?_}
 .have:=AD _ (Mc _ (by decide)) _ (Mc _ (by decide)) (Bm e).1
  lia
 .have(k,h,rfl):=Jz.mp g;show Ep f (ymG (tN (Mc _ (by decide)))) d
def xV{f:Int×Int}{m:Int}(h1:0<=m)(h2:m<=6){Q:T->T->Prop}(q:∀(zs:!Str) f',zs.length=m.toNat->zs.Nodup->(∀z∈zs,lL z)->Q (.li (zs.map .str)) (fT f')):W2 (kH [fT f,.im (.int m)]) Q:=by
 show NL [Ud {.io 0,fT f},↥(.int m),Uc,Uc,Uc,Uc,Uc,Uc,Uc] rfl rfl rfl ?_;unfold iW;and_intros;show cj (λf:Int×Int=>[Ud {.io 0,fT f},↥(.int m),↥(.str LET),Uc,Uc,Uc,Uc,Uc,Uc]) I.str (λj _ l=>l.length=j/\∀z∈l,∃g,g∈sL LET/\z={#[g]}) ?_;and_intros;show ar (by lia) (by lia) λd f J M=>?_;ac_nf;and_intros;show{{by lia,by lia},by cbv,f,by cbv,{Xr,by simp},λj f l hj ⟨hl,H⟩=>?_,λf zs ⟨hl,H⟩=>?_}
 .and_intros;show ar (by lia) (by lia) λd f J M=>?_;ac_nf;and_intros;show yj (s:=LET) (by rw[LET_len',Oe];lia) J (by rw[oV];show M) λc p=>?_;show{{#[c]},f,Xr,by cbv,by simp[hl],ba H {c,ymG p,Xr}}
 and_intros;have u:∀zs:!Str,(∀z∈zs,∃g,g∈sL LET/\z={#[g]})->(zs.map (·.length)).sum=zs.length:=λzs h=>by
  induction zs with
  | nil=>rfl
  | cons z zs ih=>
   have(g,_,e):=h z ymS;rw[Jt,Nt,ih λy hy=>h y (ymC _ hy),JH,e];change 1+zs.length=_
   lia
 have e0:("" : Str)=oL []:=by decide +kernel
 have e1:(("" : Str)).length=0:=by decide +kernel
 show EK (zs:=zs) (by rw[u zs H,e1];lia) ?_;have x:sL (Qb "" zs)=(zs.map sL).flatten:=by rw[e0];show vh zs
 have U:(sL (Qb "" zs)).length<=5:=by
  rw[x,List.length_flatten,JJ];have:(zs.map (KC∘sL)).sum=zs.length:=by rw[<-u zs H];congr 1
  lia
 have hS:∀c∈sL (Qb "" zs),c∈sL LET:=λc p=>by
  rw[x]at p;have(l,Y,p):=Na.mp p;have(z,hz,rfl):=Jz.mp Y;have(g,X,rfl):=H z hz;have:c=g:=by exists p
  rw[this];show X
 generalize Qb "" zs=stem at *;have hst5:stem.length<=5:=by rw[gi];show U
 have r:∀l:!Nat,(oL l).length=l.length:=λl=>by rw[gi,fH]
 and_intros;show ar (by lia) (by lia) λfi f hf0 hf1=>?_;ac_nf;and_intros;show EM (by rw[Oe];lia) ?_;and_intros;show ar (by lia) (by lia) λA f ha0 ha1=>?_;ac_nf;and_intros;obtain⟨a,rfl⟩:∃a:Nat,A=(a:Int):={A.toNat,by lia};obtain⟨o,rfl⟩:∃a:Nat,fi=(a:Int):={fi.toNat,by lia};have N:a<=(sL stem).length:=by rw[<-gi];lia
 try ac_nf
 and_intros;show cA (λk:Nat=>[Ud {.io 0,fT f},↥(.int m),↥(.str LET),↥(.str stem),↥(.int o),↥(.int a),⇑(.li ((iz (sL stem) a o k).map .str)),Uc,Uc]) (λj k=>k=j) ?_;and_intros;show{{by lia,by lia},0,by cbv,Xr,λi k hi Z=>?_,λk Z=>?_}
 .subst Z;have E:((o:Int)+5*(k:Int)) % 26=(((o+5*k) % 26:Nat):Int):=by lia
  have B:(o+5*k) % 26<26:=Mc _ (by decide);have t:=tN B;have G:iz (sL stem) a o (k+1)=iz (sL stem) a o k++[nmS (sL stem) a ((sL LET).getD ((o+5*k) % 26) 0) k]:=by simp[iz,LH]
  generalize (sL LET).getD ((o+5*k) % 26) 0=g at t G;and_intros;show Dd (by rw[Oe];lia) ?_;rw[xc N];and_intros;rw[E];show yj (s:=LET) (by rw[LET_len',Oe];lia) (by lia) (by rw[oV];lia) λc p=>?_;rw[JR,t]at p;cases (p);and_intros;show pF (by rw[r,J1,Oe];change _+1<=_;lia) ?_;and_intros;show Dd (by rw[Oe];lia) ?_;rw[xb N];and_intros;show pF (by rw[gi,mW,fH,r,Oe,JP,J1,Kt];change _+1+_<=_;lia) ?_;have en:(oL ((sL stem).take a)++({#[g]}:Str))++oL ((sL stem).drop a)=oL ((sL stem).take a++g::(sL stem).drop a):=by
   apply pY;rw[mW,mW,fH,fH,fH];simp
  rw[en];and_intros;show WS.mono (Q:=λL O=>L=.nx/\O=[Ud {.io 0,fT f},↥(.int m),↥(.str LET),↥(.str stem),↥(.int o),↥(.int a),⇑(.li ((iz (sL stem) a o k).map .str)),↥(.int k),↥(.str (oL (nmB (sL stem) a g k)))]) ?_ ?_
  ·(refine bC ?_;and_intros;clear_value hk2)
   .and_intros;show pF (by rw[r,JP,JH,J1,Kt,Oe];change _+1<=_;lia) ?_;have v:oL ((sL stem).take a++g::(sL stem).drop a)++("q" : Str)=oL (nmB (sL stem) a g k):=by
     apply pY;rw[mW,fH,fH];unfold nmB;rw[if_pos (by lia)];rfl
    rw[v];and_intros;show{by trivial,by first|trivial|cbv}
   .and_intros;have v:(sL stem).take a++g::(sL stem).drop a=nmB (sL stem) a g k:=by
     unfold nmB;rw[if_neg (by lia)];simp
    rw[v];show{by trivial,by first|trivial|cbv}
  rintro L O ⟨rfl,rfl⟩;have hnl:(oL (nmB (sL stem) a g k)).length<=7:=by rw[r,fY];lia
  and_intros;show WS.mono (Q:=λL O=>L=.nx/\O=[Ud {.io 0,fT f},↥(.int m),↥(.str LET),↥(.str stem),↥(.int o),↥(.int a),⇑(.li ((iz (sL stem) a o k).map .str)),↥(.int k),↥(.str (nmS (sL stem) a g k))]) ?_ ?_
  .show bC ?_;and_intros;show Hb (is:=NY.map .str) {Xr,by decide +kernel,by decide +kernel} ?_;and_intros;clear_value hw
   .have w:oL (nmB (sL stem) a g k)∈NY:=by exists hw
    and_intros;have hw1:(("w" : Str)).length=1:=by decide +kernel
    show pF (by rw[Oe];lia) ?_;have v:oL (nmB (sL stem) a g k)++("w" : Str)=nmS (sL stem) a g k:=by
     unfold nmS;rw[if_pos w];apply pY;rw[mW,fH,fH];rfl
    rw[v];and_intros;show{by trivial,by first|trivial|cbv}
   .have w:oL (nmB (sL stem) a g k)∉NY:=by exists hw
    have v:oL (nmB (sL stem) a g k)=nmS (sL stem) a g k:=by unfold nmS;rw[if_neg w]
    rw[v];and_intros;show{by trivial,by first|trivial|cbv}
  rintro L O ⟨rfl,rfl⟩;and_intros;show fu (by simp[iz];rw[Oe];lia) ?_;ac_nf;and_intros;show{k+1,?_,Xr};rw[G,JC]
  cbv
 .subst Z;and_intros;have(n1,n2,n3):=xY (S:=sL stem) (a:=a) (fn:=o) (m:=m.toNat) hS U (by lia);show q _ f n1 n2 n3
abbrev ee(p:Str×Ru):I:=.tup [.str p.1,tRu p.2]
abbrev dR(w c:Int) (a:!(Str×Ru)):I:=.tup [.int w,.int c,.tup (a.map ee)]
abbrev pw:Ru->Prop
 | .num _=>True
 | .rd _ _=>True
 | _=>False
def vB{r:Ru}(h:pw r):r.leaves=[r]:=by cases r<;>first|rfl|cases h
def om:∀{rs:!Ru},(∀r∈rs,pw r)->rs.flatMap Ru.leaves=rs
 | [],_=>rfl
 | r::rs,h=>by rw[JI,vB (h r ymS),om λx a=>h x (ymC _ a)];rfl
abbrev N4(ns:!Str)(w:Int):Ru->Prop
 | .num n=>0<=n/\n<=1000000000
 | .rd x a=>x∈ns/\a.length=w.toNat
 | _=>False
def N4.leaf{ns:!Str}{w:Int}{r:Ru}(h:N4 ns w r):pw r:=by cases r<;>first|trivial|cases h
def Bb{r:Ru}(h:pw r):r.ok:=by cases r<;>first|trivial|cases h
abbrev Cov(n:Nat)(rs:!Ru):Prop:=∃L:!(Str×!Int),L.length<=n/\∀x a,Ru.rd x a∈rs->(x,a)∈L
abbrev wP(c:Nat)(ns:!Str)(w:Int)(n:Nat)(r:Ru):Prop:=r.ok/\r.leaves.length<=c/\(∀l∈r.leaves,N4 ns w l)/\Cov n r.leaves
abbrev tM(c:Nat)(w d:Int)(a:!(Str×Ru)):Prop:=1<=w/\w<=3/\2<=d/\d<=1000000000/\1<=a.length/\a.length<=6/\(a.map (·.1)).Nodup/\(∀z∈a.map (·.1),lL z)/\∃n,n*a.length<=16/\∀p∈a,wP c (a.map (·.1)) w n p.2
def pS:∀{l:!(Str×!Int)},I.doks (l.map λp=>tRu (.rd p.1 p.2))=Ug/\I.deps (l.map λp=>tRu (.rd p.1 p.2))<=50
 | []=>{Xr,by decide}
 | p::l=>by
  have c:=pS (l:=l);have d:∀a:!Int,I.doks (a.map I.int)=Ug/\I.deps (a.map I.int)=0:=λa=>by
   induction a with
   | nil=>show⟨Xr,Xr⟩
   | cons x a c=>show{by rw[Jt,I.doks,c.1];rfl,by rw[Jt,I.deps,c.2];rfl}
  show{?_,?_}
  .rw[Jt,I.doks,c.1];dsimp[tRu,I.dok,I.doks,(d p.2).1];rfl
  .rw[Jt,I.deps];have e:I.dep (tRu (.rd p.1 p.2))<=50:=by dsimp[tRu,I.dep,I.deps,(d p.2).2];decide
   have:=c.2
   lia
def iM{c:Type}{a:!c}{v:Int}(h:0<=v):cB a Uc (Ud v)=a.take v.toNat:=by
 obtain⟨n,rfl⟩:∃n:Nat,v=n:={v.toNat,by lia};unfold cB;rw[HT.sIx_none,HT.sIx_nat,JR,Nl,Nat.sub_zero];rcases Nat.le_total n a.length with h|h;rw[LZ h];rw[Nat.min_eq_right h,Kc h,Kc (JA _)]
def xA{f:Int×Int}{Q:T->T->Prop}(q:∀w G A f',tM 10 w G A->Q (.im (dR w G A)) (fT f')):W2 (kG [fT f]) Q:=by
 show NL [Ud {.io 0,fT f},Uc,Uc,Uc,Uc,Uc,Uc,Uc,Uc,Uc] rfl rfl rfl ?_;unfold iV;and_intros;show zt λw m ls f hw1 hw2 hm1 hm2 hL=>?_;ac_nf;and_intros;show ar (by lia) (by lia) λd1 f a1 b1=>?_;ac_nf;and_intros;show ar (by lia) (by lia) λd2 f a2 b2=>?_;ac_nf;and_intros;show ar (by lia) (by lia) λd3 f a3 b3=>?_;ac_nf;and_intros;show ar (by lia) (by lia) λd4 f a4 b4=>?_;ac_nf;and_intros;show bB (ns:=[2+d1,2+d2,1000000000-d3]) a4 (by exists b4) λG hwh _=>?_;have J:2<=G/\G<=1000000000:=by simp at hwh;lia
 and_intros;have N:((ls.map aP).length:Int)=m:=by rw[Jr,hL.1];lia
 rw[N];show xV (by lia) hm2 λE f hzl hzn hzo=>?_;ac_nf;and_intros;show cA (λs:(Int×Int)×!(Str×Ru)=>[Ud {.io 0,fT s.1},↥(.int w),⇑(.lst (ls.map aP)),↥(.int G),⇑(.li (E.map .str)),⇑(.li (s.2.map ee)),Uc,Uc,Uc,Uc]) (λj s=>s.2.map (·.1)=E.take j/\∀p∈s.2,wP 10 E w (16 / m.toNat) p.2) ?_;and_intros;rw[N];show{{by lia,by lia},(f,[]),by cbv,{Xr,by simp},λx s hx ⟨c,B⟩=>?_,λs ⟨c,B⟩=>?_}
 .have(f,A):=s;dsimp only at c B|-;have(l,hl,hl7,hlP):=hL.get (n:=x) (by lia);and_intros;show bg (λ_:Unit=>[Ud {.io 0,fT f},↥(.int w),⇑(.lst (ls.map aP)),↥(.int G),⇑(.li (E.map .str)),⇑(.li (A.map ee)),↥(.int x),Uc,Uc,Uc]) (λp:Str×!Int=>tRu (.rd p.1 p.2)) (λj _ L=>L.length=j/\∀p∈L,p.1∈E/\p.2.length=w.toNat) ?_;and_intros;show sM (u:=aP l) (kd:=.vw (Ud 2) (Ud [.ix x])) (by lia) (by rw[JR,JB,hl];rfl) (gC l) rfl ?_;and_intros;rw[N];rw[iM (Int.ediv_nonneg (by lia) (by lia)),<-Lc];show{(l.take (16 / m).toNat).map tRd,Xr,by simp;rw[Oe];lia,by cbv,(),by cbv,{Xr,by simp},λj x' _ L v ⟨h,M⟩=>?_,λ_ L ⟨h,M⟩=>?_}
  .rw[JB]at v;cases e:(l.take (16 / m).toNat)[j]? with
   | none=>rw[e]at v;cases v
   | some p=>
    rw[e]at v;cases v;have U:=hlP p (KM (ymG e));have(p0,p1,p2,p3):=U;and_intros;show iD (emb:=I.str) (ns:=E) p0 (by lia) λz hz=>?_;and_intros;show{(z,p.2),(),Xr,by cbv,by simp[h],ba M {ymG hz,p2}}
  rw[Jr]at h;have Y:L.length<=16 / m.toNat:=by
   rw[h,J1];have:(16 / m).toNat=16 / m.toNat:=by
    obtain⟨n,rfl⟩:∃n:Nat,m=n:={m.toNat,by lia};rw[JR];show congrArg Int.toNat (Int.natCast_ediv 16 n).symm
   lia
  have hL7:L.length<=7:=by rw[h,J1];lia
  and_intros;show cA (λs:(Int×Int)×!Ru=>[Ud {.io 0,fT s.1},↥(.int w),⇑(.lst (ls.map aP)),↥(.int G),⇑(.li (E.map .str)),⇑(.li (A.map ee)),↥(.int x),⇑(.li (s.2.map tRu)),Uc,Uc]) (λj s=>s.2.length=L.length+j/\(∀r∈s.2,N4 E w r)/\∀y i,Ru.rd y i∈s.2->(y,i)∈L) ?_;and_intros;show ar (by lia) (by lia) λd f hd0 X=>?_;ac_nf;and_intros;show Ha (js:=[]) ⟨pS.1,Xr,pS.2⟩ ?_;and_intros;have hk:∀b:Bool,0<=(if b then 1 else 0:Int)/\(if b then 1 else 0:Int)<=1:=λb=>by cases b<;>decide
  have hk':=hk (decide (L.map (λp=>tRu (.rd p.1 p.2))=[]));have hk0:L=[]->(if(decide (L.map (λp=>tRu (.rd p.1 p.2))=[]))=Ug then 1 else 0:Int)=1:=λz=>by rw[z];rfl
  generalize (if(decide (L.map (λp=>tRu (.rd p.1 p.2))=[]))=Ug then 1 else 0:Int)=kk at *;show{{by lia,by lia},(f,L.map λp=>.rd p.1 p.2),by rw[JJ];cbv,{by simp,λr a=>?_,λy i a=>?_},λj s hj ⟨o,g,t⟩=>?_,λs ⟨o,g,t⟩=>?_}
  .have(p,U,rfl):=Jz.mp a;show M p U
  .have(p,U,e):=Jz.mp a;cases e;show U
  .have(f,O):=s;dsimp only at o g t|-;and_intros;show ar (by lia) (by lia) λe1 f he0 he1=>?_;ac_nf;and_intros;show bB (ns:=[9,1000000001]) he0 (by exists he1) λtop Z _=>?_;have htop':1<=top/\top<=1000000001:=by simp at Z;lia
   and_intros;show ar (by lia) (by lia) λnum f hn0 hn1=>?_;ac_nf;and_intros;rw[Jr];show ar (by lia) (by lia) λS f ha0 ha1=>?_;ac_nf;and_intros;show Da (is:=O.map tRu) {ha0,by simp;lia,by simp;rw[Oe];lia} ?_;ac_nf;and_intros;show{(f,O.take S.toNat++Ru.num num::O.drop S.toNat),?_,by clear h Y hL7 hk' hj hd0 X;simp;lia,λr a=>?_,λy i a=>?_}
   .rw[JC,Jt,Lc,Lm]
    cbv
   .rcases yaM a with a|a;show g r (KM a)
    .rcases ycM a with rfl|a;show{hn0,by lia};show g r (K6 a)
   .rcases yaM a with a|a;show t y i (KM a)
    .rcases ycM a with a|a;cases a;show t y i (K6 a)
  .have(f,O):=s;dsimp only at o g t|-;and_intros;show iD (emb:=I.str) (ns:=E) (by lia) (by lia) λz hz=>?_;and_intros;show xv (rs:=O) (λh0=>?_) (by lia) (λr a=>Bb (g r a).leaf) λr f H hro=>?_
   .rw[h0]at o;have hL0:L=[]:=K5 (Nat.add_eq_zero_iff.mp o.symm).1;have:=hk0 hL0;simp at o
    lia
   rw[om λr a=>(g r a).leaf]at H;ac_nf;and_intros;show fu (is:=A.map ee) (by
    have:A.length<=E.length:=by rw[<-Jr (f:=λp:Str×Ru=>p.1),c];simp;lia
    simp;rw[Oe];lia) ?_
   ac_nf;and_intros;show{(f,A++[(z,r)]),?_,?_,ba B {hro,by rw[H];lia,by rw[H];show g,L,Y,by rw[H];show t}}
   .rw[JC]
    cbv
   .rw[JC,c,Md];rw[JR]at hz;rw[hz];rfl
 .have(f,A):=s;dsimp only at c B|-;and_intros;rw[Kc (by lia)]at c;have hlen:A.length=m.toNat:=by rw[<-hzl,<-c,Jr]
  show q w G A f {hw1,hw2,J.1,J.2,by lia,by lia,by rw[c];show hzn,by rw[c];show hzo,16 / m.toNat,?_,by rw[c];show B};rw[hlen];show Nat.div_mul_le_self 16 m.toNat
def wX:∀{bs:!Bool},bls (bs.map I.bl)*>bs
 | []=>rfl
 | b::bs=>by rw[Jt,bls,wX];rfl
def G5{bs:!Bool}{Q:T->Prop}(q:Q (.im (.bl (bs.all id)))):W1 (rZ [.li (bs.map I.bl)]) Q:=w1 (by dsimp[rZ,wX,KU]) q
abbrev Jg:Ru->↑(Str×!Int)
 | .rd x a=>Ud (x,a)
 | _=>Uc
abbrev rds(r:Ru):!(Str×!Int):=r.leaves.filterMap Jg
abbrev IZ(a:!(Str×!Int)) (p:Str×!Int):!(Str×!Int):=if p∈a then a else a++[p]
abbrev ded(L:!(Str×!Int)):!(Str×!Int):=L.foldl IZ []
def fh{a:Type}{L:!a}{j:Nat}{x : a}(e:L[j]?*>x):L.take (j+1)=L.take j++[x]:=by rw[Md,e];rfl
abbrev Ru.mp(f:Str->!Int->!Int):Ru->Ru
 | .num n=>.num n
 | .rd x d=>.rd x (f x d)
 | .op s a b=>.op s (a.mp f) (b.mp f)
 | .cond a b c=>.cond (a.mp f) (b.mp f) (c.mp f)
def EH{l:!Unit}{Q:T->Prop}(q:Q (.im (.bl Ug))):W1 (rZ [.li (l.map λ_=>I.bl Ug)]) Q:=by
 have e:(l.map λ_=>I.bl Ug)=(l.map λ_=>Ug).map I.bl:=by rw[JJ];rfl
 rw[e];show G5 ?_;have:(l.map λ_=>Ug).all id=Ug:=by simp
 rw[this];show q
abbrev iL(a b:!Int):!Int:=KB (· + ·) a b
abbrev tPl(a:!Int):I:=.tup (a.map .int)
abbrev aW(c:Str×!Int):I:=.tup [.str c.1,tPl c.2]
def wN{a b:!Int}{j:Nat}{x y:Int}(d:a[j]?*>x)(c:b[j]?*>y):iL (a.take (j+1)) (b.take (j+1))=iL (a.take j) (b.take j)++[x+y]:=by
 unfold iL;rw[fh d,fh c,MV];rfl
 .have f:=(Js.mp d).1;have e:=(Js.mp c).1;rw[J1,J1];lia
def Ay:iL (a.take (min a.length b.length)) (b.take (min a.length b.length))=iL a b:=by
 unfold iL;rw[<-M6];rw[Kc ∅]
def Ej{a b:!Int}(m:a.length<=1000){Q:T->Prop}(q:Q (.im (tPl (iL a b)))):W1 (pR [.im (tPl a),.im (tPl b)]) Q:=by
 show ve [↥(tPl a),↥(tPl b)] rfl rfl rfl ?_;unfold lC;and_intros;show jZ (λ_:Unit=>[↥(tPl a),↥(tPl b)]) I.int (λj _ l=>l=iL (a.take j) (b.take j)) ?_;and_intros;show{_,_,Ue,Ue,a.map .int,b.map .int,Xr,Xr,Xr,by simp;rw[Oe];lia,by cbv,(),by cbv,Xr,λj x y _ l g i c=>?_,λ_ l c=>?_}
 .have(f,d,rfl):=ay g;have(h,e,rfl):=ay i;and_intros;show{f+h,(),Xr,by cbv,by rw[c,wN d e]}
 .rw[Jr,Jr]at c;rw[Ay]at c;subst c;and_intros;show q
protected def Ofs:=!(Str×!Int)
abbrev Ik(c:Ofs):I:=.fd (c.map λp=>.inr p.1) (c.map λp=>tPl p.2)
def oa{z:Str}{v:!Int}:∀{c:Ofs},(c.map (·.1)).Nodup->(z,v)∈c->eQ (c.map λp=>.inr p.1) (c.map λp=>tPl p.2) (.inr z)*>(tPl v)
 | d::g,f,a=>by
  rw[Jt,JS]at f;rw[Jt,Jt,eQ];rcases ycM a with rfl|a;rw[if_pos rfl]
  .have:d.1≠z:=λe=>f.1 (e▸Jz.mpr {_,a,Xr});rw[if_neg (λe=>this (QH e))];show oa f.2 a
def nO{c:Ofs}{z:Str}{a v:!Int}(d:a.length<=1000)(e:(c.map (·.1)).Nodup)(hz:(z,v)∈c){Q:T->Prop}(q:Q (.im (aW (z,iL a v)))):W1 (fF [.im (aW (z,a)),.im (Ik c)]) Q:=by
 show ve [↥(aW (z,a)),↥(Ik c),Uc,Uc] rfl rfl rfl ?_;unfold cY;rw[aW];and_intros;show um (oa e hz) ?_;and_intros;show Ej d ?_;and_intros;show q
abbrev zpl(t:Int) (a b:!Int):!Int:=KB (λx y=>x+t*y) a b
def AB{t:Int}{a b:!Int}{j:Nat}{x y:Int}(d:a[j]?*>x)(c:b[j]?*>y):zpl t (a.take (j+1)) (b.take (j+1))=zpl t (a.take j) (b.take j)++[x+t*y]:=by
 unfold zpl;rw[fh d,fh c,MV];rfl
 .have f:=(Js.mp d).1;have e:=(Js.mp c).1;rw[J1,J1];omega
def CW{t:Int}{a b:!Int}:zpl t (a.take (min a.length b.length)) (b.take (min a.length b.length))=zpl t a b:=by
 unfold zpl;rw[<-M6];rw[Kc ∅]
abbrev big:Int:=1000000000
abbrev dot(a b:!Int):Int:=((a.zip b).map λp=>p.1*p.2).sum
abbrev bj(h:!Int×Int):I:=.tup [.tup (h.1.map .int),.int h.2]
abbrev aS(v:Int×!(!Int×Int)):I:=.tup [.int v.1,.tup (v.2.map bj)]
protected def Clk:=!(Str×Int×!(!Int×Int))
abbrev Bnd(x:Int):Prop:=-1000000000<=x/\x<=1000000000
abbrev wQ(n:Nat)(h:!Int×Int):Prop:=h.1.length=n/\(∀x∈h.1,Bnd x)/\Bnd h.2
abbrev N1(n:Nat)(v:Int×!(!Int×Int)):Prop:=Bnd v.1/\v.2.length<=6/\∀h∈v.2,wQ n h
def C8{kvs:!(I×I)}{z:Str}{v:I}(h:i9 kvs (.str z)*>v){Q:T->Prop}(q:Q (.im v)):W1 (dgT (.di kvs) (.im (.str z))) Q:=by unhygienic
 show w1 (x:=.im v) ?_ q;change dg1 kvs (.str z)=_;unfold dg1 nJ;dsimp only;rw[h];rfl
def j8{d:Type}{a:!d}{v:Int}(h:0<=v)(c:v.toNat<=a.length):cB a (Ud v) Uc=a.drop v.toNat:=by
 obtain⟨n,rfl⟩:∃n:Nat,v=(n:Int):={v.toNat,by omega};unfold cB;rw[HT.sIx_none,HT.sIx_nat,JR,LZ (by exists c),Kc (by rw[Kt];omega)]
abbrev rN(c:Ofs):!(I×I):=c.map λp=>(.str p.1,tPl p.2)
def rh{z:Str}{v:!Int}:∀{c:Ofs},z∉c.map (·.1)->bL (rN c) (.str z) (tPl v)=rN (c++[(z,v)])
 | [],_=>rfl
 | d::a,h=>by
  rw[Jt,JV,not_or]at h;change bL ((.str d.1,tPl d.2)::rN a) _ _=(.str d.1,tPl d.2)::rN (a++[(z,v)]);rw[bL,if_neg (λe=>h.1 (I.str.inj e).symm),rh h.2]
def mI{w u:Int}{g:!(Str×Ru)}{f:Int×Int}(a1:1<=w)(a2:w<=3)(a5:1<=g.length)(a6:g.length<=100)(a7:(g.map (·.1)).Nodup){Q:T->T->Prop}
  (q:∀(c:Ofs) f',(c.map (·.1)).Nodup->(c.map (·.1)).Perm (g.map (·.1))->(∀p∈c,p.2.length=w.toNat)->Q (.di (rN c)) (fT f')):W2 (f6 [fT f,.im (dR w u g)]) Q:=by
 show NL [Ud {.io 0,fT f},↥(dR w u g),Uc,Uc,Uc,Uc,Uc,Uc] rfl rfl rfl ?_;unfold fW;rw[dR];and_intros;show bg (λ_:Unit=>[Ud {.io 0,fT f},↥(.tup [.int w,.int u,.tup (g.map ee)]),↥(.int w),Uc,Uc,Uc,Uc,Uc]) I.str (λj _ l=>l=(g.take j).map (·.1)) ?_;and_intros;show{g.map ee,Xr,by simp;rw[Oe];omega,by cbv,(),by cbv,Xr,λj x _ l A m=>?_,λ_ l m=>?_}
 .have(d,hd,rfl):=ay A;rw[ee];and_intros;show{d.1,(),Xr,by cbv,by rw[m,fh hd,JC];rfl}
 rw[Jr,JU]at m;subst m;and_intros;rw[Jr,Jr];show ar ⋯ ⋯ λa f L a1'=>?_;ac_nf;and_intros;show Iv ?_;and_intros;show lJ (λs:(Int×Int)×Ofs=>[Ud {.io 0,fT s.1},↥(.tup [.int w,.int u,.tup (g.map ee)]),↥(.int w),⇑(.li ((g.map (·.1)).map I.str)),↥(.int a),⇑(.di (rN s.2)),Uc,Uc]) (λj s=>s.2.map (·.1)=((g.map (·.1)).drop a.toNat++(g.map (·.1)).take a.toNat).take j/\∀p∈s.2,p.2.length=w.toNat) ?_;and_intros;rw[j8 L (by rw[Jr,Jr];omega),iM L,<-Lm,<-Lc];show gJ (by simp;rw[Oe];omega) ?_;rw[<-JC];generalize hr:(g.map (·.1)).drop a.toNat++(g.map (·.1)).take a.toNat=N;have J:N.Perm (g.map (·.1)):=by rw[<-hr];show LU.trans (by rw[KY])
 have M:N.Nodup:=J.nodup_iff.mpr a7;have X:N.length=g.length:=by rw[J.length_eq,Jr]
 show{N.map .str,Xr,by cbv,(f,[]),by cbv,{Xr,by simp},λj x s A m=>?_,λs m=>?_}
 .have(z,B,rfl):=ay A;have(f,c):=s;have(h,t):=m;dsimp only at h t;and_intros;show ar ⋯ ⋯ λb f Y b1=>?_;ac_nf;and_intros;show bB (ns:=[1,3,7]) Y b1 λy hy _=>?_;have S:y=1\/y=3\/y=7:=by exists hy
  and_intros;show cj (λf:Int×Int=>[Ud {.io 0,fT f},↥(.tup [.int w,.int u,.tup (g.map ee)]),↥(.int w),⇑(.li ((g.map (·.1)).map I.str)),↥(.int a),⇑(.di (rN c)),↥(.str z),↥(.int y)]) I.int (λj _ o=>o.length=j) ?_;and_intros;show{{by omega,by omega},by cbv,f,by cbv,Xr,λj f o U E=>?_,λf o E=>?_}
  .and_intros;show ar ⋯ ⋯ λd f Z hd1=>?_;ac_nf;and_intros;show{_,f,Xr,by cbv,by simp[E]}
  and_intros;show uP ?_;and_intros;have U:j<N.length:=(Js.mp B).1;have O:c.length=j:=by have:=congrArg KC h;simp at this;omega
  have r:z∉c.map (·.1):=by
   rw[h];intro hm;have(i,G):=KW.mp hm;have H:i<j:=by
    have:=(Js.mp G).1;simp at this;omega
   rw[Lk H]at G;have:=(Mf ⋯ M).mp (G.trans B.symm);omega
  have e:=rh (v:=o) r;show yf (v:=tPl o) (by rw[e];simp[rN];rw[Oe];omega) ?_;rw[e];ac_nf;and_intros;show{(f,c++[(z,o)]),by cbv,?_,ba t E};rw[JC,h,fh B];rfl
 .have(f,c):=s;have(h,t):=m;rw[Jr,JU]at h;dsimp only at h t;and_intros;show q c f (by rw[h];show M) (by rw[h];show J) t
section
variable {α:Type}{emb : α->I}{c:!(Str × α)}{z:Str}{v : α}
abbrev fdG(emb : α->I) (c:!(Str × α)):I:=.fd (c.map λp=>.inr p.1) (c.map λp=>emb p.2)
abbrev diG(emb : α->I) (c:!(Str × α)):!(I×I):=c.map λp=>(.str p.1,emb p.2)
def ly(f:(c.map (·.1)).Nodup)(a:(z,v)∈c):eQ (c.map λp=>.inr p.1) (c.map λp=>emb p.2) (.inr z)*>(emb v):=by
 induction c with
 | nil=>cases a
 | cons d h g=>
  rw[Jt,JS]at f;rw[Jt,Jt,eQ];rcases ycM a with rfl|a;rw[if_pos rfl]
  .have:d.1≠z:=λe=>f.1 (e▸Jz.mpr {_,a,Xr});rw[if_neg (λe=>this (QH e))];show g f.2 a
def pc(f:(c.map (·.1)).Nodup)(a:(z,v)∈c):i9 (diG emb c) (.str z)*>(emb v):=by
 induction c with
 | nil=>cases a
 | cons d g h=>
  rw[Jt,JS]at f;change i9 ((.str d.1,emb d.2)::diG emb g) _=_;rw[i9];rcases ycM a with rfl|a;rw[if_pos rfl]
  .have:d.1≠z:=λe=>f.1 (e▸Jz.mpr {_,a,Xr});rw[if_neg (λe=>this (I.str.inj e))];show h f.2 a
def Fa(c:!(Str × α)):wb (c.map λp=>.tup [.str p.1,emb p.2])*>(c.map λd=>(OO d.1,emb d.2)):=by
 induction c with
 | nil=>rfl
 | cons d e a=>rw[Jt,wb,a];rfl
def A9(f:(c.map (·.1)).Nodup):(c.map λd=>(OO d.1:Key)).Nodup:=by
 rw[show(c.map λd=>(OO d.1:Key))=(c.map (·.1)).map OO by rw[JJ];rfl];show List.Pairwise.map _ (λa b h e=>h (QH e)) f
def ye(a:(c.map (·.1)).Nodup){Q:T->Prop}(q:Q (.di (diG emb c))):W1 (qq [.li (c.map λp=>.tup [.str p.1,emb p.2])]) Q:=by unhygienic
 show w1 (x:=.di (diG emb c)) ?_ q;change xh (c.map λp=>.tup [.str p.1,emb p.2])=_;unfold xh;rw[Fa];dsimp only;rw[if_pos (by rw[JJ];show A9 a),JJ];rfl
def uf(c:!(Str × α)):jd (diG emb c)*>(c.map λp=>.inr p.1):=by
 induction c with
 | nil=>rfl
 | cons d a e=>
  change jd ((.str d.1,emb d.2)::diG emb a)=_;rw[jd,e];rfl
def qz(c:!(Str × α)):xo {.ow,.di (diG emb c)}*>(fdG emb c):=by
 change(jd (diG emb c)).map _=_;rw[uf];change Ud (I.fd _ ((diG emb c).map (·.2)))=_;rw[diG,JJ];rfl
def Fk(h:z∉c.map (·.1)):bL (diG emb c) (.str z) (emb v)=diG emb (c++[(z,v)]):=by
 induction c with
 | nil=>rfl
 | cons d a f=>
  rw[Jt,JV,not_or]at h;change bL ((.str d.1,emb d.2)::diG emb a) _ _=(.str d.1,emb d.2)::diG emb (a++[(z,v)]);rw[bL,if_neg (λe=>h.1 (I.str.inj e).symm),f h.2]
def rO{f:Int×Int}(y:1<=c.length/\c.length<=6)(m:(c.map (·.1)).Nodup){Q:T->T->Prop}(q:∀e t,e.Perm c->Q (.im (fdG emb e)) (fT t)):W2 (cy [fT f,.im (fdG emb c)]) Q:=by
 show NL [Ud {.io 0,fT f},↥(fdG emb c),Uc,Uc] rfl rfl rfl ?_;unfold dI;and_intros;show Bw ?_;have w:(c.map λp=>(OO p.1:Key)).map cu=(c.map (·.1)).map I.str:=by rw[JJ,JJ];rfl
 rw[w];and_intros;rw[Jr,Jr];show ar ⋯ ⋯ λa f i A=>?_;ac_nf;and_intros;show nA ?_;and_intros;show bg (λ_:Unit=>[Ud {.io 0,fT f},↥(fdG emb c),⇑(.li ((c.map (·.1)).map .str)),↥(.int a)]) (λp:Str × α=>.tup [.str p.1,emb p.2]) (λj _ l=>l=(c.drop a.toNat++c.take a.toNat).take j) ?_;and_intros;rw[j8 i (by rw[Jr,Jr];omega),iM i,<-Lm,<-Lm,<-Lc,<-Lc];show gJ (by simp;rw[Oe];omega) ?_;rw[<-JC,<-JC];generalize u:c.drop a.toNat++c.take a.toNat=e;have h:e.Perm c:=by rw[<-u];show LU.trans (by rw[KY])
 show{(e.map (·.1)).map .str,Xr,by rw[Jr,Jr,h.length_eq,Oe];omega,by cbv,(),by cbv,Xr,λj x _ l o g=>?_,λ_ l g=>?_}
 .have(z,s,rfl):=ay o;have(p,d,rfl):=ay s;have r:p∈c:=h.mem_iff.mp (ymG d);and_intros;show um (ly (v:=p.2) m r) ?_;and_intros;show{p,(),Xr,by cbv,by rw[g,JX,d];rfl}
 .rw[Jr,Jr,JU]at g;subst g;and_intros;show ye ((h.map _).nodup_iff.mpr m) ?_;show{_,qz _,?_};and_intros;show q _ f h
end
def kw{f:Int×Int}{Q:T->T->Prop}(q:∀x a,Bnd x->Q (.im (.int x)) (fT a)):W2 (fB [fT f]) Q:=by
 show NL [Ud {.io 0,fT f},Uc] rfl rfl rfl ?_;unfold gF;and_intros;show ar ⋯ ⋯ λd f g i=>?_;ac_nf;and_intros;show ar ⋯ ⋯ λh f l m=>?_;ac_nf;and_intros;show ar ⋯ ⋯ λc f o j=>?_;ac_nf;and_intros;show bB (ns:=[h-3,c-1000000000,0]) g i λy e _=>?_;and_intros;show q y f (by unfold Bnd;simp at e;omega)
def lR{w y:Int}{a:!(Str×Ru)}{f:Int×Int}(N:tM 10 w y a){Q:T->T->Prop}
  (q:∀(c:Clk) f',c.map (·.1)=a.map (·.1)->(∀p∈c,N1 w.toNat p.2)->Q (.di (diG aS c)) (fT f')):W2 (e8 [fT f,.im (dR w y a)]) Q:=by
 have(a1,a2,a3,a4,a5,a6,a7,_):=N;show NL [Ud {.io 0,fT f},↥(dR w y a),Uc,Uc,Uc,Uc,Uc,Uc,Uc] rfl rfl rfl ?_;unfold eX;rw[dR];and_intros;show ar ⋯ ⋯ λm f m0 m1=>?_;ac_nf;and_intros;show Iv ?_;and_intros;show lJ (λs:(Int×Int)×Clk=>[Ud {.io 0,fT s.1},↥(.tup [.int w,.int y,.tup (a.map ee)]),↥(.int m),⇑(.di (diG aS s.2)),Uc,Uc,Uc,Uc,Uc]) (λj s=>s.2.map (·.1)=(a.map (·.1)).take j/\∀p∈s.2,N1 w.toNat p.2) ?_;and_intros;show{a.map ee,Xr,by cbv,(f,[]),by cbv,{Xr,by simp},λj x s L H=>?_,λs H=>?_}
 .have(d,U,rfl):=ay L;have(f,c):=s;have(g,A):=H;dsimp only at g A;rw[ee];and_intros;show cA (λt:(Int×Int)×!(!Int×Int)=>[Ud {.io 0,fT t.1},↥(.tup [.int w,.int y,.tup (a.map ee)]),↥(.int m),⇑(.di (diG aS c)),↥(.str d.1),↥(tRu d.2),⇑(.li (t.2.map bj)),Uc,Uc]) (λj t=>t.2.length=j/\∀h∈t.2,wQ w.toNat h) ?_;and_intros;show{{by omega,by omega},(f,[]),by cbv,{Xr,by simp},λi t G X=>?_,λt X=>?_}
  .have(f,u):=t;have(E,B):=X;dsimp only at E B;and_intros;show cj (λf:Int×Int=>[Ud {.io 0,fT f},↥(.tup [.int w,.int y,.tup (a.map ee)]),↥(.int m),⇑(.di (diG aS c)),↥(.str d.1),↥(tRu d.2),⇑(.li (u.map bj)),↥(.int i),Uc]) I.int (λj _ l=>l.length=j/\∀x∈l,Bnd x) ?_;and_intros;show{{by omega,by omega},by cbv,f,by cbv,{Xr,by simp},λk f l hk o=>?_,λf l o=>?_}
   .have(r,S):=o;and_intros;show kw λx f L=>?_;ac_nf;show{x,f,Xr,by cbv,by simp[r],ba S L}
   .have(r,S):=o;and_intros;show kw λhr f O=>?_;ac_nf;and_intros;show fu (by rw[Jr,Oe];omega) ?_;ac_nf;and_intros;show{(f,u++[(l,hr)]),?_,by simp[E],ba B ⟨r,S,O⟩};rw[JC];try cbv
  .have(f,u):=t;have(E,B):=X;dsimp only at E B;and_intros;show kw λJ f M=>?_;ac_nf;and_intros;show uP ?_;and_intros;have hj:j<a.length:=(Js.mp U).1;have hlen:c.length=j:=by have:=congrArg KC g;simp at this;omega
   have z:d.1∉c.map (·.1):=by
    rw[g];intro hm;have(i,G):=KW.mp hm;have Y:i<j:=by
     have:=(Js.mp G).1;simp at this;omega
    rw[Lk Y]at G;have Z:(a.map (·.1))[j]?*>d.1:=by rw[JB,U];rfl
    have:=(Mf (by simp;omega) a7).mp (G.trans Z.symm);omega
   have e:=Fk (emb:=aS) (v:=(J,u)) z;show yf (v:=aS (J,u)) (by rw[e];simp[diG];rw[Oe];omega) ?_;rw[e];ac_nf;and_intros;show{(f,c++[(d.1,J,u)]),by cbv,?_,ba A {M,?_,B}}
   .rw[JC,g,JX,JB,U];rfl
   .change u.length<=6;omega
 .have(f,c):=s;have(g,A):=H;rw[Jr,<-Jr (f:=(·.1)),JU]at g;dsimp only at g A;and_intros;show q c f g A
section
variable {α β:Type}{ea : α->I}{eb : β->I}{c:!(Str × α)}{F:Str->α->β}{O:Rho}{g:MG}{ek cbv a:ME}{fr:! ↑Nat}{QF:R->Rho->Prop}
def qE(c:!(Str × α)):pz (c.map λp=>.inr p.1) (c.map λp=>ea p.2)=c.map λp=>.tup [.str p.1,ea p.2]:=by
 unfold pz;rw[List.zipWith_map,List.zipWith_self];rfl
def GM(c:!(Str × β)):sA (KB (λk t=>(cu k,t)) (c.map λp=>(OO p.1:Key)) (c.map λp=>T.im (eb p.2)))*>(diG eb c):=by
 induction c with
 | nil=>rfl
 | cons p c d=>rw[Jt,Jt,Mw,sA,d];rfl
def DC(G:(c.map (·.1)).Nodup)(L:c.length<=100)(h:WE a O λr d=>d=O/\(∃k,r={k,.im (fdG ea c)})/\(fQ fr O.length&&fV (g.mu++(mYes.mu++(ek.mu++cbv.mu))) fr.length&&[r].all (aM (muF fr (g.mu++(mYes.mu++(ek.mu++cbv.mu))))))=Ug)
  (hs:∀p∈c,WG g {.ow,.im (.tup [.str p.1,ea p.2])} (inR fr O) λd=>WE ek d λB x=>xH B*>(.inr p.1)/\WE cbv x λr A=>r={.ow,.im (eb (F p.1 p.2))}/\dF fr (g.mu++(mYes.mu++(ek.mu++cbv.mu))) A O=O)
  (q:QF {.ow,.di (diG eb (c.map λp=>(p.1,F p.1 p.2)))} O):WE (mDi (iq fr (nN a) g mYes ek cbv)) O QF:=by
 show Jl (CF (rV (h.mono λr d z=>?_)));obtain⟨rfl,⟨k,rfl⟩,J⟩:=z;show{k,_,_,Xr,gu J {by rw[Jr,qE,Jr,Oe];omega,λi t u m=>m=d/\t=(c.take i).map (λp=>OO p.1)/\u=(c.take i).map λp=>T.im (eb (F p.1 p.2)),⟨Xr,Xr,Xr⟩,?_,?_}}
 .rintro i r t u m y ⟨rfl,rfl,rfl⟩;rw[qE,JJ]at y;have(p,f,rfl):=ay y;show(show WG g {.ow,.im (.tup [.str p.1,ea p.2])} _ _ from(hs p (ymG f)).mono λN w=>kU {λ_=>w.mono λB x z=>{_,z.1,?_,z.2.mono λr A z=>{_,z.1,z.2,?_,?_}},λz=>by cases z})
  .intro H;have(M,l,e):=Jz.mp H;have(j,s):=KW.mp l;have o:j<i:=by have:=(Js.mp s).1;rw[J1]at this;omega
   rw[Lk o]at s;have v:(c.map (·.1))[j]?*>p.1:=by rw[JB,s];show congrArg Ud (QH e)
   have E:(c.map (·.1))[i]?*>p.1:=by rw[JB,f];rfl
   have:=(Mf (Js.mp v).1 G).mp (v.trans E.symm);omega
  .rw[Md,f,JC];rfl
  .rw[Md,f,JC];rfl
 .rintro t u m ⟨rfl,rfl,rfl⟩;rw[Jr,qE,Jr,JU];have:=GM (eb:=eb) (c.map λp=>(p.1,F p.1 p.2));rw[JJ,JJ]at this;show{_,_,Xr,?_,q};change(sA _).map T.di=_;rw[show(c.map λp=>(OO p.1:Key))=c.map ((λp:Str × β=>(OO p.1:Key))∘λp=>(p.1,F p.1 p.2))from rfl,show(c.map λp=>T.im (eb (F p.1 p.2)))=c.map ((λp:Str × β=>T.im (eb p.2))∘λp=>(p.1,F p.1 p.2))from rfl,this];rfl
end
abbrev BnW(x:Int):Prop:=-(2^60)<x/\x<2^60
def j4{a b:!Int}(r:a.length<=1000)(h:∀x∈a,BnW x){Q:T->Prop}(q:Q (.im (.int (dot a b)))):W1 (gB [.im (.tup (a.map .int)),.im (.tup (b.map .int))]) Q:=by
 show ve [↥(.tup (a.map .int)),↥(.tup (b.map .int))] rfl rfl rfl ?_;unfold iZ;and_intros;show jZ (λ_:Unit=>[↥(.tup (a.map .int)),↥(.tup (b.map .int))]) I.int (λj _ l=>l=((a.zip b).take j).map λp=>p.1*p.2) ?_;and_intros;show{_,_,Ue,Ue,a.map .int,b.map .int,Xr,Xr,Xr,by simp;rw[Oe];omega,by cbv,(),by cbv,Xr,λj x y _ l i o d=>?_,λ_ l d=>?_}
 .have(e,c,rfl):=ay i;have(g,f,rfl):=ay o;and_intros;have m:=h e (ymG c);unfold BnW at m;show jg (pC ⋯ ⋯) ?_;show{e*g,(),Xr,by cbv,?_};rw[d,JX,show(a.zip b)[j]?*>(e,g)from by rw[Ky];show⟨c,f⟩];simp
 .rw[Jr,Jr,<-Lv,JU]at d;subst d;and_intros;show qT ?_;and_intros;show q
abbrev HsW(n:Nat)(hs:!(!Int×Int)):Prop:=hs.length<=6/\∀h∈hs,h.1.length=n/\∀x∈h.1,BnW x
def N1.w{n:Nat}{v:Int×!(!Int×Int)}(h:N1 n v):HsW n v.2:={h.2.1,λx a=>{(h.2.2 x a).1,λy c=>by have:=(h.2.2 x a).2.1 y c;unfold Bnd at this;unfold BnW;omega}}
abbrev iJ(c:Int) (hs:!(!Int×Int)) (a:!Int):!Int:=c::hs.map λh=>h.2+dot h.1 a
def wB{c:Clk}{z:Str}{g:Int}{hs:!(!Int×Int)}{d:!Int}(m:(c.map (·.1)).Nodup)(p:(z,g,hs)∈c)(r:HsW d.length hs)(t:d.length<=3){Q:T->Prop}
  (q:Q (.im (.tup ((iJ g hs d).map .int)))):W1 (fG [.di (diG aS c),.im (aW (z,d))]) Q:=by
 have(v2,v3):=r;show ve [Ud {.vw Uc Uc,.di (diG aS c)},↥(aW (z,d)),Uc,Uc,Uc,Uc] rfl rfl rfl ?_;unfold cZ;rw[aW];and_intros;show C8 (pc m p) ?_;rw[aS];and_intros;show bg (λ_:Unit=>[Ud {.vw Uc Uc,.di (diG aS c)},↥(aW (z,d)),↥(.str z),↥(tPl d),↥(.int g),↥(.tup (hs.map bj))]) I.int (λj _ l=>l=(hs.take j).map λh=>h.2+dot h.1 d) ?_;and_intros;show{hs.map bj,Xr,by rw[Jr,Oe];omega,by cbv,(),by cbv,Xr,λj x _ l o f=>?_,λ_ l f=>?_}
 .have(h,e,rfl):=ay o;have(s,i):=v3 h (ymG e);rw[bj];and_intros;show j4 (a:=h.1) (b:=d) ⋯ i ?_;and_intros;show{dot h.1 d+h.2,(),Xr,by cbv,by rw[f,JX,e,Int.add_comm];simp}
 .rw[Jr,JU]at f;subst f;and_intros;show gJ (is:=[.int g]) (by simp;rw[Oe];omega) ?_;and_intros;show q
def uh{a c:!Int}{i:Int}{z:Str}(u:a.length<=1000)(o:∀x∈a,BnW x){e:R->Rho->Prop}(q:e {.ow,.li (((a.zip c).map λp=>p.1*p.2).map .int)} [Uc,↥(aW (z,c)),Uc,Uc,↥(.tup (a.map .int)),↥(.int i)]):WE (aO [Uc,Uc,Uc,Uc,Uc,Uc,Uc,Uc] (km (aa 4 (ac (mIx (ag 1) (mC (.int 1))) mNil))) (bA (av (af 6) (av (af 7) mGNil))) mYes (mOp cK (ag 6) (ag 7))) [Uc,↥(aW (z,c)),Uc,Uc,↥(.tup (a.map .int)),↥(.int i)] e:=by
 show jZ (λ_:Unit=>[Uc,↥(aW (z,c)),Uc,Uc,↥(.tup (a.map .int)),↥(.int i)]) I.int (λj _ l=>l=((a.zip c).take j).map λp=>p.1*p.2) ?_;rw[aW,tPl];and_intros;show{_,_,Ue,Ue,a.map .int,c.map .int,Xr,Xr,Xr,by simp;rw[Oe];omega,by cbv,(),by cbv,Xr,λj x y _ l r t f=>?_,λ_ l f=>?_}
 .have(g,d,rfl):=ay r;have(m,h,rfl):=ay t;and_intros;have s:=o g (ymG d);unfold BnW at s;show jg (pC ⋯ ⋯) ?_;show{g*m,(),Xr,by cbv,?_};rw[f,JX,show(a.zip c)[j]?*>(g,m)from by rw[Ky];show⟨d,h⟩];simp
 .rw[Jr,Jr,<-Lv,JU]at f;subst f;show q
def vD{c:Clk}{z:Str}{f:Int}{hs:!(!Int×Int)}{a:!Int}(i:(c.map (·.1)).Nodup)(o:(z,f,hs)∈c)(p:HsW a.length hs)(s:a.length<=3){Q:T->Prop}
  (q:Q (.im (.tup ((iJ f hs a).map .int)))):W1 (dZ [.im (fdG aS c),.im (aW (z,a))]) Q:=by
 have(v2,v3):=p;show ve [↥(fdG aS c),↥(aW (z,a)),Uc,Uc] rfl rfl rfl ?_;unfold fX;rw[aW];and_intros;show G8 (ly i o) ?_;rw[aS];and_intros;show bg (λ_:Unit=>[↥(fdG aS c),↥(aW (z,a)),↥(.int f),↥(.tup (hs.map bj))]) I.int (λj _ l=>l=(hs.take j).map λh=>h.2+dot h.1 a) ?_;and_intros;show{hs.map bj,Xr,by rw[Jr,Oe];omega,by cbv,(),by cbv,Xr,λj x _ l m e=>?_,λ_ l e=>?_}
 .have(h,d,rfl):=ay m;have(r,g):=v3 h (ymG d);rw[bj];and_intros;show uh ⋯ g ?_;and_intros;show qT ?_;and_intros;show{h.2+dot h.1 a,(),Xr,by cbv,?_};rw[e,JX,d];simp
 .rw[Jr,JU]at e;subst e;and_intros;show gJ (is:=[.int f]) (by simp;rw[Oe];omega) ?_;and_intros;show q
def vC{c:Clk}{z:Str}{f:Int}{hs:!(!Int×Int)}{a:!Int}(i:(c.map (·.1)).Nodup)(o:(z,f,hs)∈c)(p:HsW a.length hs)(s:a.length<=3){Q:T->Prop}
  (q:Q (.im (.tup ((iJ f hs a).map .int)))):W1 (dZ [.di (diG aS c),.im (aW (z,a))]) Q:=by
 have(v2,v3):=p;show ve [Ud {.vw Uc Uc,.di (diG aS c)},↥(aW (z,a)),Uc,Uc] rfl rfl rfl ?_;unfold fX;rw[aW];and_intros;show G7 (pc i o) ?_;rw[aS];and_intros;show bg (λ_:Unit=>[Ud {.vw Uc Uc,.di (diG aS c)},↥(aW (z,a)),↥(.int f),↥(.tup (hs.map bj))]) I.int (λj _ l=>l=(hs.take j).map λh=>h.2+dot h.1 a) ?_;and_intros;show{hs.map bj,Xr,by rw[Jr,Oe];omega,by cbv,(),by cbv,Xr,λj x _ l m e=>?_,λ_ l e=>?_}
 .have(h,d,rfl):=ay m;have(r,g):=v3 h (ymG d);rw[bj];and_intros;show uh ⋯ g ?_;and_intros;show qT ?_;and_intros;show{h.2+dot h.1 a,(),Xr,by cbv,?_};rw[e,JX,d];simp
 .rw[Jr,JU]at e;subst e;and_intros;show gJ (is:=[.int f]) (by simp;rw[Oe];omega) ?_;and_intros;show q
abbrev mvH(a:!Int) (hs:!(!Int×Int)):!(!Int×Int):=hs.map λh=>(h.1,h.2-dot h.1 a)
def mE{n:Nat}{hs:!(!Int×Int)}{c:!Int}(i:HsW n hs)(m:n<=3){Q:T->Prop}(q:Q (.im (.tup ((mvH c hs).map bj)))):W1 (eH [.im (.tup (hs.map bj)),.im (tPl c)]) Q:=by
 have(v2,v3):=i;show ve [↥(.tup (hs.map bj)),↥(tPl c)] rfl rfl rfl ?_;unfold cH;and_intros;show bg (λ_:Unit=>[↥(.tup (hs.map bj)),↥(tPl c)]) bj (λj _ l=>l=mvH c (hs.take j)) ?_;and_intros;show{hs.map bj,Xr,by rw[Jr,Oe];omega,by cbv,(),by cbv,Xr,λj x _ l g d=>?_,λ_ l d=>?_}
 .have(h,e,rfl):=ay g;have(o,f):=v3 h (ymG e);rw[bj];and_intros;show j4 (a:=h.1) (b:=c) ⋯ f ?_;and_intros;show{(h.1,h.2-dot h.1 c),(),by cbv,by cbv,?_};unfold mvH at d|-;rw[d,JX,e,JC];rfl
 .rw[Jr,JU]at d;subst d;and_intros;show q
abbrev eV(t:! !Int) (p:!Int):!Int:=t.map λr=>dot r p
def on{t:! !Int}{p:!Int}(i:t.length<=1000)(g:∀r∈t,r.length<=1000/\∀x∈r,BnW x){Q:T->Prop}(q:Q (.im (tPl (eV t p)))):W1 (gO [.im (.tup (t.map tPl)),.im (tPl p)]) Q:=by
 show ve [↥(.tup (t.map tPl)),↥(tPl p)] rfl rfl rfl ?_;unfold gH;and_intros;show bg (λ_:Unit=>[↥(.tup (t.map tPl)),↥(tPl p)]) I.int (λj _ l=>l=eV (t.take j) p) ?_;and_intros;show{t.map tPl,Xr,by rw[Jr,Oe];omega,by cbv,(),by cbv,Xr,λj x _ l e c=>?_,λ_ l c=>?_}
 .have(r,d,rfl):=ay e;have(h,f):=g r (ymG d);and_intros;show j4 (a:=r) (b:=p) h f ?_;show{dot r p,(),Xr,by cbv,?_};unfold eV at c|-;rw[c,JX,d,JC];rfl
 .rw[Jr,JU]at c;subst c;and_intros;show q
def nr{t:! !Int}{z:Str}{p:!Int}(a:t.length<=1000)(c:∀r∈t,r.length<=1000/\∀x∈r,BnW x){Q:T->Prop}(q:Q (.im (aW (z,eV t p)))):W1 (eI [.im (aW (z,p)),.im (.tup (t.map tPl))]) Q:=by
 show ve [↥(aW (z,p)),↥(.tup (t.map tPl)),Uc,Uc] rfl rfl rfl ?_;unfold cI;rw[aW];and_intros;show on a c ?_;and_intros;show q
abbrev tuH(t:! !Int) (hs:!(!Int×Int)):!(!Int×Int):=hs.map λh=>(eV t h.1,h.2)
def lu{t:! !Int}{hs:!(!Int×Int)}(e:t.length<=1000)(f:∀r∈t,r.length<=1000/\∀x∈r,BnW x)(g:hs.length<=1000){Q:T->Prop}(q:Q (.im (.tup ((tuH t hs).map bj)))):W1 (dP [.im (.tup (hs.map bj)),.im (.tup (t.map tPl))]) Q:=by
 show ve [↥(.tup (hs.map bj)),↥(.tup (t.map tPl))] rfl rfl rfl ?_;unfold cx;and_intros;show bg (λ_:Unit=>[↥(.tup (hs.map bj)),↥(.tup (t.map tPl))]) bj (λj _ l=>l=tuH t (hs.take j)) ?_;and_intros;show{hs.map bj,Xr,by rw[Jr,Oe];omega,by cbv,(),by cbv,Xr,λj x _ l d a=>?_,λ_ l a=>?_}
 .have(h,c,rfl):=ay d;rw[bj];and_intros;show on (p:=h.1) e f ?_;and_intros;show{(eV t h.1,h.2),(),by cbv,by cbv,?_};unfold tuH at a|-;rw[a,JX,c,JC];rfl
 .rw[Jr,JU]at a;subst a;and_intros;show q
abbrev kW(F:Str->!(!Int×Int)->!(!Int×Int)) (c:Clk):Clk:=c.map λp=>(p.1,p.2.1,F p.1 p.2.2)
def mD{n:Nat}{c:Clk}{o:Ofs}{g:Str->!Int}(h:(c.map (·.1)).Nodup)(d:c.length<=100)(i:∀p∈c,HsW n p.2.2)(e:n<=3)(ho:(o.map (·.1)).Nodup)(f:∀p∈c,(p.1,g p.1)∈o){Q:T->Prop}(q:Q (.di (diG aS (kW (λz=>mvH (g z)) c)))):W1 (eG [.im (fdG aS c),.im (fdG tPl o)]) Q:=by
 show ve [↥(fdG aS c),↥(fdG tPl o)] rfl rfl rfl ?_;unfold eg;and_intros;show DC (F:=λz v=>(v.1,mvH (g z) v.2)) (ea:=aS) (eb:=aS) h d ?_ (λp a=>?_) ?_
 .and_intros;show{Xr,{_,Xr},by cbv}
 .rw[aS];and_intros;show{Xr,?_};and_intros;show um (ly (v:=g p.1) ho (f p a)) ?_;and_intros;show mE (i p a) e ?_;and_intros;show{Xr,by cbv}
 .and_intros;show q
abbrev gc{a:Type} (j:Nat) (r:!a):!a:=r.take j++r.drop (j+1)
abbrev bW(t:! !Int) (i j:Nat):! !Int:=(gc i t).map (gc j)
abbrev sgn(k:Nat) (x:Int):Int:=if k % 2=0 then x else -x
abbrev bh:Nat->! !Int->Int
 | 0,_=>1
 | n+1,t=>match t with
  | []=>1
  | r::_=>((JE r.length).map λj=>r.getD j 0*sgn j (bh n (bW t 0 j))).sum
def lw{a:Type}{j:Nat}{r:!a}(h:j<r.length):(gc j r).length=r.length-1:=by unfold gc;rw[JP,J1,Kt];omega
def iN{a:Type}{j:Nat}{r:!a}{x : a}(h:x∈gc j r):x∈r:=(yaM h).elim KM K6
abbrev Sq(t:! !Int):Prop:=t.length<=3/\∀r∈t,r.length=t.length/\∀x∈r,BnW x
def Sq.minor{t:! !Int}{i j:Nat}(h:Sq t)(g:i<t.length)(o:j<t.length):Sq (bW t i j)/\(bW t i j).length=t.length-1:=by
 have c:(bW t i j).length=t.length-1:=by unfold bW;rw[Jr,lw g]
 show{{by have:=h.1;omega,λr e=>?_},c};have(l,a,rfl):=Jz.mp e;have(m,f):=h.2 l (iN a);show{by rw[c,lw ⋯,m],λx d=>f x (iN d)}
def lv{a:Type}{r:!a}{j:Nat}(h:j<r.length):cB r Uc (Ud (j:Int))++cB r (Ud ((j:Int)+1)) Uc=gc j r:=by
 unfold gc;rw[iM ⋯,j8 ⋯ ⋯];rw[show((j:Int)+1).toNat=j+1 by omega,JR]
def pb{j n:Nat}(h:j<n):¬(HT.sIx n 0 Uc=0/\HT.sIx n n (Ud (j:Int))=n)/\¬(HT.sIx n 0 (Ud ((j:Int)+1))=0/\HT.sIx n n Uc=n):=by
 rw[show((j:Int)+1)=((j+1:Nat):Int) by omega,HT.sIx_nat,HT.sIx_nat];omega
def lD{a c:Type}{f : a->c}{j:Nat}{r:!a}:gc j (r.map f)=(gc j r).map f:=by unfold gc;rw[JC,Lc,Lm]
def uq{is:!I}{Q:Bool->Prop}(q:Q (~~~is.isEmpty)):W1 (tru (.im (.tup is))) Q:=w1 rfl q
def zX{n:Nat}{t:! !Int}{i j:Nat}(c:∀u:! !Int,Sq u->u.length<t.length->∀{Q:T->Prop},Q (.im (.int (bh n u)))->W1 (aE n [.li (u.map tPl)]) Q)(g:Sq t)(d:i<t.length)(p:j<t.length){Q:T->Prop}(q:Q (.im (.int (sgn (i+j) (bh n (bW t i j)))))):W1 (be n [.im (.tup (t.map tPl)),.im (.int i),.im (.int j)]) Q:=by
 show ve [↥(.tup (t.map tPl)),↥(.int i),↥(.int j),Uc] rfl rfl rfl ?_;unfold bt;have a:=g.minor d p;have s:=g.1;have y:=lw d;and_intros;show bg (λ_:Unit=>[↥(.tup (t.map tPl)),↥(.int i),↥(.int j),Uc]) tPl (λk _ l=>l=((gc i t).take k).map (gc j)) ?_;and_intros;show oB (is:=t.map tPl) (pb (by rw[Jr];show d)).1 ?_;and_intros;show oB (is:=t.map tPl) (pb (by rw[Jr];show d)).2 ?_;and_intros;show sK ?_ ?_
 .unfold cB;simp;rw[Oe];omega
 rw[lv (by rw[Jr];show d),lD];show{(gc i t).map tPl,Xr,by rw[Jr,Oe];omega,by cbv,(),by cbv,Xr,λk x _ l v f=>?_,λ_ l f=>?_}
 .have(r,o,rfl):=ay v;have w:=(g.2 r (iN (ymG o))).1;have m:=pb (show j<(r.map I.int).length by rw[Jr];omega);rw[tPl];and_intros;show oB (is:=r.map .int) m.1 ?_;and_intros;show oB (is:=r.map .int) m.2 ?_;and_intros;show sK ?_ ?_
  .unfold cB;simp;rw[Oe];omega
  rw[lv (by rw[Jr];omega),lD];show{gc j r,(),Xr,by cbv,by rw[f,JX,o,JC];rfl}
 .rw[Jr,JU]at f;subst f;and_intros;have e:((i:Int)+(j:Int)) % 2=0↔(i+j) % 2=0:=by omega
  clear_value h
  .and_intros;show c _ a.1 (by rw[a.2];omega) ?_;and_intros;unfold sgn at q;rw[if_pos (e.mp h)]at q;show q
  .and_intros;show c _ a.1 (by rw[a.2];omega) ?_;and_intros;unfold sgn at q;rw[if_neg (λz=>h (e.mpr z))]at q;show q
def FO{n:Nat}{t:! !Int}{i j:Nat}(c:∀u:! !Int,Sq u->u.length<t.length->∀{Q:T->Prop},Q (.im (.int (bh n u)))->W1 (aE n [.li (u.map tPl)]) Q)(f:Sq t)(g:i<t.length)(p:j<t.length){Q:T->Prop}(q:Q (.im (.int (sgn (i+j) (bh n (bW t i j)))))):W1 (be n [.li (t.map tPl),.im (.int i),.im (.int j)]) Q:=by
 show ve [Ud {.vw Uc Uc,.li (t.map tPl)},↥(.int i),↥(.int j),Uc] rfl rfl rfl ?_;unfold bt;have a:=f.minor g p;have s:=f.1;have y:=lw g;and_intros;show bg (λ_:Unit=>[Ud {.vw Uc Uc,.li (t.map tPl)},↥(.int i),↥(.int j),Uc]) tPl (λk _ l=>l=((gc i t).take k).map (gc j)) ?_;and_intros;show gJ ?_ ?_
 .unfold cB;simp;rw[Oe];omega
 rw[lv (by rw[Jr];show g),lD];show{(gc i t).map tPl,Xr,by rw[Jr,Oe];omega,by cbv,(),by cbv,Xr,λk x _ l v d=>?_,λ_ l d=>?_}
 .have(r,o,rfl):=ay v;have w:=(f.2 r (iN (ymG o))).1;have m:=pb (show j<(r.map I.int).length by rw[Jr];omega);rw[tPl];and_intros;show oB (is:=r.map .int) m.1 ?_;and_intros;show oB (is:=r.map .int) m.2 ?_;and_intros;show sK ?_ ?_
  .unfold cB;simp;rw[Oe];omega
  rw[lv (by rw[Jr];omega),lD];show{gc j r,(),Xr,by cbv,by rw[d,JX,o,JC];rfl}
 .rw[Jr,JU]at d;subst d;and_intros;have e:((i:Int)+(j:Int)) % 2=0↔(i+j) % 2=0:=by omega
  clear_value h
  .and_intros;show c _ a.1 (by rw[a.2];omega) ?_;and_intros;unfold sgn at q;rw[if_pos (e.mp h)]at q;show q
  .and_intros;show c _ a.1 (by rw[a.2];omega) ?_;and_intros;unfold sgn at q;rw[if_neg (λz=>h (e.mpr z))]at q;show q
def jH:∀{is:!I} {k:Nat},(ij k is).length=is.length
 | [],_=>rfl
 | _::is,k=>congrArg (· + 1) (jH (is:=is) (k:=k+1))
def tZ{n:Nat}{t:! !Int}(f:∀u:! !Int,Sq u->u.length<t.length->∀{Q:T->Prop},Q (.im (.int (bh n u)))->W1 (aE n [.li (u.map tPl)]) Q)(p:Sq t){Q:T->Prop}(q:Q (.im (.int (bh (n+1) t)))):W1 (aE (n+1) [.im (.tup (t.map tPl))]) Q:=by
 show ve (m:=bK (be n)) [↥(.tup (t.map tPl))] rfl rfl rfl ?_;unfold bK;cases t with
 | nil=>
  show j2 (bC (nC (nD ?_)));and_intros;show uq ?_
  (repeat first|infer_instance|refine spT ?_|refine spF ?_|refine bC ?_)
  show q
 | cons r rest=>
  show j2 (bC (nC (nD ?_)));and_intros;show uq ?_
  (repeat first|infer_instance|refine spT ?_|refine spF ?_|refine bC ?_)
  show kT (uQ ?_);and_intros;show yh (emb:=tPl) (ns:=r::rest) (NG 0) (by rw[JH];omega) λy w=>?_;cases (w);and_intros;have(o,h):=p.2 r ymS;have v:=p.1;show{_,r.map .int,Xr,gu (by cbv) {by rw[jH,Jr,Oe];omega,λi c O=>O=[↥(.tup ((r::rest).map tPl))]/\c=((JE i).map λj=>r.getD j 0*sgn j (bh n (bW (r::rest) 0 j))).map (λx=>T.im (.int x)),{by cbv,Xr},?_,?_}}
  .rintro i x c O d ⟨rfl,rfl⟩;rw[iQ]at d;cases e:(r.map I.int)[i]? with
   | none=>rw[e]at d;cases d
   | some y=>
    rw[e]at d;dsimp[KU,JT.injEq,Ke]at d;subst d;have(a,l,rfl):=ay e;have s:=(Js.mp l).1;have g:=h a (ymG l);unfold BnW at g;and_intros;show spT ?_;and_intros;show zX (i:=0) f p ∅ (by rw[<-o];show s) ?_;and_intros;show jg (pC ⋯ ⋯) ?_;show{_,Xr,by cbv,?_};rw[LH,JC,JC,LK,LK,JO,l,Ke];rfl
  .rintro c O ⟨rfl,rfl⟩;rw[jH,Jr,fg];and_intros;show qT ?_;and_intros;show q
def AM{n:Nat}{t:! !Int}(f:∀u:! !Int,Sq u->u.length<t.length->∀{Q:T->Prop},Q (.im (.int (bh n u)))->W1 (aE n [.li (u.map tPl)]) Q)(p:Sq t){Q:T->Prop}(q:Q (.im (.int (bh (n+1) t)))):W1 (aE (n+1) [.li (t.map tPl)]) Q:=by
 show ve (m:=bK (be n)) [Ud {.vw Uc Uc,.li (t.map tPl)}] rfl rfl rfl ?_;unfold bK;cases t with
 | nil=>
  show j2 (bC (nC (nD ?_)));and_intros;show yq ?_
  (repeat first|infer_instance|refine spT ?_|refine spF ?_|refine bC ?_)
  show q
 | cons r rest=>
  show j2 (bC (nC (nD ?_)));and_intros;show yq ?_
  (repeat first|infer_instance|refine spT ?_|refine spF ?_|refine bC ?_)
  show kT (uQ ?_);and_intros;show iD (emb:=tPl) (ns:=r::rest) (NG 0) (by rw[JH];omega) λy w=>?_;cases (w);and_intros;have(o,h):=p.2 r ymS;have v:=p.1;show{_,r.map .int,Xr,gu (by cbv) {by rw[jH,Jr,Oe];omega,λi c O=>O=[Ud {.vw Uc Uc,.li ((r::rest).map tPl)}]/\c=((JE i).map λj=>r.getD j 0*sgn j (bh n (bW (r::rest) 0 j))).map (λx=>T.im (.int x)),{by cbv,Xr},?_,?_}}
  .rintro i x c O d ⟨rfl,rfl⟩;rw[iQ]at d;cases e:(r.map I.int)[i]? with
   | none=>rw[e]at d;cases d
   | some y=>
    rw[e]at d;dsimp[KU,JT.injEq,Ke]at d;subst d;have(a,l,rfl):=ay e;have s:=(Js.mp l).1;have g:=h a (ymG l);unfold BnW at g;and_intros;show spT ?_;and_intros;show FO (i:=0) f p ∅ (by rw[<-o];show s) ?_;and_intros;show jg (pC ⋯ ⋯) ?_;show{_,Xr,by cbv,?_};rw[LH,JC,JC,LK,LK,JO,l,Ke];rfl
  .rintro c O ⟨rfl,rfl⟩;rw[jH,Jr,fg];and_intros;show qT ?_;and_intros;show q
def sr:∀(n:Nat) (u:! !Int),Sq u->u.length<n->∀{Q:T->Prop},Q (.im (.int (bh n u)))->W1 (aE n [.li (u.map tPl)]) Q:=by
 intro n
 induction n with
 | zero=>intro u _ h;show absurd h (Ni _)
 | succ n c=>intro u d e Q q;show AM (λv a h=>c v a ⋯) d q
abbrev gr(t:! !Int):! !Int:=(JE t.length).map λi=>(JE t.length).map λj=>bh 24 t*sgn (i+j) (bh 24 (bW t i j))
def u8{n:Nat}{a:Int}:bh (n+2) [[a]]=a:=by
 change a*1+0=a;omega
def u9{n:Nat}{a b c d:Int}:bh (n+3) [[a,b],[c,d]]=a*d-b*c:=by
 change a*bh (n+2) [[d]]+(b*(-bh (n+2) [[c]])+0)=_;rw[u8,u8];grind
def GD{n:Nat}{a b c d e f g h i:Int}:bh (n+4) [[a,b,c],[d,e,f],[g,h,i]]=a*(e*i-f*h)-b*(d*i-f*g)+c*(d*h-e*g):=by
 have j:∀{p q r t:Int},bh (n+3) [[p,q],[r,t]]=p*t-q*r:=u9;rw[show n+4=(n+3)+1 from rfl,bh];simp[bW,gc,sgn,JE,JE.loop,j];grind
def IU{a x y:Int}(h:a*a=1):dot (eV (gr [[a]]) [x]) (eV [[a]] [y])=dot [x] [y]:=by
 change(bh 24 [[a]]*1*x+0)*(a*y+0)+0=x*y+0;rw[u8]
 grind
def IV{a b c d x y u v:Int}(h:(a*d-b*c)*(a*d-b*c)=1):dot (eV (gr [[a,b],[c,d]]) [x,y]) (eV [[a,b],[c,d]] [u,v])=dot [x,y] [u,v]:=by
 have e:∀s:Int,(s*d*x+(s * -c*y+0))*(a*u+(b*v+0))+((s * -b*x+(s*a*y+0))*(c*u+(d*v+0))+0)=s*(a*d-b*c)*(x*u+(y*v+0)):=λs=>by grind
 have:=e (a*d-b*c);rw[h,NH]at this;have f:∀{p q r t:Int},bh 24 [[p,q],[r,t]]=p*t-q*r:=u9;have g:∀{p:Int},bh 24 [[p]]=p:=u8;simp[dot,eV,gr,bW,gc,sgn,JE,JE.loop,f,g]at this|-;show this
def IW{a b c d e f g h i x y z u v w:Int}(j:bh 24 [[a,b,c],[d,e,f],[g,h,i]]*bh 24 [[a,b,c],[d,e,f],[g,h,i]]=1):dot (eV (gr [[a,b,c],[d,e,f],[g,h,i]]) [x,y,z]) (eV [[a,b,c],[d,e,f],[g,h,i]] [u,v,w])=dot [x,y,z] [u,v,w]:=by
 have k:∀s:Int,(s*(e*i-f*h)*x+(s * -(d*i-f*g)*y+(s*(d*h-e*g)*z+0)))*(a*u+(b*v+(c*w+0)))+((s * -(b*i-c*h)*x+(s*(a*i-c*g)*y+(s * -(a*h-b*g)*z+0)))*(d*u+(e*v+(f*w+0)))+((s*(b*f-c*e)*x+(s * -(a*f-c*d)*y+(s*(a*e-b*d)*z+0)))*(g*u+(h*v+(i*w+0)))+0))=s*(a*(e*i-f*h)-b*(d*i-f*g)+c*(d*h-e*g))*(x*u+(y*v+(z*w+0))):=λs=>by grind
 have:=k (bh 24 [[a,b,c],[d,e,f],[g,h,i]]);rw[<-GD (n:=20),j,NH]at this;generalize m:bh 24 [[a,b,c],[d,e,f],[g,h,i]]=s at this;have l:∀{p q r t:Int},bh 24 [[p,q],[r,t]]=p*t-q*r:=u9;simp[dot,eV,gr,bW,gc,sgn,JE,JE.loop,l,m]at this|-;show this
def ll1{c:Type}{l:!c}(h:l.length=1):∃a,l=[a]:=by
 cases l with
 | nil=>cases h
 | cons a l=>cases l with
  | nil=>show⟨a,Xr⟩
  | cons _ _=>cases h
def ll2{c:Type}{l:!c}(h:l.length=2):∃a b,l=[a,b]:=by
 cases l with
 | nil=>cases h
 | cons a l=>
  have(b,rfl):=ll1 (KG.inj h);show⟨a,b,Xr⟩
def ll3{d:Type}{l:!d}(h:l.length=3):∃a b c,l=[a,b,c]:=by
 cases l with
 | nil=>cases h
 | cons a l=>
  have(b,c,rfl):=ll2 (KG.inj h);show⟨a,b,c,Xr⟩
structure NX(t:! !Int):Prop where
 n:1<=t.length/\t.length<=3
 r:∀r∈t,r.length=t.length/\∀x∈r,-3<=x/\x<=3
 d:bh 24 t=1\/bh 24 t = -1
def NX.sq{t:! !Int}(h:NX t):Sq t:={h.n.2,λr a=>{(h.r r a).1,λx c=>by have:=(h.r r a).2 x c;unfold BnW;omega}}
def kR{t:! !Int}(o:1<=t.length)(m:t.length<=3)(l:∀r∈t,r.length=t.length):(∃a,t=[[a]])\/(∃a b c d,t=[[a,b],[c,d]]) \/ ∃a b c d e f g h i,t=[[a,b,c],[d,e,f],[g,h,i]]:=by
 have j:t.length=1\/t.length=2\/t.length=3:=by omega
 rcases j with j|j|j
 .have(r,rfl):=ll1 j;have(a,rfl):=ll1 (l r ∅);show .inl ⟨a,Xr⟩
 .have(r,s,rfl):=ll2 j;have(a,b,rfl):=ll2 (l r ∅);have(c,d,rfl):=ll2 (l s ∅);show .inr (.inl ⟨a,b,c,d,Xr⟩)
 .have(r,s,u,rfl):=ll3 j;have(a,b,c,rfl):=ll3 (l r ∅);have(d,e,f,rfl):=ll3 (l s ∅);have(g,h,i,rfl):=ll3 (l u ∅);show .inr (.inr ⟨a,b,c,d,e,f,g,h,i,Xr⟩)
def NX.dd{t:! !Int}(h:NX t):bh 24 t*bh 24 t=1:=by rcases h.d with e|e<;>rw[e]<;>rfl
def AL{t:! !Int}(h:NX t){x y:!Int}(l:x.length=t.length)(m:y.length=t.length):dot (eV (gr t) x) (eV t y)=dot x y:=by
 have j:=h.dd;rcases kR h.n.1 h.n.2 (λr u=>(h.r r u).1)with⟨a,rfl⟩|⟨a,b,c,d,rfl⟩|⟨a,b,c,d,e,f,g,h,i,rfl⟩
 .have(p,rfl):=ll1 l;have(q,rfl):=ll1 m;rw[u8]at j;show IU j
 .have(p,s,rfl):=ll2 l;have(q,o,rfl):=ll2 m;rw[u9]at j;show IV j
 .have(p,s,w,rfl):=ll3 l;have(q,o,v,rfl):=ll3 m;show IW j
def xU{x y:Int}(c : -3<=x/\x<=3)(a : -3<=y/\y<=3) : -9<=x*y/\x*y<=9:=by
 have:(x*y).natAbs<=9:=by rw[Np];show LP (show x.natAbs<=3 by omega) (show y.natAbs<=3 by omega)
 omega
def wy{u:! !Int}(q:u.length<=2)(j:∀r∈u,r.length=u.length/\∀x∈r,-3<=x/\x<=3) : -18<=bh 24 u/\bh 24 u<=18:=by
 by_cases p:u=[];subst p;decide
 .rcases kR (L5.mpr p) ⋯ (λr l=>(j r l).1)with⟨a,rfl⟩|⟨a,b,c,d,rfl⟩|⟨a,b,c,d,e,f,g,h,i,rfl⟩
  .have:=(j [a] ∅).2 a ∅;rw[u8];omega
  .have o:=(j [a,b] ∅).2;have m:=(j [c,d] ∅).2;have t:=xU (o a ∅) (m d ∅);have s:=xU (o b ∅) (m c ∅);rw[u9];omega
  .show absurd q ∅
def o9{t:! !Int}(h:NX t):(gr t).length=t.length/\∀r∈gr t,r.length=t.length/\∀x∈r,-18<=x/\x<=18:=by
 unfold gr;show{by rw[Jr,Kq],λr a=>?_};have(i,g,rfl):=Jz.mp a;show{by rw[Jr,Kq],λx f=>?_};have(j,c,rfl):=Jz.mp f;have g:=KO.mp g;have c:=KO.mp c;have o:=h.sq.minor g c;have q:=h.n;have k:=wy (u:=bW t i j) (by rw[o.2];omega) λr a=>{(o.1.2 r a).1,λx f=>by
  have(p,l,rfl):=Jz.mp a;show(h.r p (iN l)).2 x (iN f)}
 generalize bh 24 (bW t i j)=m at k;rcases h.d with e|e<;>rw[e]<;>unfold sgn<;>split<;>omega
def nL{t:! !Int}(h:NX t){Q:T->Prop}(q:Q (.im .non)):W1 (fE [.im (.tup (t.map tPl))]) Q:=by
 show ve [↥(.tup (t.map tPl))] rfl rfl rfl ?_;unfold fo;show bC ?_;and_intros;show tZ (n:=23) (λv a c=>sr 23 v a (by have:=a.1;omega)) h.sq ?_;and_intros;show EQ (is:=[.int 1,.int (-1)]) {Xr,by decide,by decide} ?_;have:decide (I.int (bh (23+1) t)∈[I.int 1,.int (-1)])=Ug:=decide_eq_true (by rcases h.d with e|e<;>rw[e]<;>simp);rw[this]
 (repeat first|infer_instance|refine spT ?_|refine spF ?_|refine bC ?_)
 show q
def Cq{t:! !Int}(h:NX t){Q:T->Prop}(q:Q (.im (.tup ((gr t).map tPl)))):W1 (dv [.im (.tup (t.map tPl))]) Q:=by
 have z:=h.n;show ve [↥(.tup (t.map tPl)),Uc,Uc] rfl rfl rfl ?_;unfold cb;and_intros;show tZ (n:=23) (λv o s=>sr 23 v o (by have:=o.1;omega)) h.sq ?_;ac_nf;and_intros;rw[Jr];show yl {by omega,by omega} ?_;have u:rE ((t.length:Int)).toNat=(JE t.length).map λi:Nat=>I.int i:=rfl;rw[u];ac_nf;and_intros;show bg (λ_:Unit=>[↥(.tup (t.map tPl)),↥(.int (bh 24 t)),⇑(.li ((JE t.length).map λi:Nat=>I.int i))]) tPl (λk _ l=>l=(gr t).take k) ?_;and_intros;show{(JE t.length).map λi:Nat=>I.int i,Xr,by rw[Jr,Kq,Oe];omega,by cbv,(),by cbv,Xr,λi x _ w r p=>?_,λ_ l a=>?_}
 .have(A,c,rfl):=ay r;have f:i<t.length:=by have:=(Js.mp c).1;rwa [Kq]at this
  rw[L6 f]at c;cases (c);and_intros;show bg (λ_:Unit=>[↥(.tup (t.map tPl)),↥(.int (bh 24 t)),⇑(.li ((JE t.length).map λi:Nat=>I.int i)),↥(.int i)]) I.int (λk _ l=>l=(JE k).map λj=>bh 24 t*sgn (i+j) (bh 24 (bW t i j))) ?_;and_intros;show{(JE t.length).map λi:Nat=>I.int i,Xr,by rw[Jr,Kq,Oe];omega,by cbv,(),by cbv,Xr,λj x _ l r a=>?_,λ_ l a=>?_}
  .have(y,g,rfl):=ay r;have m:j<t.length:=by have:=(Js.mp g).1;rwa [Kq]at this
   rw[L6 m]at g;cases (g);and_intros;show zX (n:=24) (λv o s=>sr 24 v o (by have:=o.1;omega)) h.sq f m ?_;and_intros;show jg (pC (by rcases h.d with e|e<;>rw[e]<;>decide) (by rcases h.d with e|e<;>rw[e]<;>decide)) ?_;show{_,(),Xr,by cbv,by rw[a,LH,JC];rfl}
  .rw[Jr,Kq]at a;subst a;and_intros;show{(JE t.length).map λj=>bh 24 t*sgn (i+j) (bh 24 (bW t i j)),(),by cbv,by cbv,?_};have:(gr t)[i]?*>((JE t.length).map λj=>bh 24 t*sgn (i+j) (bh 24 (bW t i j))):=by unfold gr;rw[JB,L6 f];rfl
   rw[p,JX,this];rfl
 .rw[Jr,Kq,<-(o9 h).1,JU]at a;subst a;and_intros;show q
def lr{c:Clk}{t:! !Int}(h:NX t)(i:(c.map (·.1)).Nodup)(e:c.length<=100)(j:∀p∈c,p.2.2.length<=1000){Q:T->Prop}(q:Q (.di (diG aS (kW (λ_=>tuH (gr t)) c)))):W1 (dO [.im (fdG aS c),.im (.tup (t.map tPl))]) Q:=by
 have d:=o9 h;have f:=h.n;show ve [↥(fdG aS c),↥(.tup (t.map tPl)),Uc] rfl rfl rfl ?_;unfold dJ;and_intros;show nL h ?_;and_intros;show Cq h ?_;ac_nf;and_intros;show DC (F:=λ_ v=>(v.1,tuH (gr t) v.2)) (ea:=aS) (eb:=aS) i e ?_ (λp g=>?_) ?_
 .and_intros;show{Xr,{_,Xr},by cbv}
 .rw[aS];and_intros;show{Xr,?_};and_intros;show lu ⋯ (λr a=>{by rw[(d.2 r a).1];omega,λx l=>by have:=(d.2 r a).2 x l;unfold BnW;omega}) (j p g) ?_;and_intros;show{Xr,by cbv}
 .and_intros;show q
abbrev uni(n:Nat) (a x:Int):!Int:=(JE n).map λk:Nat=>x*(if decide ((k:Int)=a)then 1 else 0)
def CC:(uni n a x).length=n:=by unfold uni;rw[Jr,Kq]
def Ah(n:Nat)(a x:Int):uni (n+1) a x=uni n a x++[x*(if decide ((n:Int)=a)then 1 else 0)]:=by unfold uni;rw[LH,JC];rfl
def HZ{a b c d t:Int}:bh 24 [zpl t [a,b] [c,d],[c,d]]=bh 24 [[a,b],[c,d]]/\bh 24 [[a,b],zpl t [c,d] [a,b]]=bh 24 [[a,b],[c,d]]:=by
 have e:∀{p q r t:Int},bh 24 [[p,q],[r,t]]=p*t-q*r:=u9;dsimp[zpl,KB,e];constructor<;>grind
def Jh{a b c d e f g h i t:Int}{j k:Nat}{r s:!Int}(l:[[a,b,c],[d,e,f],[g,h,i]][j]?*>r)(m:[[a,b,c],[d,e,f],[g,h,i]][k]?*>s)(p:j≠k):bh 24 ([[a,b,c],[d,e,f],[g,h,i]].set j (zpl t r s))=bh 24 [[a,b,c],[d,e,f],[g,h,i]]:=by
 have o:∀{a b c d e f g h i:Int},bh 24 [[a,b,c],[d,e,f],[g,h,i]]=a*(e*i-f*h)-b*(d*i-f*g)+c*(d*h-e*g):=GD
 match j,k,l,m with
 | 0,0,_,_=>show absurd rfl p
 | 1,1,_,_=>show absurd rfl p
 | 2,2,_,_=>show absurd rfl p
 | 0,1,l,m=>cases l;cases m;dsimp[zpl,KB,Mp,o];grind
 | 0,2,l,m=>cases l;cases m;dsimp[zpl,KB,Mp,o];grind
 | 1,0,l,m=>cases l;cases m;dsimp[zpl,KB,Mp,o];grind
 | 1,2,l,m=>cases l;cases m;dsimp[zpl,KB,Mp,o];grind
 | 2,0,l,m=>cases l;cases m;dsimp[zpl,KB,Mp,o];grind
 | 2,1,l,m=>cases l;cases m;dsimp[zpl,KB,Mp,o];grind
 | n+3,_,l,_=>simp at l
 | _,n+3,_,m=>simp at m
def pl3:∀a∈[(0:Int),1,2],∀b∈[(0:Int),1,2],∀c∈[(0:Int),1,2],∀s∈[(1:Int),-1],∀t∈[(1:Int),-1],∀u∈[(1:Int),-1],a≠b->a≠c->b≠c->bh 24 [uni 3 a s,uni 3 b t,uni 3 c u]=1\/bh 24 [uni 3 a s,uni 3 b t,uni 3 c u] = -1:=by decide +kernel
def pl2:∀a∈[(0:Int),1],∀b∈[(0:Int),1],∀s∈[(1:Int),-1],∀t∈[(1:Int),-1],a≠b->bh 24 [uni 2 a s,uni 2 b t]=1\/bh 24 [uni 2 a s,uni 2 b t] = -1:=by decide +kernel
def pl1:∀s∈[(1:Int),-1],bh 24 [uni 1 0 s]=1\/bh 24 [uni 1 0 s] = -1:=by decide +kernel
abbrev jc(n:Nat):!Int:=(JE n).map λi:Nat=>(i:Int)
def sy{l:!Int}{d:Nat}{x:Int}(h:l[d]?*>x):(x::l.eraseIdx d).Perm l:=by
 rw[Lo];have e:l=l.take d++x::l.drop (d+1):=by
  have(a,rfl):=Js.mp h;rw[<-Kz a,KY]
 conv=>rhs;rw[e]
 show Ka.symm
structure Pc(w:Nat)(ps:!(Int×Int)):Prop where
 p:(ps.map (·.1)).Perm (jc w)
 s:∀p∈ps,p.2=1\/p.2 = -1
abbrev plT(w:Nat) (ps:!(Int×Int)):! !Int:=ps.map λp=>uni w p.1 p.2
def Pc.good{w:Nat}{ps:!(Int×Int)}(h:Pc w ps)(y:1<=w)(v:w<=3):NX (plT w ps)/\(plT w ps).length=w:=by
 have l:ps.length=w:=by have:=h.p.length_eq;unfold jc at this;exists this
 have i:(plT w ps).length=w:=by unfold plT;rw[Jr,l]
 have d:(ps.map (·.1)).Nodup:=h.p.nodup_iff.mpr (by unfold jc;show List.Pairwise.map _ (λa b h e=>h ⋯) Ng);have f:∀p∈ps,p.1∈jc w:=λp j=>h.p.mem_iff.mp (Jz.mpr ⟨p,j,Xr⟩);have g:∀p∈ps,p.2∈[(1:Int),-1]:=λp j=>by have:=h.s p j;exists this
 show{{by omega,λr q=>?_,?_},i}
 .have(p,j,rfl):=Jz.mp q;show{by rw[CC,i],λx o=>?_};have(k,_,rfl):=Jz.mp o;rcases h.s p j with e|e<;>rw[e]<;>split<;>decide
 .have m:w=1\/w=2\/w=3:=by omega
  rcases m with rfl|rfl|rfl
  .obtain⟨⟨a,s⟩,rfl⟩:=ll1 l;have:a=0:=by have:=f (a,s) ∅;simpa[jc,JE,JE.loop]using this
   subst this;show pl1 s (g (0,s) ∅)
  .obtain⟨⟨a,s⟩,⟨b,t⟩,rfl⟩:=ll2 l;show pl2 a (f (a,s) ∅) b (f (b,t) ∅) s (g (a,s) ∅) t (g (b,t) ∅) ?_;simp at d;show d
  .obtain⟨⟨a,s⟩,⟨b,t⟩,⟨c,u⟩,rfl⟩:=ll3 l;simp at d;show pl3 a (f (a,s) ∅) b (f (b,t) ∅) c (f (c,u) ∅) s (g (a,s) ∅) t (g (b,t) ∅) u (g (c,u) ∅) d.1.1 d.1.2 d.2
def mN{w:Int}{f:Int×Int}(B:1<=w)(y:w<=3){Q:T->T->Prop}(q:∀ps u,Pc w.toNat ps->Q (.li ((plT w.toNat ps).map tPl)) (fT u)):W2 (eD [fT f,.im (.int w)]) Q:=by
 show NL [Ud {.io 0,fT f},↥(.int w),Uc,Uc,Uc,Uc,Uc] rfl rfl rfl ?_;unfold cG;and_intros;show yl {by omega,by omega} ?_;rw[show rE w.toNat=(jc w.toNat).map .int by unfold jc;rw[JJ];rfl];ac_nf;and_intros;show cA (λz:(Int×Int)×!Int×!(Int×Int)=>[Ud {.io 0,fT z.1},↥(.int w),⇑(.li (z.2.1.map .int)),⇑(.li ((plT w.toNat z.2.2).map tPl)),Uc,Uc,Uc]) (λk z=>z.2.1.length+k=w.toNat/\z.2.2.length=k/\(z.2.2.map (·.1)++z.2.1).Perm (jc w.toNat)/\∀p∈z.2.2,p.2=1\/p.2 = -1) ?_;and_intros;show{{by omega,by omega},(f,jc w.toNat,[]),by cbv,{by unfold jc;simp,Xr,List.Perm.refl _,λp v=>nomatch v},λk z H a=>?_,λz a=>?_}
 .have(f,left,ps):=z;have(m,i,c,h):=a;dsimp only at m i c h|-;and_intros;rw[Jr];show ar ⋯ ⋯ λd f t J=>?_;ac_nf;and_intros;obtain⟨x,s⟩:∃x,left[d.toNat]?*>x:={_,JW (show d.toNat<left.length by omega)};show BA (is:=left.map .int) (x:=.int x) t ⋯ (by rw[JB,s];rfl) ?_;ac_nf;and_intros;show ar ⋯ ⋯ λe f E G=>?_;ac_nf;and_intros;have g:1-2*e=1\/1-2*e = -1:=by omega
  generalize 1-2*e=sg at g|-;have r:(left.map I.int).eraseIdx d.toNat=(left.eraseIdx d.toNat).map I.int:=by rw[Lo,Lo,JC,Lc,Lm]
  rw[r];ac_nf;and_intros;show cj (λ_:Unit=>[Ud {.io 0,fT f},↥(.int w),⇑(.li ((left.eraseIdx d.toNat).map .int)),⇑(.li ((plT w.toNat ps).map tPl)),↥(.int k),↥(.int x),↥(.int sg)]) I.int (λj _ l=>l=uni j x sg) ?_;and_intros;show{{by omega,by omega},by cbv,(),by cbv,Xr,λj _ l A a=>?_,λ_ l a=>?_}
  .subst a;and_intros;show jg (pC ⋯ ⋯) ?_;show{_,(),Xr,by cbv,(Ah _ _ _).symm}
  .subst a;and_intros;show fu (is:=(plT w.toNat ps).map tPl) (by unfold plT;rw[Jr,Jr,Oe];omega) ?_;ac_nf;and_intros;have o:d.toNat<left.length:=by omega
   show{(f,left.eraseIdx d.toNat,ps++[(x,sg)]),?_,?_,?_,?_,ba h g}
   .dsimp only;unfold plT;rw[JC (f:=λp:Int×Int=>uni w.toNat p.1 p.2),JC (f:=tPl)]
    cbv
   .change(left.eraseIdx d.toNat).length+(k+1)=_;rw[List.length_eraseIdx_of_lt o];omega
   .change(ps++[(x,sg)]).length=_;rw[JP,i];rfl
   .change((ps++[(x,sg)]).map (·.1)++left.eraseIdx d.toNat).Perm _;show List.Perm.trans ?_ c;rw[JC,JK];show List.Perm.append_left _ ?_;show sy s
 .have(f,left,ps):=z;have(m,i,c,h):=a;dsimp only at m i c h|-;have:left=[]:=K5 ⋯;subst this;rw[Kg]at c;and_intros;show q ps f ⟨c,h⟩
def AJ{ns:!Int}{x:Int}(h:x∈ns):x<=i8 (λi j=>decide (i>j)) ns/\i8 (λi j=>decide (i<j)) ns<=x:=by
 have(i,f,e):=List.getElem_of_mem h;have d:ns.getD i 0=x:=by rw[JO,JW f,e];rfl
 have c:=(argBest_gt (λi=>ns.getD i 0) (ns.length-1)).2 i ⋯;have a:=(argBest_lt (λi=>ns.getD i 0) (ns.length-1)).2 i ⋯;rw[d]at c a;show⟨c,a⟩
def AN{t:! !Int}(w:1<=t.length)(q:t.length<=3)(y:∀r∈t,r.length=t.length){j k:Nat}{r s:!Int}{x:Int}(l:t[j]?*>r)(m:t[k]?*>s)(v:j≠k):bh 24 (t.set j (zpl x r s))=bh 24 t:=by
 have p:=(Js.mp l).1;have o:=(Js.mp m).1;rcases kR w q y with⟨a,rfl⟩|⟨a,b,c,d,rfl⟩|⟨a,b,c,d,e,f,g,h,i,rfl⟩;simp at p o;omega
 .simp at p o;have u:(j=0/\k=1)\/(j=1/\k=0):=by omega
  rcases u with⟨rfl,rfl⟩|⟨rfl,rfl⟩;cases l;cases m;show HZ.1;cases l;cases m;show HZ.2
 .show Jh l m v
def nI{w:Int}{f:Int×Int}(h1:1<=w)(S:w<=3){Q:T->T->Prop}(q:∀t Y,NX t->t.length=w.toNat->Q (.im (.tup (t.map tPl))) (fT Y)):W2 (fA [fT f,.im (.int w)]) Q:=by
 show NL [Ud {.io 0,fT f},↥(.int w),Uc,Uc,Uc,Uc,Uc,Uc] rfl rfl rfl ?_;unfold fk;and_intros;show mN h1 S λps f hp=>?_;have hg:=hp.good ⋯ ⋯;ac_nf;and_intros;show cA (λz:(Int×Int)×! !Int=>[Ud {.io 0,fT z.1},↥(.int w),⇑(.li (z.2.map tPl)),Uc,Uc,Uc,Uc,Uc]) (λ_ z=>NX z.2/\z.2.length=w.toNat) ?_;and_intros;show{{by omega,by omega},(f,plT w.toNat ps),by cbv,hg,λk z hk o=>?_,λz o=>?_}
 .have(f,t):=z;have(c,p):=o;dsimp only at c p|-;and_intros;show ar ⋯ ⋯ λi f i0 i1=>?_;ac_nf;and_intros;show ar ⋯ ⋯ λj f U j1=>?_;ac_nf;and_intros;show ar ⋯ ⋯ λx f x0 x1=>?_;ac_nf;and_intros;show jZ (λ_:Unit=>[Ud {.io 0,fT f},↥(.int w),⇑(.li (t.map tPl)),↥(.int k),↥(.int i),↥(.int j),↥(.int (x-3)),Uc]) I.int (λm _ l=>∃r s,t[i.toNat]?*>r/\t[j.toNat]?*>s/\l=zpl (x-3) (r.take m) (s.take m)) ?_;and_intros;show iD (emb:=tPl) (ns:=t) i0 ⋯ λr g=>?_;and_intros;show iD (emb:=tPl) (ns:=t) U ⋯ λs v=>?_;and_intros;have O:=c.r r (ymG g);have H:=c.r s (ymG v);show{_,_,Ue,Ue,r.map .int,s.map .int,Xr,Xr,Xr,by simp;rw[Oe];omega,by cbv,(),by cbv,⟨r,s,g,v,Xr⟩,λm y y' _ l M J o=>?_,λ_ l o=>?_}
  .have(a,ha,rfl):=ay M;have(b,hb,rfl):=ay J;have(X,s',E,B,G):=o;rw[g]at E;rw[v]at B;cases (E);cases (B);and_intros;show jg (pC ⋯ ⋯) ?_;and_intros;show{a+(x-3)*b,(),Xr,by cbv,r,s,g,v,by rw[G,AB ha hb]}
  .have(X,s',E,B,G):=o;rw[g]at E;rw[v]at B;cases (E);cases (B);rw[Jr,Jr,CW]at G;subst G;have h:(zpl (x-3) r s).length=t.length:=by unfold zpl;rw[L0,O.1,H.1];omega
   have A:zpl (x-3) r s≠[]:=λz=>by rw[z]at h;have:=c.n;simp at h;omega
   and_intros;show bC ?_;and_intros;show bsp (λe=>?_) (λheq=>?_)
   .and_intros;show By A ?_;and_intros;clear_value Z
    .and_intros;show Bz A ?_;and_intros;clear_value hmn
     .and_intros;have N:i.toNat<t.length:=by omega
      show sO (n:=i.toNat) (by change i=_;omega) (by rw[Jr];show N) ?_;rw[show(t.map tPl).set i.toNat (.tup ((zpl (x-3) r s).map .int))=(t.set i.toNat (zpl (x-3) r s)).map tPl from L7.symm];ac_nf;and_intros;have e:i.toNat≠j.toNat:=λz=>by
       have:i=j:=by omega
       rw[this]at e;simp at e
      show{(f,t.set i.toNat (zpl (x-3) r s)),by cbv,{by rw[K8];show c.n,λu L=>?_,?_},by rw[K8];show p}
      .rw[K8];rcases List.mem_or_eq_of_mem_set L with L|rfl;show c.r u L;show{h,λy M=>by have:=AJ M;omega}
      .rw[AN c.n.1 c.n.2 (λr g=>(c.r r g).1) g v e];show c.d
     ·(repeat first|infer_instance|refine spT ?_|refine spF ?_|refine bC ?_)
      show{(f,t),by cbv,c,p}
    ·(repeat first|infer_instance|refine spT ?_|refine spF ?_|refine bC ?_)
     show{(f,t),by cbv,c,p}
   ·(repeat first|infer_instance|refine spT ?_|refine spF ?_|refine bC ?_)
    show{(f,t),by cbv,c,p}
 .have(f,t):=z;have(c,p):=o;and_intros;show q t f c p
def jJ:∀row:!Int,I.doks (row.map I.int)=Ug/\I.deps (row.map I.int)=0
 | []=>⟨Xr,Xr⟩
 | x::row=>{by rw[Jt,I.doks,(jJ row).1];rfl,by rw[Jt,I.deps,(jJ row).2];rfl}
def Cr:∀l:!Str,I.doks (l.map I.str)=Ug/\I.deps (l.map I.str)=0
 | []=>⟨Xr,Xr⟩
 | x::l=>{by rw[Jt,I.doks,(Cr l).1];rfl,by rw[Jt,I.deps,(Cr l).2];rfl}
def yo{is:!I}{Q:T->Prop}(h:I.doks is=Ug/\I.deps is<=50)(q:Q (.im (.bl Ue))):W1 (neT (.li is) (.li is)) Q:={.im (.bl Ue),by dsimp[neT,eqB,eqL];rw[if_pos ⟨h.1,h.1,h.2⟩];simp,q}
def yp{is:!I}{Q:T->Prop}(h:I.doks is=Ug/\I.deps is<=50)(q:Q (.im (.bl Ue))):W1 (neT (.im (.tup is)) (.im (.tup is))) Q:={.im (.bl Ue),by dsimp[neT,eqB,eqI];rw[if_pos ⟨h.1,h.1,h.2⟩];simp,q}
section
variable {α:Type}{ea : α->I}{c:!(Str × α)}
def FU(c:!(Str × α)):nt (c.map λp=>.inr p.1)*>(c.map (·.1)):=by
 rw[show(c.map λp=>(OO p.1:Key))=(c.map (·.1)).map OO by rw[JJ];rfl,wH]
def Du{t:T}(h:qF t*>(c.map λp=>.inr p.1))(a:c.length<=6){Q:T->Prop}(q:Q (.li ((lf (c.map (·.1))).map .str))):W1 (ng [t]) Q:=by
 show{_,?_,q};unfold ng;rw[show∀t,l1 rG [t]=rG t from λ_=>by unhygienic rfl];unfold rG;rw[h];dsimp only;rw[Jr,if_pos a,FU];rfl
def CG{S:Type}{m:ME}{g:MG}{i:MS}{O:Rho}{Q:Fl->Rho->Prop}(st:S->Rho)(P:Nat->S->Prop) (h:WE m O λr a=>(∃k,r={k,.im (fdG ea c)})/\[r].all (aM (g.mu++i.mu))=Ug/\∃e,a=st e/\P 0 e /\
  (∀(j:Nat) p s,c[j]?*>p->P j s->WG g {.ow,.im (.tup [.str p.1,ea p.2])} (st s) λa=>WS i a (fFs st (P (j+1)) Q))/\∀s,P c.length s->Q .nx (st s)):WS (cD (nN m) g i) O Q:=by
 show rS (rV (h.mono λr a z=>?_));obtain⟨⟨k,rfl⟩,u,e,rfl,v,w,o⟩:=z;show{k,_,_,Xr,?_,λj O=>∃s,O=st s/\P j s,⟨e,Xr,v⟩,?_,?_}
 .rw[Jv];show{u,jA λr t=>by have(x,_,rfl):=Jz.mp t;rfl}
 .rintro j r O l ⟨s,rfl,d⟩;rw[qE,JJ]at l;have(p,y,rfl):=ay l;show(w j p s y d).mono λa q=>q.mono λf A q=>jI q
 .rintro O ⟨s,rfl,d⟩;rw[Jr,qE,Jr]at d;show o s d
end
abbrev okT:Nat->I->Prop
 | 0,_=>False
 | n+1,i=>match i with
  | .int _=>True
  | .tup a=>a.length<=1000/\∀i∈a,okT n i
  | _=>False
def wC:∀(n:Nat) (i:I),okT n i->∀{Q:T->Prop},Q (.im (.bl Ug))->W1 (dN n [.im i]) Q:=by
 intro n
 induction n with
 | zero=>intro i h;cases h
 | succ n d=>
  intro i h Q q;show ve (m:=fm (dN n)) [↥i] rfl rfl rfl ?_;unfold fm;cases i with
  | int x=>
   show j2 (bC ?_);and_intros
   (repeat first|infer_instance|refine spT ?_|refine spF ?_|refine bC ?_)
   show q
  | tup a=>
   show j2 (bC ?_);and_intros
   (repeat first|infer_instance|refine spT ?_|refine spF ?_|refine bC ?_)
   show bg (λ_:Unit=>[↥(.tup a)]) (λ_:Unit=>I.bl Ug) (λ_ _ _=>True) ?_;and_intros;show{a,Xr,by rw[Oe];have:=h.1;omega,by cbv,(),by cbv,trivial,λj x _ l c _=>?_,λ_ l _=>?_}
   .and_intros;show d x (h.2 x (ymG c)) ?_;show{(),(),Xr,by cbv,trivial}
   .and_intros;show EH ?_;and_intros;show q
  | _=>cases h
def pE{n:Nat}{x:Int}:okT (n+1) (.int x):=trivial
def x8{n:Nat}{l:!Int}(h:l.length<=1000):okT (n+2) (.tup (l.map .int)):={by rw[Jr];show h,λi a=>by have(x,_,rfl):=Jz.mp a;show pE}
def Bo{n:Nat}{v:Int×!(!Int×Int)}(h:v.2.length<=1000)(c:∀x∈v.2,x.1.length<=1000):okT (n+5) (aS v):=by
 show{by change 2<=1000;decide,λi a=>?_};rcases ycM a with rfl|a;show pE
 .rw[ysM a];show{by rw[Jr];show h,λi a=>?_};have(x,d,rfl):=Jz.mp a;show{by change 2<=1000;decide,λi a=>?_};rcases ycM a with rfl|a;show x8 (c x d);rw[ysM a];show pE
abbrev hAt(b:Bool) (h:!Int×Int):I:=if b then .int h.2 else tPl h.1
abbrev bI(b:Bool):Int:=if b then 1 else 0
def C9{b:Bool}{h:!Int×Int}{kd:Kd}{Q:R->Prop}(q:Q {.ow,.im (hAt b h)}):W1 (ixR {kd,.im (bj h)} (.im (.int (bI b)))) Q:=by
 cases b;show uo rfl q;show uo rfl q
def xw{b:Bool}:∀hs:!(!Int×Int),I.doks (hs.map (hAt b))=Ug/\I.deps (hs.map (hAt b))<=50
 | []=>{Xr,by change 0<=50;decide}
 | h::hs=>by
  have c:=xw (b:=b) hs;have a:(hAt b h).dok=Ug/\(hAt b h).dep<=50:=by
   cases b
   .change(tPl h.1).dok=Ug/\(tPl h.1).dep<=50;show{?_,?_};rw[tPl,I.dok];show(jJ h.1).1;rw[tPl,I.dep,(jJ h.1).2];decide
   .show{Xr,by change 0<=50;decide}
  show{by rw[Jt,I.doks,c.1,a.1];rfl,by rw[Jt,I.deps];omega}
structure Carried(b:Bool)(n:Nat)(c d:Clk):Prop where
 nc:(c.map (·.1)).Nodup
 l:c.length<=6
 p:(d.map (·.1)).Perm (c.map (·.1))
 v:∀q∈c,HsW n q.2.2/\∃hs,(q.1,q.2.1,hs)∈d/\HsW n hs/\hs.length=q.2.2.length/\hs.map (hAt b)=q.2.2.map (hAt b)
def rD{b:Bool}{n:Nat}{c d:Clk}{f o:!(Str×!Int)}(h:Carried b n c d)(hn:n<=3)(hcl:f.length<=1000)
  (hc:∀(j:Nat) x y,f[j]?*>x->o[j]?*>y->x.1=y.1/\x.2.length=n/\y.2.length=n/\x.1∈c.map (·.1)/\∀u hs m,(x.1,u,hs)∈c->(x.1,u,m)∈d->iJ u m y.2=iJ u hs x.2) {Q:T->Prop} (q:Q (.im (.bl Ug))):W1 (fb [.im (fdG aS c),.di (diG aS d),.li (f.map aW),.li (o.map aW),.im (.int (bI b))]) Q:=by
 have(A,hl,M,S):=h;have s:(d.map (·.1)).Nodup:=M.nodup_iff.mpr A;have L:d.length<=6:=by have:=M.length_eq;simp at this;omega
 show ve [↥(fdG aS c),Ud {.vw Uc Uc,.di (diG aS d)},Ud {.vw Uc Uc,.li (f.map aW)},Ud {.vw Uc Uc,.li (o.map aW)},↥(.int (bI b)),Uc,Uc,Uc,Uc,Uc,Uc] rfl rfl rfl ?_;unfold gG;show j2 (bC ?_);and_intros
 (repeat first|infer_instance|refine spT ?_|refine spF ?_|refine bC ?_)
 show Du (c:=d) (t:=.di (diG aS d)) (uf d) L ?_;and_intros;show Du (c:=c) (t:=.im (fdG aS c)) rfl hl ?_;rw[sort_same.mpr M];and_intros;show yo {(Cr _).1,by rw[(Cr _).2];decide} ?_
 (repeat first|infer_instance|refine spT ?_|refine spF ?_|refine bC ?_)
 show CG (c:=c) (ea:=aS) (λ_:Unit=>[↥(fdG aS c),Ud {.vw Uc Uc,.di (diG aS d)},Ud {.vw Uc Uc,.li (f.map aW)},Ud {.vw Uc Uc,.li (o.map aW)},↥(.int (bI b)),Uc,Uc,Uc,Uc,Uc,Uc]) (λ_ _=>True) ?_;and_intros;show{{_,Xr},by cbv,(),by cbv,trivial,λj p _ hj _=>?_,λ_ _=>?_}
 .have(O,hs,v,e,B,w):=S p (ymG hj);have dX:∀{Q:T->Prop},Q (.im (aS (p.2.1,hs)))->W1 (dgT (.di (diG aS d)) (.im (.str p.1))) Q:=λq=>C8 (pc s v) q;rw[aS];and_intros;show bC ?_;and_intros;show dX ?_;and_intros;show wC 24 _ (Bo (n:=19) (show hs.length<=1000 by have:=e.1;omega) λx g=>by have:=(e.2 x g).1;omega) ?_
  (repeat first|infer_instance|refine spT ?_|refine spF ?_|refine bC ?_)
  show dX ?_;rw[aS]
  (repeat first|infer_instance|refine spT ?_|refine spF ?_|refine bC ?_)
  show dX ?_;rw[aS]
  (repeat first|infer_instance|refine spT ?_|refine spF ?_|refine bC ?_)
  rw[decide_eq_true (show(p.2.1,hs).1=p.2.1 from rfl)]
  (repeat first|infer_instance|refine spT ?_|refine spF ?_|refine bC ?_)
  show dX ?_;rw[aS]
  (repeat first|infer_instance|refine spT ?_|refine spF ?_|refine bC ?_)
  show bg (λ_:Unit=>[↥(fdG aS c),Ud {.vw Uc Uc,.di (diG aS d)},Ud {.vw Uc Uc,.li (f.map aW)},Ud {.vw Uc Uc,.li (o.map aW)},↥(.int (bI b)),↥(.str p.1),↥(.int p.2.1),↥(.tup (p.2.2.map bj)),Uc,Uc,Uc]) I.int (λj _ l=>l=Jw j 2) ?_;and_intros;show dX ?_;rw[aS];and_intros;have hl6:=e.1;show{hs.map bj,Xr,by rw[Jr,Oe];omega,by cbv,(),by cbv,Xr,λi x _ l g a=>?_,λ_ l a=>?_}
  .have(h,E,rfl):=ay g;rw[bj];and_intros;show{2,(),Xr,by cbv,by rw[a,List.replicate_succ']}
  rw[Jr]at a;subst a;and_intros;rw[Jr];show sN (is:=[.int 2]) {by omega,by omega,by rw[JR,Oe];change 1*_<=_;omega} ?_;rw[show(Jw ((p.2.2.length:Nat):Int).toNat [I.int 2]).flatten=(Jw hs.length (2:Int)).map .int by rw[JR,B];simp];and_intros;show yo {(jJ _).1,by rw[(jJ _).2];decide} ?_
  (repeat first|infer_instance|refine spT ?_|refine spF ?_|refine bC ?_)
  show bg (λ_:Unit=>[↥(fdG aS c),Ud {.vw Uc Uc,.di (diG aS d)},Ud {.vw Uc Uc,.li (f.map aW)},Ud {.vw Uc Uc,.li (o.map aW)},↥(.int (bI b)),↥(.str p.1),↥(.int p.2.1),↥(.tup (p.2.2.map bj)),Uc,Uc,Uc]) (hAt b) (λj _ l=>l=hs.take j) ?_;and_intros;show dX ?_;rw[aS];and_intros;show{hs.map bj,Xr,by rw[Jr,Oe];omega,by cbv,(),by cbv,Xr,λi x _ l g a=>?_,λ_ l a=>?_}
  .have(h,E,rfl):=ay g;and_intros;show C9 ?_;show{h,(),Xr,by cbv,by rw[a,JX,E];rfl}
  rw[Jr,JU]at a;subst a;and_intros;show bg (λ_:Unit=>[↥(fdG aS c),Ud {.vw Uc Uc,.di (diG aS d)},Ud {.vw Uc Uc,.li (f.map aW)},Ud {.vw Uc Uc,.li (o.map aW)},↥(.int (bI b)),↥(.str p.1),↥(.int p.2.1),↥(.tup (p.2.2.map bj)),Uc,Uc,Uc]) (hAt b) (λj _ l=>l=p.2.2.take j) ?_;and_intros;show{p.2.2.map bj,Xr,by rw[Jr,Oe];omega,by cbv,(),by cbv,Xr,λi x _ l g a=>?_,λ_ l a=>?_}
  .have(h,E,rfl):=ay g;and_intros;show C9 ?_;show{h,(),Xr,by cbv,by rw[a,JX,E];rfl}
  rw[Jr,JU]at a;rw[a,w];and_intros;show yo (xw _) ?_
  (repeat first|infer_instance|refine spT ?_|refine spF ?_|refine bC ?_)
  show{(),by cbv,trivial}
 .and_intros;show CI (λ_:Unit=>[↥(fdG aS c),Ud {.vw Uc Uc,.di (diG aS d)},Ud {.vw Uc Uc,.li (f.map aW)},Ud {.vw Uc Uc,.li (o.map aW)},↥(.int (bI b)),Uc,Uc,Uc,Uc,Uc,Uc]) (λ_ _=>True) ?_;and_intros;show{_,_,Ug,Ug,f.map aW,o.map aW,Xr,Xr,Xr,by cbv,(),by cbv,trivial,λj x y _ g hy _=>?_,λ_ _=>?_}
  .obtain⟨⟨z,pl⟩,G,rfl⟩:=ay g;obtain⟨⟨z',pl'⟩,H,rfl⟩:=ay hy;have(Z,e2,J,U,X):=hc j _ _ G H;dsimp only at Z e2 J U X;subst Z;obtain⟨⟨z0,u,hs⟩,v,N⟩:=Jz.mp U;dsimp only at N;subst N;have(O,m,r,e,B,w):=S _ v;have Y:=X u hs m v r;and_intros;show vD A v (by rw[e2];show O) ⋯ ?_;ac_nf;and_intros;show bC ?_;and_intros;show vC s r (by rw[J];show e) ⋯ ?_;rw[Y];and_intros;show yp {(jJ _).1,by rw[(jJ _).2];decide} ?_
   (repeat first|infer_instance|refine spT ?_|refine spF ?_|refine bC ?_)
   show wB s r (by rw[J];show e) ⋯ ?_;rw[Y];and_intros;show yp {(jJ _).1,by rw[(jJ _).2];decide} ?_
   (repeat first|infer_instance|refine spT ?_|refine spF ?_|refine bC ?_)
   show{(),by cbv,trivial}
  .and_intros;show q
def AT{ns:!Int}{k:Int}(l:ns.length<=1000)(g:0<=k)(i:k<=1000000){Q:T->Prop}(q:∀f,Q (fT f)):W1 (mU [.li (ns.map .int),.im (.int k)]) Q:=by
 show ve [Ud {.vw Uc Uc,.li (ns.map .int)},↥(.int k),Uc,Uc] rfl rfl rfl ?_;unfold jP;and_intros;show WS.mono (Q:=λc O=>c=.nx/\∃cell:Int,O=[Ud {.vw Uc Uc,.li (ns.map .int)},↥(.int k),↥(.int cell),Uc]) ?_ ?_
 ·(refine bC ?_;and_intros;clear_value d)
  .rw[Jr]at d;and_intros;show bB (ns:=ns) g d λy h _=>?_;and_intros;show{by trivial,y,by first|trivial|cbv}
  ·(refine bC ?_;and_intros;clear_value e)
   .rw[Jr]at e;and_intros;rw[Jr];show ym ⋯ ?_;and_intros;show bB (ns:=ns) (Lw _ ⋯) (Lf _ ⋯) λy h _=>?_;and_intros;show{by trivial,_,by first|trivial|cbv}
   .and_intros;show{by trivial,_,by first|trivial|cbv}
 rintro c O ⟨rfl,cell,rfl⟩;and_intros;show WS.mono (Q:=λc O=>c=.nx/\∃a:Int,O=[Ud {.vw Uc Uc,.li (ns.map .int)},↥(.int k),↥(.int cell),↥(.int a)]) ?_ ?_
 .show bC ?_;and_intros;show Dc {by omega,by omega,by decide} ?_;and_intros;clear_value j
  .and_intros;show{by trivial,_,by first|trivial|cbv}
  .and_intros;show{by trivial,_,by first|trivial|cbv}
 rintro c O ⟨rfl,a,rfl⟩;and_intros;have o:=Lw cell (show(2147483629:Int)≠0 by omega);have m:=Lf cell (show(0:Int)<2147483629 by omega);show Dc {by omega,by omega,by omega} ?_;and_intros;show q (a,_)
def yD(r:1<=w)(p:w<=3)(q:∀h i,h.length=w.toNat->Q (.im (tPl h)) (fT i)):W2 (kI [fT f,.im (.int w)]) Q:=by
 show NL [Ud {.io 0,fT f},↥(.int w),Uc] rfl rfl rfl ?_;unfold iX;and_intros;show ar ⋯ ⋯ λd f c a=>?_;ac_nf;and_intros;show bB (ns:=[4,2001]) c a λy m _=>?_;have l:y=4\/y=2001:=by exists m
 and_intros;show cj (λf:Int×Int=>[Ud {.io 0,fT f},↥(.int w),↥(.int y)]) I.int (λj _ e=>e.length=j) ?_;and_intros;show{{by omega,by omega},by cbv,f,by cbv,Xr,λj f e o g=>?_,λf e g=>?_}
 .and_intros;show ar ⋯ ⋯ λd f c a=>?_;ac_nf;and_intros;show{_,f,Xr,by cbv,by simp[g]}
 .and_intros;show q e f g
abbrev RuL(r:Ru):Prop:=r.leaves.length<=22/\∀x a,Ru.rd x a∈r.leaves->a.length<=1000
abbrev H6(a:!(Str×Ru)):Prop:=a.length<=6/\(a.map (·.1)).Nodup/\∀p∈a,RuL p.2
abbrev SL(a:!(Str×Ru)):!(Str×Str×!Int):=a.flatMap λd=>(ded (rds d.2)).map λp=>(d.1,p)
def jF{x y:Int}{a b:!Int}:dot (x::a) (y::b)=x*y+dot a b:=by unfold dot;rw[List.zip_cons_cons,Jt,Nt]
def AO:∀{a x y:!Int},a.length=x.length->x.length=y.length->dot a (iL x y)=dot a x+dot a y:=by
 intro a
 induction a with
 | nil=>intro x y _ _;rfl
 | cons p a e=>
  intro x y d c;cases x with
  | nil=>cases d
  | cons u x=>
   cases y with
   | nil=>cases c
   | cons v y=>
    change dot (p::a) ((u+v)::iL x y)=_;rw[jF,jF,jF,e (KG.inj d) (KG.inj c),Int.mul_add];omega
def AQ:∀{a b:!Int},(∀x∈a,-18<=x/\x<=18)->(∀y∈b,Bnd y)->(dot a b).natAbs<=a.length*18000000000:=by
 intro a
 induction a with
 | nil=>intro b _ _;show Ku _
 | cons x a g=>
  intro b d e;cases b with
  | nil=>show Ku _
  | cons y b=>
   rw[jF,JH,Nx];have j:=g (λz c=>d z (ymC _ c)) (λz c=>e z (ymC _ c));have h:=d x ymS;have f:=e y ymS;have i:(x*y).natAbs<=18*1000000000:=by rw[Np];show LP ⋯ (by unfold Bnd at f;omega)
   have:=Int.natAbs_add_le (x*y) (dot a b);omega
abbrev qA{a:Type} (d : a) (c:!(Str × a)) (z:Str) : a:=((c.find? λp=>decide (p.1=z)).map (·.2)).getD d
def xu{a:Type}{d : a}{c:!(Str × a)}{z:Str}(h:z∈c.map (·.1)):(z,qA d c z)∈c:=by
 unfold qA;cases e:c.find? λp=>decide (p.1=z)with
 | none=>
  have(p,g,rfl):=Jz.mp h;show absurd (decide_eq_true rfl) (List.find?_eq_none.mp e p g)
 | some p=>
  have i:=List.mem_of_find?_eq_some e;have f:p.1=z:=by have:=List.find?_some e;show of_decide_eq_true this
  rw[<-f];show i
def uniq{h:Type}{c:!(Str × h)}(d:(c.map (·.1)).Nodup){z:Str}{u v : h}(f:(z,u)∈c)(a:(z,v)∈c):u=v:=by
 induction c with
 | nil=>cases f
 | cons p c i=>
  rw[Jt,JS]at d;rcases ycM f with e|f
  .rcases ycM a with g|a;rw[<-g]at e;cases e;rfl;show absurd (Jz.mpr {_,a,Xr}) (by rw[<-e]at d;show d.1)
  .rcases ycM a with g|a;show absurd (Jz.mpr {_,f,Xr}) (by rw[<-g]at d;show d.1);show i d.2 f a
structure N9(n:Nat)(N:!Str)(c:Clk):Prop where
 m:c.map (·.1)=N
 v:∀p∈c,N1 n p.2
structure Pf(n:Nat)(N:!Str)(o:Ofs):Prop where
 p:(o.map (·.1)).Perm N
 v:∀p∈o,p.2.length=n
def qh{F:Str->!(!Int×Int)->!(!Int×Int)}{c:Clk}:(kW F c).map (·.1)=c.map (·.1):=by unfold kW;rw[JJ];rfl
def tU{b:Bool}{n:Nat}{N:!Str}{c g:Clk}{F:Str->!(!Int×Int)->!(!Int×Int)}(i:N.Nodup)(j:N.length<=6)(e:N9 n N c)(h:g.Perm c)(d:∀q∈c,HsW n (F q.1 q.2.2)/\(F q.1 q.2.2).length=q.2.2.length/\(F q.1 q.2.2).map (hAt b)=q.2.2.map (hAt b)):Carried b n c (kW F g):=by
 have f:(c.map (·.1)).Nodup:=by rw[e.m];show i
 show{f,by have:=congrArg KC e.m;simp at this;omega,by rw[qh];show h.map _,λq a=>{(e.v q a).w,F q.1 q.2.2,Jz.mpr {q,h.mem_iff.mpr a,Xr},(d q a).1,(d q a).2.1,(d q a).2.2}}
def jE{N:!Str}{n:Nat}{c i:Clk}{F:Str->!(!Int×Int)->!(!Int×Int)}(q:N.Nodup)(o:N9 n N c)(s:i.Perm c){z:Str}{g:Int}{hs a:!(!Int×Int)}(r:(z,g,hs)∈c)(l:(z,g,a)∈kW F i):a=F z hs:=by
 have(p,d,e):=Jz.mp l;have f:(c.map (·.1)).Nodup:=by rw[o.m];show q
 have(t,j,h):=p;dsimp[Prod.mk.injEq]at e;have(rfl,rfl,rfl):=e;have:=uniq f r (s.mem_iff.mp d);cases this;rfl
def Bj{a:!Int}{hs:!(!Int×Int)}:(mvH a hs).map (hAt Ue)=hs.map (hAt Ue):=by unfold mvH;rw[JJ];rfl
def CA{t:! !Int}{hs:!(!Int×Int)}:(tuH t hs).map (hAt Ug)=hs.map (hAt Ug):=by unfold tuH;rw[JJ];rfl
def C6{n:Nat}{a:!Int}{hs:!(!Int×Int)}(h:HsW n hs):HsW n (mvH a hs)/\(mvH a hs).length=hs.length:=by
 unfold mvH;show{{by rw[Jr];show h.1,λx d=>?_},Jr _};have(y,c,rfl):=Jz.mp d;show h.2 y c
def DB{n:Nat}{t:! !Int}{v:Int×!(!Int×Int)}(a:NX t)(e:t.length=n)(h:N1 n v):HsW n (tuH (gr t) v.2)/\(tuH (gr t) v.2).length=v.2.length:=by
 have c:=o9 a;have l:=a.n;unfold tuH;show{{by rw[Jr];show h.2.1,λx i=>?_},Jr _};have(y,g,rfl):=Jz.mp i;show{by unfold eV;rw[Jr,c.1,e],λz j=>?_};have(r,f,rfl):=Jz.mp j;have d:=c.2 r f;have:=AQ d.2 (h.2.2 y g).2.1;unfold BnW;rw[d.1]at this;omega
def Bl{n:Nat}{d:Int}{hs:!(!Int×Int)}{c a:!Int}(h:HsW n hs)(e:c.length=n)(ho:a.length=n):iJ d (mvH a hs) (iL c a)=iJ d hs c:=by
 unfold iJ mvH;rw[JJ];show congrArg (d :: ·) (Lp λx f=>?_);change x.2-dot x.1 a+dot x.1 (iL c a)=_;rw[AO (by rw[(h.2 x f).1,e]) (by rw[e,ho])];omega
def CB{n:Nat}{t:! !Int}{c:Int}{hs:!(!Int×Int)}{a:!Int}(e:NX t)(d:t.length=n)(h:HsW n hs)(f:a.length=n):iJ c (tuH (gr t) hs) (eV t a)=iJ c hs a:=by
 unfold iJ tuH;rw[JJ];show congrArg (c :: ·) (Lp λx g=>?_);change x.2+dot (eV (gr t) x.1) (eV t a)=_;rw[AL e (by rw[(h.2 x g).1,d]) (by rw[f,d])]
def zS{d:Type}{ea : d->I}{c f:!(Str × d)}(m:(c.map (·.1)).Nodup)(i:f.Perm c)(h:∀p∈c,(ea p.2).dok=Ug/\(ea p.2).dep<=50):oN (fdG ea f) (fdG ea c)=Ug:=by
 unfold fdG oN;dsimp only;rw[Jr,Jr,i.length_eq,decide_eq_true rfl,Mh];have:∀l:!(Str × d),(∀p∈l,p∈c)->oO (c.map λp=>.inr p.1) (c.map λp=>ea p.2) (l.map λp=>.inr p.1) (l.map λp=>ea p.2)=Ug:=by
  intro l
  induction l with
  | nil=>intro _;rfl
  | cons p l o=>
   intro g;have e:=g p ymS;rw[Jt,Jt];unfold oO;dsimp only;rw[decide_eq_true (ly (emb:=ea) (v:=p.2) m e),(h p e).1,decide_eq_true (h p e).2,o λq j=>g q (ymC _ j)];rfl
 show this f λp a=>i.mem_iff.mp a
def Hu{l:!Int}:(tPl l).dok=Ug/\(tPl l).dep<=50:={by rw[tPl,I.dok];show(jJ l).1,by rw[tPl,I.dep,(jJ l).2];decide}
def C2:∀hs:!(!Int×Int),I.doks (hs.map bj)=Ug/\I.deps (hs.map bj)<=2
 | []=>{Xr,by change 0<=2;decide}
 | h::hs=>by
  have c:=C2 hs;have a:(bj h).dok=Ug/\(bj h).dep<=2:=by
   show{?_,?_};dsimp[bj,I.dok,I.doks,(jJ h.1).1];rfl;dsimp[bj,I.dep,I.deps,(jJ h.1).2];decide
  show{by rw[Jt,I.doks,c.1,a.1];rfl,by rw[Jt,I.deps];omega}
def FY{v:Int×!(!Int×Int)}:(aS v).dok=Ug/\(aS v).dep<=50:=by
 have:=C2 v.2;show{?_,?_};dsimp[aS,I.dok,I.doks,this.1];rfl;dsimp[aS,I.dep,I.deps];omega
abbrev z6(z:Clk×Ofs):I:=.tup [fdG aS z.1,fdG tPl z.2]
def k48_law{ns:!Int}(hn:ns.length<=63):W1 (r_l_law_v12 [.li (ns.map .int)]) λt=>t=.im (.bl Ug):=by
 show ve [Ud {.vw Uc Uc,.li (ns.map .int)},Uc,Uc,Uc,Uc,Uc,Uc,Uc,Uc,Uc,Uc,Uc,Uc,Uc] rfl rfl rfl ?_;unfold iw;and_intros;show cA (λ_:Unit=>[Ud {.vw Uc Uc,.li (ns.map .int)},Uc,Uc,Uc,Uc,Uc,Uc,Uc,Uc,Uc,Uc,Uc,Uc,Uc]) (λ_ _=>True) ?_;and_intros;rw[Jr];generalize hc:(if(if(5:Int)<(ns.length:Int)then 5 else(ns.length:Int))>2 then(if(5:Int)<(ns.length:Int)then 5 else(ns.length:Int))else 2)=c0;have hc5:2<=c0/\c0<=5:=by subst hc;split<;>split<;>omega
 show{{by omega,by omega},(),by cbv,trivial,λj _ hj _=>?_,λ_ _=>?_}
 .and_intros;show AT (ns:=ns) ⋯ ⋯ ⋯ λf=>?_;ac_nf;and_intros;show xA λw wh d f Q=>?_;have H:1<=w/\w<=3:=⟨Q.1,Q.2.1⟩;have hd:1<=d.length/\d.length<=6:=⟨Q.2.2.2.2.1,Q.2.2.2.2.2.1⟩;have G:(d.map (·.1)).Nodup:=Q.2.2.2.2.2.2.1;have hNl:(d.map (·.1)).length<=6:=by rw[Jr];show hd.2
  ac_nf;and_intros;show nA ?_;and_intros;show lR Q λc1 f hc1n hc1v=>?_;have k1:N9 w.toNat (d.map (·.1)) c1:=⟨hc1n,hc1v⟩;show{_,qz _,?_};ac_nf;and_intros;show nA ?_;and_intros;show mI H.1 H.2 hd.1 ⋯ G λu f _ ho1p ho1v=>?_;have q1:Pf w.toNat (d.map (·.1)) u:=⟨ho1p,ho1v⟩;show{_,qz (emb:=tPl) u,?_};ac_nf;and_intros;show nA ?_;and_intros;show lR Q λc2 f hc2n hc2v=>?_;have k2:N9 w.toNat (d.map (·.1)) c2:=⟨hc2n,hc2v⟩;show{_,qz _,?_};ac_nf;and_intros;show nA ?_;and_intros;show mI H.1 H.2 hd.1 ⋯ G λX f _ ho2p ho2v=>?_;have q2:Pf w.toNat (d.map (·.1)) X:=⟨ho2p,ho2v⟩;show{_,qz (emb:=tPl) X,?_};ac_nf;rw[dR];and_intros;show nI H.1 H.2 λt f hg ht=>?_;ac_nf;and_intros;show cj (λf:Int×Int=>[Ud {.vw Uc Uc,.li (ns.map .int)},↥(.int j),⇑(fT f),↥(dR w wh d),↥(fdG aS c1),↥(fdG tPl u),↥(fdG aS c2),↥(fdG tPl X),↥(.tup (t.map tPl)),Uc,Uc,Uc,Uc,Uc]) aW (λi _ l=>l.length=i/\∀x∈l,x.1∈d.map (·.1)/\x.2.length=w.toNat) ?_;rw[dR];and_intros;show{{by omega,by omega},by cbv,f,by cbv,{Xr,λx a=>nomatch a},λi f l hi s=>?_,λf L s=>?_}
  .and_intros;rw[Jr];show ar ⋯ ⋯ λdn f n0 n1=>?_;ac_nf;and_intros;show yh (emb:=ee) (ns:=d) n0 n1 λdk hdk=>?_;rw[ee];and_intros;show yD H.1 H.2 λpl f hpl=>?_;ac_nf;and_intros;show{(dk.1,pl),f,by cbv,by cbv,by rw[JP,s.1];rfl,ba s.2 {Jz.mpr {dk,ymG hdk,Xr},hpl}}
  have(A,U):=s;ac_nf;and_intros;show lJ (λf:Int×Int=>[Ud {.vw Uc Uc,.li (ns.map .int)},↥(.int j),⇑(fT f),↥(dR w wh d),↥(fdG aS c1),↥(fdG tPl u),↥(fdG aS c2),↥(fdG tPl X),↥(.tup (t.map tPl)),⇑(.li (L.map aW)),Uc,Uc,Uc,Uc]) (λ_ _=>True) ?_;and_intros;show{[(c1,u),(c2,u),(c2,X),(c1,u)].map z6,Xr,by cbv,f,by cbv,trivial,λi x f a _=>?_,λf _=>?_}
  .obtain⟨⟨c,o⟩,hco,rfl⟩:=ay a;obtain⟨h,ko⟩:N9 w.toNat (d.map (·.1)) c/\Pf w.toNat (d.map (·.1)) o:=by
    have:=ymG hco;dsimp[JV,JZ,or_false,Prod.mk.injEq]at this;rcases this with⟨rfl,rfl⟩|⟨rfl,rfl⟩|⟨rfl,rfl⟩|⟨rfl,rfl⟩;show⟨k1,q1⟩;show⟨k2,q1⟩;show⟨k2,q2⟩;show⟨k1,q1⟩
   have S:(c.map (·.1)).Nodup:=by rw[h.m];show G
   have B:(o.map (·.1)).Nodup:=ko.p.nodup_iff.mpr G;have hcl6:c.length=d.length:=by have:=congrArg KC h.m;exists this
   have hol6:o.length=d.length:=by have:=ko.p.length_eq;exists this
   have N:∀z∈d.map (·.1),(z,qA [] o z)∈o:=λz Z=>xu (ko.p.mem_iff.mpr Z);rw[z6];and_intros;show rO (emb:=aS) (c:=c) ⋯ S λY f e=>?_;ac_nf;and_intros;show rO (emb:=tPl) (c:=o) ⋯ B λo' f O=>?_;ac_nf;and_intros;have E:(Y.map (·.1)).Nodup:=(e.map _).nodup_iff.mpr S;have hcl':=e.length_eq;have J:∀p∈Y,HsW w.toNat p.2.2:=λp hp=>(h.v p (e.mem_iff.mp hp)).w;show mD (n:=w.toNat) (g:=qA [] o) E ⋯ J ⋯ ((O.map _).nodup_iff.mpr B) (λp hp=>O.mem_iff.mpr (N p.1 (by rw[<-h.m];show Jz.mpr {p,e.mem_iff.mp hp,Xr}))) ?_;ac_nf;and_intros;show bC ?_;and_intros;show bg (λ_:Unit=>[Ud {.vw Uc Uc,.li (ns.map .int)},↥(.int j),⇑(fT f),↥(dR w wh d),↥(fdG aS c1),↥(fdG tPl u),↥(fdG aS c2),↥(fdG tPl X),↥(.tup (t.map tPl)),⇑(.li (L.map aW)),↥(fdG aS c),↥(fdG tPl o),⇑(.li [fdG aS Y,fdG tPl o']),⇑(.di (diG aS (kW (λz=>mvH (qA [] o z)) Y)))]) aW (λi _ l=>l=(L.take i).map λx=>(x.1,iL x.2 (qA [] o x.1))) ?_;and_intros;show{L.map aW,Xr,by rw[Jr,A,Oe];change 4<_;omega,by cbv,(),by cbv,Xr,λi x _ l a s=>?_,λ_ l s=>?_}
   .obtain⟨⟨z,pl⟩,Z,rfl⟩:=ay a;have hzz:=U _ (ymG Z);and_intros;show nO (c:=o) (by have:=hzz.2;dsimp only at this;omega) B (N z hzz.1) ?_;show{(z,iL pl (qA [] o z)),(),Xr,by cbv,by rw[s,JX,Z,JC];rfl}
   rw[Jr,JU]at s;subst s;and_intros;show rD (b:=Ue) (n:=w.toNat) (tU G hNl h e λq hq=>{(C6 (h.v q hq).w).1,(C6 (h.v q hq).w).2,Bj}) ⋯ (by rw[A];change 4<=1000;decide) (λi x y a hy=>?_) ?_
   .rw[JB,a]at hy;cases hy;have a:=U x (ymG a);have M:=ko.v _ (N x.1 a.1);dsimp only at M;show{Xr,a.2,by change(iL x.2 (qA [] o x.1)).length=_;unfold iL;rw[L0,a.2,M];omega,by rw[h.m];show a.1,λkn hs hs' h1 h2=>?_};rw[jE G h e h1 h2];show Bl ((h.v _ h1).w) a.2 M
   (repeat first|infer_instance|refine spT ?_|refine spF ?_|refine bC ?_)
   show yd ?_;ac_nf;and_intros;show lr hg E ⋯ (λp hp=>by have:=(J p hp).1;omega) ?_;ac_nf;and_intros;show bC ?_;and_intros;show bg (λ_:Unit=>[Ud {.vw Uc Uc,.li (ns.map .int)},↥(.int j),⇑(fT f),↥(dR w wh d),↥(fdG aS c1),↥(fdG tPl u),↥(fdG aS c2),↥(fdG tPl X),↥(.tup (t.map tPl)),⇑(.li (L.map aW)),↥(fdG aS c),↥(fdG tPl o),⇑(.li [fdG aS Y,fdG tPl o']),⇑(.di (diG aS (kW (λ_=>tuH (gr t)) Y)))]) aW (λi _ l=>l=(L.take i).map λx=>(x.1,eV t x.2)) ?_;and_intros;show{L.map aW,Xr,by rw[Jr,A,Oe];change 4<_;omega,by cbv,(),by cbv,Xr,λi x _ l a s=>?_,λ_ l s=>?_}
   .obtain⟨⟨z,pl⟩,Z,rfl⟩:=ay a;and_intros;show nr ⋯ (λr hr=>{by rw[(hg.r r hr).1];omega,λx a=>by have:=(hg.r r hr).2 x a;unfold BnW;omega}) ?_;show{(z,eV t pl),(),Xr,by cbv,by rw[s,JX,Z,JC];rfl}
   rw[Jr,JU]at s;subst s;and_intros;show rD (b:=Ug) (n:=w.toNat) (tU G hNl h e λq hq=>{(DB hg ht (h.v q hq)).1,(DB hg ht (h.v q hq)).2,CA}) ⋯ (by rw[A];change 4<=1000;decide) (λi x y a hy=>?_) ?_
   .rw[JB,a]at hy;cases hy;have a:=U x (ymG a);show{Xr,a.2,by change(eV t x.2).length=_;unfold eV;rw[Jr,ht],by rw[h.m];show a.1,λkn hs hs' h1 h2=>?_};rw[jE G h e h1 h2];show CB hg ht ((h.v _ h1).w) a.2
   (repeat first|infer_instance|refine spT ?_|refine spF ?_|refine bC ?_)
   show yd ?_;ac_nf;and_intros;show bC ?_;and_intros;show Hg (is:=[fdG aS Y,fdG tPl o']) (js:=[fdG aS c,fdG tPl o]) ?_ ?_
   .change(oN _ _&&(oN _ _&&Ug))=Ug;rw[zS S e λp _=>FY,zS B O λp _=>Hu];rfl
   (repeat first|infer_instance|refine spT ?_|refine spF ?_|refine bC ?_)
   show{f,by cbv,trivial}
  .and_intros;show{(),by cbv,trivial}
 .and_intros;rfl
end L2
namespace K48
open PySem PySem.Spec PyProof.Rows L2
local macro_rules|`(tactic| exfalso)=>`(tactic| exact⟨rfl,rfl,rfl,by decide +kernel,rfl,by decide +kernel,by decide +kernel⟩)
structure Adr(mg:Str->↑Oa)(K:yF):Prop where
 d0:p9 K mg "_law_feed" iG ["_law_script","_law_k"]
 d1:p9 K mg "_law_take" iH ["_law_feed_here","_law_many"]
 d2:p9 K mg "_law_turned_row" dE ["_law_row_here","_law_way","_law_signs"]
 d3:p9 K mg "_law_row" jx ["_law_feed_here","_law_ways"]
 d4:p9 K mg "_law_opposed_reads" cg ["_law_feed_here","_law_ways","_law_many"]
 d5:p9 K mg "_law_free_reads" dz ["_law_feed_here","_law_ways","_law_many"]
 d6:p9 K mg "_law_back_row" eM ["_law_feed_here","_law_ways"]
 d7:p9 K mg "_law_late_reads" dB ["_law_feed_here","_law_ways","_law_many"]
 d8:p9 K mg "_law_ring_reads" dD ["_law_feed_here","_law_ways","_law_many"]
 d9:p9 K mg "_law_reads" gU ["_law_feed_here"]
 d10:p9 K mg "_law_names" gS ["_law_feed_here","_law_many"]
 d11:p9 K mg "_law_grown" gQ ["_law_feed_here","_law_leaves"]
 d12:p9 K mg "_law_house" gR ["_law_feed_here"]
 d13:p9 K mg "_law_plain_table" cL ["_law_feed_here","_law_ways"]
 d14:p9 K mg "_law_good_table" dA ["_law_feed_here","_law_ways"]
 d15:p9 K mg "_law_number" gj ["_law_feed_here"]
 d16:p9 K mg "_law_clock" gP ["_law_feed_here","_law_house_here"]
 d17:p9 K mg "_law_offsets" fJ ["_law_feed_here","_law_house_here"]
 d18:p9 K mg "along" pZ ["row","place"]
 d19:p9 K mg "moved_hands" gn ["hands","offset"]
 d20:p9 K mg "moved_clock" gm ["clock","offsets"]
 d21:p9 K mg "determinant" gl ["table"]
 d22:p9 K mg "look_table" gX ["table"]
 d23:p9 K mg "signed_minor" fK ["table","line","at"]
 d24:p9 K mg "table_of_rows" eN ["table"]
 d25:p9 K mg "led_by" mX ["table","numbers"]
 d26:p9 K mg "turned_hands" fM ["hands","table"]
 d27:p9 K mg "turned_clock" fL ["clock","table"]
 d28:p9 K mg "_law_place" gT ["_law_feed_here","_law_ways"]
 d29:p9 K mg "_law_told_from" dQ ["_law_feed_here","_law_some"]
 d30:p9 K mg "_law_time" iI ["_law_clock_here","_law_cell"]
 d31:p9 K mg "_law_tupled" gk ["_law_thing"]
 d32:p9 K mg "time_of" kN ["clock","cell"]
 d33:p9 K mg "_law_right" gW ["_law_clock_here","_law_found","_law_cells","_law_carried","_law_at"]
 d34:p9 K mg "led" zQ ["place","row"]
 d35:p9 K mg "moved_cell" gY ["cell","offsets"]
 d36:p9 K mg "turned_cell" gp ["cell","table"]
 d37:p9 K mg "law" s_law ["_law_script"]
 T:Bi mg
 G:GT K mg
def adr_less(mg:Str->↑Oa)(K:yF)(a:Addr)(A:Adr mg K)(l:N8 K a):Adr mg (less K a):=
 {A.d0.less l,A.d1.less l,A.d2.less l,A.d3.less l,A.d4.less l,A.d5.less l,A.d6.less l,A.d7.less l,A.d8.less l,A.d9.less l,A.d10.less l,A.d11.less l,A.d12.less l,A.d13.less l,A.d14.less l,A.d15.less l,A.d16.less l,A.d17.less l,A.d18.less l,A.d19.less l,A.d20.less l,A.d21.less l,A.d22.less l,A.d23.less l,A.d24.less l,A.d25.less l,A.d26.less l,A.d27.less l,A.d28.less l,A.d29.less l,A.d30.less l,A.d31.less l,A.d32.less l,A.d33.less l,A.d34.less l,A.d35.less l,A.d36.less l,A.d37.less l,A.T,⟨trivial⟩}
noncomputable abbrev pm0:Oa:=(vs "law_clockhouse_k48_cells_and_clocks_carried" 336)
noncomputable abbrev pm1:Oa:=(vs "clockhouse.houses" 237)
noncomputable abbrev pm2:Oa:=(vs "clockhouse.moved" 251)
noncomputable abbrev pm3:Oa:=(vs "clockhouse.clocks" 328)
abbrev KF(P:TJ):yF:=[(3,oD [(eO P "__name__" 165 (vs "law_clockhouse_k48_cells_and_clocks_carried" 336)),(eO P "__doc__" 166 .none),(eO P "__package__" 167 .none),(eO P "__loader__" 168 (QX "__main__.__loader__#opaque")),(eO P "__spec__" 169 .none),(eO P "__annotations__" 170 (vr 6)),(eO P "__builtins__" 171 (vr 4)),(eO P "__file__" 173 (vs "/claim/cut.py" 172)),(eO P "__cached__" 174 .none),(eO P "HouseError" 213 (vr 31)),(eO P "NoTurn" 236 (vr 51)),(eO P "led" 244 (vr 58)),(eO P "along" 250 (vr 63)),(eO P "moved_cell" 262 (vr 70)),(eO P "moved_clock" 268 (vr 75)),(eO P "moved_hands" 274 (vr 80)),(eO P "turned_cell" 284 (vr 87)),(eO P "turned_clock" 290 (vr 92)),(eO P "turned_hands" 296 (vr 97)),(eO P "led_by" 302 (vr 102)),(eO P "look_table" 309 (vr 109)),(eO P "determinant" 315 (vr 114)),(eO P "signed_minor" 321 (vr 119)),(eO P "table_of_rows" 327 (vr 124)),(eO P "time_of" 335 (vr 129)),(eO P "_law_feed" 347 (vr 136)),(eO P "_law_take" 357 (vr 143)),(eO P "_law_names" 363 (vr 148)),(eO P "_law_row" 369 (vr 153)),(eO P "_law_back_row" 375 (vr 158)),(eO P "_law_free_reads" 381 (vr 163)),(eO P "_law_late_reads" 387 (vr 168)),(eO P "_law_turned_row" 398 (vr 175)),(eO P "_law_opposed_reads" 404 (vr 180)),(eO P "_law_ring_reads" 410 (vr 185)),(eO P "_law_reads" 421 (vr 192)),(eO P "_law_grown" 432 (vr 199)),(eO P "_law_house" 438 (vr 204)),(eO P "_law_place" 444 (vr 209)),(eO P "_law_plain_table" 450 (vr 214)),(eO P "_law_good_table" 456 (vr 219)),(eO P "_law_offsets" 462 (vr 224)),(eO P "_law_number" 470 (vr 231)),(eO P "_law_clock" 476 (vr 236)),(eO P "_law_time" 482 (vr 241)),(eO P "_law_tupled" 488 (vr 246)),(eO P "_law_right" 494 (vr 251)),(eO P "_law_told_from" 500 (vr 256)),(eO P "law" 506 (vr 261))] 49),
 (136,oF "_law_feed" iG pm0 135),
 (135,oc "_law_feed" 338 54 2 130 (Ud (132,133)) 134 345),
 (143,oF "_law_take" iH pm0 142),
 (142,oc "_law_take" 348 64 2 137 (Ud (139,140)) 141 355),
 (175,oF "_law_turned_row" dE pm0 174),
 (174,oc "_law_turned_row" 388 108 3 169 (Ud (171,172)) 173 396),
 (153,oF "_law_row" jx pm0 152),
 (152,oc "_law_row" 364 85 2 149 Uc 151 367),
 (180,oF "_law_opposed_reads" cg pm0 179),
 (179,oc "_law_opposed_reads" 399 113 3 176 Uc 178 402),
 (163,oF "_law_free_reads" dz pm0 162),
 (162,oc "_law_free_reads" 376 93 3 159 Uc 161 379),
 (158,oF "_law_back_row" eM pm0 157),
 (157,oc "_law_back_row" 370 89 2 154 Uc 156 373),
 (168,oF "_law_late_reads" dB pm0 167),
 (167,oc "_law_late_reads" 382 99 3 164 Uc 166 385),
 (185,oF "_law_ring_reads" dD pm0 184),
 (184,oc "_law_ring_reads" 405 127 3 181 Uc 183 408),
 (192,oF "_law_reads" gU pm0 191),
 (191,oc "_law_reads" 411 139 1 186 (Ud (188,189)) 190 419),
 (148,oF "_law_names" gS pm0 147),
 (147,oc "_law_names" 358 72 2 144 Uc 146 361),
 (199,oF "_law_grown" gQ pm0 198),
 (198,oc "_law_grown" 422 151 2 193 (Ud (195,196)) 197 430),
 (204,oF "_law_house" gR pm0 203),
 (203,oc "_law_house" 433 162 1 200 Uc 202 436),
 (214,oF "_law_plain_table" cL pm0 213),
 (213,oc "_law_plain_table" 445 177 2 210 Uc 212 448),
 (219,oF "_law_good_table" dA pm0 218),
 (218,oc "_law_good_table" 451 184 2 215 Uc 217 454),
 (231,oF "_law_number" gj pm0 230),
 (230,oc "_law_number" 463 201 1 225 (Ud (227,228)) 229 468),
 (236,oF "_law_clock" gP pm0 235),
 (235,oc "_law_clock" 471 204 2 232 Uc 234 474),
 (224,oF "_law_offsets" fJ pm0 223),
 (223,oc "_law_offsets" 457 192 2 220 Uc 222 460),
 (63,oF "along" pZ pm1 62),
 (62,oc "along" 245 13 2 59 Uc 61 248),
 (80,oF "moved_hands" gn pm2 79),
 (79,oc "moved_hands" 269 21 2 76 Uc 78 272),
 (75,oF "moved_clock" gm pm2 74),
 (74,oc "moved_clock" 263 19 2 71 Uc 73 266),
 (114,oF "determinant" gl pm2 113),
 (113,oc "determinant" 310 37 1 110 Uc 112 313),
 (109,oF "look_table" gX pm2 108),
 (108,oc "look_table" 303 34 1 103 (Ud (105,106)) 107 307),
 (119,oF "signed_minor" fK pm2 118),
 (118,oc "signed_minor" 316 41 3 115 Uc 117 319),
 (124,oF "table_of_rows" eN pm2 123),
 (123,oc "table_of_rows" 322 44 1 120 Uc 122 325),
 (102,oF "led_by" mX pm2 101),
 (101,oc "led_by" 297 32 2 98 Uc 100 300),
 (97,oF "turned_hands" fM pm2 96),
 (96,oc "turned_hands" 291 30 2 93 Uc 95 294),
 (92,oF "turned_clock" fL pm2 91),
 (91,oc "turned_clock" 285 26 2 88 Uc 90 288),
 (209,oF "_law_place" gT pm0 208),
 (208,oc "_law_place" 439 174 2 205 Uc 207 442),
 (256,oF "_law_told_from" dQ pm0 255),
 (255,oc "_law_told_from" 495 236 2 252 Uc 254 498),
 (241,oF "_law_time" iI pm0 240),
 (240,oc "_law_time" 477 214 2 237 Uc 239 480),
 (246,oF "_law_tupled" gk pm0 245),
 (245,oc "_law_tupled" 483 217 1 242 Uc 244 486),
 (129,oF "time_of" kN pm3 128),
 (128,oc "time_of" 330 49 2 125 Uc 127 333),
 (251,oF "_law_right" gW pm0 250),
 (250,oc "_law_right" 489 221 5 247 Uc 249 492),
 (58,oF "led" zQ pm1 57),
 (57,oc "led" 239 11 2 54 Uc 56 242),
 (70,oF "moved_cell" gY pm2 69),
 (69,oc "moved_cell" 253 16 2 64 (Ud (66,67)) 68 260),
 (87,oF "turned_cell" gp pm2 86),
 (86,oc "turned_cell" 275 23 2 81 (Ud (83,84)) 85 282),
 (261,oF "law" s_law pm0 260),
 (260,oc "law" 501 240 1 257 Uc 259 504)]
abbrev KL:!Str:=["HouseError","NoTurn","led","along","moved_cell","moved_clock","moved_hands","turned_cell","turned_clock","turned_hands","led_by","look_table","determinant","signed_minor","table_of_rows","time_of","_law_feed","_law_take","_law_names","_law_row","_law_back_row","_law_free_reads","_law_late_reads","_law_turned_row","_law_opposed_reads","_law_ring_reads","_law_reads","_law_grown","_law_house","_law_place","_law_plain_table","_law_good_table","_law_offsets","_law_number","_law_clock","_law_time","_law_tupled","_law_right","_law_told_from"].map Oy
abbrev KH:PySem.W.Hook:=PySem.W.kHook KF [3,136,135,143,142,175,174,153,152,180,179,163,162,158,157,168,167,185,184,192,191,148,147,199,198,204,203,214,213,219,218,231,230,236,235,224,223,63,62,80,79,75,74,114,113,109,108,119,118,124,123,102,101,97,96,92,91,209,208,256,255,241,240,246,245,129,128,251,250,58,57,70,69,87,86,261,260] (λ_=>rfl)
abbrev KQ:On:=PySem.W.view PySem.Challenge.pw_clockhouse_k48_cells_and_clocks_carried [44]
def left:PySem.W.LeftO PySem.Challenge.pw_clockhouse_k48_cells_and_clocks_carried KQ KL (λs=>PySem.W.xlAt KQ [] s&&PySem.W.recOk [] s) KH.obs KH.val 4000:=λw=>by rfl'
def adr0(w:Oq)(mg:Str->↑Oa)(h:Heap)(X:(KF w.params).In h)(G:h.Ns OM mg):Adr mg (KF w.params):=
 {p9.mkO X G 136 pm0 135 (by2 λ_ _ _ _ _ _ _ _=>rfl),
   p9.mkO X G 143 pm0 142 (by2 λ_ _ _ _ _ _ _ _=>rfl),
   p9.mkO X G 175 pm0 174 (by3 λ_ _ _ _ _ _ _ _ _=>rfl),
   p9.mkO X G 153 pm0 152 (by2 λ_ _ _ _ _ _ _ _=>rfl),
   p9.mkO X G 180 pm0 179 (by3 λ_ _ _ _ _ _ _ _ _=>rfl),
   p9.mkO X G 163 pm0 162 (by3 λ_ _ _ _ _ _ _ _ _=>rfl),
   p9.mkO X G 158 pm0 157 (by2 λ_ _ _ _ _ _ _ _=>rfl),
   p9.mkO X G 168 pm0 167 (by3 λ_ _ _ _ _ _ _ _ _=>rfl),
   p9.mkO X G 185 pm0 184 (by3 λ_ _ _ _ _ _ _ _ _=>rfl),
   p9.mkO X G 192 pm0 191 (by1 λ_ _ _ _ _ _ _=>rfl),
   p9.mkO X G 148 pm0 147 (by2 λ_ _ _ _ _ _ _ _=>rfl),
   p9.mkO X G 199 pm0 198 (by2 λ_ _ _ _ _ _ _ _=>rfl),
   p9.mkO X G 204 pm0 203 (by1 λ_ _ _ _ _ _ _=>rfl),
   p9.mkO X G 214 pm0 213 (by2 λ_ _ _ _ _ _ _ _=>rfl),
   p9.mkO X G 219 pm0 218 (by2 λ_ _ _ _ _ _ _ _=>rfl),
   p9.mkO X G 231 pm0 230 (by1 λ_ _ _ _ _ _ _=>rfl),
   p9.mkO X G 236 pm0 235 (by2 λ_ _ _ _ _ _ _ _=>rfl),
   p9.mkO X G 224 pm0 223 (by2 λ_ _ _ _ _ _ _ _=>rfl),
   p9.mkO X G 63 pm1 62 (by2 λ_ _ _ _ _ _ _ _=>rfl),
   p9.mkO X G 80 pm2 79 (by2 λ_ _ _ _ _ _ _ _=>rfl),
   p9.mkO X G 75 pm2 74 (by2 λ_ _ _ _ _ _ _ _=>rfl),
   p9.mkO X G 114 pm2 113 (by1 λ_ _ _ _ _ _ _=>rfl),
   p9.mkO X G 109 pm2 108 (by1 λ_ _ _ _ _ _ _=>rfl),
   p9.mkO X G 119 pm2 118 (by3 λ_ _ _ _ _ _ _ _ _=>rfl),
   p9.mkO X G 124 pm2 123 (by1 λ_ _ _ _ _ _ _=>rfl),
   p9.mkO X G 102 pm2 101 (by2 λ_ _ _ _ _ _ _ _=>rfl),
   p9.mkO X G 97 pm2 96 (by2 λ_ _ _ _ _ _ _ _=>rfl),
   p9.mkO X G 92 pm2 91 (by2 λ_ _ _ _ _ _ _ _=>rfl),
   p9.mkO X G 209 pm0 208 (by2 λ_ _ _ _ _ _ _ _=>rfl),
   p9.mkO X G 256 pm0 255 (by2 λ_ _ _ _ _ _ _ _=>rfl),
   p9.mkO X G 241 pm0 240 (by2 λ_ _ _ _ _ _ _ _=>rfl),
   p9.mkO X G 246 pm0 245 (by1 λ_ _ _ _ _ _ _=>rfl),
   p9.mkO X G 129 pm3 128 (by2 λ_ _ _ _ _ _ _ _=>rfl),
   p9.mkO X G 251 pm0 250 (by5 λ_ _ _ _ _ _ _ _ _ _ _=>rfl),
   p9.mkO X G 58 pm1 57 (by2 λ_ _ _ _ _ _ _ _=>rfl),
   p9.mkO X G 70 pm2 69 (by2 λ_ _ _ _ _ _ _ _=>rfl),
   p9.mkO X G 87 pm2 86 (by2 λ_ _ _ _ _ _ _ _=>rfl),
   p9.mkO X G 261 pm0 260 (by1 λ_ _ _ _ _ _ _=>rfl),
   {bN X G,bN X G,bN X G,bN X G,bN X G,bN X G,bN X G,bN X G,bN X G,bN X G,bN X G,bN X G,bN X G,bN X G,bN X G,bN X G,bN X G,bN X G,bN X G,bN X G,bN X G},⟨trivial⟩}
def c0:p8 ["_law_script","_law_k","_law_cell","_law_own"] ["_law_script","_law_k"] (ak iG):=by exfalso
def c1:p8 ["_law_feed_here","_law_many","_law_digit","_law_one"] ["_law_feed_here","_law_many"] (ak iH):=by exfalso
def c2:p8 ["_law_row_here","_law_way","_law_signs","_law_found","_law_k"] ["_law_row_here","_law_way","_law_signs"] (ak dE):=by exfalso
def c3:p8 ["_law_feed_here","_law_ways"] ["_law_feed_here","_law_ways"] (ak jx):=by exfalso
def c4:p8 ["_law_feed_here","_law_ways","_law_many","_law_far","_law_some","_law_way","_law_signs","_law_looks","_law_x","_law_other","_law_row_here"] ["_law_feed_here","_law_ways","_law_many"] (ak cg):=by exfalso
def c5:p8 ["_law_feed_here","_law_ways","_law_many","_law_looks","_law_x","_law_k"] ["_law_feed_here","_law_ways","_law_many"] (ak dz):=by exfalso
def c6:p8 ["_law_feed_here","_law_ways","_law_at","_law_more"] ["_law_feed_here","_law_ways"] (ak eM):=by exfalso
def c7:p8 ["_law_feed_here","_law_ways","_law_many","_law_looks","_law_x","_law_k"] ["_law_feed_here","_law_ways","_law_many"] (ak dB):=by exfalso
def c8:p8 ["_law_feed_here","_law_ways","_law_many","_law_looks","_law_long","_law_rest","_law_k","_law_row_here"] ["_law_feed_here","_law_ways","_law_many"] (ak dD):=by exfalso
def c9:p8 ["_law_feed_here","_law_form","_law_wide","_law_ways","_law_many"] ["_law_feed_here"] (ak gU):=by exfalso
def c10:p8 ["_law_feed_here","_law_many","_law_letters","_law_stem","_law_first","_law_at","_law_found","_law_k","_law_name"] ["_law_feed_here","_law_many"] (ak gS):=by exfalso
def c11:p8 ["_law_feed_here","_law_leaves","_law_found","_law_at","_law_sign"] ["_law_feed_here","_law_leaves"] (ak gQ):=by exfalso
def c12:p8 ["_law_feed_here","_law_ways","_law_looks","_law_wheel","_law_names_here","_law_desks","_law_x","_law_leaves","_law_k","_law_number_here"] ["_law_feed_here"] (ak gR):=by exfalso
def c13:p8 ["_law_feed_here","_law_ways","_law_left","_law_table","_law_k","_law_at","_law_sign"] ["_law_feed_here","_law_ways"] (ak cL):=by exfalso
def c14:p8 ["_law_feed_here","_law_ways","_law_table","_law_turn","_law_one","_law_other","_law_times","_law_both"] ["_law_feed_here","_law_ways"] (ak dA):=by exfalso
def c15:p8 ["_law_feed_here","_law_form"] ["_law_feed_here"] (ak gj):=by exfalso
def c16:p8 ["_law_feed_here","_law_house_here","_law_many","_law_found","_law_name","_law_rule","_law_hands","_law_k","_law_row_here"] ["_law_feed_here","_law_house_here"] (ak gP):=by exfalso
def c17:p8 ["_law_feed_here","_law_house_here","_law_ways","_law_names_here","_law_at","_law_found","_law_name","_law_far"] ["_law_feed_here","_law_house_here"] (ak fJ):=by exfalso
def c18:p8 ["row","place"] ["row","place"] (ak pZ):=by exfalso
def c19:p8 ["hands","offset"] ["hands","offset"] (ak gn):=by exfalso
def c20:p8 ["clock","offsets"] ["clock","offsets"] (ak gm):=by exfalso
def c21:p8 ["table"] ["table"] (ak gl):=by exfalso
def c22:p8 ["table"] ["table"] (ak gX):=by exfalso
def c23:p8 ["table","line","at","left"] ["table","line","at"] (ak fK):=by exfalso
def c24:p8 ["table","sign","places"] ["table"] (ak eN):=by exfalso
def c25:p8 ["table","numbers"] ["table","numbers"] (ak mX):=by exfalso
def c26:p8 ["hands","table"] ["hands","table"] (ak fM):=by exfalso
def c27:p8 ["clock","table","rows_table"] ["clock","table"] (ak fL):=by exfalso
def c28:p8 ["_law_feed_here","_law_ways","_law_far"] ["_law_feed_here","_law_ways"] (ak gT):=by exfalso
def c29:p8 ["_law_feed_here","_law_some","_law_names_here","_law_at"] ["_law_feed_here","_law_some"] (ak dQ):=by exfalso
def c30:p8 ["_law_clock_here","_law_cell","_law_knot","_law_hands"] ["_law_clock_here","_law_cell"] (ak iI):=by exfalso
def c31:p8 ["_law_thing"] ["_law_thing"] (ak gk):=by exfalso
def c32:p8 ["clock","cell","name","place","knot","hands"] ["clock","cell"] (ak kN):=by exfalso
def c33:p8 ["_law_clock_here","_law_found","_law_cells","_law_carried","_law_at","_law_name","_law_knot","_law_hands","_law_cell","_law_other","_law_due"] ["_law_clock_here","_law_found","_law_cells","_law_carried","_law_at"] (ak gW):=by exfalso
def c34:p8 ["place","row"] ["place","row"] (ak zQ):=by exfalso
def c35:p8 ["cell","offsets","name","place"] ["cell","offsets"] (ak gY):=by exfalso
def c36:p8 ["cell","table","name","place"] ["cell","table"] (ak gp):=by exfalso
def c37:p8 ["_law_script","_law_k","_law_feed_here","_law_house_here","_law_clock_here","_law_offsets_here","_law_second","_law_others","_law_table","_law_cells","_law_one","_law_rows","_law_handed","_law_found"] ["_law_script"] (ak s_law):=by exfalso
local macro_rules|`(tactic| ac_nf)=>`(tactic| first|exact ae|exact CK.blk ae|exact CK.blk (CK.blk ae))
local macro_rules|`(tactic| injection $x:ident)=>`(tactic| refine $x ?_)
local macro_rules|`(tactic| infer_instance)=>`(tactic| first
 | ((with_reducible change QE _ _ _ _);first|exact bv|refine Df ?_ ?_ ?_|exact az _|exact HG|exact mQ|refine gA nofun ?_ ?_|refine g9 _ ?_|refine rm _ ?_|refine jh nofun ?_ ?_|refine zd nofun ?_ ?_|refine rn nofun ?_ ?_|refine Dg nofun ?_ ?_|refine Fp nofun ?_ ?_|refine HF nofun ?_ ?_|refine eT _ nofun (by with_reducible assumption) ?_|refine fv nofun (by with_reducible first|exact b_len|exact b_max|exact b_min|exact b_all|exact b_sum) ?_ ?_|refine we nofun (by with_reducible first|exact b_tuple|exact b_int|exact b_list|exact b_dict) ?_ ?_|refine cO nofun (by with_reducible assumption) ?_|refine sV nofun ?_ ?_ ?_|refine HB _ _ nofun (by with_reducible first|exact xP|exact xQ|exact Bf) ?_ ?_|refine sU _ nofun m_pop ?_|refine Fs nofun El ?_ ?_|refine Hz nofun ?_ ?_ ?_ (by unhygienic rfl)|refine y9 nofun (Bi.b_isinstance (by assumption)) (by with_reducible first|exact Bi.b_bool (by assumption)|exact Bi.b_dict (by assumption)|exact Bi.b_int (by assumption)|exact Bi.b_tuple (by assumption)) (by with_reducible first|exact NB|exact LR|exact MJ|exact LN) (by decide) ?_|exact Jd|refine Fq nofun ?_ ?_|refine sT nofun ?_ ?_|injection kA|refine mR nofun ?_ ?_|injection HC|injection zc|refine Hy ?_ ?_|injection HD)
 | ((with_reducible change QA _ _ _ _);first|exact aq|refine ai _ ?_|refine au ?_ ?_)
 | ((with_reducible change QSs _ _ _ _);first|exact eC|exact kC|refine i5 _ ?_|refine aN ?_ ?_|injection bu)
 | ((with_reducible change QS _ _ _ _);first|refine dL _ ?_ ?_|exact rq|injection bQ|injection lF|refine pK ?_ ?_|refine sW _ _ nofun ?_ ?_|refine hC ?_ ?_ ?_|refine kB nofun (λ_=>Pp) ?_ ?_ ?_|refine zg (λ_=>Pp) ?_ ?_|refine qs_fgt _ ?_)
 | ((with_reducible change QT _ _ _ _);first|refine dh nofun ?_ ?_ ?_ (by unhygienic rfl)|injection ju|refine zh nofun ?_|injection kD|refine QW.t ?_)
 | ((with_reducible change QW _ _ _ _);first|refine sX ?_ ?_|refine oH ?_ ?_|injection uy|injection mS)
 | ((with_reducible change QG _ _ _ _ _);first|refine aH _ ?_|refine cE nofun (aC ?_ (aC ?_ bM))|refine cE nofun (aC ?_ (aC ?_ (aC ?_ bM)))|refine ze _ ?_ ?_|refine BZ _ ?_ ?_|refine zf _ ?_ ?_ ?_)
 | ((with_reducible change QI _ _ _ _ _);first|refine i4 nofun ?_ ?_|refine wf nofun ?_ ?_|refine pJ nofun ?_ ?_|refine ux nofun ?_ ?_|refine jU nofun ?_|refine gf nofun ?_)
 | ((with_reducible change QO _ _ _ _);first|exact gL|injection gM)
 | ((with_reducible change QTs _ _ _ _);first|exact bS)
 | ((with_reducible change ib _ _);first|exact Gy|exact IR|exact Gz|exact IS|exact GA|exact oZ|exact CY)
 | ((with_reducible show∀_,List.Nodup _);intro _;first|assumption|exact bJ (by rfl'))
 | with_reducible first|assumption|exact Bi.b_all (by assumption)|exact Bi.b_bool (by assumption)|exact Bi.b_dict (by assumption)|exact Bi.b_int (by assumption)|exact Bi.b_isinstance (by assumption)|exact Bi.b_len (by assumption)|exact Bi.b_list (by assumption)|exact Bi.b_max (by assumption)|exact Bi.b_min (by assumption)|exact Bi.b_sorted (by assumption)|exact Bi.b_sum (by assumption)|exact Bi.b_tuple (by assumption))
local macro_rules|`(tactic| and_intros)=>`(tactic| repeat' (first|infer_instance|fail))
section
variable {P:On}{W:Oq}{K:yF}{mg:Str->↑Oa}{base:Heap}(A:Adr mg K)
include A
def v0:Has P W K mg base 1 "_law_feed" ["_law_script","_law_k"] (spP K mU):=by
 have:=c0.nd;have:=A.T;show Def.qp A.d0.to c0 (m:=jP) ?_ (λ_=>rfl);unfold jP;and_intros
def v1:Has P W K mg base 1 "_law_take" ["_law_feed_here","_law_many"] (spI K 0 am):=by
 have:=c1.nd;have:=A.T;show Def.qi A.d1.to c1 (m:=jQ) ?_ (λ_=>rfl);unfold jQ;and_intros
def v2:Has P W K mg base 1 "_law_turned_row" ["_law_row_here","_law_way","_law_signs"] (spP K du):=by
 have:=c2.nd;have:=A.T;show Def.qp A.d2.to c2 (m:=cX) ?_ (λ_=>rfl);unfold cX;and_intros
def v3:Has P W K mg base 2 "_law_row" ["_law_feed_here","_law_ways"] (spI K 0 lG):=by
 have:=@v1 P W K mg base A;have:=c3.nd;have:=A.T;show Def.qi A.d3.to c3 (m:=lB) ?_ (λ_=>rfl);unfold lB;and_intros
 .show bi (N':=["_law_feed_here","_law_ways","_law_k"]) (by ac_nf) (λ_=>Blk.of (by rfl')) ?_ ?_ ?_ ?_<;>and_intros
def v4:Has P W K mg base 3 "_law_opposed_reads" ["_law_feed_here","_law_ways","_law_many"] (spI K 0 dr):=by
 have:=@v1 P W K mg base A;have:=@v2 P W K mg base A;have:=@v3 P W K mg base A;have:=c4.nd;have:=A.T;show Def.qi A.d4.to c4 (m:=bZ) ?_ (λ_=>rfl);unfold bZ;and_intros
 .show bi (N':=["_law_feed_here","_law_ways","_law_many","_law_far","_law_some","_law_way","_law_signs","_law_looks","_law_x","_law_other","_law_row_here","_law_k"]) (by ac_nf) (λ_=>Blk.of (by rfl')) ?_ ?_ ?_ ?_<;>and_intros
 .show bR _ (N':=["_law_feed_here","_law_ways","_law_many","_law_far","_law_some","_law_way","_law_signs","_law_looks","_law_x","_law_other","_law_row_here"]) (by ac_nf) (λ_=>(by first|assumption|show bJ (by rfl'))) (λ_=>Blk.of (by rfl')) ?_ ?_ ?_ ?_<;>and_intros
def v5:Has P W K mg base 3 "_law_free_reads" ["_law_feed_here","_law_ways","_law_many"] (spI K 0 fw):=by
 have:=@v1 P W K mg base A;have:=@v3 P W K mg base A;have:=c5.nd;have:=A.T;show Def.qi A.d5.to c5 (m:=cU) ?_ (λ_=>rfl);unfold cU;and_intros
 .show bR _ (N':=["_law_feed_here","_law_ways","_law_many","_law_looks","_law_x","_law_k"]) (by ac_nf) (λ_=>(by first|assumption|show bJ (by rfl'))) (λ_=>Blk.of (by rfl')) ?_ ?_ ?_ ?_<;>and_intros
def v6:Has P W K mg base 2 "_law_back_row" ["_law_feed_here","_law_ways"] (spI K 0 e7):=by
 have:=@v1 P W K mg base A;have:=c6.nd;have:=A.T;show Def.qi A.d6.to c6 (m:=eW) ?_ (λ_=>rfl);unfold eW;and_intros
 .show bR _ (N':=["_law_feed_here","_law_ways","_law_at","_law_more","_law_k"]) (by ac_nf) (λ_=>(by first|assumption|show bJ (by rfl'))) (λ_=>Blk.of (by rfl')) ?_ ?_ ?_ ?_<;>and_intros
def v7:Has P W K mg base 3 "_law_late_reads" ["_law_feed_here","_law_ways","_law_many"] (spI K 0 dm):=by
 have:=@v1 P W K mg base A;have:=@v6 P W K mg base A;have:=c7.nd;have:=A.T;show Def.qi A.d7.to c7 (m:=cV) ?_ (λ_=>rfl);unfold cV;and_intros
 .show bR _ (N':=["_law_feed_here","_law_ways","_law_many","_law_looks","_law_x","_law_k"]) (by ac_nf) (λ_=>(by first|assumption|show bJ (by rfl'))) (λ_=>Blk.of (by rfl')) ?_ ?_ ?_ ?_<;>and_intros
def v8:Has P W K mg base 4 "_law_ring_reads" ["_law_feed_here","_law_ways","_law_many"] (spI K 0 fD):=by
 have:=@v7 P W K mg base A;have:=@v1 P W K mg base A;have:=c8.nd;have:=A.T;show Def.qi A.d8.to c8 (m:=cW) ?_ (λ_=>rfl);unfold cW;and_intros
 .show bi (N':=["_law_feed_here","_law_ways","_law_many","_law_looks","_law_long","_law_rest","_law_k","_law_row_here","_law_j"]) (by ac_nf) (λ_=>Blk.of (by rfl')) ?_ ?_ ?_ ?_<;>and_intros
 .show bi (N':=["_law_feed_here","_law_ways","_law_many","_law_looks","_law_long","_law_rest","_law_k","_law_row_here","_law_j"]) (by ac_nf) (λ_=>Blk.of (by rfl')) ?_ ?_ ?_ ?_<;>and_intros
 .show bi (N':=["_law_feed_here","_law_ways","_law_many","_law_looks","_law_long","_law_rest","_law_k","_law_row_here","_law_number_here"]) (by ac_nf) (λ_=>Blk.of (by rfl')) ?_ ?_ ?_ ?_<;>and_intros
 .show bi (N':=["_law_feed_here","_law_ways","_law_many","_law_looks","_law_long","_law_rest","_law_k","_law_row_here","_law_j"]) (by ac_nf) (λ_=>Blk.of (by rfl')) ?_ ?_ ?_ ?_<;>and_intros
def v9:Has P W K mg base 5 "_law_reads" ["_law_feed_here"] (spI K 0 kJ):=by
 have:=@v1 P W K mg base A;have:=@v5 P W K mg base A;have:=@v7 P W K mg base A;have:=@v8 P W K mg base A;have:=@v4 P W K mg base A;have:=c9.nd;have:=A.T;show Def.qi A.d9.to c9 (m:=iY) ?_ (λ_=>rfl);unfold iY;and_intros
def v10:Has P W K mg base 2 "_law_names" ["_law_feed_here","_law_many"] (spI K 0 kH):=by
 have:=@v1 P W K mg base A;have:=c10.nd;have:=A.T;show Def.qi A.d10.to c10 (m:=iW) ?_ (λ_=>rfl);unfold iW;and_intros
 .show bi (N':=["_law_feed_here","_law_many","_law_letters","_law_stem","_law_first","_law_at","_law_found","_law_k","_law_name"]) (by ac_nf) (λ_=>Blk.of (by rfl')) ?_ ?_ ?_ ?_<;>and_intros
def v11:Has P W K mg base 2 "_law_grown" ["_law_feed_here","_law_leaves"] (spI K 0 kF):=by
 have:=@v1 P W K mg base A;have:=c11.nd;have:=A.T;show Def.qi A.d11.to c11 (m:=iU) ?_ (λ_=>rfl);unfold iU;and_intros
def v12:Has P W K mg base 6 "_law_house" ["_law_feed_here"] (spI K 0 kG):=by
 have:=@v9 P W K mg base A;have:=@v1 P W K mg base A;have:=@v10 P W K mg base A;have:=@v11 P W K mg base A;have:=c12.nd;have:=A.T;show Def.qi A.d12.to c12 (m:=iV) ?_ (λ_=>rfl);unfold iV;and_intros
 .show bR _ (N':=["_law_feed_here","_law_ways","_law_looks","_law_wheel","_law_names_here","_law_desks","_law_x","_law_leaves","_law_k","_law_number_here","_law_other","_law_row_here"]) (by ac_nf) (λ_=>(by first|assumption|show bJ (by rfl'))) (λ_=>Blk.of (by rfl')) ?_ ?_ ?_ ?_<;>and_intros
def v13:Has P W K mg base 2 "_law_plain_table" ["_law_feed_here","_law_ways"] (spI K 0 eD):=by
 have:=@v1 P W K mg base A;have:=c13.nd;have:=A.T;show Def.qi A.d13.to c13 (m:=cG) ?_ (λ_=>rfl);unfold cG;and_intros
 .show bi (N':=["_law_feed_here","_law_ways","_law_left","_law_table","_law_k","_law_at","_law_sign","_law_j"]) (by ac_nf) (λ_=>Blk.of (by rfl')) ?_ ?_ ?_ ?_<;>and_intros
def v14:Has P W K mg base 3 "_law_good_table" ["_law_feed_here","_law_ways"] (spI K 0 fA):=
 Def.qi A.d14.to c14 (m:=fk) (aN (dL 2 (λ_=>c14.nd) (eT 0 ae (v13 A) (ai 0 (ai 1 aq))))
  (aN (kB ae (λ_=>Pp) (i4 ae A.T (au bv aq)) (aH 3 (λ_=>c14.nd)) (i5 [3,4,5,6,7] (aN (pK (g9 [] (au (eT 0 ae (v1 A) (ai 0 (ai 1 aq))) (au (eT 0 ae (v1 A) (ai 0 (ai 1 aq))) (au (zd ae (eT 0 ae (v1 A) (ai 0 (au bv aq))) bv) aq)))) (cE ae (aC (aH 4 (λ_=>c14.nd)) (aC (aH 5 (λ_=>c14.nd)) (aC (aH 6 (λ_=>c14.nd)) bM)))))
  (aN (dL 7 (λ_=>c14.nd) (we ae b_tuple A.T.b_tuple (au (bi (N':=["_law_feed_here","_law_ways","_law_table","_law_turn","_law_one","_law_other","_law_times","_law_both","_law_mine","_law_more"]) (f:=[Uc,Uc,Uc,Uc,Uc,Uc,Ud 6,Uc,Uc,Uc]) ae (λ_=>Blk.of (by rfl')) (pJ ae A.T (au (gA ae (az 2) (az 4)) (au (gA ae (az 2) (az 5)) aq))) (cE (CK.blk ae) (aC (aH 8 (λ_=>bJ (by rfl'))) (aC (aH 9 (λ_=>bJ (by rfl'))) bM))) bS (jh (CK.blk ae) (az 8) (rn (CK.blk ae) (az 6) (az 9)))) aq)))
  (bu (hC (QW.t (sX (dh ae oZ (az 4) (az 5) (eA _)) (sX (dh ae GA (fv ae DM A.T.b_max (ai 7 aq)) bv (eA _)) (uy (dh ae Gz (fv ae DN A.T.b_min (ai 7 aq)) (zd ae bv bv) (eA _)))))) (bu (pK (az 7) (ze 2 (az 2) (az 4)))) eC))))))
  (bu (bQ (we ae b_tuple A.T.b_tuple (ai 2 aq)))))) (λ_=>rfl)
def v15:Has P W K mg base 2 "_law_number" ["_law_feed_here"] (spI K 0 fB):=by
 have:=@v1 P W K mg base A;have:=c15.nd;have:=A.T;show Def.qi A.d15.to c15 (m:=gF) ?_ (λ_=>rfl);unfold gF;and_intros
def v16:Has P W K mg base 3 "_law_clock" ["_law_feed_here","_law_house_here"] (spI K 0 e8):=by
 have:=@v1 P W K mg base A;have:=@v15 P W K mg base A;have:=c16.nd;have:=A.T;show Def.qi A.d16.to c16 (m:=eX) ?_ (λ_=>rfl);unfold eX;and_intros
 .show bi (N':=["_law_feed_here","_law_house_here","_law_many","_law_found","_law_name","_law_rule","_law_hands","_law_k","_law_row_here","_law_j"]) (by ac_nf) (λ_=>Blk.of (by rfl')) ?_ ?_ ?_ ?_<;>and_intros
def v17:Has P W K mg base 2 "_law_offsets" ["_law_feed_here","_law_house_here"] (spI K 0 f6):=by
 have:=@v1 P W K mg base A;have:=c17.nd;have:=A.T;show Def.qi A.d17.to c17 (m:=fW) ?_ (λ_=>rfl);unfold fW;and_intros
 .show bR _ (N':=["_law_feed_here","_law_house_here","_law_ways","_law_names_here","_law_at","_law_found","_law_name","_law_far","_law_rule"]) (by ac_nf) (λ_=>(by first|assumption|show bJ (by rfl'))) (λ_=>Blk.of (by rfl')) ?_ ?_ ?_ ?_<;>and_intros
 .show bi (N':=["_law_feed_here","_law_house_here","_law_ways","_law_names_here","_law_at","_law_found","_law_name","_law_far","_law_k"]) (by ac_nf) (λ_=>Blk.of (by rfl')) ?_ ?_ ?_ ?_<;>and_intros
def v18:Has P W K mg base 1 "along" ["row","place"] (spP K gB):=by
 have:=c18.nd;have:=A.T;show Def.qp A.d18.to c18 (m:=iZ) ?_ (λ_=>rfl);unfold iZ;and_intros
 .show bi (N':=["row","place","number","other"]) (by ac_nf) (λ_=>Blk.of (by rfl')) ?_ ?_ ?_ ?_<;>and_intros
def v19:Has P W K mg base 2 "moved_hands" ["hands","offset"] (spP K eH):=by
 have:=@v18 P W K mg base A;have:=c19.nd;have:=A.T;show Def.qp A.d19.to c19 (m:=cH) ?_ (λ_=>rfl);unfold cH;and_intros
 .show bi (N':=["hands","offset","row","hour"]) (by ac_nf) (λ_=>Blk.of (by rfl')) ?_ ?_ ?_ ?_<;>and_intros
def v20:Has P W K mg base 3 "moved_clock" ["clock","offsets"] (spP K eG):=
 Def.qp A.d20.to c20 (m:=eg) (bu (bQ (HA (uw (N':=["clock","offsets","name","knot","hands"]) (f:=[Uc,Ud 1,Uc,Uc,Uc]) ae (λ_=>Blk.of (by rfl')) (jU ae (az 0)) (cE (CK.blk ae) (aC (aH 2 (λ_=>bJ (by rfl'))) (aC (cE (CK.blk ae) (aC (aH 3 (λ_=>bJ (by rfl'))) (aC (aH 4 (λ_=>bJ (by rfl'))) bM))) bM))) bS (az 2) (g9 [3] (ai 3 (au (cO (CK.blk ae) (v19 A) (ai 4 (au (sT (CK.blk ae) (az 1) (az 2)) aq))) aq))))))) (λ_=>rfl)
def v21:∀n,Has P W K mg base (1+2*n) "determinant" ["table"] (spP K (aE n))
 | 0=>Def.qp A.d21.to c21 (m:=ir) kC (λ_=>rfl)
 | n+1=>by
  have a:=v21 n;have c:Has P W K mg base (1+2*n+1) "signed_minor" ["table","line","at"] (spP K (be n)):=Def.qp (k:=1+2*n) A.d23.to c23 (m:=bt (aE n)) (aN (bR 3 (N':=["table","line","at","left","row"]) (f:=[Uc,Uc,Ud 2,Uc,Uc]) ae (λ_=>c23.nd) (λ_=>Blk.of (by rfl')) (gf ae (jh ae (sV ae (az 0) gL (gM (az 1))) (sV ae (az 0) (gM (jh ae (az 1) bv)) gL))) (aH 4 (λ_=>bJ (by rfl'))) bS (jh (CK.blk ae) (sV (CK.blk ae) (az 4) gL (gM (az 2))) (sV (CK.blk ae) (az 4) (gM (jh (CK.blk ae) (az 2) bv)) gL)))
  (bu (bQ (Df (dh ae Gy (Dg ae (jh ae (az 1) (az 2)) bv) bv (eA _)) (cO ae a (ai 3 aq)) (zc (cO ae a (ai 3 aq))))))) (λ_=>rfl)
  show Def.qp (k:=1+2*n+1) A.d21.to c21 (m:=bK (be n)) (aN (hC (ju (zh ae (az 0))) (bu (bQ bv)) eC)
  (bu (bQ (fv ae b_sum A.T.b_sum (au (bi (N':=["table","at","number"]) (f:=[Ud 0,Uc,Uc]) ae (λ_=>Blk.of (by rfl')) (ux ae A.T (au (gA ae (az 0) bv) aq)) (cE (CK.blk ae) (aC (aH 1 (λ_=>bJ (by rfl'))) (aC (aH 2 (λ_=>bJ (by rfl'))) bM))) bS (rn (CK.blk ae) (az 2) (cO (CK.blk ae) c (ai 0 (au bv (ai 1 aq)))))) aq))))) (λ_=>rfl)
def v22:Has P W K mg base 50 "look_table" ["table"] (spP K fE):=
 Def.qp A.d22.to c22 (m:=fo) (bu (hC (dh ae CY (cO ae (v21 A 24) (ai 0 aq)) (g9 [] (au bv (au (zc bv) aq))) (by unhygienic rfl)) (bu rq) eC)) (λ_=>rfl)
def v23:Has P W K mg base 50 "signed_minor" ["table","line","at"] (spP K (be 24)):=by
 have:=@v21 P W K mg base A 24;have:=c23.nd;have:=A.T;show Def.qp A.d23.to c23 (m:=bt (aE 24)) ?_ (λ_=>rfl);unfold bt;and_intros
 .show bR _ (N':=["table","line","at","left","row"]) (by ac_nf) (λ_=>(by first|assumption|show bJ (by rfl'))) (λ_=>Blk.of (by rfl')) ?_ ?_ ?_ ?_<;>and_intros
def v24:Has P W K mg base 51 "table_of_rows" ["table"] (spP K dv):=by
 have:=@v21 P W K mg base A 24;have:=@v23 P W K mg base A;have:=c24.nd;have:=A.T;show Def.qp A.d24.to c24 (m:=cb) ?_ (λ_=>rfl);unfold cb;and_intros
 .show bi (N':=["table","sign","places","line"]) (by ac_nf) (λ_=>Blk.of (by rfl')) ?_ ?_ ?_ ?_<;>and_intros;show bi (N':=["table","sign","places","line","at"]) (by ac_nf) (λ_=>Blk.of (by rfl')) ?_ ?_ ?_ ?_<;>and_intros
def v25:Has P W K mg base 2 "led_by" ["table","numbers"] (spP K gO):=by
 have:=@v18 P W K mg base A;have:=c25.nd;have:=A.T;show Def.qp A.d25.to c25 (m:=gH) ?_ (λ_=>rfl);unfold gH;and_intros
 .show bi (N':=["table","numbers","line"]) (by ac_nf) (λ_=>Blk.of (by rfl')) ?_ ?_ ?_ ?_<;>and_intros
def v26:Has P W K mg base 3 "turned_hands" ["hands","table"] (spP K dP):=by
 have:=@v25 P W K mg base A;have:=c26.nd;have:=A.T;show Def.qp A.d26.to c26 (m:=cx) ?_ (λ_=>rfl);unfold cx;and_intros
 .show bi (N':=["hands","table","row","hour"]) (by ac_nf) (λ_=>Blk.of (by rfl')) ?_ ?_ ?_ ?_<;>and_intros
def v27:Has P W K mg base 52 "turned_clock" ["clock","table"] (spP K dO):=
 Def.qp A.d27.to c27 (m:=dJ) (aN (lF (cO ae (v22 A) (ai 1 aq)))
  (aN (dL 2 (λ_=>c27.nd) (cO ae (v24 A) (ai 1 aq)))
  (bu (bQ (HA (uw (N':=["clock","table","rows_table","name","knot","hands"]) (f:=[Uc,Uc,Ud 2,Uc,Uc,Uc]) ae (λ_=>Blk.of (by rfl')) (jU ae (az 0)) (cE (CK.blk ae) (aC (aH 3 (λ_=>bJ (by rfl'))) (aC (cE (CK.blk ae) (aC (aH 4 (λ_=>bJ (by rfl'))) (aC (aH 5 (λ_=>bJ (by rfl'))) bM))) bM))) bS (az 3) (g9 [4] (ai 4 (au (cO (CK.blk ae) (v26 A) (ai 5 (ai 2 aq))) aq))))))))) (λ_=>rfl)
def v28:Has P W K mg base 2 "_law_place" ["_law_feed_here","_law_ways"] (spI K 0 kI):=by
 have:=@v1 P W K mg base A;have:=c28.nd;have:=A.T;show Def.qi A.d28.to c28 (m:=iX) ?_ (λ_=>rfl);unfold iX;and_intros
 .show bi (N':=["_law_feed_here","_law_ways","_law_far","_law_k"]) (by ac_nf) (λ_=>Blk.of (by rfl')) ?_ ?_ ?_ ?_<;>and_intros
def v29:Has P W K mg base 2 "_law_told_from" ["_law_feed_here","_law_some"] (spI K 0 cy):=
 Def.qi A.d29.to c29 (m:=dI) (aN (dL 2 (λ_=>c29.nd) (we ae AH A.T.b_list (ai 1 aq)))
  (aN (dL 3 (λ_=>c29.nd) (eT 0 ae (v1 A) (ai 0 (au (fv ae b_len A.T.b_len (ai 2 aq)) aq))))
  (bu (bQ (kA (we ae b_dict A.T.b_dict (au (bi (N':=["_law_feed_here","_law_some","_law_names_here","_law_at","_law_name"]) (f:=[Uc,Ud 1,Uc,Uc,Uc]) ae (λ_=>Blk.of (by rfl')) (gf ae (jh ae (sV ae (az 2) (gM (az 3)) gL) (sV ae (az 2) gL (gM (az 3))))) (aH 4 (λ_=>bJ (by rfl'))) bS (g9 [4] (ai 4 (au (sT (CK.blk ae) (az 1) (az 4)) aq)))) aq))))))) (λ_=>rfl)
def v30:Has P W K mg base 1 "_law_time" ["_law_clock_here","_law_cell"] (spP K dZ):=
 Def.qp A.d30.to c30 (m:=fX) (aN (pK (Fo ae (az 0) (gA ae (az 1) bv)) (cE ae (aC (aH 2 (λ_=>c30.nd)) (aC (aH 3 (λ_=>c30.nd)) bM))))
  (bu (bQ (we ae b_tuple A.T.b_tuple (au (jh ae (rm [2] (ai 2 aq)) (bi (N':=["_law_clock_here","_law_cell","_law_knot","_law_hands","_law_row_here","_law_hour"]) (f:=[Uc,Ud 1,Uc,Uc,Uc,Uc]) ae (λ_=>Blk.of (by rfl')) (gf ae (az 3)) (cE (CK.blk ae) (aC (aH 4 (λ_=>bJ (by rfl'))) (aC (aH 5 (λ_=>bJ (by rfl'))) bM))) bS (jh (CK.blk ae) (az 5) (fv (CK.blk ae) b_sum A.T.b_sum (au (bi (N':=["_law_clock_here","_law_cell","_law_knot","_law_hands","_law_row_here","_law_hour","_law_one","_law_at"]) (f:=[Uc,Uc,Uc,Uc,Uc,Uc,Uc,Uc]) (CK.blk ae) (λ_=>Blk.of (by rfl')) (pJ (CK.blk ae) A.T (ai 4 (au (gA (CK.blk ae) (az 1) bv) aq))) (cE (CK.blk (CK.blk ae)) (aC (aH 6 (λ_=>bJ (by rfl'))) (aC (aH 7 (λ_=>bJ (by rfl'))) bM))) bS (rn (CK.blk (CK.blk ae)) (az 6) (az 7))) aq))))) aq))))) (λ_=>rfl)
def v31:∀n,Has P W K mg base (1+n) "_law_tupled" ["_law_thing"] (spP K (dN n))
 | 0=>Def.qp A.d31.to c31 (m:=ir) kC (λ_=>rfl)
 | n+1=>by
  have a:=v31 n;have:=c31.nd;have:=A.T;show Def.qp (k:=1+n) A.d31.to c31 (m:=fm (dN n)) ?_ (λ_=>rfl);unfold fm;and_intros
  .show bi (N':=["_law_thing","_law_one"]) (by ac_nf) (λ_=>Blk.of (by rfl')) ?_ ?_ ?_ ?_<;>and_intros
def v32:Has P W K mg base 2 "time_of" ["clock","cell"] (spP K fG):=by
 have:=@v18 P W K mg base A;have:=c32.nd;have:=A.T;show Def.qp A.d32.to c32 (m:=cZ) ?_ (λ_=>rfl);unfold cZ;and_intros
 .show bi (N':=["clock","cell","name","place","knot","hands","row","hour"]) (by ac_nf) (λ_=>Blk.of (by rfl')) ?_ ?_ ?_ ?_<;>and_intros
def v33:Has P W K mg base 26 "_law_right" ["_law_clock_here","_law_found","_law_cells","_law_carried","_law_at"] (spP K fb):=
 Def.qp A.d33.to c33 (m:=gG) (aN (hC (QW.t (oH (ju (kD (y9 ae A.T.b_isinstance A.T.b_dict LR (by decide) (az 1)))) (mS (dh ae oZ (fv ae tT A.T.b_sorted (ai 1 aq)) (fv ae tT A.T.b_sorted (ai 0 aq)) (eA _))))) (bu (bQ mQ)) eC)
  (aN (kB ae (λ_=>Pp) (jU ae (az 0)) (cE ae (aC (aH 5 (λ_=>c33.nd)) (aC (cE ae (aC (aH 6 (λ_=>c33.nd)) (aC (aH 7 (λ_=>c33.nd)) bM))) bM))) (i5 [5,6,7] (aN (hC (QW.t (oH (ju (kD (cO ae (v31 A 24) (au (mR ae (az 1) (az 5)) aq)))) (oH (dh ae oZ (fv ae b_len A.T.b_len (au (mR ae (az 1) (az 5)) aq)) bv (eA _)) (mS (dh ae oZ (gA ae (mR ae (az 1) (az 5)) bv) (az 6) (eA _)))))) (bu (bQ mQ)) eC)
  (aN (hC (QW.t (oH (ju (kD (y9 ae A.T.b_isinstance A.T.b_tuple LN (by decide) (mR ae (az 1) (az 5))))) (mS (dh ae oZ (bi (N':=["_law_clock_here","_law_found","_law_cells","_law_carried","_law_at","_law_name","_law_knot","_law_hands","_law_cell","_law_other","_law_due","_law_hand"]) (f:=[Uc,Uc,Uc,Uc,Uc,Uc,Uc,Uc,Uc,Uc,Uc,Uc]) ae (λ_=>Blk.of (by rfl')) (gf ae (gA ae (mR ae (az 1) (az 5)) bv)) (aH 11 (λ_=>bJ (by rfl'))) bS (fv (CK.blk ae) b_len A.T.b_len (ai 11 aq))) (rn ae (rm [] (au bv aq)) (fv ae b_len A.T.b_len (ai 7 aq))) (eA _))))) (bu (bQ mQ)) eC)
  (bu (hC (dh ae oZ (bi (N':=["_law_clock_here","_law_found","_law_cells","_law_carried","_law_at","_law_name","_law_knot","_law_hands","_law_cell","_law_other","_law_due","_law_hand"]) (f:=[Uc,Uc,Uc,Uc,Ud 4,Uc,Uc,Uc,Uc,Uc,Uc,Uc]) ae (λ_=>Blk.of (by rfl')) (gf ae (gA ae (mR ae (az 1) (az 5)) bv)) (aH 11 (λ_=>bJ (by rfl'))) bS (gA (CK.blk ae) (az 11) (az 4))) (bi (N':=["_law_clock_here","_law_found","_law_cells","_law_carried","_law_at","_law_name","_law_knot","_law_hands","_law_cell","_law_other","_law_due","_law_hand"]) (f:=[Uc,Uc,Uc,Uc,Ud 4,Uc,Uc,Uc,Uc,Uc,Uc,Uc]) ae (λ_=>Blk.of (by rfl')) (gf ae (az 7)) (aH 11 (λ_=>bJ (by rfl'))) bS (gA (CK.blk ae) (az 11) (az 4))) (eA _)) (bu (bQ mQ)) eC))))))
  (aN (kB ae (λ_=>Pp) (pJ ae A.T (ai 2 (ai 3 aq))) (cE ae (aC (aH 8 (λ_=>c33.nd)) (aC (aH 9 (λ_=>c33.nd)) bM))) (i5 [8,9,10] (aN (dL 10 (λ_=>c33.nd) (cO ae (v30 A) (ai 0 (ai 8 aq))))
  (bu (hC (QW.t (oH (dh ae oZ (cO ae (v30 A) (ai 1 (ai 9 aq))) (az 10) (eA _)) (mS (dh ae oZ (cO ae (v32 A) (ai 1 (ai 9 aq))) (az 10) (eA _))))) (bu (bQ mQ)) eC)))))
  (bu (bQ mQ))))) (λ_=>rfl)
def v34:Has P W K mg base 1 "led" ["place","row"] (spP K pR):=by
 have:=c34.nd;have:=A.T;show Def.qp A.d34.to c34 (m:=lC) ?_ (λ_=>rfl);unfold lC;and_intros
 .show bi (N':=["place","row","number","more"]) (by ac_nf) (λ_=>Blk.of (by rfl')) ?_ ?_ ?_ ?_<;>and_intros
def v35:Has P W K mg base 2 "moved_cell" ["cell","offsets"] (spP K fF):=by
 have:=@v34 P W K mg base A;have:=c35.nd;have:=A.T;show Def.qp A.d35.to c35 (m:=cY) ?_ (λ_=>rfl);unfold cY;and_intros
def v36:Has P W K mg base 3 "turned_cell" ["cell","table"] (spP K eI):=by
 have:=@v25 P W K mg base A;have:=c36.nd;have:=A.T;show Def.qp A.d36.to c36 (m:=cI) ?_ (λ_=>rfl);unfold cI;and_intros
def v37:Has P W K mg base 53 "law" ["_law_script"] (spP K r_l_law_v12):=
 Def.qp A.d37.to c37 (m:=iw) (aN (kB ae (λ_=>Pp) (i4 ae A.T (au (fv ae b_max A.T.b_max (au bv (au (fv ae b_min A.T.b_min (au (fv ae b_len A.T.b_len (ai 0 aq)) (au bv aq))) aq))) aq)) (aH 1 (λ_=>c37.nd)) (i5 [1,2,3,4,5,6,7,8,9,10,11,12,13] (aN (dL 2 (λ_=>c37.nd) (cO ae (v0 A) (ai 0 (ai 1 aq))))
  (aN (dL 3 (λ_=>c37.nd) (eT 2 ae (v12 A) (ai 2 aq)))
  (aN (sW 4 5 ae (λ_=>c37.nd) (au (kA (eT 2 ae (v16 A) (ai 2 (ai 3 aq)))) (au (kA (eT 2 ae (v17 A) (ai 2 (ai 3 aq)))) aq)))
  (aN (sW 6 7 ae (λ_=>c37.nd) (au (kA (eT 2 ae (v16 A) (ai 2 (ai 3 aq)))) (au (kA (eT 2 ae (v17 A) (ai 2 (ai 3 aq)))) aq)))
  (aN (dL 8 (λ_=>c37.nd) (eT 2 ae (v14 A) (ai 2 (au (gA ae (az 3) bv) aq))))
  (aN (bR 9 (N':=["_law_script","_law_k","_law_feed_here","_law_house_here","_law_clock_here","_law_offsets_here","_law_second","_law_others","_law_table","_law_cells","_law_one","_law_rows","_law_handed","_law_found","_law_j"]) (f:=[Uc,Uc,Ud 2,Ud 3,Uc,Uc,Uc,Uc,Uc,Uc,Uc,Uc,Uc,Uc,Uc]) ae (λ_=>c37.nd) (λ_=>Blk.of (by rfl')) (i4 ae A.T (au bv aq)) (aH 14 (λ_=>bJ (by rfl'))) bS (g9 [] (au (gA (CK.blk ae) (gA (CK.blk ae) (gA (CK.blk ae) (az 3) bv) (eT 2 (CK.blk ae) (v1 A) (ai 2 (au (fv (CK.blk ae) b_len A.T.b_len (au (gA (CK.blk ae) (az 3) bv) aq)) aq)))) bv) (au (eT 2 (CK.blk ae) (v28 A) (ai 2 (au (gA (CK.blk ae) (az 3) bv) aq))) aq))))
  (bu (kB ae (λ_=>Pp) (gf ae (g9 [] (au (g9 [4,5] (ai 4 (ai 5 aq))) (au (g9 [6,5] (ai 6 (ai 5 aq))) (au (g9 [6,7] (ai 6 (ai 7 aq))) (au (g9 [4,5] (ai 4 (ai 5 aq))) aq)))))) (cE ae (aC (aH 10 (λ_=>c37.nd)) (aC (aH 11 (λ_=>c37.nd)) bM))) (i5 [10,11,12,13] (aN (dL 12 (λ_=>c37.nd) (rm [] (au (eT 2 ae (v29 A) (ai 2 (ai 10 aq))) (au (eT 2 ae (v29 A) (ai 2 (ai 11 aq))) aq))))
  (aN (dL 13 (λ_=>c37.nd) (cO ae (v20 A) (au (gA ae (az 12) bv) (au (gA ae (az 12) bv) aq))))
  (aN (hC (ju (kD (cO ae (v33 A) (ai 10 (ai 13 (ai 9 (au (bi (N':=["_law_script","_law_k","_law_feed_here","_law_house_here","_law_clock_here","_law_offsets_here","_law_second","_law_others","_law_table","_law_cells","_law_one","_law_rows","_law_handed","_law_found","_law_cell"]) (f:=[Uc,Uc,Uc,Uc,Uc,Uc,Uc,Uc,Uc,Uc,Uc,Ud 11,Uc,Uc,Uc]) ae (λ_=>Blk.of (by rfl')) (gf ae (az 9)) (aH 14 (λ_=>bJ (by rfl'))) bS (cO (CK.blk ae) (v35 A) (ai 14 (ai 11 aq)))) (au bv aq)))))))) (bu (bQ mQ)) eC)
  (aN (lF (sU 13 ae qM (az 13)))
  (aN (dL 13 (λ_=>c37.nd) (cO ae (v27 A) (au (gA ae (az 12) bv) (ai 8 aq))))
  (aN (hC (ju (kD (cO ae (v33 A) (ai 10 (ai 13 (ai 9 (au (bi (N':=["_law_script","_law_k","_law_feed_here","_law_house_here","_law_clock_here","_law_offsets_here","_law_second","_law_others","_law_table","_law_cells","_law_one","_law_rows","_law_handed","_law_found","_law_cell"]) (f:=[Uc,Uc,Uc,Uc,Uc,Uc,Uc,Uc,Ud 8,Uc,Uc,Uc,Uc,Uc,Uc]) ae (λ_=>Blk.of (by rfl')) (gf ae (az 9)) (aH 14 (λ_=>bJ (by rfl'))) bS (cO (CK.blk ae) (v36 A) (ai 14 (ai 8 aq)))) (au bv aq)))))))) (bu (bQ mQ)) eC)
  (aN (lF (sU 13 ae qM (az 13)))
  (bu (hC (dh ae GB (az 12) (rm [10,11] (ai 10 (ai 11 aq))) (eA _)) (bu (bQ mQ)) eC))))))))))))))))))))
  (bu (bQ mQ))) (λ_=>rfl)
end
end K48
open PySem PySem.W PyProof.Rows
set_option maxRecDepth 100000 in
set_option maxHeartbeats 0 in
theorem PySem.Challenge.cw_clockhouse_k48_cells_and_clocks_carried_holds : PySem.Challenge.rw_clockhouse_k48_cells_and_clocks_carried.Holds := by
 show holds_law K48.ws λsaid=>?_;show holds_open (q:=K48.KQ) (loose:=K48.KL) (XP:=XL K48.KQ []) (YP:=K48.KH.says) K48.left K48.KH.of K48.KH.keeps (λs e=>xl_of s (MP.mp e).1) XL.keeps (by rfl) (by rfl) (by rfl) (λs e=>recFacts_of (MP.mp e).2) (by rfl) said (by rfl') {Xr,Xr,Xr,Xr,Xr,by decide +kernel} ?hw ?hc
 case hw=>w_witness2
 show L2.walkP (l:=PySem.Challenge.rw_clockhouse_k48_cells_and_clocks_carried) (k:=53) (x:="_law_script") (st:=K48.s_law) (run:=L2.r_l_law_v12) (A:=K48.Adr) (K:=K48.KF) rfl rfl {Xr,Xr,by decide,by decide} (λw h Y=>Y) K48.adr0 K48.adr_less (λmg K A=>A.d37.to) (λ_ _ _ _ _ _ s v=>.of_eq rfl) (λw mg K base A=>K48.v37 A) (λns hn=>by have(t,h1,h2):=L2.k48_law (ns:=ns) hn;rw[h1,h2])
