import PyProof.Rows.All
import KE.KPairComp
import KE.KItemsList
import KE.KEqDict
import KE.KFromBytes
import KE.KIntText
import KE.KIsAll
import KE.KRevIter
import KE.KDictOf
import KE.KSortTup
import PySem.Challenge.RW_clockhouse_k07_houses_as_texts
set_option Elab.async false
set_option linter.all false
set_option maxRecDepth 100000
set_option maxHeartbeats 4000000
set_option genSizeOf false
set_option bootstrap.genMatcherCode false
set_option compiler.extract_closed false
set_option hygiene false
open Lean in
local macro_rules|`(tactic| ext $p:rintroPat*)=>do
 let i:=p.map fun p=>(⟨p.raw[0][0]⟩:Ident)
 let h:=i[0]!
 let s<-`(tactic| (split at $h:ident<;>first|(cases $h:ident;done)|skip))
 if i.size<2 then return s
 let r:=i.extract 1 i.size
 `(tactic| ($s:tactic;rename_i $[$r:ident]*))
local macro_rules(kind:=«term{_}»)|`({$x:term,*})=>`(⟨$x,*⟩)
open Option renaming none->P8,some->P9
open Bool renaming true->Qb,false->Qa
local macro_rules|`(nofun)=>`(by ac_nf)
def X02{P Q:Prop}{G:Prop}(h:P/\Q)(k:P->Q->G):G:=by rcases h with⟨p,q⟩;exact k p q
def X03{P Q R:Prop}{G:Prop}(h:P/\Q/\R)(k:P->Q->R->G):G:=by rcases h with⟨p,q,r⟩;exact k p q r
def X04{P Q R S:Prop}{G:Prop}(h:P/\Q/\R/\S)(k:P->Q->R->S->G):G:=by rcases h with⟨p,q,r,s⟩;exact k p q r s
def X05{P Q R S T:Prop}{G:Prop}(h:P/\Q/\R/\S/\T)(k:P->Q->R->S->T->G):G:=by rcases h with⟨p,q,r,s,t⟩;exact k p q r s t
def X06{P Q R S T U:Prop}{G:Prop}(h:P/\Q/\R/\S/\T/\U)(k:P->Q->R->S->T->U->G):G:=by rcases h with⟨p,q,r,s,t,u⟩;exact k p q r s t u
def X11{P:α->Prop}{G:Prop}(h:∃a,P a)(k:∀a,P a->G):G:=by rcases h with⟨a,p⟩;exact k a p
def X12{P Q:α->Prop}{G:Prop}(h:∃a,P a/\Q a)(k:∀a,P a->Q a->G):G:=by rcases h with⟨a,p,q⟩;exact k a p q
def X13{P Q R:α->Prop}{G:Prop}(h:∃a,P a/\Q a/\R a)(k:∀a,P a->Q a->R a->G):G:=by rcases h with⟨a,p,q,r⟩;exact k a p q r
def X14{P Q R S:α->Prop}{G:Prop}(h:∃a,P a/\Q a/\R a/\S a)(k:∀a,P a->Q a->R a->S a->G):G:=by rcases h with⟨a,p,q,r,s⟩;exact k a p q r s
def X15{P Q R S T:α->Prop}{G:Prop}(h:∃a,P a/\Q a/\R a/\S a/\T a)(k:∀a,P a->Q a->R a->S a->T a->G):G:=by rcases h with⟨a,p,q,r,s,t⟩;exact k a p q r s t
def X21{P:α->β->Prop}{G:Prop}(h:∃a b,P a b)(k:∀a b,P a b->G):G:=by rcases h with⟨a,b,p⟩;exact k a b p
def X22{P Q:α->β->Prop}{G:Prop}(h:∃a b,P a b/\Q a b)(k:∀a b,P a b->Q a b->G):G:=by rcases h with⟨a,b,p,q⟩;exact k a b p q
def X23{P Q R:α->β->Prop}{G:Prop}(h:∃a b,P a b/\Q a b/\R a b)(k:∀a b,P a b->Q a b->R a b->G):G:=by rcases h with⟨a,b,p,q,r⟩;exact k a b p q r
def X24{P Q R S:α->β->Prop}{G:Prop}(h:∃a b,P a b/\Q a b/\R a b/\S a b)(k:∀a b,P a b->Q a b->R a b->S a b->G):G:=by rcases h with⟨a,b,p,q,r,s⟩;exact k a b p q r s
def X25{P Q R S T:α->β->Prop}{G:Prop}(h:∃a b,P a b/\Q a b/\R a b/\S a b/\T a b)(k:∀a b,P a b->Q a b->R a b->S a b->T a b->G):G:=by rcases h with⟨a,b,p,q,r,s,t⟩;exact k a b p q r s t
def X26{P Q R S T U:α->β->Prop}{G:Prop}(h:∃a b,P a b/\Q a b/\R a b/\S a b/\T a b/\U a b)(k:∀a b,P a b->Q a b->R a b->S a b->T a b->U a b->G):G:=by rcases h with⟨a,b,p,q,r,s,t,u⟩;exact k a b p q r s t u
def X32{P Q:α->β->γ->Prop}{G:Prop}(h:∃a b c,P a b c/\Q a b c)(k:∀a b c,P a b c->Q a b c->G):G:=by rcases h with⟨a,b,c,p,q⟩;exact k a b c p q
def X33{P Q R:α->β->γ->Prop}{G:Prop}(h:∃a b c,P a b c/\Q a b c/\R a b c)(k:∀a b c,P a b c->Q a b c->R a b c->G):G:=by rcases h with⟨a,b,c,p,q,r⟩;exact k a b c p q r
def X34{P Q R S:α->β->γ->Prop}{G:Prop}(h:∃a b c,P a b c/\Q a b c/\R a b c/\S a b c)(k:∀a b c,P a b c->Q a b c->R a b c->S a b c->G):G:=by rcases h with⟨a,b,c,p,q,r,s⟩;exact k a b c p q r s
def X35{P Q R S T:α->β->γ->Prop}{G:Prop}(h:∃a b c,P a b c/\Q a b c/\R a b c/\S a b c/\T a b c)(k:∀a b c,P a b c->Q a b c->R a b c->S a b c->T a b c->G):G:=by rcases h with⟨a,b,c,p,q,r,s,t⟩;exact k a b c p q r s t
def X43{P Q R:α->β->γ->δ->Prop}{G:Prop}(h:∃a b c d,P a b c d/\Q a b c d/\R a b c d)(k:∀a b c d,P a b c d->Q a b c d->R a b c d->G):G:=by rcases h with⟨a,b,c,d,p,q,r⟩;exact k a b c d p q r
def X44{P Q R S:α->β->γ->δ->Prop}{G:Prop}(h:∃a b c d,P a b c d/\Q a b c d/\R a b c d/\S a b c d)(k:∀a b c d,P a b c d->Q a b c d->R a b c d->S a b c d->G):G:=by rcases h with⟨a,b,c,d,p,q,r,s⟩;exact k a b c d p q r s
def X45{P Q R S T:α->β->γ->δ->Prop}{G:Prop}(h:∃a b c d,P a b c d/\Q a b c d/\R a b c d/\S a b c d/\T a b c d)(k:∀a b c d,P a b c d->Q a b c d->R a b c d->S a b c d->T a b c d->G):G:=by rcases h with⟨a,b,c,d,p,q,r,s,t⟩;exact k a b c d p q r s t
def Xr{c:Sort _}{a:c}:a=a:=rfl
def Xn{a:α}{C:Prop}(h:none=some a):C:=nomatch h
def Xb{C:Prop}(h:false=true):C:=nomatch h
def Xs{a b:α}{C:Prop}(h:some a=some b)(k:b=a->C):C:=k (Option.some.inj h).symm
def Xt{a b:α}{c d:β}{C:Prop}(h:some (a,c)=some (b,d))(k:b=a->d=c->C):C:=by cases h;exact k rfl rfl
local macro_rules|`(tactic| cases $h:ident)=>`(tactic| first|exact Xn $h|exact Xb $h|subst $h:ident|(refine Xt $h fun e_1 e_2=>?_;clear $h;subst e_1;subst e_2)|(refine Xs $h fun e_1=>?_;clear $h;subst e_1)|cases ($h))
open Lean Parser.Tactic in
local macro_rules|`(tactic| have($x,$y,*):=$t)=>do
 let e:=#[x]++y.getElems
 let mut b:=#[]
 let mut u:=#[]
 let mut p:=#[]
 for x in e do
  let i:Ident:=⟨x.raw⟩
  p:=p.push (<-if i.raw.isIdent then `(rcasesPatLo|$i:ident) else `(rcasesPatLo|_))
  if i.getId==`rfl then
   let j:=mkIdent (.mkSimple s!"e_{b.size}")
   b:=b.push j;u:=u.push (<-`(tactic| subst $j:ident))
  else b:=b.push i
 let f<-`(tactic| rcases $t:term with⟨$p,*⟩)
 if t.raw.isIdent&&e.any (·.raw.getId==t.raw.getId) then return f
 if t.raw.isIdent then u:=u.push (<-`(tactic| try clear $(⟨t.raw⟩):ident))
 let n:=e.size
 let mut c<-`(tactic| fail)
 for k in [0:n] do
  let q:=n-1-k
  c<-`(tactic| first|refine $(mkIdent (.mkSimple s!"X{q}{n-q}")) $t fun $b*=>?_|$c:tactic)
 for v in u do c<-`(tactic| ($c:tactic;$v:tactic))
 `(tactic| first|$c:tactic|$f:tactic)
open Lean Parser.Tactic in
local macro_rules|`(tactic| rcases $t:term with $p:rcasesPatLo)=>do
 let s:=p.raw[0][0].getSepArgs
 if s.size != 2 then Macro.throwUnsupported
 let g(a:Syntax):MacroM (Ident×TSyntax `tactic):=do
  if a.getKind==`Lean.Parser.Tactic.rcasesPat.one then
   let i:Ident:=⟨a[0]⟩
   if i.getId==`rfl then return (mkIdent `h_9,<-`(tactic| subst h_9))
   return (i,<-`(tactic| skip))
  if a.getKind != `Lean.Parser.Tactic.rcasesPat.tuple then Macro.throwUnsupported
  let mut r:Array Term:=#[]
  for e in a[1].getSepArgs do
   let x:=e[0][0]
   if e[1].getNumArgs==0&&x.getNumArgs==1&&x[0].getKind==`Lean.Parser.Tactic.rcasesPat.one then r:=r.push ⟨x[0][0]⟩
  if r.size==a[1].getSepArgs.size&&r.size>1 then
   let y:=r.extract 1 r.size
   return (mkIdent `h_9,<-`(tactic| have($(r[0]!),$y,*):=h_9))
  let q:TSyntax ``rcasesPatLo:=⟨mkNode ``rcasesPatLo #[mkNode ``rcasesPatMed #[mkNullNode #[a]],mkNullNode]⟩
  return (mkIdent `h_9,<-`(tactic| rcases h_9 with $q:rcasesPatLo))
 let (i,c)<-g s[0]!
 let (j,d)<-g s[1]!
 `(tactic| (refine Or.elim $t (fun $i=>?_) (fun $j=>?_);$c:tactic;rotate_left;$d:tactic;rotate_right))
local macro_rules|`(~~~$x)=>`(not $x)
local macro_rules|`(!$x)=>`(List $x)
local macro_rules|`(↑$x)=>`(Option $x)
local macro_rules|`($x*>$y)=>`($x=some $y)
local macro_rules|`(abbrev $i:declId $s:optDeclSig $v:declVal)=>`(noncomputable def $i:declId $s:optDeclSig $v:declVal)
local macro_rules|`(private def $i:declId $s:optDeclSig $v:declVal)=>`(@[irreducible] noncomputable def $i:declId $s:optDeclSig $v:declVal)
local macro_rules|`(protected def $i:declId $s:optDeclSig $v:declVal)=>`(@[reducible] def $i:declId $s:optDeclSig $v:declVal)
local macro_rules|`(def $i:declId $b:bracketedBinder* : $t $v:declVal)=>`(theorem $i:declId $b:bracketedBinder* : $t $v:declVal)
local macro_rules|`(↥$x)=>`(some ⟨.ow,.im $x⟩)
local macro_rules|`(⇑$x)=>`(some ⟨.ow,$x⟩)
local macro_rules|`(⋯)=>`(by omega)
local macro_rules|`(∅)=>`(by simp)
local macro_rules|`(tactic| dsimp[$l,*]$[at $h]?)=>`(tactic| simp only[$l,*]$[at $h]?)
local macro_rules|`(tactic| exists $e)=>`(tactic| simpa using $e)
local macro_rules|`(tactic| delta $i*)=>`(tactic| rename_i $[$i:ident]*)
local macro_rules|`(tactic| show $e)=>`(tactic| refine $e)
open PySem renaming wpAny_bind->Kz,Value->KA,Shared->KC,wpAny_pure->KD,sizeLine_eq->KG,wpAny->KI,Builtin->KJ,model->KO,Program->KP,NameKind->KR,starEach->KT,wpAny_newObj_type->KU,World->K2,mainGlobals->K4,wpAny_field->K6,compareOp->K7,foldedSetIterable->K8,wpAny_mono->Lb,cellsFrom->Ld,wpAny_callSpecial?_slot->Lh,Around->Li,wpAny_truthy_bool->Ll,wpAny_call_entry->Ln,binaryOp->Lo,bootBuiltins->Lr,call_meets->Ls,wpAny_seqItems->Lu,letOwnedTupleGo->Lw,wpAny_holding->Lz,assignEach->LC,wpAny_standAt->LD,cLine->LF,wpAny_passesOwn->LM,holding->LO,codeAny->LP,attributeBase->LR,FuncData->LS,wpAny_setField->LU,IsPair->LV,sliceBounds->LW,wpAny_pyIter_tuple->LZ,behindInMarks->L7,assign->L9,standAt->Mb,wpAny_binaryOp_repeat_ref->Me,wpAny_comprehension_free->Mf,typeIs_str->Mh,Scope->Mj,backTo->Mk,newFunctionEnv->Mm,wpAny_pyIter_enum->Mn,PassesOwn->Mo,pyNext->Mp,rawInt->Mq,typeIs_int->Ms,PlainAttrs->Mt,wpAny_updateSeq_pair->My,wpAny_execs_nil->Mz,wpAny_loadPart'->MF,sysModules->MN,wpAny_rule->MR,wpAny_Call_Name_kw->MU,wpAny_letOwnedTupleGo_enum->M1,wpAny_FormattedValue_plain->M5,wpAny_pyIter_list->M9,wpAny_sequenceKey->Na,swapsWithSole->Nf,swappedStores->Ng,IsPart->Nh,evalPart_none->Ni,wpAny_onRaise->Nk,swapsWith->Nl,noFill_tuple_add->Nm,seqItems?->Np,wpAny_pyNext_enum_itemD->Nq,setItem->Nv,codeAny_mono->Nw,wpAny_typeOf->Nx,relabel->NB,codeAny_compStart_list->NC,pushCells_keeps->NE,theTreesLotGoes->NF,Draws->NG,wpAny_isTrue_Compare1->NH,int___rmul___int_list->NI,wpAny_nextOf_list_end->NK,wpAny_formatField_int->NL,isTrue->NN,pyIter->NO,wpAny_listPart->NP,wpAny_letGo->NQ,compTurn->NR,wpAny_pyIter_revIter->NS,BindsTo->NU,getItem->NV,callerA->NW,length_partsBetween->N0,assignInOrder->N1,seq_tuple_add->N3,wpAny_attempt->N6,builtinsNs->N9,typeOf->Od,wpAny_assign_Name->Og,concat_meets->Oj,slot_list_getitem->Ol,slot_list_setitem->On,codeAny_loop->Oo,valueAt->Ot,DictEntry->Ov,wpAny_execs_cons->Ow,noteFrame->Oz,wpAny_isInstance->OA,wpAny_pyIter_zip->OC,CmpOp->OD,wpAny_Slice->OE,seqIndex_of->OG,wpAny_of_eq->OH,wpAny_noted->OI,field->OJ,noFill_list_mul->ON,wpAny_updateSeq->OP,post_val_or_str->OQ,Keyword->OS,wpAny_Name->OU,truthy->OV,bindName->OW,wpAny_bindName->OX,recursionLimit->OY,bindArgs->OZ,bindL->O6,bindC->O7,sliceRange_one->O9,fitsIndex_both->Pa,firstArgMember->Pd,isSubtype_stop->Pe,IsZip->Ph,carriedByValue->Pi,numbered_texts->Pj,strValues->Pu,release->Pv,Result->Pw,Params->Py,IsEnum->PD,pick_run->PK,compEnvC->PM,compPost->PN,Walks->PY,Meets->P3
open PySem.Heap renaming get?_push_of_some->KB,lt_size->KM,get?_push_size->KN,SameBut->KZ,size_push->Lq,get?_update_self->Ly,get?_update_other->Nz,ExtBut->NT,push->P7
open PySem.Builtin.SmallTypes renaming nextOf->KS,ownedTupleIsFree->Mg,ownedTupleHandOut->NZ
open PySem.Builtin.Tuple renaming tupleExact->KW,tupleItemsOf->MW,tupleTooMany->MZ,tupleHashOf->Pk
open PySem.NameKind renaming cell->KY,free->LG
open PySem.Builtin.Str renaming occurrences->K0,strSliceIndices->Lf,tooLong->PQ,subAt->P4
open Ne renaming symm->K3
open PySem.Str renaming ofString->K9,empty->Mc,length->PR
open PySem.Txt renaming partition->La,join->Lj,startswith->LB,split->LH,slice->Pp
open PySem.Builtin.Slice renaming slicePlaces->Lc,sliceAdjust->Lp,sliceApplied->LJ,sliceFields->M6,slicePartIndex->OL
open PySem.Builtin.List renaming listTooLong->Le,listSubscript?->ML,listAllItems->M7,listSameRef->Nj,listItems->Px
open PySem.SeqAt renaming EqAt->Lg,notIn_tupleAt->NY,notIn_listAt->Oc,RcNeAt->Op,in_tupleAt->Ox,in_listAt->OM,RcAt->Pb
open PySem.Value renaming int->Lk,type->LI,ref->LL,none->LQ,bool->LX,ellipsis->Ma,str->Ou,isStrOf->Pl,builtin->Pm,isInt->PH
open PySem.Obj renaming mapFields->Lm,mapSeq->Mr,data_mapFields->Oe
open PySem.Heap.SameBut renaming update->Lv
open PySem.AutoSeq1 renaming wpAny_loadPart'->LA,list_extend_list_list_0->Ml,idx_int->Mv
open PySem.F renaming slot_tuple_iterator_next->LK,slot_int_rmul->L5,slot_tuple_mul->Md,args_list_extend_2->Mx,args_tuple_iterator_next_1->MD,slot_zip_next->MH,entry_list_extend->MK,entry_tuple_iterator_next->MM,slot_list_extend->MY,args_tuple_mul_2->M0,args_str_split_2->M4,args_int_rmul_2->Nb,entry_tuple_mul->Nc,entry_str_split->Nd,slot_int_index->Nn,entry_int_rmul->No,slot_str_split->Nr,fills_int_mul->ND,slot_enumerate_next->NJ,args_list_mul_2->Om,slot_tuple_rmul->Oq,args_zip_next_1->Os,entry_list_mul->Oy,entry_zip_next->OB,slot_list_mul->OO
open False renaming elim->LY
open PySem.AutoListH renaming list___mul___list_int_3->Mi
open Classical renaming choose->Mw
open PyProof.Rows renaming envOfC->MB,assignInOrder_cons->MQ,slicePart_none->MV,AllBare->M8,subscriptTail_builtinR->Ny,entry_tuple_getitem->NX,tupleItemsOf_->N4,subscriptTail->N5,args_tuple_getitem->Oa,assignInOrder_nil->Oh,boot_isinstance->OR,IntsAre->OT,Subscript_->O8,boot_enumerate->Pf,IsTup->Pn,range_getD->Pq,tail_any->PL,Call_->PZ
open ForInStep renaming yield->MC
open PySem.PassesOwn renaming never->MJ
open PySem.Calls renaming Name_function_global->MP,callWith_builtin->NA
open PySem.Heap.IsSliceOf renaming new->MX
open True renaming intro->M3
open Sum renaming inl->Nt,inr->Nu
open PySem.StrLaws renaming strSub_toList->NM
open PySem.SeqAt.EqAt renaming int_str->N7,str_int->N8
open Or renaming inr->Of,inl->Pg
open PySem.SeqAt.RcNeAt renaming lists_lengths->Pc,tuples->PP,lists->PV
open PySem.Builtin.Range renaming rangeSize->Po
open And renaming intro->Ps
open PySem.W renaming specialIn->Pt,OpenLaw->Pz,WShape->PB,findIn->PF,WData->P0
open PySem.Data renaming fields->PJ
open PySem.W.WShape renaming has->PU
open PySem.Draws renaming list->PX
open PySem.Flow renaming next->P5
open PySem.W.WData renaming int->P6
open List renaming getElem?_eq_some_iff->FL,length_map->FM,size_toArray->FN,nodup_append->FP,length_append->FQ,length_cons->FR,map_cons->FS,mem_map->FT,replicate->FU,flatMap_cons->FW,mem_filter->FX,map_append->FY,flatMap_append->F3,getElem?_map->F4,append_assoc->F5,getElem?_set_ne->F6,cons_append->F8,getD_eq_getElem?_getD->Gb,filterMap_cons->Gc,mem_map_of_mem->Gd,append_nil->Ge,not_mem_nil->Gf,mem_cons->Gg,perm_middle->Gh,nodup_cons->Gi,range->Gn,all_eq_true->Go,mem_filterMap->Gp,replicate_succ->Gr,lookup_cons->Gs,exists_cons_of_length_eq_add_one->Gv,filter_sublist->Gx,getElem?_cons_succ->Gy,take_add_one->Gz,getElem?_set_self->GC,take_of_length_le->GD,flatten_cons->GG,nodup_nil->GH,map_map->GJ,mem_flatMap->GL,contains_eq_mem->GM,take_length->GN,all_cons->GO,mem_range->GP,getElem?_append_left->GQ,drop_eq_getElem_cons->GR,length_take->GS,getElem?_eq_getElem->GX,length_eq_zero_iff->G3,getElem?_cons_zero->G4,nil_append->G5,filter_eq_self->G8,length_eq_one_iff->G9,getElem_cons_drop->Ha,filter_cons->Hb,take_append_drop->Hf,filterMap_append->Hg,ext_getElem?->Hh,length_reverse->Hi,cons->Hj,flatMap_nil->Hk,filter_map->Hs,reverse_cons->Hu,getElem?_append_right->Hv,length_drop->Hz,map_nil->HA,map_reverse->HB,getElem?_zip_eq_some->HC,length_pos_iff->HD,length_set->HG,forIn_cons->HH,filterMap_map->HJ,append_of_mem->HK,all_nil->HN,mem_iff_getElem?->HQ,getElem?_reverse->HR,drop_length->HS,length->HV,lookup->HW,eq_nil_of_length_eq_zero->HX,mem_of_mem_take->HY,foldl_cons->HZ,find?_cons->Ib,filter_filter->Ii,perm_ext_iff_of_nodup->Ij,getElem?_take_of_lt->Io,any_cons->Ip,map_take->Iu,getElem?_replicate->Iv,flatMap_eq_nil_iff->IA,foldl->IC,sublist_cons_self->ID,mem_append->IG,of_mem_zip->IH,head?_drop->IJ,length_zip->IK,getElem?_eq_none->IL,dropLast_eq_take->IM,eq_nil_or_concat->IQ,drop_zero->IS,set_append_left->IU,drop_drop->IV,mem_of_mem_drop->IY,reverse_append->I0,length_flatMap->I8,filter_append->Jb,set_cons_succ->Jc,all_map->Ji,length_range->Jj,mem_flatten->Jn,sum_reverse->Jq,length_nil->Jt,forIn_nil->JA,take_zero->JB,take_succ->JD,map_drop->JF,sum_cons->JG,map_set->JN
open Bool renaming and_eq_true->FO,false_ne_true->FZ,not_eq_true'->Gk,eq_iff_iff->GI,and_self->HU,or_eq_true->Ia,false_eq_true->Ih,true_and->Iq,and_true->Ir,and_false->IR,and_eq_true_iff->IZ,not_eq_true->Jm,false_and->Jz,not_false->JC,false_or->JE,true_or->JK
open Nat renaming le_refl->FV,lt_of_lt_of_le->F7,ne_of_lt->Ga,le_trans->Gj,zero_add->Gq,zero_le->GA,le_add_right->GK,lt_irrefl->GU,lt_of_le_of_lt->Hc,succ->He,zero_lt_succ->Hm,ne_of_gt->Hy,add_sub_cancel->HL,le_of_lt->Ic,mod_lt->Ik,le_succ->Im,le_max_right->Iy,succ_le_succ->IB,toDigits->IF,le_max_left->II,le_of_ble_eq_true->IP,mul_le_mul->IT,succ_mul->Je,mul_comm->Jf,lt_succ_of_lt->Jh,lt_succ_self->Jl,succ_ne_self->Jp,le_antisymm->Js,zero_lt_one->Ju,min_eq_left->Jv,not_lt_zero->Jw,min_self->JL,add_zero->JM,sub_self->JP,sub_zero->JQ,mul_succ->JR,log2_lt->JW
open Option renaming some->F9,map_some->G6,isSome_iff_exists->HF,getD_none->Iw,bind_eq_some_iff->Iz,map_eq_some_iff->IE,none->JV
open PyProof.Rows renaming slot_tuple_getitem->Gw,callWith_type1->GB,boot_tuple->Hl,boot_list->Ho,boot_str->Ht,boot_bool->HP,boot_int->IN,callWith_builtin1->Jk,signs_ofString->Jy,boot_min->JS,boot_max->JT,boot_all->JU
open Array renaming length_toList->GE,append_assoc->Ja,size_append->Jg,toList->JH
open Int renaming toNat_natCast->GF,emod_lt_of_pos->Hr,emod_nonneg->HI,fdiv_eq_ediv_of_nonneg->Ie,eq_ofNat_of_zero_le->Ix,ediv_one->JJ,zero_add->JO
open PySem.W renaming fnOf->GV,keepIn->GY,nsIn->Hn,codeIn->Hw,cellsFrom_some->HM,findIn->Ig,methodObj->Il,kitOne->IW,kitAny->IX,mg_of->I9,specialIn->Jd,instObj->Jr,isFn->JI
open PySem renaming intText?->GZ,mem_of_lookup->G7,seqSlot_of->Jo
local macro_rules|`(tactic| unhygienic $t)=>`(tactic| with_unfolding_all $t)
local macro_rules|`(tactic| rfl')=>`(tactic| kernel_rfl)
def K07.ws:PySem.Challenge.rw_clockhouse_k07_houses_as_texts.wellSaid=Qb:=by rfl'
def yaR{a:Type}{b : a}(x:!a){y:!a}(h:b∈y):b∈x++y:=List.mem_append_right x h
def yaL{a:Type}{b : a}{x:!a}(y:!a)(h:b∈x):b∈x++y:=List.mem_append_left y h
def ymS{a:Type}{b : a}{x:!a}:b∈b::x:=List.mem_cons_self
def ymC{a:Type}{b : a}(y : a){x:!a}(h:b∈x):b∈y::x:=List.mem_cons_of_mem y h
def yaM{a:Type}{b : a}{x y:!a}(h:b∈x++y):b∈x\/b∈y:=IG.mp h
def ycM{c:Type}{b a : c}{x:!c}(h:b∈a::x):b=a\/b∈x:=Gg.mp h
def ysM{c:Type}{b a : c}(h:b∈[a]):b=a:=List.mem_singleton.mp h
def ymG{c:Type}{x:!c}{i:Nat}{a : c}(h:x[i]?*>a):a∈x:=List.mem_of_getElem? h
protected def yF:=PySem.W.Frag
namespace L2
open PySem PySem.Spec PyProof.Rows
protected def Key:=Sum Int Str
abbrev mF:Key->KA->Bool
 | .inl k,v=>PH k v
 | .inr x,v=>Pl x v
abbrev Fx(w:K2):Key->Int
 | .inl k=>hashInt k
 | .inr x=>hashStr w x
def bq:∀{k:Key} {v:KA},mF k v=Qb->(∃i t,k=Nt i/\v=Lk i t)\/(∃x t,k=Nu x/\v=Ou x t)
 | .inl i,v,h=>by
  have(t,e):=KA.isInt_shape (k:=i) (v:=v) h;show .inl ⟨i,t,Xr,e⟩
 | .inr x,v,h=>by
  have(t,e):=KA.isStrOf_shape (x:=x) (v:=v) h;show .inr ⟨x,t,Xr,e⟩
def sO(i:Int)(t:Tok):mF (.inl i) (.int i t)=Qb:=by simp[mF,PH]
def sP(x:Str)(t:Tok):mF (.inr x) (.str x t)=Qb:=by simp[mF,Pl]
def A1(a b:Int):decide ((Nt a:Key)=Nt b)=(a==b):=by
 by_cases e:a=b;subst e;simp
 .have h:¬ (Nt a:Key)=Nt b:=λq=>e (Nt.inj q);rw[decide_eq_false h];show(beq_eq_false_iff_ne.mpr e).symm
def A5(a b:Str):decide ((Nu a:Key)=Nu b)=decide (a=b):=by
 by_cases e:a=b;subst e;simp
 .have h:¬ (Nu a:Key)=Nu b:=λq=>e (Nu.inj q);rw[decide_eq_false h,decide_eq_false e]
def A3(a:Int)(b:Str):decide ((Nt a:Key)=Nu b)=Qa:=decide_eq_false (λq=>nomatch q)
def A4(a:Str)(b:Int):decide ((Nu a:Key)=Nt b)=Qa:=decide_eq_false (λq=>nomatch q)
abbrev bX(prog:KP) (w:K2):PySem.KeyKind prog w Key where
 is:=mF
 hash:=Fx w
 inj:=λv a b ha hb=>by
  rcases bq ha with⟨i,t,rfl,rfl⟩|⟨x,t,rfl,rfl⟩
  .rcases bq hb with⟨j,u,rfl,e⟩|⟨y,u,rfl,e⟩;injection e with e1 _;rw[e1];show nomatch e
  .rcases bq hb with⟨j,u,rfl,e⟩|⟨y,u,rfl,e⟩;show nomatch e;injection e with e1 _;rw[e1]
 byValue:=λk v h=>by
  rcases bq h with⟨i,t,rfl,rfl⟩|⟨x,t,rfl,rfl⟩<;>rfl
 pyHash:=λhv h=>by
  rcases bq hv with⟨i,t,rfl,rfl⟩|⟨x,t,rfl,rfl⟩;show wpAny_pyHash_int h;show wpAny_pyHash_str h
 eqBool:=λhu hv h=>by
  rcases bq hu with⟨i,t,rfl,rfl⟩|⟨x,t,rfl,rfl⟩
  .rcases bq hv with⟨j,u,rfl,rfl⟩|⟨y,u,rfl,rfl⟩;rw[A1]at h;show wpAny_eqBool_int h;rw[A3]at h;show N7 i t y u _ _ _ _ h
  .rcases bq hv with⟨j,u,rfl,rfl⟩|⟨y,u,rfl,rfl⟩;rw[A4]at h;show N8 x t j u _ _ _ _ h;rw[A5]at h;show wpAny_eqBool_str h
 «strs»:=λk x t v h=>by
  rcases bq h with⟨i,u,rfl,e⟩|⟨y,u,rfl,e⟩;show nomatch e
  .injection e with e1 _;subst e1;cases v<;>rfl
def oZ(prog:KP)(w:K2)(i:Int)(t:Tok):(bX prog w).is (.inl i) (.int i t)=Qb:=sO i t
def o5(prog:KP)(w:K2)(x:Str)(t:Tok):(bX prog w).is (.inr x) (.str x t)=Qb:=sP x t
inductive V where
 | non|bl (b:Bool)|int (i:Int)|str (x:Str)|byt (b:Array UInt8)|flt (b:UInt64)|ref (a:Addr)|ty (n:String)
 deriving DecidableEq
abbrev RelV:V->KA->Prop
 | .non,u=>u=LQ
 | .bl b,u=>u=LX b
 | .int i,u=>∃t,u=Lk i t
 | .str x,u=>∃t,u=Ou x t
 | .byt b,u=>∃t,u=KA.bytes b t
 | .flt b,u=>∃t,u=KA.float b t
 | .ref a,u=>u=LL a
 | .ty n,u=>u=LI n
protected def Vals:!V->!KA->Prop:=Paired RelV
def Vals.length{xs:!V}{a:!KA}(r:Vals xs a):xs.length=a.length:=Paired.length r
def Vals.get:∀{xs:!V} {a:!KA} {i:Nat} {x:V},Vals xs a->xs[i]?*>x->∃u,a[i]?*>u/\RelV x u
 | _,_,_,_,.nil,e=>by simp at e
 | _,_,0,_,.cons r _,e=>by simp at e;subst e;show{_,Xr,r}
 | _,_,i+1,x,.cons _ t,e=>by
  have(u,c,d):=Vals.get (i:=i) (x:=x) t (by exists e);show{u,by simpa using c,d}
def Vals.set{x:V}{u:KA}(r:RelV x u):∀{xs:!V} {a:!KA} (i:Nat),Vals xs a->Vals (xs.set i x) (a.set i u)
 | _,_,_,.nil=>.nil
 | _,_,0,.cons _ t=>.cons r t
 | _,_,i+1,.cons q t=>.cons q (Vals.set r i t)
def Vals.append:∀{xs c:!V} {a ws:!KA},Vals xs a->Vals c ws->Vals (xs++c) (a++ws):=by
 intro xs c a ws h k
 induction h with
 | nil=>show k
 | cons r t d=>show .cons r d
def Vals.take:∀{xs:!V} {a:!KA} (n:Nat),Vals xs a->Vals (xs.take n) (a.take n)
 | _,_,0,_=>.nil
 | _,_,_+1,.nil=>.nil
 | _,_,n+1,.cons r t=>.cons r (Vals.take n t)
def Vals.drop:∀{xs:!V} {a:!KA} (n:Nat),Vals xs a->Vals (xs.drop n) (a.drop n)
 | _,_,0,r=>r
 | _,_,_+1,.nil=>.nil
 | _,_,n+1,.cons _ t=>Vals.drop n t
abbrev RelO:↑V->↑KA->Prop
 | some v,P9 u=>RelV v u
 | none,P8=>True
 | _,_=>False
abbrev KV{a : Type}:!(a×V)->!(a×KA)->Prop:=Paired λ(p : a×V) (q : a×KA)=>p.1=q.1/\RelV p.2 q.2
abbrev kV:Key->V
 | .inl i=>.int i
 | .inr x=>.str x
protected def K1:=Sum Key !Key
section
variable (P:KP)(w:K2)
abbrev hk1:K1->Int
 | .inl k=>(bX P w).hash k
 | .inr a=>tupleKeyHash (bX P w) a
abbrev hk2(ks:!K1):Int:=reduceHash (Pk (ks.map (hk1 P w)))
abbrev enK(x:!K1×Addr×KA):Ov:={hk2 P w x.1,.ref x.2.1,x.2.2}
end
inductive HO where
 | lst (xs:!V)
 | tup (xs:!V)
 | dK (kvs:!(Key×V))|dT (kvs:!(!K1×Addr×V))
 | set (S:Int->Bool) (n:Nat)
 | ins (C dx:Addr) (fs:!(Str×V))
 | own (x:Addr)
 | xd (fs:!(Str×V))
 | met (f x:Addr)
 | rng (lo hi:Int)
 | frz (o:Obj) (u:HO)
 | tbl (ps:Array KA)
 | ext (φ : Heap->Prop)
protected def Hp:=Addr->↑HO
abbrev upd(H:Hp) (a:Addr) (o:HO):Hp:=λb=>if b=a then P9 o else H b
def aN{H:Hp}{a:Addr}{o:HO}:upd H a o a*>o:=by unfold upd;rw[if_pos rfl]
def upd_ne{H:Hp}{a b:Addr}{o:HO}(h:b≠a):upd H a o b=H b:=by unfold upd;rw[if_neg h]
def ba{H:Hp}{a b:Addr}{o:HO}(h:H a*>o)(h':H b=P8):a≠b:=by
 intro e;subst e;rw[h]at h';cases h'
abbrev J1(h:Heap)(a:Addr)(items:Array KA):Prop:=∃o,h.get? a*>o/\(o.cls=.type "tuple" /\ o.dict=P8)/\∃n,o.data=.seq items n
def J1.to{h:Heap}{a:Addr}{items:Array KA}(x:J1 h a items):Pn h a items:=let ⟨o,e,c,d⟩:=x;⟨o,e,c.1,d⟩
def J1.new(h:Heap)(items:Array KA):J1 (h.push {cls:=.type "tuple",data:=.seq items}) h.objs.size items:={_,KN _ rfl,⟨Xr,Xr⟩,_,Xr}
section
variable (P:KP)(w:K2)
abbrev JZ(H:Hp)(h:Heap)(a:Addr):HO->Prop
 | .lst e=>e.length<=sizeLine/\∃(d:!KA) (n:Nat),Vals e d/\h.get? a=P9 {cls:=.type "list",data:=.seq d.toArray n}
 | .tup e=>e.length<=sizeLine/\∃d:!KA,Vals e d/\J1 h a d.toArray
 | .dK c=>c.length<=sizeLine/\(a==MN)=Qa/\∃vs,KV c vs/\h.DictOf (bX P w) a vs
 | .dT c=>c.length<=sizeLine/\(a==MN)=Qa/\∃e:!(!K1×Addr×KA),
   Paired (λ(p:!K1×Addr×V) (q:!K1×Addr×KA)=>p.1=q.1/\p.2.1=q.2.1/\RelV p.2.2 q.2.2) c e /\
   ∃o m y,h.get? a*>o/\o.ExactDict/\o.data=.dict m y/\m.toList=e.map (enK P w)/\(e.map (·.1)).Nodup
 | .set S n=>h.SetOf (intKind P w) a S n
 | .ins C j i=>H j*>(.own a)/\i.length<=1000/\j≠a/\h.get? a*>(Jr C j) /\
   ∃g,h.Ns1 j g/\(∀f,RelO (i.lookup f) (g f))/\PySem.Within g (i.map (·.1))
 | .own _=>∃o,h.get? a*>o
 | .xd i=>∃g,h.Ns1 a g/\∀f,RelO (i.lookup f) (g f)
 | .rng lo s=>∃t u v,h.get? a=P9 {cls:=.type "range",data:=.fields #[.int lo t,.int s u,.int 1 v]}
 | .frz o u=>h.get? a*>o/\JZ H h a u
 | .tbl z=>h.get? a=P9 {cls:=.none,data:=.fields z}
 | .met f x=>h.get? a*>(Il (.ref f) (.ref x))
 | .ext k=>k h/\(∃o,h.get? a*>o)/\∀l r:Heap,k l->(∀o,l.get? a*>o->r.get? a*>o)->k r
abbrev HOk(H:Hp)(h:Heap):Prop:=∀a o,H a*>o->JZ P w H h a o
end
section
variable {P:KP}{w:K2}{H H':Hp}{h h':Heap}{a:Addr}{o:HO}
def JZ.lt(x:JZ P w H h a o):a<h.objs.size:=by
 cases o with
 | lst d=>have(_,_,_,_,e):=x;show KM e
 | tup d=>have(_,_,_,p):=x;show p.to.lt
 | dK c=>have(_,_,_,_,o,_,_,e,_):=x;show KM e
 | dT c=>have(_,_,_,_,o,_,_,e,_):=x;show KM e
 | set S n=>have(o,_,_,_,e,_):=x;show KM e
 | ins C l g=>have(_,_,_,e,_):=x;show KM e
 | own y=>have(_,e):=x;show KM e
 | xd g=>obtain⟨_,⟨_,_,_,e,_⟩,_⟩:=x;show KM e
 | rng lo i=>have(_,_,_,e):=x;show KM e
 | frz j u=>have(e,_):=x;show KM e
 | tbl m=>show KM (show h.get? a*>_ from x)
 | met f y=>show KM (show h.get? a*>_ from x)
 | ext k=>obtain⟨_,⟨_,e⟩,_⟩:=x;show KM e
def Paired.mapP{e g:Type}{F G : e->g->Prop}:∀{c : !e} {d : !g},Paired F c d->(∀a b,F a b->G a b)->Paired G c d:=by
 intro c d h f
 induction h with
 | nil=>show .nil
 | cons r t i=>show .cons (f _ _ r) i
def JZ.stay(x:JZ P w H h a o)(k:∀b u,(b=a\/H b*>(.own a))->h.get? b*>u->h'.get? b*>u)
  (ho:∀b,H b*>(.own a)->H' b*>(.own a)) (N:∀b xs,H b*>(.tup xs)->H' b*>(.tup xs)):JZ P w H' h' a o:=by
 induction o with
 | lst xs=>have(z,l,n,r,e):=x;show{z,l,n,r,k _ _ (.inl rfl) e}
 | tup xs=>have(z,l,r,g,e,c):=x;show{z,l,r,g,k _ _ (.inl rfl) e,c}
 | dK m=>have(z,y,vs,r,g,j,i,e,c):=x;show{z,y,vs,r,g,j,i,k _ _ (.inl rfl) e,c}
 | dT m=>
  have(z,y,xs,r,g,j,i,e,c):=x;show{z,y,xs,r,g,j,i,k _ _ (.inl rfl) e,c}
 | set S n=>have(g,j,i,t,e,c):=x;show{g,j,i,t,k _ _ (.inl rfl) e,c}
 | ins C O K=>
  obtain⟨d,z,G,e,A,⟨s,j,i,E,c⟩,r⟩:=x;show{ho _ d,z,G,k _ _ (.inl rfl) e,A,{s,j,i,k _ _ (.inr d) E,c},r}
 | own y=>have(g,e):=x;show{g,k _ _ (.inl rfl) e}
 | xd K=>obtain⟨A,⟨s,j,i,e,c⟩,r⟩:=x;show{A,{s,j,i,k _ _ (.inl rfl) e,c},r}
 | rng lo L=>have(t,u,v,e):=x;show{t,u,v,k _ _ (.inl rfl) e}
 | frz g u J=>have(e,q):=x;show{k _ _ (.inl rfl) e,J q}
 | tbl B=>
  have e:h.get? a=P9 {cls:=.none,data:=.fields B}:=x;change h'.get? a=P9 {cls:=.none,data:=.fields B};show k a _ (.inl rfl) e
 | met f y=>
  have e:h.get? a*>(Il (.ref f) (.ref y)):=x;change h'.get? a*>(Il (.ref f) (.ref y));show k a _ (.inl rfl) e
 | ext M=>obtain⟨p,⟨o,e⟩,st⟩:=x;show{st _ _ p λo q=>k _ _ (.inl rfl) q,{o,k _ _ (.inl rfl) e},st}
def HOk.lt(x:HOk P w H h)(e:H a*>o):a<h.objs.size:=(x a o e).lt
def HOk.fresh(x:HOk P w H h)(e:h.objs.size<=a):H a=P8:=by
 cases q:H a with
 | none=>rfl
 | some u=>show absurd (F7 (x.lt q) e) (GU _)
def HOk.kept(x:HOk P w H h)(k:∀b u,h.get? b*>u->h'.get? b*>u):HOk P w H h':=λa o e=>
 (x a o e).stay (λb u _ q=>k b u q) (λ_ q=>q) λ_ _ q=>q
def HOk.laid(x:HOk P w H h)(k:∀b u,h.get? b*>u->h'.get? b*>u)(g:h.objs.size<=a)(new:JZ P w (upd H a o) h' a o):HOk P w (upd H a o) h':=λb u e=>by
 have d:=x.fresh g;by_cases f:b=a;subst f;rw[aN]at e;cases e;show new
 .rw[upd_ne f]at e;show(x b u e).stay (λc v _ q=>k c v q) (λc q=>by rw[upd_ne (ba q d)];show q) λc i q=>by rw[upd_ne (ba q d)];show q
end
abbrev Rd(H:Hp)(a:Addr)(u:HO):Prop:=H a*>u \/ ∃o,H a*>(.frz o u)
def Rd.ok{P:KP}{w:K2}{H:Hp}{h:Heap}{a:Addr}{u:HO}(r:Rd H a u)(x:HOk P w H h):JZ P w H h a u:=by
 rcases r with r|⟨o,r⟩;show x a u r
 .have(_,q):=x a _ r;show q
abbrev Mut:↑HO->Prop
 | some (.lst _)=>True
 | some (.dK _)=>True
 | some (.dT _)=>True
 | some (.set _ _)=>True
 | some (.ins _ _ _)=>True
 | some (.ext _)=>True
 | _=>False
section
variable {P:KP}{w:K2}{H:Hp}{h h':Heap}{x e:Addr}{o':HO}
def HOk.write(s:HOk P w H h)(i:Mut (H x))(p:e=x\/H e*>(.own x))(k:∀b u,b≠e->h.get? b*>u->h'.get? b*>u)(m:∃u,h'.get? e*>u)
  (new:JZ P w (upd H x o') h' x o'):HOk P w (upd H x o') h':=λb u q=>by
 have d:∀c y,H c*>(.own y)->c≠x:=λc y r z=>by subst z;rw[r]at i;show i
 have f:∀c j,H c*>(.tup j)->c≠x:=λc j r z=>by subst z;rw[r]at i;show i
 by_cases l:b=x;subst l;rw[aN]at q;cases q;show new
 .rw[upd_ne l]at q;by_cases a:b=e
  .have o:H b*>(.own x):=by
    rcases p with z|z;show absurd (a.trans z) l;rw[a];show z
   rw[q]at o;cases o;have(v,t):=m;show{v,by rw[a];show t}
  .show(s b u q).stay (λc v g r=>k c v ?_ r) (λc r=>by rw[upd_ne (d c b r)];show r) λc j r=>by rw[upd_ne (f c j r)];show r
   rcases g with rfl|g;show a
   .rintro rfl;rcases p with z|z;show d c b g z;rw[g]at z;cases z;show l rfl
end
structure Un(fs ex:!Addr)(H H':Hp)(h h':Heap):Prop where
 keep:∀b o,h.get? b*>o->H b=P8->b∉fs->b∉ex->h'.get? b*>o
 slot:∀b o,h.get? b*>o->H b=P8->b∈fs->b∉ex->∃sl,h'.get? b=P9 {o with slots:=sl}
 free:∀b o,h.get? b*>o->H b=P8->b∉ex->H' b=P8
 there:∀b o,h.get? b*>o->b∉ex->∃o',h'.get? b*>o'
 tups:∀b xs,H b*>(.tup xs)->H' b*>(.tup xs)
 frzs:∀b o u,H b*>(.frz o u)->H' b*>(.frz o u)
 tbls:∀b ps,H b*>(.tbl ps)->∃more,H' b*>(.tbl (ps++more))
section
variable {fs fs' ex ex':!Addr}{H H1 H2:Hp}{h h1 h2 h':Heap}{a x e:Addr}{o:HO}
def Un.any(u:Un fs ex H H1 h h1){b:Addr}{c:Obj}(q:h.get? b*>c)(n:H b=P8)(f:b∉ex):∃sl,h1.get? b=P9 {c with slots:=sl}:=by
 by_cases g:b∈fs;show u.slot b c q n g f;show{c.slots,u.keep b c q n g f}
def Un.trans(a:Un fs ex H H1 h h1)(b:Un fs ex H1 H2 h1 h2):Un fs ex H H2 h h2 where
 keep:=λc ob q n hc hx=>b.keep c ob (a.keep c ob q n hc hx) (a.free c ob q n hx) hc hx
 slot:=λc ob q n hc hx=>by
  have(sl,e1):=a.slot c ob q n hc hx;have(sl',e2):=b.slot c _ e1 (a.free c ob q n hx) hc hx;show⟨sl',e2⟩
 free:=λc ob q n hx=>by
  have(o',e1):=a.there c ob q hx;show b.free c o' e1 (a.free c ob q n hx) hx
 there:=λc ob q hx=>by
  have(o',e1):=a.there c ob q hx;show b.there c o' e1 hx
 tups:=λc xs q=>b.tups c xs (a.tups c xs q)
 frzs:=λc ob xs q=>b.frzs c ob xs (a.frzs c ob xs q)
 tbls:=λc ps q=>by
  have(m1,e1):=a.tbls c ps q;have(m2,e2):=b.tbls c _ e1;show{m1++m2,by rw[e2,Ja]}
def Un.kept(k:∀b u,h.get? b*>u->h'.get? b*>u):Un fs ex H H h h':=
 {λb c q _ _ _=>k b c q,λb c q _ _ _=>{c.slots,k b c q},λ_ _ _ n _=>n,λb c q _=>{c,k b c q},λ_ _ q=>q,λ_ _ _ q=>q,λ_ d q=>{#[],by rw[q];simp}}
def Un.refl:Un fs ex H H h h:=Un.kept λ_ _ q=>q
def Un.laid(k:∀b u,h.get? b*>u->h'.get? b*>u)(hp:h.objs.size<=a)(hn:H a=P8):Un fs ex H (upd H a o) h h' where
 keep:=λb u q _ _ _=>k b u q
 slot:=λb u q _ _ _=>{u.slots,k b u q}
 free:=λb u q n _=>by rw[upd_ne (Ga (F7 (KM q) hp))];show n
 there:=λb u q _=>{u,k b u q}
 tups:=λb xs q=>by rw[upd_ne (ba q hn)];show q
 frzs:=λb u xs q=>by rw[upd_ne (ba q hn)];show q
 tbls:=λb ps q=>{#[],by rw[upd_ne (ba q hn),q];simp}
def Un.write(d:Mut (H x))(m:e=x\/H e*>(.own x))(k:∀b u,b≠e->h.get? b*>u->h'.get? b*>u)(g:∃u,h'.get? e*>u):Un fs ex H (upd H x o) h h':=by
 have i:∀b,H b=P8->b≠x:=λb n z=>by subst z;rw[n]at d;show d
 have j:∀b,H b=P8->b≠e:=λb n z=>by
  subst z;rcases m with r|r;show i b n r;rw[n]at r;cases r
 have f:∀b u,H b*>u->¬ Mut (P9 u)->b≠x:=λb u q l z=>by subst z;rw[q]at d;show l d
 show{λb u q n _ _=>k b u (j b n) q,λb u q n _ _=>{u.slots,k b u (j b n) q},λb u q n _=>by rw[upd_ne (i b n)];show n,λb u q _=>?_,
  λb p q=>by rw[upd_ne (f b _ q λz=>z)];show q,λb u p q=>by rw[upd_ne (f b _ q λz=>z)];show q,λb s q=>{#[],by rw[upd_ne (f b _ q λz=>z),q];simp}}
 by_cases c:b=e;subst c;show g;show{u,k b u c q}
end
abbrev trk(h:Heap) (H:Hp):!Addr:=(Gn h.objs.size).filter λa=>(H a).isSome
abbrev nK(h:Heap) (H:Hp):Heap:=PySem.W.hideAll h (trk h H)
def sJ(h:Heap)(H:Hp):(nK h H).objs.size=h.objs.size:=PySem.W.hideAll_size _ _
def uK{h:Heap}{H:Hp}{b:Addr}{o:Obj}(e:h.get? b*>o)(n:H b=P8):(nK h H).get? b*>o:=
 PySem.W.hideAll_get _ e λa=>by
  have q:(H b).isSome=Qb:=(FX.mp a).2;rw[n]at q;simp at q
def yi{h:Heap}{H:Hp}{b:Addr}{o:Obj}(e:(nK h H).get? b*>o):h.get? b*>o/\H b=P8:=by
 have a:h.get? b*>o:=PySem.W.of_hideAll (trk h H) e;show{a,?_};cases q:H b with
 | none=>rfl
 | some x=>
  have c:b∈trk h H:=FX.mpr {GP.mpr (KM a),by simp[q]};have z:(nK h H).get? b=P8:=PySem.W.hideAll_none (trk h H) c;rw[z]at e;cases e
abbrev xI(g h:Heap) (L:Addr):!(Addr×Obj):=(Gn h.objs.size).filterMap λa=>if a=L\/(g.get? a).isSome=Qb then P8 else(h.get? a).map λo=>(a,o)
abbrev rest(g h:Heap) (L d:Addr):!(Addr×Obj):=(xI g h L).filter λp=>decide (p.1≠d)
structure Mod(K:yF)(mg:Str->↑KA)(base:Heap):Prop where
 kin:K.In base
 glob:base.Ns K4 mg
 blt:∃mb,base.Ns N9 mb/\∀x:Str,x ≠ "__name__" -> mb x=Lr x
 nolimit:base.NoLimit
structure Cx where
 prog:KP
 w:K2
 K:yF
 mg:Str->↑KA
 base:Heap
 A:Li
 N:!Str
 s₀ : KC
 H₀ : Hp
 env:Env
 outer:!Env
 stack:!Env
 ex:!Addr
 fn:Str->Bool
 calm:Bool
 pn:!(Addr×Obj)
 xe:KA->KC->Prop
abbrev frs(l:!Env):!Addr:=l.filterMap (·.frame)
noncomputable abbrev Cx.fs(X:Cx):!Addr:=frs X.outer
abbrev Vis(a:Mj)(x:Str):Prop:=a.names.lookup x*>.local\/a.names.lookup x*>.cell\/a.names.lookup x*>.free
abbrev Loc(a:Mj)(x:Str):Prop:=a.names.lookup x*>.local\/a.names.lookup x*>.cell
abbrev Ff(env:Env)(h:Heap)(m:Str->↑KA)(x:Str)(u:KA):Prop:=
 (env.kindOf x*>.local/\m x*>u)\/((env.kindOf x*>.cell\/env.kindOf x*>.free)/\∃c,env.cells.lookup x*>c/\h.IsCell c (P9 u))
structure Cx.Ok(X:Cx):Prop where
 mod:Mod X.K X.mg X.base
 kind:X.env.scope.kind=.function
 glob:X.env.globals=K4
 blt:X.env.builtins=N9
 above:X.s₀.heap.objs.size<=X.env.locals
 inj:∀x y c,X.env.cells.lookup x*>c->X.env.cells.lookup y*>c->x=y
 has:∀x,(X.env.kindOf x*>.cell\/X.env.kindOf x*>.free)->∃c,X.env.cells.lookup x*>c
 cab:∀x c,X.fn x=Qb->X.env.cells.lookup x*>c->X.s₀.heap.objs.size<=c
 hd:X.calm=Qb->X.A.handled=P8
 gd:X.calm=Qb->X.A.guards=P9 []
 frames:X.A.frames*>X.stack
 stk:X.stack=X.outer\/(X.stack=X.env::X.outer/\X.env.frame*>X.env.locals)
 exf:∀b∈X.ex,b≠X.env.locals/\∀x c,X.env.cells.lookup x*>c->c≠b
 bs:∀b o,X.base.get? b*>o->X.s₀.heap.get? b*>o/\X.H₀ b=P8
 bsz:X.base.objs.size<=X.s₀.heap.objs.size
 noex:∀b o,X.base.get? b*>o->b∉X.ex
 exfs:∀b∈X.ex,b∉X.fs
 funs:X.s₀.heap.FunFrames X.base X.outer
 frf:∀b∈X.fs,X.H₀ b=P8
structure Inv(X:Cx)(OK:!(Addr×Obj))(Z:! ↑V)(H:Hp)(s:KC):Prop where
 ok:X.Ok
 os:s.os=X.s₀.os
 bare:M8 s.gens
 base:Un X.fs X.ex X.H₀ H X.s₀.heap s.heap
 loc:∃m,s.heap.Ns X.env.locals m/\∀(i:Nat) (x:Str) (v:V),X.N[i]?*>x->Z[i]?*>(P9 v)->Vis X.env.scope x->∃u,RelV v u/\Ff X.env s.heap m x u
 cell:∀x c,X.env.cells.lookup x*>c->∃v,s.heap.IsCell c v
 free:H X.env.locals=P8
 freeC:∀x c,X.env.cells.lookup x*>c->H c=P8
 pin:∀p∈X.pn++OK,s.heap.get? p.1*>p.2/\H p.1=P8/\p.1≠X.env.locals/\p.1∉X.fs/\∀v,p.2.data ≠ .cell v
 hok:HOk X.prog X.w H s.heap
 len:Z.length=X.N.length
section
variable {X:Cx}{OK:!(Addr×Obj)}{Z:! ↑V}{H H':Hp}{s:KC}{h':Heap}
def Cx.Ok.nofr(a:X.Ok){b:Addr}{o:Obj}(e:X.base.get? b*>o):b∉X.fs:=λc=>by
 have:=(a.funs.mem c).1;rw[e]at this;cases this
def Inv.bs(I:Inv X OK Z H s):∀b o,X.base.get? b*>o->s.heap.get? b*>o/\H b=P8:=λb o e=>
 {I.base.keep b o (I.ok.bs b o e).1 (I.ok.bs b o e).2 (I.ok.nofr e) (I.ok.noex b o e),I.base.free b o (I.ok.bs b o e).1 (I.ok.bs b o e).2 (I.ok.noex b o e)}
def Inv.bk(I:Inv X OK Z H s):∀b o,X.base.get? b*>o->s.heap.get? b*>o:=λb o e=>(I.bs b o e).1
def Inv.mod(I:Inv X OK Z H s):Mod X.K X.mg X.base:=I.ok.mod
def Inv.kIn(I:Inv X OK Z H s):X.K.In s.heap:=I.ok.mod.kin.keeps I.bk
def Inv.fr(I:Inv X OK Z H s):∃m,Fr X.base X.env.locals s.heap m:=
 let ⟨m,a,_⟩:=I.loc
 {m,a,I.bk,Gj I.ok.bsz I.ok.above}
def Inv.lt(I:Inv X OK Z H s):X.env.locals<s.heap.objs.size:=let ⟨_,a,_⟩:=I.loc;a.lt
def Inv.sz(I:Inv X OK Z H s):X.s₀.heap.objs.size<=s.heap.objs.size:=Gj I.ok.above (Ic I.lt)
def Inv.nofs(I:Inv X OK Z H s){a:Addr}(h:s.heap.objs.size<=a):a∉X.fs:=λd=>by
 have(_,o,c,_):=I.ok.funs.mem d;show absurd (F7 (KM c) (Gj I.sz h)) (GU _)
def Inv.cne(I:Inv X OK Z H s):∀x c,X.env.cells.lookup x*>c->c≠X.env.locals:=λx c e z=>by
 have(v,o,g,f):=I.cell x c e;obtain⟨m,⟨h,j,i,d,a,_⟩,_⟩:=I.loc;rw[z,d]at g;cases g;rw[a]at f;cases f
def Inv.funs(I:Inv X OK Z H s):s.heap.FunFrames X.base X.outer:=by
 have all:∀(l:!Env),(∀b∈frs l,b∈X.fs)->X.s₀.heap.FunFrames X.base l->s.heap.FunFrames X.base l:=by
  intro l
  induction l with
  | nil=>intro _ _;trivial
  | cons j r g=>
   intro f h;obtain⟨q,⟨L,o,a,p,i,k⟩,m⟩:=h;have d:L∈X.fs:=f L (by unfold frs;rw[Gc,a];show ymS);have(t,e):=I.base.slot L o i (I.ok.frf L d) d λz=>I.ok.exfs L z d;show{q,{L,_,a,p,e,k},g (λb c=>f b (by unfold frs;rw[Gc,a];show ymC _ c)) m}
 show all X.outer (λ_ c=>c) I.ok.funs
def Inv.stack(I:Inv X OK Z H s):s.heap.FunFrames X.base X.stack:=by
 rcases I.ok.stk with e|⟨e,c⟩;rw[e];show I.funs
 .rw[e];have(m,a,_):=I.loc;show .cons (by rw[I.ok.kind];decide) c a ?_ I.funs;show Heap.get?_none_of_le (Gj I.ok.bsz I.ok.above)
def Inv.stkSub(I:Inv X OK Z H s):∀b∈frs X.stack,b∈X.env.locals::X.fs:=λb a=>by
 rcases I.ok.stk with e|⟨e,c⟩;rw[e]at a;show ymC _ a
 .rw[e]at a;unfold frs at a;rw[Gc,c]at a;show a
def Inv.stkFree(I:Inv X OK Z H s):∀b∈frs X.stack,H b=P8:=λb a=>by
 rcases ycM (I.stkSub b a)with e|a;rw[e];show I.free
 .have(_,o,c,_):=I.ok.funs.mem a;show I.base.free b o c (I.ok.frf b a) λz=>I.ok.exfs b z a
def Inv.step{g':Array GenState}{t':Nat}{d':Drawn}{ch:!Addr}(I:Inv X OK Z H s)
  (g:∀b∈ch,(b∈X.ex\/X.s₀.heap.objs.size<=b)/\b≠X.env.locals/\(∀x c,X.env.cells.lookup x*>c->c≠b)/\∀p∈X.pn++OK,p.1≠b)
  (j:∀b o,b≠X.env.locals->b∉X.fs->b∉ch->s.heap.get? b*>o->H b=P8->h'.get? b*>o)
  (A:∀b o,b≠X.env.locals->b∈X.fs->b∉ch->s.heap.get? b*>o->H b=P8->∃sl,h'.get? b=P9 {o with slots:=sl}) (free:∀b o,b∉ch->s.heap.get? b*>o->H b=P8->H' b=P8)
  (B:∀b o,b∉ch->s.heap.get? b*>o->∃K,h'.get? b*>K)
  (N:∀b xs,H b*>(.tup xs)->H' b*>(.tup xs)) (G:∀b o u,H b*>(.frz o u)->H' b*>(.frz o u)) (M:∀b P,H b*>(.tbl P)->∃L,H' b*>(.tbl (P++L)))
  (ns:∀m,s.heap.Ns X.env.locals m->h'.Ns X.env.locals m) (U:HOk X.prog X.w H' h') (hg:M8 g') :
  Inv X OK Z H' {s with heap:=h',gens:=g',drawn:=d',toks:=t'}:=by
 have O:∀b o,X.s₀.heap.get? b*>o->b≠X.env.locals:=λb o e=>Ga (F7 (KM e) I.ok.above);have y:∀b o,X.s₀.heap.get? b*>o->b∉X.ex->b∉ch:=λb o e a C=>by
  rcases(g b C).1 with z|z;show a z;show absurd (F7 (KM e) z) (GU _)
 have h:∀x c,X.env.cells.lookup x*>c->∀v,s.heap.IsCell c v->h'.IsCell c v:=λx c e v ⟨o,E,S⟩=>by
  have f:c∉ch:=λz=>(g c z).2.2.1 x c e rfl;by_cases hc:c∈X.fs
  .have(sl,q):=A c o (I.cne x c e) hc f E (I.freeC x c e);show{_,q,S}
  .show{o,j c o (I.cne x c e) hc f E (I.freeC x c e),S}
 show{I.ok,I.os,hg,{λb o e n C a=>?_,λb o e n C a=>?_,λb o e n a=>?_,λb o e a=>?_,λb xs e=>N b xs (I.base.tups b xs e),λb o xs e=>G b o xs (I.base.frzs b o xs e),λb P e=>?_},?_,λx c e=>?_,?_,λx c e=>?_,λp hp=>?_,U,I.len};show j b o (O b o e) C (y b o e a) (I.base.keep b o e n C a) (I.base.free b o e n a)
 .have(sl,t):=I.base.slot b o e n C a;have(Y,J):=A b _ (O b o e) C (y b o e a) t (I.base.free b o e n a);show⟨Y,J⟩
 .have(K,t):=I.base.there b o e a;show free b K (y b o e a) t (I.base.free b o e n a)
 .have(K,t):=I.base.there b o e a;show B b K (y b o e a) t
 .have(m1,t):=I.base.tbls b P e;have(m2,J):=M b _ t;show{m1++m2,by rw[J,Ja]}
 .have(m,hn,hl):=I.loc;show{m,ns m hn,λi x v t J e3=>?_};have(u,r,l):=hl i x v t J e3;show{u,r,?_};rcases l with l|⟨k,c,e,z⟩;show .inl l;show .inr {k,c,e,h x c e _ z}
 .have(v,z):=I.cell x c e;show{v,h x c e v z}
 .obtain⟨m,⟨o,_,_,E,_⟩,_⟩:=I.loc;show free _ o (λz=>(g _ z).2.1 rfl) E I.free
 .have(v,o,E,S):=I.cell x c e;show free c o (λz=>(g c z).2.2.1 x c e rfl) E (I.freeC x c e)
 .have(e,n,ne,nf,d):=I.pin p hp;have f:p.1∉ch:=λz=>(g p.1 z).2.2.2 p hp rfl;show{j p.1 p.2 ne nf f e n,free p.1 p.2 f e n,ne,nf,d}
def Inv.un{t':Nat}(I:Inv X OK Z H s)(u:Un X.fs [] H H' s.heap h')(c:HOk X.prog X.w H' h'):Inv X OK Z H' {s with heap:=h',toks:=t'}:=by
 obtain⟨m,⟨o,t,x,h,r⟩,_⟩:=id I.loc;have(v,l):=u.any h I.free ∅;show I.step (g':=s.gens) (d':=s.drawn) (ch:=[]) (λ_ z=>nomatch z) (λb o _ f _ e n=>u.keep b o e n f ∅) (λb o _ f _ e n=>u.slot b o e n f ∅) (λb o _ e n=>u.free b o e n ∅) (λb o _ e=>u.there b o e ∅) u.tups u.frzs u.tbls (λq j=>by
  have(p,d,g,a,k):=j;rw[h]at a;cases a;show{_,d,g,l,k}) c I.bare
def Inv.call{g':Array GenState}{t':Nat}{d':Drawn}{ch:!Addr}(I:Inv X OK Z H s)(u:Un (frs X.stack) ch H H' s.heap h')(g:HOk X.prog X.w H' h')(y:M8 g')
  (f:∀b∈ch,(b∈X.ex\/X.s₀.heap.objs.size<=b)/\b≠X.env.locals/\(∀x c,X.env.cells.lookup x*>c->c≠b)/\∀p∈X.pn++OK,p.1≠b) :
  Inv X OK Z H' {s with heap:=h',gens:=g',drawn:=d',toks:=t'}:=by
 obtain⟨m,⟨o,C,G,k,r⟩,_⟩:=id I.loc;have(E,j):=u.any k I.free λz=>(f _ z).2.1 rfl;show I.step (ch:=ch) f (λb o j v a e n=>u.keep b o e n (λz=>(ycM (I.stkSub b z)).elim j v) a) (λb o _ _ a e n=>u.any e n a) (λb o a e n=>u.free b o e n a) (λb o a e=>u.there b o e a) u.tups u.frzs u.tbls (λB q=>by
  have(A,h,i,d,t):=q;rw[k]at d;cases d;show{_,h,i,j,t}) g y
def Inv.turned{t':Nat}{it:Addr}(I:Inv X OK Z H s)(k:∀b o,b≠it->s.heap.get? b*>o->h'.get? b*>o)(B:H it=P8)(g:it≠X.env.locals)
  (l:it∈X.ex\/X.s₀.heap.objs.size<=it) (y:∀x c,X.env.cells.lookup x*>c->c≠it) (i:∀p∈X.pn++OK,p.1≠it):Inv X OK Z H {s with heap:=h',toks:=t'}:=by
 have d:∀b u,H b*>u->b≠it:=λb u e z=>by rw[z,B]at e;cases e
 show I.step (g':=s.gens) (d':=s.drawn) (ch:=[it]) (λb w=>?_) (λb o _ _ a e _=>k b o (λz=>a (by simp[z])) e) (λb o _ _ a e _=>{o.slots,k b o (λz=>a (by simp[z])) e}) (λ_ _ _ _ n=>n)
  (λb o a e=>{o,k b o (λz=>a (by simp[z])) e}) (λ_ _ e=>e) (λ_ _ _ e=>e) (λb C e=>{#[],by rw[e];simp}) (λm h=>?_) (λb u e=>?_) I.bare
 .have e:b=it:=by exists w
  subst e;show⟨l,g,y,i⟩
 .have(o,t,A,j,r):=h;show{o,t,A,k _ o (K3 g) j,r}
 .show(I.hok b u e).stay (λc v a q=>k c v ?_ q) (λ_ q=>q) λ_ _ q=>q;rcases a with z|z;rw[z];show d b u e;show d c _ z
def Inv.tok(I:Inv X OK Z H s)(t:Nat):Inv X OK Z H {s with toks:=t}:=I.un (h':=s.heap) (t':=t) Un.refl I.hok
def Inv.kept{t':Nat}(I:Inv X OK Z H s)(k:∀b u,s.heap.get? b*>u->h'.get? b*>u):Inv X OK Z H {s with heap:=h',toks:=t'}:=I.un (Un.kept k) (I.hok.kept k)
def Inv.laid{a:Addr}{o:HO}{t':Nat}(I:Inv X OK Z H s)(k:∀b u,s.heap.get? b*>u->h'.get? b*>u)(c:s.heap.objs.size<=a)(new:JZ X.prog X.w (upd H a o) h' a o) :
  Inv X OK Z (upd H a o) {s with heap:=h',toks:=t'}:=I.un (Un.laid k c (I.hok.fresh c)) (I.hok.laid k c new)
def Inv.write{x e:Addr}{o:HO}{t':Nat}(I:Inv X OK Z H s)(f:Mut (H x))(d:e=x\/H e*>(.own x))(k:∀b u,b≠e->s.heap.get? b*>u->h'.get? b*>u)(a:∃u,h'.get? e*>u)
  (new:JZ X.prog X.w (upd H x o) h' x o):Inv X OK Z (upd H x o) {s with heap:=h',toks:=t'}:=I.un (Un.write f d k a) (I.hok.write f d k a new)
def Inv.weak{a:! ↑V}(I:Inv X OK Z H s)(d:a.length=Z.length)(w:∀(i:Nat) v,a[i]?*>(P9 v)->Z[i]?*>(P9 v)):Inv X OK a H s:=
 {I.ok,I.os,I.bare,I.base,let ⟨m,g,c⟩:=I.loc;{m,g,λi x v h e f=>c i x v h (w i v e) f},I.cell,I.free,I.freeC,I.pin,I.hok,d.trans I.len}
def Inv.pins_of{a:!(Addr×Obj)}(I:Inv X OK Z H s)(h:∀p∈a,s.heap.get? p.1*>p.2/\H p.1=P8/\p.1≠X.env.locals/\p.1∉X.fs/\∀v,p.2.data ≠ .cell v):Inv X a Z H s:=
 {I.ok,I.os,I.bare,I.base,I.loc,I.cell,I.free,I.freeC,λp c=>(yaM c).elim (λz=>I.pin p (yaL _ z)) (h p),I.hok,I.len}
def o6{N:!Str}(c:N.Nodup){i j:Nat}{x:Str}(a:N[i]?*>x)(b:N[j]?*>x):i=j:=by
 have(f,e):=FL.mp a;have(g,d):=FL.mp b;show(List.getElem_inj c).mp (e.trans d.symm)
def m7{M:Model}{A:Li}{E:KA->KC->Prop}{i:Nat}{x:Str}{v:V}{u:KA}{Q:Unit->KC->Prop}(I:Inv X OK Z H s)(hN:X.N.Nodup)(Y:X.N[i]?*>x)(B:Loc X.env.scope x)(r:RelV v u)
  (h:∀s',Inv X OK (Z.set i (P9 v)) H s'->(∃a,KZ a s.heap s'.heap/\(a=X.env.locals\/X.env.cells.lookup x*>a))->Q () s') (hf:X.fn x=Qb\/X.env.scope.names.lookup x*>.local:=by first|show .inl rfl|show .inr rfl|assumption):KI M A (storeName X.env x u) Q E s:=by
 have(m,hn,hl):=id I.loc;have S:(X.env.scope.kind == .class||(X.env.scope.kind == .module&&X.env.locals != X.env.globals))=Qa:=by rw[I.ok.kind];rfl
 have U:i<Z.length:=by rw[I.len];show(FL.mp Y).1
 have O:=I.cne;have l:∀{a:Addr} {h':Heap},(∃o,s.heap.get? a*>o/\H a=P8)->KZ a s.heap h'->HOk X.prog X.w H h':=λ{a h'} ha f b ob e=>by
  have(_,_,C):=ha;show(I.hok b ob e).stay (λc w' t q=>(f.2 c ?_).trans q) (λ_ q=>q) λ_ _ q=>q;rintro rfl;rcases t with rfl|t;rw[C]at e;cases e;rw[C]at t;cases t
 rcases B with J|J
 .show wpAny_storeName_local J hn (λh' hn' f=>?_) S;have(oL,_,_,hoL,_):=id hn;show h _ {I.ok,I.os,I.bare,{λb o e n P B=>?_,λb o e n P B=>?_,I.base.free,λb o e B=>?_,I.base.tups,I.base.frzs,I.base.tbls},{_,hn',λj y v' g G e3=>?_},λy c e=>?_,I.free,I.freeC,λp hp=>?_,l ⟨oL,hoL,I.free⟩ f,by simpa using I.len} {_,f,.inl rfl};show(f.2 b (Ga (F7 (KM e) I.ok.above))).trans (I.base.keep b o e n P B)
  .have(sl,g):=I.base.slot b o e n P B;show{sl,(f.2 b (Ga (F7 (KM e) I.ok.above))).trans g}
  .have(o',g):=I.base.there b o e B;show{o',(f.2 b (Ga (F7 (KM e) I.ok.above))).trans g}
  .by_cases L:j=i
   .subst L;rw[Y]at g;cases g;rw[GC U]at G;cases G;show{u,r,.inl {J,by simp}}
   .rw[F6 (K3 L)]at G;have(u',r',q):=hl j y v' g G e3;show{u',r',?_};rcases q with⟨k,e⟩|⟨k,c,e,z⟩
    .show .inl {k,?_};have:y≠x:=λe=>L (o6 hN g (e▸Y));simp[this,e]
    .show .inr {k,c,e,z.sameBut f (O y c e)}
  .have(w',z):=I.cell y c e;show{w',z.sameBut f (O y c e)}
  .have(e,n,ne,nf,d):=I.pin p hp;show{(f.2 p.1 ne).trans e,n,ne,nf,d}
 .have K:X.fn x=Qb:=by
   rcases hf with z|z;show z;rw[z]at J;cases J
  have(c,t):=I.ok.has x (.inl J);have(w',z):=I.cell x c t;show wpAny_storeName_cell I.ok.kind J t z (λh' hc' f=>?_);have(oc,hoc,hocd):=id z;show h {s with heap:=h'} {I.ok,I.os,I.bare,{λb o e n P B=>?_,λb o e n P B=>?_,I.base.free,λb o e B=>?_,I.base.tups,I.base.frzs,I.base.tbls},{m,hn.sameBut f (K3 (O x c t)),λj y v' g G e3=>?_},λy c' e=>?_,I.free,I.freeC,λp hp=>?_,l {oc,hoc,I.freeC x c t} f,by simpa using I.len} {c,f,.inr t};show(f.2 b (Ga (F7 (KM e) (I.ok.cab x c K t)))).trans (I.base.keep b o e n P B)
  .have(sl,g):=I.base.slot b o e n P B;show{sl,(f.2 b (Ga (F7 (KM e) (I.ok.cab x c K t)))).trans g}
  .have(o',g):=I.base.there b o e B;show{o',(f.2 b (Ga (F7 (KM e) (I.ok.cab x c K t)))).trans g}
  .by_cases L:j=i
   .subst L;rw[Y]at g;cases g;rw[GC U]at G;cases G;show{u,r,.inr {.inl J,c,t,hc'}}
   .rw[F6 (K3 L)]at G;have(u',r',q):=hl j y v' g G e3;show{u',r',?_};rcases q with q|⟨k,c',e,z'⟩;show .inl q
    .show .inr {k,c',e,z'.sameBut f ?_};rintro rfl;show L (o6 hN g (I.ok.inj _ _ _ e t▸Y))
  .by_cases hcc:c'=c;subst hcc;show{_,hc'}
   .have(w2,z2):=I.cell y c' e;show{w2,z2.sameBut f hcc}
  .have(e,n,ne,nf,d):=I.pin p hp;show{(f.2 p.1 ?_).trans e,n,ne,nf,d};intro q;rw[q,hoc]at e;have q':oc=p.2:=F9.inj e;show d w' (by rw[<-q'];show hocd)
def ji{M:Model}{A:Li}{E:KA->KC->Prop}{i:Nat}{x:Str}{v:V}{u:KA}{Q:Unit->KC->Prop}(I:Inv X OK Z H s)(c:X.N.Nodup)(e:X.N[i]?*>x)(d:Loc X.env.scope x)(r:RelV v u)
  (h:∀a,Inv X OK (Z.set i (P9 v)) H a->Q () a) (f:X.fn x=Qb\/X.env.scope.names.lookup x*>.local:=by first|show .inl rfl|show .inr rfl|assumption):KI M A (storeName X.env x u) Q E s:=
 m7 I c e d r (λa g _=>h a g) f
def Inv.call'{a:KC}{ch:!Addr}(I:Inv X OK Z H s)(ho:a.os=s.os)(u:Un (frs X.stack) ch H H' s.heap a.heap)(f:HOk X.prog X.w H' a.heap)(k:M8 a.gens)
  (d:∀b∈ch,(b∈X.ex\/X.s₀.heap.objs.size<=b)/\b≠X.env.locals/\(∀x c,X.env.cells.lookup x*>c->c≠b)/\∀p∈X.pn++OK,p.1≠b):Inv X OK Z H' a:=by
 have(h',g,h,i,j):=a;have e:j=s.os:=ho;subst e;show I.call (g':=g) (t':=i) (d':=h) u f k d
end
protected def XK:=KA->↑Addr->Hp->Prop
protected def St:=! ↑V
protected def VK:=V->Hp->Prop
protected def TE:=St->Hp->VK->Prop
protected def TT:=St->Hp->(Bool->Hp->Prop)->Prop
protected def TA:=St->Hp->(!V->Hp->Prop)->Prop
structure Km where
 nx:St->Hp->Prop
 rt:VK
 bk:St->Hp->Prop:=λ_ _=>False
 ct:St->Hp->Prop:=λ_ _=>False
protected def TS:=Km->St->Hp->Prop
abbrev EP(X:Cx)(c:!(Addr×Obj))(Z:St)(Q:VK)(u:KA)(d:KC):Prop:=∃v a,Inv X c Z a d/\RelV v u/\Q v a
abbrev TP(X:Cx)(d:!(Addr×Obj))(Z:St)(Q:Bool->Hp->Prop)(b:Bool)(c:KC):Prop:=∃a,Inv X d Z a c/\Q b a
abbrev AP(X:Cx)(c:!(Addr×Obj))(Z:St)(Q:!V->Hp->Prop)(e:!KA)(d:KC):Prop:=∃vs a,Inv X c Z a d/\Vals vs e/\Q vs a
abbrev SP(X:Cx)(d:!(Addr×Obj))(D:Km)(f:Flow)(e:KC):Prop:=
 match f with
 | .next=>∃c a,Inv X d c a e/\D.nx c a
 | .brk=>∃c a,Inv X d c a e/\D.bk c a
 | .cont=>∃c a,Inv X d c a e/\D.ct c a
 | .ret u=>∃v c a,Inv X d c a e/\RelV v u/\D.rt v a
abbrev PE(X:Cx)(e:Expr)(t:TE):Prop:=
 ∀(a:!(Addr×Obj)) (s:KC) (Z:St) (H:Hp) (Q:VK),Inv X a Z H s->t Z H Q->KI (KO X.prog X.w) X.A (eval e X.env) (EP X a Z Q) X.xe s
abbrev PT(X:Cx)(e:Expr)(t:TT):Prop:=
 ∀(a:!(Addr×Obj)) (s:KC) (Z:St) (H:Hp) (Q:Bool->Hp->Prop),Inv X a Z H s->t Z H Q->KI (KO X.prog X.w) X.A (NN e X.env (eval e X.env)) (TP X a Z Q) X.xe s
abbrev PW(X:Cx)(e:Expr)(t:TT):Prop:=
 ∀(a:Sem KA) (c:!(Addr×Obj)) (s:KC) (Z:St) (H:Hp) (Q:Bool->Hp->Prop),Inv X c Z H s->t Z H Q->KI (KO X.prog X.w) X.A (NN e X.env a) (TP X c Z Q) X.xe s
def PW.pt{X:Cx}{e:Expr}{t:TT}(h:PW X e t):PT X e t:=h _
abbrev PA(X:Cx)(d:!Expr)(t:TA):Prop:=
 ∀(a:Pos) (c:!(Addr×Obj)) (s:KC) (Z:St) (H:Hp) (Q:!V->Hp->Prop),Inv X c Z H s->t Z H Q->KI (KO X.prog X.w) X.A (spliced (Mk a (KT d X.env))) (AP X c Z Q) X.xe s
abbrev PS(X:Cx)(st:Stmt)(t:TS):Prop:=
 ∀(a:!(Addr×Obj)) (s:KC) (Z:St) (H:Hp) (D:Km),Inv X a Z H s->t D Z H->KI (KO X.prog X.w) X.A (exec st X.env) (SP X a D) X.xe s
abbrev PSs(X:Cx)(st:!Stmt)(t:TS):Prop:=
 ∀(a:!(Addr×Obj)) (s:KC) (Z:St) (H:Hp) (D:Km),Inv X a Z H s->t D Z H->KI (KO X.prog X.w) X.A (execs st X.env) (SP X a D) X.xe s
def thn{c:Type}{t:Sem c}{Q d : c->KC->Prop}{M:Model}{A:Li}{E:KA->KC->Prop}{s:KC}(h:KI M A t Q E s)(e:∀a s,Q a s->d a s):KI M A t d E s:=Lb h e λ_ _ x=>x
section
variable {X:Cx}
abbrev Cy(i:Nat):TE:=λZ H Q=>∃v,Z[i]?*>(P9 v)/\Q v H
abbrev tC(v:V):TE:=λ_ H Q=>Q v H
def vB{i:Nat}{x:Str}{pos:Pos}(p:X.N[i]?*>x)(w:Vis X.env.scope x)(j:(x==("__debug__" : Str))=Qa:=by decide)(g:(x==("__classdict__" : Str))=Qa:=by decide):PE X (.Name x pos) (Cy i):=by
 intro q s Z H Q I h;obtain⟨v,e,h⟩:=h;obtain⟨m,y,t⟩:=I.loc;obtain⟨u,r,l⟩:=t i x v p e w;have d:EP X q Z Q u s:=⟨v,H,I,r,h⟩;rcases l with⟨f,o⟩|⟨f,c,k,a⟩;show OU (wpAny_loadName_local I.ok.kind f y o d) j
 .rcases f with f|f;show OU (wpAny_loadName_cell I.ok.kind f k a d) j;show OU (wpAny_loadName_free I.ok.kind f k a d g) j
def vy{i j pos}:PE X (.Constant (.int i) j pos) (tC (.int i)):=λ_ _ _ H _ I h=>wpAny_Constant_int {.int i,H,I.tok _,{_,Xr},h}
def DY{b j pos}:PE X (.Constant (.bool b) j pos) (tC (.bl b)):=λ_ _ _ H _ I h=>Constant_bool {.bl b,H,I,Xr,h}
def BM{j pos}:PE X (.Constant .none j pos) (tC .non):=λ_ _ _ H _ I h=>Constant_none {.non,H,I,Xr,h}
def qx{x j pos}:PE X (.Constant (.str x) j pos) (tC (.str x)):=λ_ _ _ H _ I h=>Calls.Constant_str {.str x,H,I.tok _,{_,Xr},h}
abbrev Gl(X:Cx)(x:Str):Prop:=X.env.kindOf x*>.globalImplicit
def rF{E:KA->KC->Prop}{c:!(Addr×Obj)}{s:KC}{Z:St}{H:Hp}{x:Str}{u:KA}{pos:Pos}{Q:KA->KC->Prop}(I:Inv X c Z H s)(e:Gl X x)(a:X.mg x*>u)(h:Q u s)
  (d:(x==("__debug__" : Str))=Qa:=by decide):KI (KO X.prog X.w) X.A (eval (.Name x pos) X.env) Q E s:=
 MP I.ok.kind e (Calls.loadGlobal_global (by rw[I.ok.glob];show I.mod.glob.keeps I.bk) a h) d
def gz{E:KA->KC->Prop}{c:!(Addr×Obj)}{s:KC}{Z:St}{H:Hp}{x:Str}{u:KA}{pos:Pos}{Q:KA->KC->Prop}(I:Inv X c Z H s)(j:Gl X x)(a:X.mg x=P8)(d:Lr x*>u)(h:Q u s)
  (i:x ≠ "__name__" :=by decide) (g:(x==("__debug__" : Str))=Qa:=by decide):KI (KO X.prog X.w) X.A (eval (.Name x pos) X.env) Q E s:=by
 have(k,e,f):=I.mod.blt;show MP I.ok.kind j (Calls.loadGlobal_builtin (by rw[I.ok.glob];show I.mod.glob.keeps I.bk) a (by rw[I.ok.blt];show e.keeps I.bk) ((f x i).trans d) h) g
def yu{x:Str}{v:V}{u:KA}{pos:Pos}(d:Gl X x)(a:X.mg x*>u)(r:RelV v u)(c:(x==("__debug__" : Str))=Qa:=by decide):PE X (.Name x pos) (tC v):=
 λ_ _ _ H _ I h=>rF I d a ⟨v,H,I,r,h⟩ c
def nV{x:Str}{v:V}{u:KA}{pos:Pos}(f:Gl X x)(a:X.mg x=P8)(c:Lr x*>u)(r:RelV v u)(e:x ≠ "__name__" :=by decide)(d:(x==("__debug__" : Str))=Qa:=by decide):PE X (.Name x pos) (tC v):=
 λ_ _ _ H _ I h=>gz I f a c ⟨v,H,I,r,h⟩ e d
variable {a b:Expr}{ta tb:TE}{pos:Pos}
abbrev PC(X:Cx)(f:OD)(a b:Expr)(t:TE):Prop:=
 ∀(e:!(Addr×Obj)) (s:KC) (Z:St) (H:Hp) (Q:VK),Inv X e Z H s->t Z H Q ->
  KI (KO X.prog X.w) X.A (eval a X.env) (λv c=>KI (KO X.prog X.w) X.A (eval b X.env) (λu d=>KI (KO X.prog X.w) X.A (K7 f v u) (EP X e Z Q) X.xe d) X.xe c) X.xe s
abbrev tB(t:TE):TT:=λZ H Q=>t Z H λx d=>∃c,x=.bl c/\Q c d
def pt_cmp{e:OD}{t:TE}(h:PC X e a b t)(f:L7 e b=Qa:=by first|show nobehind _ (by decide) (by decide)|rfl):PT X (.Compare a [e] [b] pos) (tB t):=by
 intro g s Z H Q I m;show NH (thn (h g s Z H _ I m) λv w f=>thn f λu r k=>thn k λc p ⟨x,l,o,i,j⟩=>?_) f;have(d,rfl,q):=j;cases i;show Ll ⟨l,o,q⟩
def B3{e:Expr}{t:TE}(h:PE X e t)(j:∀c,NN e X.env c=(do let v <-c;Mb e.pos;LO [v] (OV v)):=by intro _;rfl):PT X e (tB t):=by
 intro f s Z H Q I k;show isTrue_plain (thn (h f s Z H _ I k) λv o ⟨x,i,l,g,m⟩=>?_) (j _);have(d,rfl,q):=m;cases g;show Ll ⟨i,l,q⟩
variable {tA tB':TT}{rest:!Expr}
abbrev EH(t u:TT):TT:=λZ H Q=>t Z H λc d=>if c=Qb then u Z d Q else Q Qa d
abbrev tOr(t u:TT):TT:=λZ H Q=>t Z H λc d=>if c=Qb then Q Qb d else u Z d Q
abbrev EM(t:TT):TT:=λZ H Q=>t Z H λc d=>Q (~~~c) d
def yO(f:PT X a tA):PW X (.BoolOp .And [a] pos) tA:=by
 intro g d s Z H Q I h;show isTrue_and (thn (f d s Z H Q I h) λc i e=>?_);cases c with
 | true=>show isTrue_and_nil e
 | false=>show e
def B5(f:PT X a tA):PW X (.BoolOp .Or [a] pos) tA:=by
 intro g d s Z H Q I h;show isTrue_or (thn (f d s Z H Q I h) λc i e=>?_);cases c with
 | false=>show isTrue_or_nil e
 | true=>show e
def B4(l:PT X a tA)(j:PW X (.BoolOp .And (b::rest) pos) tB'):PW X (.BoolOp .And (a::b::rest) pos) (EH tA tB'):=by
 intro i e s Z H Q I h;show isTrue_and (thn (l e s Z H _ I h) λc k ⟨d,f,g⟩=>?_);cases c with
 | true=>show j i e k Z d Q f g
 | false=>show⟨d,f,g⟩
def D9(l:PT X a tA)(j:PW X (.BoolOp .Or (b::rest) pos) tB'):PW X (.BoolOp .Or (a::b::rest) pos) (tOr tA tB'):=by
 intro i e s Z H Q I h;show isTrue_or (thn (l e s Z H _ I h) λc k ⟨d,f,g⟩=>?_);cases c with
 | true=>show⟨d,f,g⟩
 | false=>show j i e k Z d Q f g
def B2(f:PT X a tA):PT X (.UnaryOp .Not a pos) (EM tA):=by
 intro e s Z H Q I h;show isTrue_not (f e s Z H (λc d=>Q (~~~c) d) I h)
abbrev Ao(ta tb:TE):TE:=λZ H Q=>ta Z H λx d=>∃c,x=.bl c/\if c=Qb then tb Z d Q else Q (.bl Qa) d
abbrev EN(ta tb:TE):TE:=λZ H Q=>ta Z H λx d=>∃c,x=.bl c/\if c=Qb then Q (.bl Qb) d else tb Z d Q
abbrev Ar(ta:TE):TE:=λZ H Q=>ta Z H λx d=>∃c,x=.bl c/\Q (.bl (~~~c)) d
def BO{op}{t:TE}(h:PE X a t):PE X (.BoolOp op [a] pos) t:=λd s Z H Q I c=>BoolOp_one (h d s Z H Q I c)
def BJ(i:PE X a ta)(l:PE X (.BoolOp .And (b::rest) pos) tb):PE X (.BoolOp .And (a::b::rest) pos) (Ao ta tb):=by
 intro e s Z H Q I h;show BoolOp_and (thn (i e s Z H _ I h) λv m j=>?_);have(x,f,g,k,d):=j;have(c,rfl,d):=d;cases k;show Ll ?_;cases c with
 | true=>show l e m Z f Q g d
 | false=>show{.bl Qa,f,g,Xr,d}
def D6(i:PE X a ta)(l:PE X (.BoolOp .Or (b::rest) pos) tb):PE X (.BoolOp .Or (a::b::rest) pos) (EN ta tb):=by
 intro e s Z H Q I h;show BoolOp_or (thn (i e s Z H _ I h) λv m j=>?_);have(x,f,g,k,d):=j;have(c,rfl,d):=d;cases k;show Ll ?_;cases c with
 | false=>show l e m Z f Q g d
 | true=>show{.bl Qb,f,g,Xr,d}
def BN(f:PE X a ta):PE X (.UnaryOp .Not a pos) (Ar ta):=by
 intro e s Z H Q I h;show UnaryOp_ (thn (f e s Z H _ I h) λv l g=>?_);have(x,j,k,i,d):=g;have(c,rfl,d):=d;cases i;show not_of (Ll {.bl (~~~c),j,k,Xr,d})
abbrev tIf(t:TT)(ta tb:TE):TE:=λZ H Q=>t Z H λc d=>if c=Qb then ta Z d Q else tb Z d Q
def vv{c:Expr}(k:PT X c tA)(m:PE X a ta)(l:PE X b tb):PE X (.IfExp c a b pos) (tIf tA ta tb):=by
 intro e s Z H Q I h;show wpAny_IfExp (thn (k e s Z H _ I h) λd g ⟨f,i,j⟩=>?_);cases d with
 | true=>show m e g Z f Q i j
 | false=>show l e g Z f Q i j
end
abbrev SqL(K:yF)(H:Hp)(a:Addr)(xs:!V):Prop:=
 Rd H a (.lst xs) \/
  ∃(o:Obj) (c:Array KA) (n:Nat),K.lookup a*>o/\o.cls=.type "list" /\ o.dict=P8/\o.data=.seq c n/\c.size<=sizeLine/\Vals xs c.toList
abbrev SqT(K:yF)(H:Hp)(a:Addr)(xs:!V):Prop:=
 Rd H a (.tup xs) \/
  ∃(o:Obj) (c:Array KA) (n:Nat),K.lookup a*>o/\(o.cls=.type "tuple" /\ o.dict=P8)/\o.data=.seq c n/\c.size<=sizeLine/\Vals xs c.toList
abbrev Fh:KA->↑V
 | .none=>P9 .non
 | .bool b=>P9 (.bl b)
 | .int i _=>P9 (.int i)
 | .str x _=>P9 (.str x)
 | .bytes b _=>P9 (.byt b)
 | .float b _=>P9 (.flt b)
 | .ref a=>P9 (.ref a)
 | .type n=>P9 (.ty n)
 | _=>P8
def RelV.abs{x:V}{u:KA}(r:RelV x u):Fh u*>x:=by
 cases x with
 | non=>cases r;rfl
 | bl _=>cases r;rfl
 | int _=>have(t,rfl):=r;rfl
 | str _=>have(t,rfl):=r;rfl
 | byt _=>have(t,rfl):=r;rfl
 | flt _=>have(t,rfl):=r;rfl
 | ref _=>cases r;rfl
 | ty _=>cases r;rfl
def RelV.inj{x y:V}{u:KA}(r:RelV x u)(q:RelV y u):x=y:=F9.inj (r.abs.symm.trans q.abs)
def Vals.inj:∀{xs a:!V} {c:!KA},Vals xs c->Vals a c->xs=a:=by
 intro xs a c h k
 induction h generalizing a with
 | nil=>cases k;rfl
 | cons r t d=>
  cases k with
  | cons f e=>rw[r.inj f,d e]
section
variable {X:Cx}{OK:!(Addr×Obj)}{Z:St}{H:Hp}{s:KC}{a:Addr}{xs ys:!V}
def SqL.of{K:yF}(h:H a*>(.lst xs)):SqL K H a xs:=.inl (.inl h)
def SqT.of{K:yF}(h:H a*>(.tup xs)):SqT K H a xs:=.inl (.inl h)
def Inv.list(I:Inv X OK Z H s)(h:SqL X.K H a xs):∃c:!KA,Vals xs c/\PlainL s.heap a c.toArray/\xs.length<=sizeLine:=by
 rcases h with h|⟨o,c,n,i,d,g,f,j,r⟩
 .have(z,c,n,r,e):=h.ok I.hok;show{c,r,{_,n,e,Xr,Xr,Xr},z}
 .show{c.toList,r,{o,n,I.kIn a o i,d,g,by simpa using f},?_};have e:=r.length;dsimp[GE]at e
  lia
def Inv.tuple(I:Inv X OK Z H s)(h:SqT X.K H a xs):∃c:!KA,Vals xs c/\Pn s.heap a c.toArray/\xs.length<=sizeLine:=by
 rcases h with h|⟨o,c,n,g,d,f,i,r⟩
 .have(z,c,r,p):=h.ok I.hok;show⟨c,r,p.to,z⟩
 .show{c.toList,r,{o,I.kIn a o g,d.1,n,by simpa using f},?_};have e:=r.length;dsimp[GE]at e
  lia
def Inv.list_inj(I:Inv X OK Z H s)(h:SqL X.K H a xs)(h':SqL X.K H a ys):xs=ys:=by
 obtain⟨f,r,⟨o,n,e,_,_,d⟩,_⟩:=I.list h;obtain⟨c,k,⟨l,m,i,_,_,g⟩,_⟩:=I.list h';rw[e]at i;cases i;rw[d]at g;injection g with j _;have:f=c:=by simpa using congrArg JH j
 subst this;show r.inj k
def Inv.tuple_inj(I:Inv X OK Z H s)(h:SqT X.K H a xs)(h':SqT X.K H a ys):xs=ys:=by
 obtain⟨f,r,⟨o,e,_,n,d⟩,_⟩:=I.tuple h;obtain⟨c,k,⟨l,i,_,m,g⟩,_⟩:=I.tuple h';rw[e]at i;cases i;rw[d]at g;injection g with j _;have:f=c:=by simpa using congrArg JH j
 subst this;show r.inj k
end
noncomputable abbrev Cx.wish(X:Cx) (E:KA->KC->Prop):Cx:={X with xe:=E}
noncomputable abbrev Cx.nox(X:Cx):Cx:=X.wish λ_ _=>False
def Cx.Ok.wish{X:Cx}(a:X.Ok)(E:KA->KC->Prop):(X.wish E).Ok:=
 ⟨a.mod,a.kind,a.glob,a.blt,a.above,a.inj,a.has,a.cab,a.hd,a.gd,a.frames,a.stk,a.exf,a.bs,a.bsz,a.noex,a.exfs,a.funs,a.frf⟩
def Cx.Ok.unwish{X:Cx}{E:KA->KC->Prop}(a:(X.wish E).Ok):X.Ok:=
 ⟨a.mod,a.kind,a.glob,a.blt,a.above,a.inj,a.has,a.cab,a.hd,a.gd,a.frames,a.stk,a.exf,a.bs,a.bsz,a.noex,a.exfs,a.funs,a.frf⟩
section
variable {X:Cx}{OK:!(Addr×Obj)}{Z:St}{H:Hp}{s:KC}{E:KA->KC->Prop}
def Inv.wish(I:Inv X OK Z H s)(E:KA->KC->Prop):Inv (X.wish E) OK Z H s:={I.ok.wish E,I.os,I.bare,I.base,I.loc,I.cell,I.free,I.freeC,I.pin,I.hok,I.len}
def Inv.unwish(I:Inv (X.wish E) OK Z H s):Inv X OK Z H s:=⟨I.ok.unwish,I.os,I.bare,I.base,I.loc,I.cell,I.free,I.freeC,I.pin,I.hok,I.len⟩
def SP.unwish{D:Km}{f:Flow}{d:KC}(h:SP (X.wish E) OK D f d):SP X OK D f d:=by
 cases f with
 | next=>have(c,a,I,q):=h;show⟨c,a,I.unwish,q⟩
 | brk=>have(c,a,I,q):=h;show⟨c,a,I.unwish,q⟩
 | cont=>have(c,a,I,q):=h;show⟨c,a,I.unwish,q⟩
 | ret u=>have(v,c,a,I,r,q):=h;show⟨v,c,a,I.unwish,r,q⟩
def PSs.nox{st:!Stmt}{t:TS}(h:PSs X.nox st t):PSs X st t:=λOK s Z H D I a=>
 Lb (h OK s Z H D (I.wish _) a) (λ_ _ q=>q.unwish) λ_ _ z=>LY z
end
section
variable {X:Cx}{st:Stmt}{rest:!Stmt}{t u:TS}{e:Expr}{te:TE}{pos:Pos}
abbrev Aq:TS:=λD Z H=>D.nx Z H
abbrev ER(t u:TS):TS:=λD Z H=>t {D with nx:=u D} Z H
def yJ:PSs X [] Aq:=λ_ _ Z H _ I h=>Mz ⟨Z,H,I,h⟩
def vZ(c:PS X st t)(g:PSs X rest u):PSs X (st::rest) (ER t u):=by
 intro a s Z H D I h;show Ow (thn (c a s Z H {D with nx:=u D} I h) λf j q=>?_);cases f with
 | next=>
  obtain⟨k,d,i,q⟩:=q;show g a j k d D i q
 | ret v=>show q
 | brk=>show q
 | cont=>show q
def yK(c:PS X st t):PSs X [st] t:=by
 intro a s Z H D I h;show Ow (thn (c a s Z H D I h) λf d q=>?_);cases f with
 | next=>show Mz q
 | ret v=>show q
 | brk=>show q
 | cont=>show q
def Inv.quiet{a:!(Addr×Obj)}{Z:St}{H:Hp}{s:KC}(I:Inv X a Z H s):interactive X.env=Qa:=by simp[interactive,I.ok.kind]
abbrev Ap(te:TE):TS:=λD Z H=>te Z H λ_ a=>D.nx Z a
def yI(c:PE X e te)(hs:Nl e P8 pos.line X.env=pure Qa:=by rfl):PS X (.Expr e pos) (Ap te):=by
 intro d s Z H D I h;show wpAny_Expr_any (thn (c d s Z H _ I h) λv i ⟨x,a,f,j,g⟩=>⟨Z,a,f,g⟩) I.quiet hs
abbrev EQ(te:TE):TS:=λD Z H=>te Z H D.rt
def BZ(c:PE X e te):PS X (.Return (P9 e) pos) (EQ te):=by
 intro d s Z H D I h;show wpAny_Return_some (thn (c d s Z H _ I h) λv j ⟨x,a,f,g,i⟩=>⟨x,Z,a,f,g,i⟩)
abbrev EJ(c:TT)(t u:TS):TS:=λD Z H=>c Z H λb a=>if b=Qb then t D Z a else u D Z a
def D7{c:Expr}{a b:!Stmt}{g:TT}(m:PT X c g)(o:PSs X a t)(p:PSs X b u):PS X (.If c a b pos) (EJ g t u):=by
 intro f s Z H D I h;show wpAny_If (thn (m f s Z H _ I h) λd j ⟨i,k,l⟩=>?_);cases d with
 | true=>show o f j Z i D k l
 | false=>show p f j Z i D k l
abbrev Cw:TS:=λ_ _ _=>False
def vX:PS X st Cw:=λ_ _ _ _ _ _ h=>h.elim
end
protected def TG:=V->St->Hp->(St->Hp->Prop)->Prop
protected def TGs:=!V->St->Hp->(St->Hp->Prop)->Prop
abbrev PG(X:Cx)(a:Expr)(t:TG):Prop:=
 ∀(d:!(Addr×Obj)) (s:KC) (Z:St) (H:Hp) (v:V) (u:KA) (Q:St->Hp->Prop),Inv X d Z H s->RelV v u->t v Z H Q ->
  KI (KO X.prog X.w) X.A (L9 a X.env u) (λ_ f=>∃e c,Inv X d e c f/\Q e c) X.xe s
abbrev PGs(X:Cx)(ts:!Expr)(t:TGs):Prop:=
 ∀(c:!(Addr×Obj)) (s:KC) (Z:St) (H:Hp) (vs:!V) (d:!KA) (Q:St->Hp->Prop),Inv X c Z H s->Vals vs d->t vs Z H Q ->
  KI (KO X.prog X.w) X.A (N1 ((LC ts X.env).map (·.2)) d) (λ_ f=>∃e a,Inv X c e a f/\Q e a) X.xe s
protected def Ax:=V->V->V->Hp->(Hp->Prop)->Prop
abbrev C9(X:Cx)(t:Ax):Prop:=
 ∀(a:!(Addr×Obj)) (s:KC) (Z:St) (H:Hp) (o i v:V) (d c u:KA) (Q:Hp->Prop),Inv X a Z H s->RelV o d->RelV i c->RelV v u->t o i v H Q ->
  KI (KO X.prog X.w) X.A (Nv d c u) (λ_ f=>∃e,Inv X a Z e f/\Q e) X.xe s
section
variable {X:Cx}{pos:Pos}
abbrev my(i:Nat):TG:=λv Z H Q=>Q (Z.set i (P9 v)) H
def yw{i:Nat}{x:Str}(c:X.N.Nodup)(f:X.N[i]?*>x)(d:Loc X.env.scope x)(e:X.fn x=Qb\/X.env.scope.names.lookup x*>.local:=by first|show .inl rfl|show .inr rfl|assumption):PG X (.Name x pos) (my i):=by
 intro g s Z H v u Q I r h;show Og (ji I c f d r (λj a=>{_,H,a,h}) e)
abbrev AQ:TGs:=λvs Z H Q=>vs=[]/\Q Z H
abbrev uH(t:TG)(u:TGs):TGs:=λvs Z H Q=>∃v r,vs=v::r/\t v Z H λc a=>u r c a Q
def yx:PGs X [] AQ:=by
 intro a s Z H vs c Q I r h;obtain⟨e,h⟩:=h;subst e;cases r;show Oh ⟨Z,H,I,h⟩
def vD{e:Expr}{a:!Expr}{t:TG}{u:TGs}(d:PG X e t)(i:PGs X a u)
  (hs:(LC (e::a) X.env).map (·.2)=L9 e X.env::(LC a X.env).map (·.2):=by rfl):PGs X (e::a) (uH t u):=by
 intro c s Z H vs p Q I r h;obtain⟨v,vr,f,h⟩:=h;subst f;cases r with
 | cons r m=>
  rw[hs];show MQ (thn (d c s Z H _ _ _ I r h) λ_ k ⟨g,j,l,o⟩=>?_);show i c k g j _ _ Q l m o
abbrev xT(K:yF)(n:Nat)(t:TGs):TG:=λv Z H Q=>∃a c,v=.ref a/\SqT K H a c/\c.length=n/\t c Z H Q
def BQ{c:!Expr}{k:Nat}{t:TGs}{n:Nat}(m:X.calm=Qb)(h:PGs X c t)
  (p:(LC c X.env).length=n:=by rfl) (f:(LC c X.env).findIdx? (·.1)=P8:=by rfl):PG X (.Tuple c k pos) (xT X.K n t):=by
 intro g s Z H v u Q I r d;obtain⟨a,w,x,A,q,d⟩:=d;subst x;cases r;obtain⟨z,j,C,E⟩:=I.tuple A;show assign_Tuple_tuple (I.ok.hd m) C (by simp[p,<-q,j.length]) f λy l=>?_;have B:Inv X g Z H {s with heap:=y}:=I.kept (t':=s.toks) λb o e=>l b o (Ga (KM e)) e;show h g _ Z H w _ Q B (by exists j) d
abbrev Dp(d e:TE)(t:Ax):TG:=λv Z H Q=>d Z H λo a=>e Z a λi f=>t o i v f λc=>Q Z c
def BP{o i:Expr}{f g:TE}{t:Ax}(ho:PE X o f)(k:PE X i g)(hs:C9 X t)
  (A:∀v,L9 (.Subscript o i pos) X.env v=(do
   let a <-LO [v] (eval o X.env)
   let c <-LO [v,a] (eval i X.env)
   Mb pos
   LO [v,a,c] (Nv a c v)
   Pv [v,a,c] []):=by intro _;rfl):PG X (.Subscript o i pos) (Dp f g t):=by
 intro e s Z H v u Q I r h;rw[A];show Kz (Lz (thn (ho e s Z H _ I h) λa J d=>?_));have(x,l,p,B,K):=d;show Kz (Lz (thn (k e J Z l _ p K) λc m d=>?_));have(y,E,q,j,C):=d;show Kz (LD (Kz (Lz (thn (hs e m Z E x y v a c u _ q B j r C) λ_ L ⟨w,G,z⟩=>?_))));show wpAny_release ⟨Z,w,G,z⟩
abbrev zz(c:TE)(g:TG):TS:=λD Z H=>c Z H λx a=>g x Z a D.nx
def BW{a e:Expr}{d:TE}{g:TG}(k:PE X e d)(p:PG X a g)(hs:Nf [a] e pos.line X.env=pure Qa:=by rfl)(l:Ng [a] e X.env=pure P8:=by rfl)
  (f:(LC [a] X.env).map (·.2)=[L9 a X.env]:=by rfl):PS X (.Assign [a] e pos) (zz d g):=by
 intro c s Z H D I h;show wpAny_Assign_stores (thn (k c s Z H _ I h) λv m ⟨x,j,o,i,r⟩=>?_) hs l;rw[f];show thn (p c m Z j x v _ o i r) λ_ t q=>q
def B1{i:Nat}{x:Str}{e:Expr}{c:TE}{a:Pos}(f:X.N.Nodup)(l:X.N[i]?*>x)(g:Loc X.env.scope x)(p:PE X e c)(hs:Nl e (P9 (.Name x a)) pos.line X.env=pure Qa:=by rfl)(k:X.fn x=Qb\/X.env.scope.names.lookup x*>.local:=by first|show .inl rfl|show .inr rfl|assumption) :
  PS X (.Assign [.Name x a] e pos) (zz c (my i)):=by
 intro j s Z H D I h;show wpAny_Assign_Name (thn (p j s Z H _ I h) λv t ⟨y,o,q,m,r⟩=>?_) hs;show ji q f l g m (λu d=>{_,o,d,r}) k
abbrev EO(i j:Nat)(c:TA):TS:=λD Z H=>c Z H λvs a=>∃v w,vs=[v,w]/\D.nx ((Z.set i (P9 v)).set j (P9 w)) a
def BY{i j:Nat}{x y:Str}{a b:Expr}{K:TA}{t m pt:Pos}{kt k2 pt2}(hc:X.calm=Qb)(E:X.N.Nodup)(P:X.N[i]?*>x)(O:X.N[j]?*>y)(l:i≠j)
  (z:X.env.scope.names.lookup x*>.local) (M:X.env.scope.names.lookup y*>.local) (ha:PA X [a,b] K)
  (hw:Ng [.Tuple [.Name x t,.Name y m] kt pt] (.Tuple [a,b] k2 pt2) X.env=pure (P9 [x,y]))
  (hs:Nf [.Tuple [.Name x t,.Name y m] kt pt] (.Tuple [a,b] k2 pt2) pos.line X.env=pure Qa:=by rfl) :
  PS X (.Assign [.Tuple [.Name x t,.Name y m] kt pt] (.Tuple [a,b] k2 pt2) pos) (EO i j K):=by
 intro G s Z H D I h;rw[exec_Assign_arm];show Kz (LD ?_);rw[hs];show Kz (KD ?_);rw[if_neg (by decide)];show Kz (Tuple_ (thn (ha _ G s Z H _ I h) λU g Q=>?_));have(vs,C,Y,r1,u):=Q;obtain⟨v,w,S,u⟩:=u;subst S;obtain⟨f,d,rfl,rv,r⟩:∃f d,U=[f,d]/\RelV v f/\RelV w d:=by
  cases r1 with
  | cons p q=>
   cases q with
   | cons p' q'=>
    cases q';show{_,_,Xr,p,p'}
 show KU ?_ (by change 2<=sizeLine;decide);have I2:Inv X G Z C {g with heap:=g.heap.push {cls:=.type "tuple",data:=.seq [f,d].toArray}}:=Y.kept (t':=g.toks) λb o e=>KB _ e;rw[hw];show Kz (KD ?_);change KI (KO X.prog X.w) X.A (do rule "assign.swapped-stores";let c <-unpackItems (.ref g.heap.objs.size) 2 P8;N1 [λv=>OW X.env y v,λv=>OW X.env x v] c.reverse;pure P5) _ _ _;show Kz (MR (Kz (unpackItems_tuple (items:=#[f,d]) (I.ok.hd hc) (Pn.new g.heap _) λB k=>?_)));have I3:=I2.kept (h':=B) (t':=g.toks) λb o e=>k b o (Ga (KM e)) e;change KI _ _ (N1 [λv=>OW X.env y v,λv=>OW X.env x v] [d,f] >>= λ_=>pure P5) _ _ _;show Kz (MQ (OX (ji I3 E O (.inl M) r (λs2 I4=>?_) (.inr M))));show MQ (OX (ji I4 E P (.inl z) rv (λs3 J=>Oh (KD ?_)) (.inr z)));rw[List.set_comm _ _ (K3 l)]at J;show{_,C,J,u}
end
section
variable {X:Cx}{pos:Pos}
abbrev xf(c:TT)(g:TS):TS:=λD Z H=>∃W:Nat->St->Hp->Prop,(∃m,W m Z H)/\∀m Z H,W m Z H ->
 c Z H λb a=>if b=Qb then∃N:St->Hp->Prop,(∀e d,N e d->∃f,f<m/\W f e d)/\g {D with nx:=N,ct:=N,bk:=D.nx} Z a else D.nx Z a
def vY{c:Expr}{a:!Stmt}{t:TT}{G:TS}(u:Mo (KO X.prog X.w) X.A X.env X.xe)(O:PT X c t)(P:PSs X a G):PS X (.While c a [] pos) (xf t G):=by
 intro o s Z H D I h;obtain⟨W,⟨S,J⟩,d⟩:=h;show wpAny_While (codeAny_whileLoop (λn K=>∃z y,Inv X o z y K/\W n z y) ?_ S ⟨Z,H,I,J⟩);rintro n Q ⟨i,x,M,w1⟩;show LM u (thn (O o Q i x _ M (d n i x w1)) λb L ⟨E,B,k⟩=>?_);cases b with
 | true=>
  obtain⟨N,C,k⟩:=k;rw[if_pos rfl];show LM u (thn (P o L i E _ B k) λf U j=>?_);cases f with
  | next=>
   have(e,g,q,r):=j;have(p,m,l):=C e g r;show⟨p,m,e,g,q,l⟩
  | cont=>
   have(e,g,q,r):=j;have(p,m,l):=C e g r;show⟨p,m,e,g,q,l⟩
  | brk=>show j
  | ret v=>show j
 | false=>
  rw[if_neg FZ];show Mz ⟨i,E,B,k⟩
end
structure It where
 go:Nat->Hp->Prop
 yld:Nat->Hp->V->Hp->Prop
 stop:Nat->Hp->Prop
abbrev dW(X:Cx)(a:!(Addr×Obj))(H:Hp)(b:Addr):Prop:=
 H b=P8/\b≠X.env.locals/\b∉X.fs/\(b∈X.ex\/X.s₀.heap.objs.size<=b)/\(∀x c,X.env.cells.lookup x*>c->c≠b)/\∀p∈X.pn++a,p.1≠b
def Inv.fpOk{X:Cx}{d:!(Addr×Obj)}{Z:St}{H H':Hp}{s:KC}{b:Addr}(I:Inv X d Z H s)(a:s.heap.objs.size<=b)(f:H' b=P8):dW X d H' b:=by
 show{f,Hy (F7 I.lt a),I.nofs a,.inr (Gj I.sz a),λx c e z=>?_,λp g z=>?_}
 .have(v,q):=I.cell x c e;show absurd (F7 q.lt (by rw[z];show a)) (GU _)
 .show absurd (F7 (KM (I.pin p g).1) (by rw[z];show a)) (GU _)
structure Ko(P:KP)(w:K2)(K:yF)(tg:Expr)(J:It)(fp:!Addr)(it:Addr)(tn:Nat->Heap->Prop):Prop where
 mem:it∈fp
 obj:∀i h,tn i h->∀b∈fp,∃o,h.get? b*>o/\∀v,o.data ≠ .cell v
 keep:∀i h h',tn i h->(∀b∈fp,∀o,h.get? b*>o->h'.get? b*>o)->tn i h'
 item:∀(X:Cx),X.prog=P->X.w=w->X.K=K->X.calm=Qb->∀(i:Nat) (OK:!(Addr×Obj)) (s:KC) (Z:St) (H:Hp) (E:KA->KC->Prop),Inv X OK Z H s->(∀b∈fp,dW X OK H b)->tn i s.heap->J.go i H ->
  KI (KO P w) X.A (Mp (.ref it)) (λr s1=>∃u,r*>u /\
   KI (KO P w) X.A (Lw tg (.ref it) u) (λ_ s2=>∃x H',Inv X OK Z H' s2/\RelV x u/\J.yld i H x H'/\tn (i+1) s2.heap/\∀b∈fp,H' b=P8) E s1) E s
 done:∀(X:Cx),X.prog=P->X.w=w->X.K=K->X.calm=Qb->∀(i:Nat) (OK:!(Addr×Obj)) (s:KC) (Z:St) (H:Hp) (E:KA->KC->Prop),Inv X OK Z H s->(∀b∈fp,dW X OK H b)->tn i s.heap->J.stop i H ->
  KI (KO P w) X.A (Mp (.ref it)) (λr s1=>r=P8/\Inv X OK Z H s1) E s
 self:∀(A:Li) (i:Nat) (s:KC) (Q:KA->KC->Prop) (E:KA->KC->Prop),tn i s.heap->Q (.ref it) s->KI (KO P w) A (NO (.ref it)) Q E s
protected def TI:=St->Hp->(It->Hp->Prop)->Prop
abbrev PIE(X:Cx)(d:!(Addr×Obj))(Z:St)(h:Expr)(R:It->Hp->Prop)(c:KA)(e:KC):Prop:=
 ∃(it:Addr) (f:!Addr) (g:Nat->Heap->Prop) (J:It) (a:Hp),c=.ref it/\Inv X d Z a e/\Ko X.prog X.w X.K h J f it g/\g 0 e.heap/\(∀b∈f,dW X d a b)/\R J a
abbrev PI(X:Cx)(c iter:Expr)(e:TI):Prop:=
 ∀(a:!(Addr×Obj)) (s:KC) (Z:St) (H:Hp) (R:It->Hp->Prop),Inv X a Z H s->e Z H R ->
  KI (KO X.prog X.w) X.A (eval iter X.env) (λv d=>KI (KO X.prog X.w) X.A (NO v) (PIE X a Z c R) X.xe d) X.xe s
def oS{M:Model}{A:Li}{E:KA->KC->Prop}{s:KC}{c:Expr}{it:Addr}{u:KA}{o:Obj}{n:String}{vs:Array KA}{Q:Unit->KC->Prop}(ho:s.heap.get? it*>o)(d:o.cls=.type n)(e:o.data=.fields vs)
  (f:["enumerate","zip","dict_itemiterator","dict_reverseitemiterator","odict_iterator","itertools.zip_longest","itertools.pairwise"].contains n=Qa) (a:Q () s):KI M A (Lw c (.ref it) u) Q E s:=by
 unfold Lw;cases c<;>first
  | show KD a
  | (cases u<;>first
    | show KD a
    | (refine Kz (wpAny_load ho ?_)
       rw[d,e];change KI M A (if(["enumerate","zip","dict_itemiterator","dict_reverseitemiterator","odict_iterator","itertools.zip_longest","itertools.pairwise"].contains n&&vs[0]? == P9 (Mq _))=Qb then _ else _) Q E s;rw[if_neg (by intro h;rw[f,Jz]at h;cases h)];show KD a))
abbrev Itl(K:yF) (a:Addr):It:=
 {λi H=>∃c x,SqL K H a c/\c[i]?*>x,λi H x d=>d=H/\∀c,SqL K H a c->c[i]?*>x,λi H=>∃c,SqL K H a c/\c.length<=i}
abbrev Itt(K:yF) (a:Addr):It:=
 {λi H=>∃c x,SqT K H a c/\c[i]?*>x,λi H x d=>d=H/\∀c,SqT K H a c->c[i]?*>x,λi H=>∃c,SqT K H a c/\c.length<=i}
abbrev Itr(lo:Int) (n:Nat):It:={λi _=>i<n,λi H x a=>a=H/\x=.int (lo+i),λi _=>n<=i}
def ua{P:KP}{w:K2}{K:yF}{tg:Expr}(a it:Addr):Ko P w K tg (Itl K a) [it] it (λi h=>h.IsListIter it a i) where
 mem:=by simp
 obj:=λi h st b hb=>by
  have e:b=it:=by exists hb
  subst e;have(o,e,c,d):=st;show{o,e,λv z=>by rw[d]at z;cases z}
 keep:=λi h h' st k=>st.at λo e=>k it ∅ o e
 item:=by
  intro X hP hw hK hc i OK s Z H E I hf st hg;subst hP hw hK;have(xs,x,hq,hx):=hg;have(its,rv,p,hz):=I.list hq;have(u,hu,ru):=rv.get hx;have(f0,f1,f2,f3,f4,f5):=hf it ∅;show wpAny_pyNext_list_item st p.isList (x:=u) (by exists hu) λh' st' sb=>?_;have I1:Inv X OK Z H {s with heap:=h'}:=I.turned (t':=s.toks) (λb o hb e=>(sb.2 b hb).trans e) f0 f1 f3 f4 f5;have(o,e,c,d):=id st';show{u,Xr,oS (s:={s with heap:=h'}) e c d (by decide) {x,H,I1,ru,{Xr,λys hy=>by rw[I.list_inj hy hq];show hx},st',λb hb=>(hf b hb).1}}
 done:=by
  intro X hP hw hK hc i OK s Z H E I hf st hg;subst hP hw hK;have(xs,hq,hx):=hg;have(its,rv,p,hz):=I.list hq;have(f0,f1,f2,f3,f4,f5):=hf it ∅;have hl:=rv.length;show wpAny_pyNext_list_end (I.ok.hd hc) st p.isList (by simp;lia) λh' eb=>{Xr,I.turned (t':=s.toks) (λb o hb e=>eb b o hb e) f0 f1 f3 f4 f5}
 self:=λ_ _ _ _ _ st h=>wpAny_pyIter_listiter st h
def qV{P:KP}{w:K2}{K:yF}{tg:Expr}(a it:Addr):Ko P w K tg (Itt K a) [it] it (λi h=>h.IsTupleIter it a i) where
 mem:=by simp
 obj:=λi h st b hb=>by
  have e:b=it:=by exists hb
  subst e;have(o,e,c,d):=st;show{o,e,λv z=>by rw[d]at z;cases z}
 keep:=λi h h' st k=>st.at λo e=>k it ∅ o e
 item:=by
  intro X hP hw hK hc i OK s Z H E I hf st hg;subst hP hw hK;have(xs,x,hq,hx):=hg;have(its,rv,p,hz):=I.tuple hq;have(u,hu,ru):=rv.get hx;have(f0,f1,f2,f3,f4,f5):=hf it ∅;show wpAny_pyNext_tuple_item st (show s.heap.IsTuple a its.toArray from p) (x:=u) (by exists hu) λh' st' sb=>?_;have I1:Inv X OK Z H {s with heap:=h'}:=I.turned (t':=s.toks) (λb o hb e=>(sb.2 b hb).trans e) f0 f1 f3 f4 f5;have(o,e,c,d):=id st';show{u,Xr,oS (s:={s with heap:=h'}) e c d (by decide) {x,H,I1,ru,{Xr,λys hy=>by rw[I.tuple_inj hy hq];show hx},st',λb hb=>(hf b hb).1}}
 done:=by
  intro X hP hw hK hc i OK s Z H E I hf st hg;subst hP hw hK;have(xs,hq,hx):=hg;have(its,rv,p,hz):=I.tuple hq;have(f0,f1,f2,f3,f4,f5):=hf it ∅;have hl:=rv.length;show wpAny_pyNext_tuple_end (I.ok.hd hc) st (show s.heap.IsTuple a its.toArray from p) (by simp;lia) λh' eb=>{Xr,I.turned (t':=s.toks) (λb o hb e=>eb b o hb e) f0 f1 f3 f4 f5}
 self:=λ_ _ _ _ _ st h=>wpAny_pyIter_tupleiter st h
def qU{P:KP}{w:K2}{K:yF}{tg:Expr}(it:Addr)(lo:Int)(n:Nat):Ko P w K tg (Itr lo n) [it] it (λi h=>IsRangeIter h it (lo+(i:Nat)*1) ((n:Int)-(i:Nat)) 1) where
 mem:=by simp
 obj:=λi h st b hb=>by
  have e:b=it:=by exists hb
  subst e;show{_,st,λv z=>by
   have z':PJ _=Data.cell v:=z;cases z'}
 keep:=λi h h' st k=>k it ∅ _ st
 item:=by
  intro X hP hw hK hc i OK s Z H E I hf st hg;subst hP hw hK;have(f0,f1,f2,f3,f4,f5):=hf it ∅;have W:=PY.range (prog:=X.prog) (w:=X.w) (I.ok.hd hc) it lo 1 n;show W.item i s _ _ hg st λv h' tk hv st' kk=>?_;have(t,rfl):=hv;have I1:Inv X OK Z H {s with heap:=h',toks:=tk}:=I.turned (λb o hb e=>kk b o (by exists hb) e) f0 f1 f3 f4 f5;show{_,Xr,oS (s:={s with heap:=h',toks:=tk}) (n:="range_iterator") st' rfl rfl (by decide) {.int (lo+i),H,I1,{t,?_},⟨Xr,Xr⟩,st',λb hb=>(hf b hb).1}};rw[Int.mul_one]
 done:=by
  intro X hP hw hK hc i OK s Z H E I hf st hg;subst hP hw hK;have(f0,f1,f2,f3,f4,f5):=hf it ∅;show wpAny_pyNext_range_end (I.ok.hd hc) st (by have:n<=i:=hg;lia) λh' eb=>{Xr,I.turned (t':=s.toks) (λb o hb e=>eb b o hb e) f0 f1 f3 f4 f5}
 self:=λ_ _ _ _ _ st h=>wpAny_pyIter_rangeiter st h
section
variable {X:Cx}{tg:Expr}
abbrev rA(K:yF)(e:TE):TI:=λZ H R=>e Z H λx c=>∃a,x=.ref a/\(∃d,SqL K c a d)/\R (Itl K a) c
abbrev xX(K:yF)(e:TE):TI:=λZ H R=>e Z H λx c=>∃a,x=.ref a/\(∃d,SqT K c a d)/\R (Itt K a) c
def yA{l:Expr}{f:TE}(i:PE X l f):PI X tg l (rA X.K f):=by
 intro g s Z H R I h;show thn (i g s Z H _ I h) λv c j=>?_;have(x,r,d,k,w):=j;obtain⟨a,e,⟨y,u⟩,q⟩:=w;subst e;cases k;have(t,A,p,z):=d.list u;show M9 p.isList ?_;show{c.heap.objs.size,[c.heap.objs.size],_,_,r,Xr,d.kept (t':=c.toks) λb o e=>KB _ e,ua a _,{_,KN _ rfl,Xr,Xr},λb m=>?_,q};have e:b=c.heap.objs.size:=by exists m
 subst e;show d.fpOk (FV _) (d.hok.fresh (FV _))
def BU{l:Expr}{g:TE}(j:PE X l g):PI X tg l (xX X.K g):=by
 intro i s Z H R I h;show thn (j i s Z H _ I h) λv c k=>?_;have(x,t,d,m,w):=k;obtain⟨a,e,⟨y,u⟩,q⟩:=w;subst e;cases m;have(f,A,p,z):=d.tuple u;show LZ (show c.heap.IsTuple a f.toArray from p) ?_;show{c.heap.objs.size,[c.heap.objs.size],_,_,t,Xr,d.kept (t':=c.toks) λb o e=>KB _ e,qV a _,{_,KN _ rfl,Xr,Xr},λb r=>?_,q};have e:b=c.heap.objs.size:=by exists r
 subst e;show d.fpOk (FV _) (d.hok.fresh (FV _))
def wx{d:!(Addr×Obj)}{Z:St}{H:Hp}{s:KC}{R:It->Hp->Prop}{E:KA->KC->Prop}{lo a:Int}{t u v:Tok}{f:Nat}(I:Inv X d Z H s)(j : -(2^62)<=lo)(m:lo<2^62)(h : -(2^62)<=a)(i:a<2^62)
  (q:R (Itr lo (a-lo).toNat) H):KI (KO X.prog X.w) X.A (NO (.ref s.heap.objs.size)) (PIE X d Z tg R) E {s with heap:=s.heap.push {cls:=.type "range",data:=.fields #[.int lo t,.int a u,.int 1 v]},toks:=f}:=by
 show wpAny_pyIter_range (IsRange.new ..) (small_one j m h i) ?_;have g:Inv X d Z H {s with heap:=s.heap.push {cls:=.type "range",data:=.fields #[.int lo t,.int a u,.int 1 v]},toks:=f}:=I.kept λb o e=>KB _ e;show{(s.heap.push {cls:=.type "range",data:=.fields #[.int lo t,.int a u,.int 1 v]}).objs.size,[(s.heap.push {cls:=.type "range",data:=.fields #[.int lo t,.int a u,.int 1 v]}).objs.size],_,_,H,Xr,
  g.kept (t':=f) λb o e=>KB _ e,qU _ lo (a-lo).toNat,?_,λb l=>?_,q}
 .have k:lo+((0:Nat):Int)*1=lo:=by simp
  have p:(((a-lo).toNat:Nat):Int)-((0:Nat):Int)=Po lo a 1:=by rw[rangeSize_one];split<;>lia
  change IsRangeIter _ _ (lo+((0:Nat):Int)*1) ((((a-lo).toNat:Nat):Int)-((0:Nat):Int)) 1;rw[k,p];show KN _ rfl
 .have e:b=(s.heap.push {cls:=.type "range",data:=.fields #[.int lo t,.int a u,.int 1 v]}).objs.size:=by exists l
  subst e;show g.fpOk (FV _) (g.hok.fresh (FV _))
abbrev zT(c:TA):TI:=λZ H R=>c Z H λvs a=>∃j:Int,vs=[.int j]/\-(2^62)<=j/\j<2^62/\R (Itr 0 j.toNat) a
def tq{a:Expr}{d:TA}{p pos:Pos}(u:Gl X "range")(f:X.mg "range" = P8)(i:PA X [a] d)(hs:KT [a] X.env=[(Qa,eval a X.env)]:=by rfl):PI X tg (.Call (.Name "range" p) [a] [] pos) (zT d):=by
 intro g s Z H R I h;show PZ (gz I u f boot_range (GB (thn (i pos g s Z H _ I h) λx w ⟨vs,v,m,k,c⟩=>?_) hs rfl));obtain⟨j,e,c,l,q⟩:=c;subst e;cases k with
 | cons r o=>
  cases o;obtain⟨t,rfl⟩:=r;show call_range_1 (wx m (by lia) (by lia) c l (by exists q))
abbrev EI(k:TI)(g:TG)(h:TS):TS:=λD Z H=>k Z H λJ f=>∃W:Nat->Nat->St->Hp->Prop,(∃m,W 0 m Z f)/\∀i m Z H,W i m Z H ->
 (J.stop i H/\D.nx Z H)\/(J.go i H/\∃N:St->Hp->Prop,(∀d a,N d a->∃c,c<m/\W (i+1) c d a)/\∀x a,J.yld i H x a->g x Z a λj e=>h {D with nx:=N,ct:=N,bk:=D.nx} j e)
abbrev cQ(a:!Addr) (h:Heap):!(Addr×Obj):=a.filterMap λb=>(h.get? b).map λo=>(b,o)
def iH{a:!Addr}{h:Heap}{b:Addr}{o:Obj}(c:b∈a)(e:h.get? b*>o):(b,o)∈cQ a h:=Gp.mpr {b,c,by rw[e];rfl}
def mS{a:!Addr}{h:Heap}{p:Addr×Obj}(c:p∈cQ a h):p.1∈a/\h.get? p.1*>p.2:=by
 have(b,d,e):=Gp.mp c;cases q:h.get? b with
 | none=>rw[q]at e;cases e
 | some o=>
  rw[q]at e;have f:(b,o)=p:=F9.inj e;subst f;show⟨d,q⟩
def Inv.pinned{a:!(Addr×Obj)}{Z:St}{H:Hp}{s:KC}{c:!Addr}(I:Inv X a Z H s)(i:∀b∈c,dW X a H b)(ho:∀b∈c,∃o,s.heap.get? b*>o/\∀v,o.data ≠ .cell v):Inv X (a++cQ c s.heap) Z H s:=
 I.pins_of λp l=>(yaM l).elim (λz=>I.pin p (yaR _ z)) λz=>by
  have(f,e):=mS z;have(h,k,j,_):=i p.1 f;have(o,g,d):=ho p.1 f;rw[e]at g;cases g;show⟨e,h,k,j,d⟩
def Inv.unpinned{a d:!(Addr×Obj)}{Z:St}{H:Hp}{s:KC}(I:Inv X (a++d) Z H s):Inv X a Z H s:=I.pins_of λp c=>I.pin p (yaR _ (yaL _ c))
def BX{iter:Expr}{q:!Stmt}{wi:TI}{g:TG}{tb:TS}{pos:Pos}(L:Mo (KO X.prog X.w) X.A X.env X.xe)(hc:X.calm=Qb)(hi:PI X tg iter wi)(hg:PG X tg g)(k:PSs X q tb)
  (hs:∀x,K8 iter X.env x=pure x:=by intro _;rfl):PS X (.For tg iter q [] pos) (EI wi g tb):=by
 intro z s Z H D I h;show wpAny_For (thn (hi z s Z H _ I h) λv s1 h1=>thn h1 λitv s2 h2=>?_) hs;obtain⟨it,C,tn,J,H2,e,I2,T,st2,f2,W,⟨m0,w0⟩,B⟩:=h2;subst e;have a:∀{p:Hp},(∀b∈C,p b=P8)->∀b∈C,dW X z p b:=λhn b k=>{hn b k,(f2 b k).2};show codeAny_forLoop_any (λn s'=>∃i M p,Inv X z M p s'/\tn i s'.heap/\(∀b∈C,p b=P8)/\W i n M p) ?_ m0 {0,Z,H2,I2,st2,λb k=>(f2 b k).1,w0};rintro n s3 ⟨i,O,Q,I3,P,E,w3⟩;rcases B i n O Q w3 with⟨G,qn⟩|⟨go,N,hN,step⟩
 .show LM L (thn (T.done X rfl rfl rfl hc i z s3 O Q X.xe I3 (a E) P G) λr s4 ⟨S,I4⟩=>?_);subst S;show Mz ⟨O,Q,I4,qn⟩
 .show LM L (thn (T.item X rfl rfl rfl hc i z s3 O Q X.xe I3 (a E) P go) λr s4 ⟨u,S,h4⟩=>?_);subst S;show LM L (thn h4 λ_ s5 z9=>?_);have(x,H5,I5,r5,y5,y,U):=z9;have Y:=I5.pinned (a U) (T.obj _ _ y);show LM L (thn (hg _ s5 O H5 x u _ Y r5 (step x H5 y5)) λ_ s6 ⟨Z6,H6,I6,q6⟩=>?_);show LM L (thn (k _ s6 Z6 H6 _ I6 q6) λf s7 t=>?_);have again:∀{c:St} {j:Hp},Inv X (z++cQ C s5.heap) c j s7->N c j->∃m,m<n/\∃i M p,Inv X z M p s7/\tn i s7.heap/\(∀b∈C,p b=P8)/\W i m M p:=λ{c j} l K=>by
   have(m',hm,w7):=hN c j K;show{m',hm,i+1,c,j,l.unpinned,T.keep _ _ _ y λb k o e=>(l.pin (b,o) (yaR _ (yaR _ (iH k e)))).1,λb k=>?_,w7};have(o,e,d):=T.obj _ _ y b k;show(l.pin (b,o) (yaR _ (yaR _ (iH k e)))).2.1
  cases f with
  | next=>have(c,j,l,K):=t;show again l K
  | cont=>have(c,j,l,K):=t;show again l K
  | brk=>obtain⟨c,j,l,t⟩:=t;show⟨c,j,l.unpinned,t⟩
  | ret v=>obtain⟨x7,c,j,l,r7,t⟩:=t;show⟨x7,c,j,l.unpinned,r7,t⟩
end
protected def R2:=V->V->Hp->VK->Prop
abbrev OpR(X:Cx)(f:KA->KA->Sem KA)(r:R2):Prop:=
 ∀(a:!(Addr×Obj)) (s:KC) (Z:St) (H:Hp) (x y:V) (v u:KA) (Q:VK),Inv X a Z H s->RelV x v->RelV y u->r x y H Q ->
  KI (KO X.prog X.w) X.A (f v u) (EP X a Z Q) X.xe s
abbrev UnR(X:Cx)(f:KA->Sem KA)(r:V->Hp->VK->Prop):Prop:=
 ∀(a:!(Addr×Obj)) (s:KC) (Z:St) (H:Hp) (x:V) (v:KA) (Q:VK),Inv X a Z H s->RelV x v->r x H Q ->
  KI (KO X.prog X.w) X.A (f v) (EP X a Z Q) X.xe s
abbrev HE(X:Cx)(f:KA)(r:!V->Hp->VK->Prop):Prop:=
 ∀(a:!(Addr×Obj)) (s:KC) (Z:St) (H:Hp) (c:!V) (d:!KA) (Q:VK),Inv X a Z H s->Vals c d->r c H Q ->
  KI (KO X.prog X.w) X.A (call f d) (EP X a Z Q) X.xe s
abbrev Fg(X:Cx)(r:V->Hp->(Bool->Hp->Prop)->Prop):Prop:=
 ∀(a:!(Addr×Obj)) (s:KC) (Z:St) (H:Hp) (x:V) (v:KA) (Q:Bool->Hp->Prop),Inv X a Z H s->RelV x v->r x H Q ->
  KI (KO X.prog X.w) X.A (OV v) (TP X a Z Q) X.xe s
abbrev tOp(r:R2)(d c:TE):TE:=λZ H Q=>d Z H λx a=>c Z a λy e=>r x y e Q
abbrev tUn(r:V->Hp->VK->Prop)(c:TE):TE:=λZ H Q=>c Z H λx a=>r x a Q
abbrev rI(C:Int->Int->Prop)(g:Int->Int->V):R2:=λx y H Q=>∃i j,x=.int i/\y=.int j/\C i j/\Q (g i j) H
abbrev rI0(g:Int->Int->V):R2:=λx y H Q=>∃i j,x=.int i/\y=.int j/\Q (g i j) H
abbrev rU(g:Int->V):V->Hp->VK->Prop:=λx H Q=>∃i,x=.int i/\Q (g i) H
section
variable {X:Cx}{a b c:Expr}{ta tb tc:TE}{pos:Pos}
def AB(q:PE X a ta)(z:PE X b tb){i:!(Addr×Obj)}{s:KC}{Z:St}{H:Hp}{R:V->V->Hp->Prop}(I:Inv X i Z H s)
  (h:ta Z H λx l=>tb Z l λy d=>R x y d) {Q:KA->KC->Prop} {f:KA->KA->Sem KA}
  (p:∀v u j x y d,Inv X i Z d j->RelV x v->RelV y u->R x y d->KI (KO X.prog X.w) X.A (f v u) Q X.xe j) :
  KI (KO X.prog X.w) X.A (eval a X.env) (λv g=>KI (KO X.prog X.w) X.A (eval b X.env) (λu e=>KI (KO X.prog X.w) X.A (f v u) Q X.xe e) X.xe g) X.xe s:=by
 show thn (q i s Z H _ I h) λv B k=>?_;have(x,l,C,r,E):=k;show thn (z i B Z l _ C E) λu j k=>?_;have(y,d,m,o,t):=k;show p v u j x y d m r o t
def D5{d:Operator}{r:R2}(ho:OpR X (Lo d) r)(i:PE X a ta)(k:PE X b tb):PE X (.BinOp a d b pos) (tOp r ta tb):=by
 intro g s Z H Q I h;show wpAny_BinOp (AB i k I h λv u m x y l e j f q=>ho g m Z l x y v u Q e j f q)
def Ab{d:UnaryOp}{r:V->Hp->VK->Prop}(ho:UnR X (unaryOp d) r)(j:PE X a ta):PE X (.UnaryOp d a pos) (tUn r ta):=by
 intro e s Z H Q I h;show UnaryOp_ (thn (j e s Z H _ I h) λv g ⟨x,f,i,k,l⟩=>ho e g Z f x v Q i k l)
def opI{f:KA->KA->Sem KA}{C:Int->Int->Prop}{g:Int->Int->Int}
  (rule:∀(i j:Int) (t u:Tok) (s:KC) (Q:KA->KC->Prop) (E:KA->KC->Prop),C i j->Q (.int (g i j) s.toks) {s with toks:=s.toks+1}->KI (KO X.prog X.w) X.A (f (.int i t) (.int j u)) Q E s) :
  OpR X f (rI C λi j=>.int (g i j)):=by
 intro o s Z H x y v u Q I l e h;have(i,j,rfl,rfl,k,q):=h;have(t,rfl):=l;have(m,rfl):=e;show rule i j t m s _ _ k {.int (g i j),H,I.tok _,{_,Xr},q}
def DC{f:KA->KA->Sem KA}{g:Int->Int->Int}
  (rule:∀(i j:Int) (t u:Tok) (s:KC) (Q:KA->KC->Prop) (E:KA->KC->Prop),Q (.int (g i j) s.toks) {s with toks:=s.toks+1}->KI (KO X.prog X.w) X.A (f (.int i t) (.int j u)) Q E s) :
  OpR X f (rI0 λi j=>.int (g i j)):=by
 intro m s Z H x y v u Q I k e h;have(i,j,rfl,rfl,q):=h;have(t,rfl):=k;have(l,rfl):=e;show rule i j t l s _ _ {.int (g i j),H,I.tok _,{_,Xr},q}
def yj{f:KA->KA->Sem KA}{g:Int->Int->Bool}
  (rule:∀(i j:Int) (t u:Tok) (s:KC) (Q:KA->KC->Prop) (E:KA->KC->Prop),Q (.bool (g i j)) s->KI (KO X.prog X.w) X.A (f (.int i t) (.int j u)) Q E s) :
  OpR X f (rI0 λi j=>.bl (g i j)):=by
 intro l s Z H x y v u Q I e d h;have(i,j,rfl,rfl,q):=h;have(t,rfl):=e;have(k,rfl):=d;show rule i j t k s _ _ {.bl (g i j),H,I,Xr,q}
abbrev Fe(i j:Int):Prop:=0<j/\j<1073741824
abbrev Av(i j:Int):Prop:=0<=j/\j<=1000000/\i.natAbs<2^64
abbrev Kv(i j:Int):Prop:=(-(2^64)<i/\i<2^64)\/(-(2^64)<j/\j<2^64)
def Kv.ok{i j:Int}(h:Kv i j):IntMulOk i j:=by
 rcases h with⟨d,e⟩|⟨d,e⟩;show .of_left (intBits_le_64 d e);show .of_right (intBits_le_64 d e)
def op_add:OpR X (Lo .Add) (rI0 λi j=>.int (i+j)):=DC λ_ _ _ _ _ _ _ q=>add_int q
def Bs:OpR X (Lo .Sub) (rI0 λi j=>.int (i-j)):=DC λ_ _ _ _ _ _ _ q=>sub_int q
def op_mul:OpR X (Lo .Mult) (rI Kv λi j=>.int (i*j)):=opI λ_ _ _ _ _ _ _ d q=>mul_int q d.ok
def op_fdiv:OpR X (Lo .FloorDiv) (rI Fe λi j=>.int (i / j)):=opI λi j _ _ _ _ _ d q=>by
 have e:(0:Int)<j:=d.1;have f:j<1073741824:=d.2;show floordiv_int (by lia) (by rw[Ie i (by lia)];show q) (.inl (PyProof.noPylong_small (by lia)))
def Bn:OpR X (Lo .Mod) (rI (λ_ j=>0<j) λi j=>.int (i % j)):=opI λi j _ _ _ _ _ d q=>by
 have e:(0:Int)<j:=d;show mod_int' (by lia) (by rw[Int.fmod_eq_emod_of_nonneg i (by lia)];show q)
def Br:OpR X (Lo .Pow) (rI Av λi j=>.int (i^j.toNat)):=opI λ_ _ _ _ _ _ _ d q=>pow_int_small d.1 d.2.1 d.2.2 q
def unI{f:KA->Sem KA}{g:Int->Int}
  (rule:∀(i:Int) (t:Tok) (s:KC) (Q:KA->KC->Prop) (E:KA->KC->Prop),Q (.int (g i) s.toks) {s with toks:=s.toks+1}->KI (KO X.prog X.w) X.A (f (.int i t)) Q E s) :
  UnR X f (rU λi=>.int (g i)):=by
 intro j s Z H x v Q I e h;have(i,rfl,q):=h;have(t,rfl):=e;show rule i t s _ _ {.int (g i),H,I.tok _,{_,Xr},q}
def xl:UnR X (unaryOp .USub) (rU λi=>.int (-i)):=unI λ_ _ _ _ _ q=>neg_int q
end
abbrev wR:V->V->Bool
 | .non,.non=>Qb|.non,.int _=>Qb|.int _,.non=>Qb|.non,.bl _=>Qb|.bl _,.non=>Qb|.non,.str _=>Qb|.str _,.non=>Qb
 | .int _,.int _=>Qb|.bl _,.bl _=>Qb|.str _,.str _=>Qb|.byt _,.byt _=>Qb
 | .int _,.str _=>Qb|.str _,.int _=>Qb|.bl _,.str _=>Qb|.str _,.bl _=>Qb
 | _,_=>Qa
abbrev rEq:R2:=λx y H Q=>wR x y=Qb/\Q (.bl (decide (x=y))) H
abbrev rNe:R2:=λx y H Q=>wR x y=Qb/\Q (.bl (~~~decide (x=y))) H
def rl{i j:Int}:decide (V.int i=V.int j)=(i==j):=by
 rw[GI];simp
def uy{i j:Bool}:decide (V.bl i=V.bl j)=(i==j):=by
 rw[GI];simp
def rm{i j:Str}:decide (V.str i=V.str j)=(i==j):=by
 rw[GI];simp
def rk{i j:Array UInt8}:decide (V.byt i=V.byt j)=(i.toList==j.toList):=by
 rw[GI];cases i;cases j;simp
section
variable {X:Cx}{a b c:Expr}{ta tb tc:TE}{pos:Pos}
def aO{f:!(Addr×Obj)}{Z:St}{H:Hp}{s:KC}{Q:VK}{k d:Bool}(I:Inv X f Z H s)(q:Q (.bl k) H)(e:k=d):EP X f Z Q (.bool d) s:=by
 subst e;show{.bl k,H,I,Xr,q}
def op_eq:OpR X (K7 .Eq) rEq:=by
 intro k s Z H x y v u Q I g d h;have(f,q):=h;cases x with
 | non=>
  cases g;cases y with
  | non=>cases d;show PySem.EqNone.eq_none_none (aO I q ∅)
  | bl j=>cases d;show PySem.EqNone.eq_none_bool (aO I q ∅)
  | int j=>have(e,rfl):=d;show PySem.EqNone.eq_none_int (aO I q ∅)
  | str j=>have(e,rfl):=d;show PySem.EqNone.eq_none_str (aO I q ∅)
  | _=>show absurd (show Qa=Qb from f) FZ
 | bl i=>
  cases g;cases y with
  | non=>cases d;show PySem.EqNone.eq_bool_none (aO I q ∅)
  | bl j=>cases d;show eq_bool (aO I q uy)
  | str j=>have(e,rfl):=d;show PySem.EqMixed.eq_bool_str (aO I q ∅)
  | _=>show absurd (show Qa=Qb from f) FZ
 | int i=>
  have(t,rfl):=g;cases y with
  | non=>cases d;show PySem.EqNone.eq_int_none (aO I q ∅)
  | int j=>have(e,rfl):=d;show eq_int (aO I q rl)
  | str j=>have(e,rfl):=d;show PySem.EqMixed.eq_int_str (aO I q ∅)
  | _=>show absurd (show Qa=Qb from f) FZ
 | str i=>
  have(t,rfl):=g;cases y with
  | non=>cases d;show PySem.EqNone.eq_str_none (aO I q ∅)
  | bl j=>cases d;show PySem.EqMixed.eq_str_bool (aO I q ∅)
  | int j=>have(e,rfl):=d;show PySem.EqMixed.eq_str_int (aO I q ∅)
  | str j=>have(e,rfl):=d;show eq_str (aO I q rm)
  | _=>show absurd (show Qa=Qb from f) FZ
 | byt i=>
  have(t,rfl):=g;cases y with
  | byt j=>have(e,rfl):=d;show PySem.W.eq_bytes (aO I q rk)
  | _=>show absurd (show Qa=Qb from f) FZ
 | _=>cases y<;>show absurd (show Qa=Qb from f) FZ
def op_ne:OpR X (K7 .NotEq) rNe:=by
 intro k s Z H x y v u Q I g d h;have(f,q):=h;cases x with
 | non=>
  cases g;cases y with
  | non=>cases d;show PySem.EqNone.ne_none_none (aO I q ∅)
  | bl j=>cases d;show PySem.EqNone.ne_none_bool (aO I q ∅)
  | int j=>have(e,rfl):=d;show PySem.EqNone.ne_none_int (aO I q ∅)
  | str j=>have(e,rfl):=d;show PySem.EqNone.ne_none_str (aO I q ∅)
  | _=>show absurd (show Qa=Qb from f) FZ
 | bl i=>
  cases g;cases y with
  | non=>cases d;show PySem.EqNone.ne_bool_none (aO I q ∅)
  | bl j=>cases d;show ne_bool (aO I q (congrArg not uy))
  | str j=>have(e,rfl):=d;show PySem.EqMixed.ne_bool_str (aO I q ∅)
  | _=>show absurd (show Qa=Qb from f) FZ
 | int i=>
  have(t,rfl):=g;cases y with
  | non=>cases d;show PySem.EqNone.ne_int_none (aO I q ∅)
  | int j=>have(e,rfl):=d;show ne_int (aO I q (congrArg not rl))
  | str j=>have(e,rfl):=d;show PySem.EqMixed.ne_int_str (aO I q ∅)
  | _=>show absurd (show Qa=Qb from f) FZ
 | str i=>
  have(t,rfl):=g;cases y with
  | non=>cases d;show PySem.EqNone.ne_str_none (aO I q ∅)
  | bl j=>cases d;show PySem.EqMixed.ne_str_bool (aO I q ∅)
  | int j=>have(e,rfl):=d;show PySem.EqMixed.ne_str_int (aO I q ∅)
  | str j=>have(e,rfl):=d;show ne_str (aO I q (congrArg not rm))
  | _=>show absurd (show Qa=Qb from f) FZ
 | byt i=>
  have(t,rfl):=g;cases y with
  | byt j=>have(e,rfl):=d;show PySem.W.ne_bytes (aO I q (congrArg not rk))
  | _=>show absurd (show Qa=Qb from f) FZ
 | _=>cases y<;>show absurd (show Qa=Qb from f) FZ
def DG:OpR X (K7 .Lt) (rI0 λi j=>.bl (decide (i<j))):=yj λ_ _ _ _ _ _ _ q=>lt_int q
def DF:OpR X (K7 .LtE) (rI0 λi j=>.bl (decide (i<=j))):=yj λ_ _ _ _ _ _ _ q=>le_int q
def DE:OpR X (K7 .Gt) (rI0 λi j=>.bl (decide (j<i))):=yj λ_ _ _ _ _ _ _ q=>gt_int q
def DD:OpR X (K7 .GtE) (rI0 λi j=>.bl (decide (j<=i))):=yj λ_ _ _ _ _ _ _ q=>ge_int q
def op_in_str:OpR X (K7 .In) (λx y H Q=>∃i j,x=.str i/\y=.str j/\Q (.bl (~~~(K0 j i 0 j.length 1).isEmpty)) H):=by
 intro f s Z H x y v u Q I e d h;have(i,j,rfl,rfl,q):=h;have(t,rfl):=e;have(g,rfl):=d;show in_str (aO I q rfl)
def Bm:OpR X (K7 .Is) (λx y H Q=>y=.non/\Q (.bl (decide (x=.non))) H):=by
 intro f s Z H x y v u Q I d e h;have(rfl,q):=h;cases e;show is_none_gen (aO I q ?_);cases x<;>first
  | (cases d;rfl)
  | (have(t,rfl):=d;rfl)
def OpR.or{f:KA->KA->Sem KA}{r r':R2}(h:OpR X f r)(h':OpR X f r'):OpR X f (λx y H Q=>r x y H Q\/r' x y H Q):=by
 intro e s Z H x y v u Q I g d q;rcases q with q|q;show h e s Z H x y v u Q I g d q;show h' e s Z H x y v u Q I g d q
def bI(b:Expr){d:OD}(h:d ≠ .In:=by decide)(g:d ≠ .NotIn:=by decide):L7 d b=Qa:=by
 have f:(d==OD.In)=Qa:=by cases d<;>first|rfl|show absurd rfl h
 have e:(d==OD.NotIn)=Qa:=by cases d<;>first|rfl|show absurd rfl g
 cases b<;>simp[L7,f,e]
def yr{d:OD}{r:R2}(ho:OpR X (K7 d) r)(j:PE X a ta)(l:PE X b tb)(g:L7 d b=Qa):PE X (.Compare a [d] [b] pos) (tOp r ta tb):=by
 intro i s Z H Q I h;show wpAny_Compare1 (AB j l I h λv u o x y m e k f q=>ho i o Z m x y v u Q e k f q) g
abbrev xc(t:TE):TT:=λZ H Q=>t Z H λx d=>∃k,x=.bl k/\Q k d
def yL{d:OD}{r:R2}(ho:OpR X (K7 d) r)(o:PE X a ta)(t:PE X b tb)(j:L7 d b=Qa):PT X (.Compare a [d] [b] pos) (xc (tOp r ta tb)):=by
 intro f s Z H Q I h;show NH (thn (o f s Z H _ I h) λv G ⟨x,A,J,p,K⟩=>thn (t f G Z A _ J K) λu C ⟨y,w,g,m,q⟩=>
  thn (ho f C Z w x y v u _ g p m q) λc L ⟨z,i,B,E,k,e,l⟩=>?_) j
 subst e;cases E;show Ll ⟨i,B,l⟩
abbrev w8(r r':R2)(ta tb tc:TE):TE:=λZ H Q=>ta Z H λx e=>tb Z e λy h=>r x y h λz d=>∃k,z=.bl k /\
 (if k=Qb then tc Z d λf g=>r' y f g Q else Q (.bl Qa) d)
def wa{i f:OD}{r r':R2}(ho:OpR X (K7 i) r)(j:OpR X (K7 f) r')(Y:PE X a ta)(hb:PE X b tb)(U:PE X c tc)
  (S:lastMarks [i,f] [b,c]=Qa:=by unhygienic rfl):PT X (.Compare a [i,f] [b,c] pos) (xc (w8 r r' ta tb tc)):=by
 intro g s Z H Q I h;show isTrue_chain (thn (Y g s Z H _ I h) λv s1 ⟨x,G,N,r1,q1⟩=>test_link (thn (hb g s1 Z G _ N q1) λu L ⟨y,H2,P,l,q2⟩=>
  thn (ho g L Z H2 x y v u _ P r1 l q2) λd w ⟨z,m,p,M,k,e,o⟩=>?_)) S
 subst e;cases M;show Ll ?_;cases k with
 | false=>
  have(k',e',q'):=o;cases e';show ite_ff ⟨m,p,q'⟩
 | true=>
  show ite_tt (test_last (thn (U g w Z m _ p o) λJ t ⟨E,H4,O,r4,A⟩=>thn (j g t Z H4 y E u J _ O l r4 A) λd' s5 C=>?_));have(z2,q,I5,r5,k2,K,B):=C;subst K;cases r5;show Ll ⟨q,I5,B⟩
abbrev xH(K:yF)(x:V)(H:Hp)(k:Bool):Prop:=
 match x with
 | .non=>k=Qa
 | .bl b=>k=b
 | .int i=>k=(i != 0)
 | .str y=>y.length<=sizeLine/\k=((y.length:Int) != 0)
 | .byt y=>y.size<=sizeLine/\k=((y.size:Int) != 0)
 | .ref p=>(∃d,SqL K H p d/\k =  ~~~d.isEmpty)\/(∃d,SqT K H p d/\k =  ~~~d.isEmpty) \/ ∃e,H p*>(.dK e)/\k =  ~~~e.isEmpty
 | _=>False
def pW{e : Type}{d:!(e×V)}{vs:!(e×KA)}(r:KV d vs):(~~~vs.isEmpty) =  ~~~d.isEmpty:=by
 cases r<;>rfl
def lc{xs:!V}{d:!KA}(r:Vals xs d):(~~~d.toArray.isEmpty) =  ~~~xs.isEmpty:=by
 cases r<;>simp
def iF:(sizeLine:Nat)<2^63:=by rw[KG];decide
def Cz:Fg X (λx H Q=>∃k,xH X.K x H k/\Q k H):=by
 intro G s Z H x v Q I l h;have(k,e,q):=h;have J:=iF;have E:sizeLine=16777216:=KG;cases x with
 | non=>
  cases l;have d:k=Qa:=e;subst d;show truthy_none ⟨H,I,q⟩
 | bl b=>
  cases l;have d:k=b:=e;subst d;show Ll ⟨H,I,q⟩
 | int i=>
  have(t,rfl):=l;have d:k=(i != 0):=e;subst d;show PySem.P.truthy_int ⟨H,I,q⟩
 | str y=>
  have(t,rfl):=l;obtain⟨C,d⟩:y.length<=sizeLine/\k=((y.length:Int) != 0):=e;subst d;show PySem.P.truthy_str (by lia) {H,I.tok _,q}
 | byt y=>
  have(t,rfl):=l;obtain⟨C,d⟩:y.size<=sizeLine/\k=((y.size:Int) != 0):=e;subst d;show PySem.W.truthy_bytes (by lia) {H,I.tok _,q}
 | ref p=>
  cases l;have d:(∃j,SqL X.K H p j/\k =  ~~~j.isEmpty)\/(∃j,SqT X.K H p j/\k =  ~~~j.isEmpty) \/ ∃f,H p*>(.dK f)/\k =  ~~~f.isEmpty:=e;rcases d with⟨j,o,d⟩|⟨j,o,d⟩|⟨f,o,d⟩
  .subst d;have(z,r,u,A):=I.list o;have g:=r.length;show wpAny_truthy_list u.isList (by dsimp[FN];lia) {H,I.tok _,by rw[lc r];show q}
  .subst d;have(z,r,u,A):=I.tuple o;have g:=r.length;show truthy_tuple u (by dsimp[FN];lia) {H,I.tok _,by rw[lc r];show q}
  .subst d;obtain⟨A,B,vs,r,m⟩:f.length<=sizeLine/\(p==MN)=Qa/\∃vs,KV f vs/\s.heap.DictOf (bX X.prog X.w) p vs:=I.hok p _ o;have g:f.length=vs.length:=Paired.length r;show wpAny_truthy_dict B m (by lia) {H,I.tok _,by rw[pW r];show q}
 | _=>show(show False from e).elim
def wb(f:PE X a ta)(j:∀d,NN a X.env d=(do let v <-d;Mb a.pos;LO [v] (OV v))) :
  PT X a (λZ H Q=>ta Z H λx H'=>∃k,xH X.K x H' k/\Q k H'):=by
 intro e s Z H Q I h;show isTrue_plain (thn (f e s Z H _ I h) λv l ⟨x,i,m,g,o⟩=>Cz e l Z i x v Q m g o) (j _)
def op_add_str:OpR X (Lo .Add) (λx y H Q=>∃i j,x=.str i/\y=.str j/\i.length+j.length<=sizeLine/\Q (.str (i++j)) H):=by
 intro k s Z H x y v u Q I f d h;have(i,j,rfl,rfl,e,q):=h;have(t,rfl):=f;have(g,rfl):=d;show add_str (λg l=>{.str (i++j),H,I.tok _,{_,Xr},q}) e
def dm{x:V}{d:!KA}(r:Vals [x] d):∃u,d=[u]/\RelV x u:=by
 cases r with
 | cons f e=>cases e;show{_,Xr,f}
def pG{x y:V}{e:!KA}(r:Vals [x,y] e):∃u d,e=[u,d]/\RelV x u/\RelV y d:=by
 cases r with
 | cons i h=>
  cases h with
  | cons g f=>cases f;show{_,_,Xr,i,g}
def sA(e:X.calm=Qb):HE X (.builtin "max") (λxs H Q=>∃i j,xs=[.int i,.int j]/\Q (.int (if j>i then j else i)) H):=by
 intro f s Z H xs p Q I r h;have(i,j,rfl,q):=h;obtain⟨u,m,rfl,⟨t,rfl⟩,⟨o,rfl⟩⟩:=pG r;show max_two_ints (I.ok.hd e) λg l k=>{_,H,I.kept k,?_,q};by_cases d:j>i;rw[if_pos d,if_pos d];show{_,Xr};rw[if_neg d,if_neg d];show{_,Xr}
def sB(e:X.calm=Qb):HE X (.builtin "min") (λxs H Q=>∃i j,xs=[.int i,.int j]/\Q (.int (if j<i then j else i)) H):=by
 intro f s Z H xs p Q I r h;have(i,j,rfl,q):=h;obtain⟨u,m,rfl,⟨t,rfl⟩,⟨o,rfl⟩⟩:=pG r;show min_two_ints (I.ok.hd e) λg l k=>{_,H,I.kept k,?_,q};by_cases d:j<i;rw[if_pos d,if_pos d];show{_,Xr};rw[if_neg d,if_neg d];show{_,Xr}
def sv:HE X (.type "int") (λxs H Q=>(∃i,xs=[.int i]/\Q (.int i) H) \/ ∃k,xs=[.bl k]/\Q (.int (if k then 1 else 0)) H):=by
 intro e s Z H xs f Q I r h;rcases h with⟨i,rfl,q⟩|⟨k,rfl,q⟩
 .have(u,rfl,t,rfl):=dm r;show call_int_int {.int i,H,I,{_,Xr},q}
 .have(u,rfl,d):=dm r;cases d;show call_int_bool {.int (if k then 1 else 0),H,I.tok _,{_,Xr},q}
end
structure ObjM(h:Heap)(x dx C:Addr)(mA:Str->↑KA):Prop where
 obj:h.get? x*>(Jr C dx)
 ns:h.Ns1 dx mA
 ne:dx≠x
structure Cls(K:yF)(C:Addr):Prop where
 pg:PySem.W.plainGet K C Mc=Qb
 hd:PySem.W.hasDictIn K C=Qb
 po:PySem.W.plainOver K C=Qb
 sa:Ig K (.ref C) "__setattr__" = P9 (P9 (.builtin "object.__setattr__"))
structure Con(K:yF)(C:Addr)(f:Str)(v:V)(u:KA):Prop where
 at_:Ig K (.ref C) f*>(P9 u)
 rel:RelV v u
 get:Jd K u "__get__" = P9 P8
 cp:PySem.W.copiedNames.contains f=Qa
structure Meth(K:yF)(C:Addr)(m:Str)(f:Addr):Prop where
 at_:Ig K (.ref C) m*>(P9 (.ref f))
 fn:JI K (.ref f)=Qb
 kp:GY K (.ref f)=Qb
section
variable {X:Cx}{OK:!(Addr×Obj)}{Z:St}{H:Hp}{s:KC}{A:Li}{E:KA->KC->Prop}{Q:KA->KC->Prop}{c:KA}{b:Bool}
inductive Kl(K:yF) (H:Hp):V->KA->Prop where
 | non:Kl K H .non (.type "NoneType")
 | bl (x:Bool):Kl K H (.bl x) (.type "bool")
 | int (i:Int):Kl K H (.int i) (.type "int")
 | str (x:Str):Kl K H (.str x) (.type "str")
 | flt (x:UInt64):Kl K H (.flt x) (.type "float")
 | lst {a:Addr} {xs:!V} (e:H a*>(.lst xs)):Kl K H (.ref a) (.type "list")
 | frz {a:Addr} {o:Obj} {xs:!V} (e:H a*>(.frz o (.lst xs))):Kl K H (.ref a) (.type "list")
 | tup {a:Addr} {xs:!V} (e:H a*>(.tup xs)):Kl K H (.ref a) (.type "tuple")
 | dK {a:Addr} {kvs:!(Key×V)} (e:H a*>(.dK kvs)):Kl K H (.ref a) (.type "dict")
 | dT {a:Addr} {kvs:!(!K1×Addr×V)} (e:H a*>(.dT kvs)):Kl K H (.ref a) (.type "dict")
 | ins {a C dx:Addr} {fs:!(Str×V)} (e:H a*>(.ins C dx fs)) (cl:Cls K C) (ha:Ig K (.ref C) "__class__" = P9 (P9 (.builtin "object.__class__")))
   (hn:Jd K (.builtin "object.__class__") "__get__" = P9 (P9 (.builtin "getset_descriptor.__get__"))) (htk:PySem.W.takesIn K (.builtin "object.__class__")*>Qb)
   (hm:PySem.W.mroIn K C (.type "object")*>Qb):Kl K H (.ref a) (.ref C)
end
structure Ka(k:Nat)(A:Li):Prop where
 hd:A.handled=P8
 gd:A.guards=P9 []
 dp:A.depth+3*k+5<OY
 un:A.units+16*k+200<LF
def Ka.mono{j k:Nat}{A:Li}(r:Ka k A)(h:j<=k):Ka j A:={r.hd,r.gd,by have:=r.dp;lia,by have:=r.un;lia}
def Ka.deeper{k:Nat}{A:Li}(r:Ka (k+1) A)(env:Env):Ka k (A.deeper env):=
 {r.hd,r.gd,by have:=r.dp;change A.depth+1+3*k+5<_;lia,by have:=r.un;change A.units+3+16*k+200<_;lia}
def Ka.depth{k:Nat}{A:Li}(r:Ka k A):A.depth<OY:=by have:=r.dp;lia
def Ka.units{k:Nat}{A:Li}(r:Ka k A):A.units+64<LF:=by have:=r.un;lia
abbrev EL:TA:=λ_ H Q=>Q [] H
abbrev rZ(d:TE)(e:TA):TA:=λZ H Q=>d Z H λx a=>e Z a λc f=>Q (x::c) f
section
variable {X:Cx}{e:Expr}{es:!Expr}{te:TE}{t:TA}{pos:Pos}
def nT:PA X [] EL:=λ_ _ _ _ H Q I h=>Calls.spliced_nil {[],H,I,.nil,h}
def yp(g:PE X e te)(q:PA X es t)(hs:KT (e::es) X.env=(Qa,eval e X.env)::KT es X.env:=by rfl):PA X (e::es) (rZ te t):=by
 intro pos a s Z H Q I h;rw[hs];change KI _ _ (spliced ((Qa,eval e X.env)::Mk pos (KT es X.env))) _ _ s;show Calls.spliced_cons (thn (g a s Z H _ I h) λu o i=>?_);have(x,m,p,j,r):=i;show thn (q pos a o Z m _ p r) λw v ⟨d,l,c,f,k⟩=>⟨x::d,l,c,.cons j f,k⟩
abbrev ET(t:TA):TE:=λZ H Q=>t Z H λc a=>c.length<=sizeLine/\∀p,a p=P8->Q (.ref p) (upd a p (.tup c))
abbrev EK(t:TA):TE:=λZ H Q=>t Z H λc a=>c.length<=sizeLine/\∀p,a p=P8->Q (.ref p) (upd a p (.lst c))
def vA{x1}(h:PA X es t):PE X (.Tuple es x1 pos) (ET t):=by
 intro f s Z H Q I j;show wpAny_Tuple_spliced (thn (h pos f s Z H _ I j) λk a ⟨g,c,d,r,z,q⟩=>{by rw[<-r.length];show z,?_});have i:c a.heap.objs.size=P8:=d.hok.fresh (FV _);show{.ref a.heap.objs.size,upd c a.heap.objs.size (.tup g),d.laid (t':=a.toks) (λb u e=>KB _ e) (FV _) ?_,Xr,q _ i};show{z,k,r,{_,KN _ rfl,⟨Xr,Xr⟩,_,Xr}}
def BL(h:PA X es t):PE X (.List es pos) (EK t):=by
 intro f s Z H Q I j;show wpAny_List_spliced (thn (h pos f s Z H _ I j) λk a ⟨g,c,d,r,z,q⟩=>{by rw[<-r.length];show z,?_});have i:c a.heap.objs.size=P8:=d.hok.fresh (FV _);show{.ref a.heap.objs.size,upd c a.heap.objs.size (.lst g),d.laid (t':=a.toks) (λb u e=>KB _ e) (FV _) ?_,Xr,q _ i};show{z,k,0,r,KN _ rfl}
end
protected def Sp:=!V->Hp->VK->XK->Prop
protected def CXT:=!Env->Hp->KC->XK->KA->KC->Prop
structure Kx(P:KP)(w:K2)(K:yF)(mg:Str->↑KA)(base:Heap)(A:Li)(outer:!Env)(s:KC)(H:Hp):Prop where
 frames:A.frames*>outer
 mod:Mod K mg base
 bs:∀b o,base.get? b*>o->s.heap.get? b*>o/\H b=P8
 bsz:base.objs.size<=s.heap.objs.size
 funs:s.heap.FunFrames base outer
 frf:∀b∈frs outer,H b=P8
 hok:HOk P w H s.heap
 bare:M8 s.gens
abbrev CE(a:!Env)(P:KP)(w:K2)(H:Hp)(s:KC)(Q:VK)(u:KA)(c:KC):Prop:=
 ∃v d,c.os=s.os/\M8 c.gens/\Un (frs a) [] H d s.heap c.heap/\HOk P w d c.heap/\RelV v u/\Q v d
abbrev CR(d:CXT)(a:!Env)(P:KP)(w:K2)(H:Hp)(s:KC)(Q:VK)(E:XK)(r:Pw)(c:KC):Prop:=
 match r with
 | .ok (.ret u)=>CE a P w H s Q u c
 | .ok _=>False
 | .error e=>d a H s E e c
structure Ks(P:KP)(w:K2)(K:yF)(mg:Str->↑KA)(base:Heap)(CX:CXT)(k:Nat)(f:Addr)(fd:LS)(ps:!Str)(sp:Sp):Prop where
 len:∀vs H Q E,sp vs H Q E->vs.length=ps.length
 run:∀(A:Li) (outer:!Env) (s:KC) (H:Hp) (args:Args) (us:!KA) (vs:!V) (Q:VK) (E:XK),Ka k A->Kx P w K mg base A outer s H->NU s fd args (ps.zip us)->Vals vs us->sp vs H Q E ->
  LP (KO P w) A (.call (.ref f) args) (CR CX outer P w H s Q E) s
section
variable {X:Cx}{OK:!(Addr×Obj)}{Z:St}{H:Hp}{s s':KC}
def Inv.env0(I:Inv X OK Z H s):Kx X.prog X.w X.K X.mg X.base X.A X.stack s H:=
 {I.ok.frames,I.ok.mod,I.bs,Gj I.ok.bsz I.sz,I.stack,I.stkFree,I.hok,I.bare}
def Inv.after{Q:VK}{u:KA}(I:Inv X OK Z H s)(h:CE X.stack X.prog X.w H s Q u s'):EP X OK Z Q u s':=by
 have(v,i,os,a,f,e,r,q):=h;have(j,g,d,t,c):=s';obtain rfl:c=s.os:=os;show{v,i,I.call (h':=j) (g':=g) (d':=d) (t':=t) (ch:=[]) f e a (λb z=>absurd z ∅),r,q}
end
abbrev lK(d:Sp)(a:!V)(E:XK)(t:TA):TE:=λZ H Q=>t Z H λvs c=>d (vs++a) c Q E
abbrev Kn(K:yF)(e:LS)(c:!Str)(d:!KA):Prop:=
 ∀(s:KC) (a:!KA),K.In s.heap->(a++d).length=c.length->NU s e {a,[]} (c.zip (a++d))
def Kn.all{K:yF}{d:LS}{c:!Str}(h:∀a:!KA,a.length=c.length->OZ d {a,[]}=pure (c.zip a)):Kn K d c []:=λs a _ e=>by
 rw[Ge]at e|-;show .of_eq (h a e)
abbrev pK(d:CXT)(X:Cx)(E:XK):Prop:=∀(c:!(Addr×Obj)) (Z:St) (H:Hp) (s:KC) (e:KA) (a:KC),Inv X c Z H s->d X.stack H s E e a->X.xe e a
section
variable {X:Cx}{CX:CXT}{k:Nat}{f C:Addr}{fd:LS}{ps:!Str}{sp:Sp}{dvs:!V}{ds:!KA}{E:XK}{x m:Str}{p pos apos:Pos}{e o:Expr}{es:!Expr}{ta:TE}{t:TA}
def Ct{d:!(Addr×Obj)}{Z:St}{H:Hp}{s:KC}{Q:VK}{a:!KA}{vs:!V}(F:Ks X.prog X.w X.K X.mg X.base CX k f fd ps sp)(y:Ka k X.A)(q:Kn X.K fd ps ds)(v:Vals dvs ds)(i:pK CX X E)
  (I:Inv X d Z H s) (r:Vals vs a) (h:sp (vs++dvs) H Q E):KI (KO X.prog X.w) X.A (call (.ref f) a) (EP X d Z Q) X.xe s:=by
 have g:Vals (vs++dvs) (a++ds):=r.append v;have j:(a++ds).length=ps.length:=by rw[<-g.length];show F.len _ _ _ _ h
 show wpAny_call (Nw (F.run X.A X.stack s H {a,[]} (a++ds) (vs++dvs) Q E y I.env0 (q s a I.kIn j) g h) λr l c=>?_);cases r with
 | error e=>show i d Z H s e l I c
 | ok z=>
  cases z with
  | ret u=>show I.after c
  | next=>show LY c
  | brk=>show LY c
  | cont=>show LY c
def yq(F:Ks X.prog X.w X.K X.mg X.base CX k f fd ps sp)(z:Ka k X.A)(B:Gl X x)(g:X.mg x*>(.ref f))(G:GY X.K (.ref f)=Qb)(u:Kn X.K fd ps ds)(y:Vals dvs ds)(i:pK CX X E)
  (l:PA X (e::es) t) (c:(x==("__debug__" : Str))=Qa:=by decide) (v:KT (e::es) X.env=(Qa,eval e X.env)::KT es X.env:=by rfl) (a:(Mk pos (KT es X.env)).any (·.1)=Qa:=by rfl) :
  PE X (.Call (.Name x p) (e::es) [] pos) (lK sp dvs E t):=by
 intro j s Z H Q I h;show MU (rF I B g ?_ c);show PySem.W.callWith_K (h₀:=X.base) I.ok.mod.kin G (thn (l pos j s Z H _ I h) λM L ⟨vs,J,d,r,q⟩=>{d.kIn,?_}) v a;show Ct F z u y i d r q
end
section
variable {X:Cx}{CX:CXT}{k:Nat}{f C:Addr}{fd:LS}{ps ks:!Str}{sp:Sp}{E:XK}{x m:Str}{p pos apos kpos:Pos}{e o:Expr}{es:!Expr}{kws:!OS}{te ta:TE}{t tk:TA}{nm:↑Str}
structure KBinds(K:yF)(fd:LS)(ps ks:!Str)(g:!KA->!KA->!KA)(gV:!V->!V->!V):Prop where
 to:∀(s:KC) (us ws:!KA),K.In s.heap->(g us ws).length=ps.length->NU s fd {us,ks.zip ws} (ps.zip (g us ws))
 rel:∀{vs:!V} {us:!KA} {zs:!V} {ws:!KA},Vals vs us->Vals zs ws->Vals (gV vs zs) (g us ws)
variable {g:!KA->!KA->!KA}{gV:!V->!V->!V}
end
structure p6(N P:!Str)(sc:Mj):Prop where
 kind:sc.kind=.function
 co:sc.isCoroutine=Qa
 gen:sc.isGenerator=Qa
 nd:N.Nodup
 pre:N.take P.length=P
 par:∀x∈P,sc.names.lookup x*>.local\/sc.names.lookup x*>.cell
 nofree:∀y∈sc.names,y.2 ≠ .free
def l9{kindOf:Str->↑KR}{x:Str}:∀{a:!(Str×KA)} {m:Str->↑KA},(∀v,(x,v)∉a)->O6 kindOf a m x=m x
 | [],_,_=>rfl
 | (n,v)::r,m,h=>by
  unfold O6;rw[l9 λw c=>h w (ymC _ c)];split
  .have:x≠n:=by rintro rfl;show h v ymS
   simp[this]
  .rfl
def l7{kindOf:Str->↑KR}{x:Str}:∀{a:!(Str×KA)} {m:Str->↑KA},(∀v,(x,v)∉a)->O7 kindOf a m x=m x
 | [],_,_=>rfl
 | (n,v)::r,m,h=>by
  unfold O7;rw[l7 λw c=>h w (ymC _ c)];split;rfl
  .have:x≠n:=by rintro rfl;show h v ymS
   simp[this]
def l8{kindOf:Str->↑KR}{x:Str}{v:KA}:∀{P:!Str} {vs:!KA} {i:Nat} {m:Str->↑KA},P.Nodup->P[i]?*>x->vs[i]?*>v->kindOf x*>.local ->
  O6 kindOf (P.zip vs) m x*>v
 | [],_,_,_,_,h,_,_=>by simp at h
 | _::_,[],_,_,_,_,h,_=>by simp at h
 | p::P,w::vs,0,m,e,c,a,d=>by
  simp at c a;subst c;subst a;change O6 kindOf ((p,w)::P.zip vs) m p=_;unfold O6;rw[l9 λv f=>(Gi.mp e).1 (IH f).1,if_pos d];simp
 | p::P,w::vs,i+1,m,e,c,a,d=>by
  change O6 kindOf ((p,w)::P.zip vs) m x=_;unfold O6;show l8 (i:=i) (Gi.mp e).2 (by exists c) (by exists a) d
def l6{kindOf:Str->↑KR}{x:Str}{v:KA}:∀{P:!Str} {vs:!KA} {i:Nat} {m:Str->↑KA},P.Nodup->P[i]?*>x->vs[i]?*>v->kindOf x≠P9 .local ->
  O7 kindOf (P.zip vs) m x*>v
 | [],_,_,_,_,h,_,_=>by simp at h
 | _::_,[],_,_,_,_,h,_=>by simp at h
 | p::P,w::vs,0,m,e,c,a,d=>by
  simp at c a;subst c;subst a;change O7 kindOf ((p,w)::P.zip vs) m p=_;unfold O7;rw[l7 λv f=>(Gi.mp e).1 (IH f).1,if_neg d];simp
 | p::P,w::vs,i+1,m,e,c,a,d=>by
  change O7 kindOf ((p,w)::P.zip vs) m x=_;unfold O7;show l6 (i:=i) (Gi.mp e).2 (by exists c) (by exists a) d
abbrev bR(N:!Str) (vs:!V):St:=vs.map P9++FU (N.length-vs.length) P8
abbrev lU(CX:CXT) (P:KP) (w:K2) (K:yF) (mg:Str->↑KA) (base:Heap) (N:!Str) (qual:Str) (scope:Mj) (f:Addr) (cd:KA) (A:Li) (outer:!Env) (s:KC) (H:Hp) (E:XK):Cx where
 prog:=P
 w:=w
 K:=K
 mg:=mg
 base:=base
 A:=A.deeper (MB qual scope s.heap.objs.size f cd)
 N:=N
 s₀:=s
 H₀:=H
 env:=MB qual scope s.heap.objs.size f cd
 outer:=outer
 stack:=MB qual scope s.heap.objs.size f cd::outer
 ex:=[]
 calm:=Qb
 fn:=λ_=>Qb
 pn:=[]
 xe:=λe s'=>KI (KO P w) (A.deeper (MB qual scope s.heap.objs.size f cd)) (leaving (MB qual scope s.heap.objs.size f cd) e) (λ_ s''=>CX outer H s E e s'') (λe' s''=>CX outer H s E e' s'') s'
def oM{a:Mj}{n:Nat}{x:Str}(h:a.names.lookup x*>.cell):∃c,(Ld n a.names []).lookup x*>c:=by
 have q:=HM a.names n [] (.inl h);show HF.mp q
def sM{U:CXT}{P:KP}{w:K2}{K:yF}{O:Str->↑KA}{l:Heap}{N B:!Str}{g:Str}{scope:Mj}{f:Addr}{M:KA}{A:Li}{d:!Env}{s Z:KC}{H:Hp}{E:XK}{Q:!KA}{vs:!V}
  (S:p6 N B scope) (hd:A.handled=P8) (gd:A.guards=P9 []) (m:Kx P w K O l A d s H) (hl:vs.length=B.length) (r:Vals vs Q)
  (x:InCallC s s.heap.objs.size (O6 (MB g scope s.heap.objs.size f M).kindOf (B.zip Q) λ_=>P8) (Ld (s.heap.objs.size+1) scope.names []) (O7 (MB g scope s.heap.objs.size f M).kindOf (B.zip Q) λ_=>P8) Z) :
  Inv (lU U P w K O l N g scope f M A d s H E) [] (bR N vs) H Z:=by
 have hpl:B.length<=N.length:=by have:=congrArg HV S.pre;rw[GS]at this;lia
 have(L,tk,rfl,Y):=x.done;have o:∀b:Addr,b∉(lU U P w K O l N g scope f M A d s H E).ex:=λb z=>absurd (show b∈([]:!Addr)from z) ∅;show{{m.mod,S.kind,Xr,Xr,FV _,λy z c L j=>?_,λy t=>?_,λy c _ h=>?_,λ_=>hd,λ_=>gd,Li.frames_deeper m.frames,.inr ⟨Xr,Xr⟩,λb z=>absurd z (o b),m.bs,m.bsz,λb _ _=>o b,λb z=>absurd z (o b),m.funs,m.frf},
  rfl,m.bare,Un.kept Y,{_,x.toInCall.ns,λi y v L j h3=>?_},λy c h=>{_,x.cell y c h},m.hok.fresh (FV _),λy c h=>?_,λp C=>absurd (show p∈([]:!(Addr×Obj))from C) ∅,m.hok.kept Y,?_}
 .show name_of_addr x.apart (G7 L) (G7 j)
 .have t:scope.names.lookup y*>.cell\/scope.names.lookup y*>.free:=t;rcases t with t|t;show oM t;show absurd rfl (S.nofree _ (G7 t))
 .show Ic (x.above y c (G7 h))
 .have J:i<vs.length:=by
   unfold bR at j;by_cases J:i<vs.length;show J
   .rw[Hv (by exists J)]at j;rw[Iv]at j;split at j<;>cases j
  have ha:vs[i]?*>v:=by
   unfold bR at j;rw[GQ (by exists J),F4]at j;cases e:vs[i]? with
   | none=>rw[e]at j;cases j
   | some a=>rw[e]at j;cases j;rfl
  have(u,X,rv):=r.get ha;have C:B[i]?*>y:=by
   rw[<-S.pre,Io (by lia)];show L
  have G:B.Nodup:=by rw[<-S.pre];show S.nd.sublist (List.take_sublist _ _)
  show{u,rv,?_};rcases S.par y (ymG C)with k|k;show .inl {k,l8 G C X k}
  .have(c,e):=oM (n:=s.heap.objs.size+1) k;show .inr {.inl k,c,e,?_};have q:=x.cell y c e;rw[l6 G C X (by change scope.names.lookup y≠_;rw[k];decide)]at q;show q
 .show m.hok.fresh (Ic (x.above y c (G7 h)))
 .unfold bR;change _=N.length;rw[FQ,FM,List.length_replicate]
  lia
def Dm{X:CXT}{P:KP}{w:K2}{K:yF}{L:Str->↑KA}{h:Heap}{k:Nat}{f:Addr}{name c:Str}{g:Arguments}{i:!Stmt}{scope:Mj}{dV kV G pm d ct oc:KA}{an od:↑Addr}
  {Z:Array ↑KA} {N O:!Str} {Y:Sp} (lk:K.lookup f*>{oc,od,.func (GV name c g i scope dV kV G pm an d ct),Z}) (hcd:Hw K d c=Qb) (S:p6 N O scope)
  (B:∀vs H Q E,Y vs H Q E->vs.length=O.length)
  (l:∀(A:Li) (a:!Env) (s:KC) (H:Hp) (vs:!V) (Q:VK) (E:XK),Ka k (A.deeper (MB c scope s.heap.objs.size f d))->Y vs H Q E ->
   ∃t,PSs (lU X P w K L h N c scope f d A a s H E) i t/\t {nx:=λ_ H'=>Q .non H',rt:=Q} (bR N vs) H) :
  Ks P w K L h X (k+1) f (GV name c g i scope dV kV G pm an d ct) O Y:=by
 show{B,λA a s H args us vs Q E M p hb r z=>?_};have hl:=B _ _ _ _ z;have KX:K.In s.heap:=p.mod.kin.keeps λb o e=>(p.bs b o e).1;have lim:s.heap.NoLimit:=p.mod.nolimit.keeps λb o e=>(p.bs b o e).1;have j:∀y∈O.zip us,scope.names.lookup y.1*>.local\/(scope.names.lookup y.1*>.cell/\((Ld (s.heap.objs.size+1) scope.names []).lookup y.1).isSome=Qb):=fun⟨n,v⟩ hy=>by
  rcases S.par n (IH hy).1 with q|q;show .inl q;show .inr {q,HM _ _ _ (.inl q)}
 show codeAny_call_function M.depth (KX _ _ lk) rfl S.co S.gen rfl (PySem.W.codeRec_of KX hcd) (hb _ _ _ _ ?_);show wpAny_newFunctionEnv_cells S.kind j λenv he s1 x=>?_;subst he;show{lim.keeps x.toInCall.keep,codeAny_func ?_};have(t,ht,hq):=l A a s H vs Q E (M.deeper _) z;have I:Inv (lU X P w K L h N c scope f d A a s H E) [] (bR N vs) H s1:=sM S M.hd M.gd p hl r x;show Lb (ht [] s1 (bR N vs) H _ I hq) (λfl s' m=>?_) λe s' m=>m;have C:∀{U:St} {H':Hp} {v:V} {u:KA},Inv (lU X P w K L h N c scope f d A a s H E) [] U H' s'->RelV v u->Q v H'->CE a P w H s Q u s':=
  λ{U H' v u} J rv q=>⟨v,H',J.os,J.bare,J.base,J.hok,rv,q⟩
 cases fl with
 | ret u=>
  have(v,U,H',J,rv,q):=m;show C J rv q
 | next=>
  have(U,H',J,q):=m;show C (v:=V.non) (u:=LQ) J rfl q
 | brk=>
  have(_,_,_,q):=m;show LY q
 | cont=>
  have(_,_,_,q):=m;show LY q
section
variable {X:Cx}{x:Str}{p pos:Pos}{e:Expr}{es:!Expr}{t:TA}{id T:String}{r:!V->Hp->VK->Prop}
abbrev tCB(r:!V->Hp->VK->Prop)(t:TA):TE:=λZ H Q=>t Z H λvs a=>r vs a Q
def vq(g:HE X (.builtin id) r)(w:Gl X x)(f:X.mg x=P8)(i:Lr x*>(.builtin id))(j:PA X (e::es) t)(v:x ≠ "__name__" :=by decide)(c:(x==("__debug__" : Str))=Qa:=by decide)
  (m:KT (e::es) X.env=(Qa,eval e X.env)::KT es X.env:=by rfl) (a:(Mk pos (KT es X.env)).any (·.1)=Qa:=by rfl):PE X (.Call (.Name x p) (e::es) [] pos) (tCB r t):=by
 intro d s Z H Q I h;show MU (gz I w f i ?_ v c);show Jk (thn (j pos d s Z H _ I h) λq o ⟨vs,l,u,k,y⟩=>g d o Z l vs q Q u k y) m a
def tp(g:HE X (.type T) r)(w:Gl X x)(f:X.mg x=P8)(i:Lr x*>(.type T))(j:PA X (e::es) t)(v:x ≠ "__name__" :=by decide)(c:(x==("__debug__" : Str))=Qa:=by decide)
  (m:KT (e::es) X.env=(Qa,eval e X.env)::KT es X.env:=by rfl) (a:(Mk pos (KT es X.env)).any (·.1)=Qa:=by rfl):PE X (.Call (.Name x p) (e::es) [] pos) (tCB r t):=by
 intro d s Z H Q I h;show MU (gz I w f i ?_ v c);show GB (thn (j pos d s Z H _ I h) λq o ⟨vs,l,u,k,y⟩=>g d o Z l vs q Q u k y) m a
end
end L2
namespace HT
open PySem PyProof.Rows
section
variable {prog:KP}{w:K2}{A:Li}{E:KA->KC->Prop}{s:KC}
def cat_tup{t b:Addr}{vs ws:!KA}{Q:KA->KC->Prop}(x:Pn s.heap t vs.toArray)(z:Pn s.heap b ws.toArray)(m:vs≠[])
  (y:ws=[]->Q (.ref t) s) (B:ws≠[]->Q (.ref s.heap.objs.size) {s with heap:=s.heap.push {cls:=.type "tuple",data:=.seq (vs++ws).toArray}})
  (hsz:vs.length+ws.length<=sizeLine):KI (KO prog w) A (Lo .Add (.ref t) (.ref b)) Q E s:=by
 obtain⟨⟨k,q,d,v⟩,i,l,n,u⟩:=id x;obtain⟨⟨o,h,data2,c⟩,a,f,r,g⟩:=id z;simp only at l u f g;subst l u f g;have e:vs.toArray++ws.toArray=(vs++ws).toArray:=by simp
 by_cases j:ws=[]
 .show Oj {_,i,Xr} {_,a,Xr} Nm N3 PySem.F.slot_tuple_add PySem.F.entry_tuple_add (PySem.F.args_tuple_add_2 _ _)
   (tuple_addW1 t b vs.toArray ws.toArray n r q h v c (by exists m) (by simp[j])) {i,a,y j}
 .show Oj {_,i,Xr} {_,a,Xr} Nm N3 PySem.F.slot_tuple_add PySem.F.entry_tuple_add (PySem.F.args_tuple_add_2 _ _)
   (tuple_addW2 t b vs.toArray ws.toArray n r q h v c (by exists m) (by exists j) (by rw[FN,FN];show hsz)) {i,a,?_}
  rw[e];show B j
abbrev sIx(n d:Nat):↑Int->Nat
 | none=>d
 | some v=>if v<0 then(v+(n:Int)).toNat else min v.toNat n
def sIx_none(n d:Nat):sIx n d P8=d:=rfl
def sIx_nat(n d k:Nat):sIx n d (P9 (k:Int))=min k n:=by
 change(if(k:Int)<0 then((k:Int)+(n:Int)).toNat else min (k:Int).toNat n)=min k n;rw[if_neg (by lia),GF]
def sIx_le(n d:Nat)(c:d<=n)(o:↑Int):sIx n d o<=n:=by
 cases o with
 | none=>show c
 | some v=>
  change(if v<0 then(v+(n:Int)).toNat else min v.toNat n)<=n;by_cases a:v<0;rw[if_pos a];lia;rw[if_neg a];show Nat.min_le_right _ _
def clip_eq(v:Int)(n d:Nat):(if v<0 then max (v+(n:Int)) 0 else min v (n:Int))=((sIx n d (P9 v):Nat):Int):=by
 change(if v<0 then max (v+(n:Int)) 0 else min v (n:Int))=(((if v<0 then(v+(n:Int)).toNat else min v.toNat n):Nat):Int);by_cases a:v<0;dsimp[if_pos a];lia;dsimp[if_neg a];lia
def adjust_gen(lo a:↑Int)(n:Nat):Lp lo a 1 (n:Int)=(((sIx n 0 lo:Nat):Int),((sIx n n a:Nat):Int)):=by
 have c:¬ ((1:Int)<0):=by lia
 unfold Lp;dsimp[c,if_false];show Prod.ext ?_ ?_
 .cases lo with
  | none=>rfl
  | some v=>show clip_eq v n 0
 .cases a with
  | none=>rfl
  | some v=>show clip_eq v n n
def places_gen(i j:Nat):Lc (i:Int) (j:Int) 1=j-i:=by
 unfold Lc;have a:(1:Int)>0:=by lia
 dsimp[a,if_true,JJ];split<;>lia
def slicePart_{v:KA}{o:↑Int}{Q:↑Int->KC->Prop}(p:Nh v o)(h:Q o s):KI (KO prog w) A (OL v) Q E s:=by
 cases p with
 | none=>show MV h
 | int i t=>show slicePart_int h
def sliceApplied_gen{sl:Addr}{f e:KA}{lo d:↑Int}{n:Nat}{Q:Int×Int×Nat->KC->Prop}(hs:s.heap.IsSliceOf sl f e .none)(j:Nh f lo)(i:Nh e d)
  (h:Q (((sIx n 0 lo:Nat):Int),1,sIx n n d-sIx n 0 lo) s):KI (KO prog w) A (LJ (.ref sl) (pure (n:Int))) Q E s:=by
 have(os,a,g,c):=id hs;unfold LJ M6;show Kz (Kz (K6 a c (x:=f) rfl (Kz (K6 a c (x:=e) rfl (Kz (K6 a c (x:=.none) rfl (KD ?_)))))));show Kz (MV ?_);change KI _ _ (if((1:Int)==0)=Qb then _ else _) _ _ s;rw[if_neg (by decide)];show Kz (slicePart_ j (Kz (slicePart_ i (Kz (KD ?_)))));change KI _ _ (match Lp lo d 1 (n:Int)with|(lo,d)=>pure (lo,(1:Int),Lc lo d 1)) _ _ s;rw[adjust_gen lo d n];change KI _ _ (pure (((sIx n 0 lo:Nat):Int),(1:Int),Lc ((sIx n 0 lo:Nat):Int) ((sIx n n d:Nat):Int) 1)) _ _ s;rw[places_gen];show KD h
def pick_gen(xs:Array KA)(i k:Nat):((Gn k).filterMap λ(m:Nat)=>xs[((i:Int)+(m:Int)*1).toNat]?).toArray=((xs.toList.drop i).take k).toArray:=by
 have e:(λ(m:Nat)=>xs[((i:Int)+(m:Int)*1).toNat]?)=λm=>xs[i+m]?:=by
  funext m;have:((i:Int)+(m:Int)*1).toNat=i+m:=by lia
  rw[this]
 rw[e];have:=PK xs i k;rw[HJ]at this;have a:((λx=>xs[x]?)∘λx=>i+x)=λm=>xs[i+m]?:=rfl;rw[a]at this;rw[this]
def getItem_tuple_cut{t sl:Addr}{items:Array KA}{l k:KA}{lo c:↑Int}{Q:KA->KC->Prop}(d:Pn s.heap t items)(hs:s.heap.IsSliceOf sl l k .none)(r:Nh l lo)(o:Nh k c)
  (u:¬ (sIx items.size 0 lo=0/\sIx items.size items.size c=items.size))
  (h:Q (.ref s.heap.objs.size) {s with heap:=s.heap.push {cls:=.type "tuple",data:=.seq ((items.toList.drop (sIx items.size 0 lo)).take (sIx items.size items.size c-sIx items.size 0 lo)).toArray}})
  (hsz:items.size<=sizeLine):KI (KO prog w) A (NV (.ref t) (.ref sl)) Q E s:=by
 have a:sizeOk (.seq ((items.toList.drop (sIx items.size 0 lo)).take (sIx items.size items.size c-sIx items.size 0 lo)).toArray):=by
  change((items.toList.drop (sIx items.size 0 lo)).take (sIx items.size items.size c-sIx items.size 0 lo)).toArray.size<=sizeLine;rw[FN,GS,Hz,GE]
  lia
 have v:sIx items.size items.size c<=items.size:=sIx_le _ _ (FV _) c;have(os,f,e,p):=id hs;have g:s.TypeIs (.ref sl) "slice" :=⟨os,f,e⟩;unfold NV;try with_reducible refine Lz ?_
 first|refine Kz (KD ?_)|skip
 show Kz (Na d.typeIs (by decide) ?_);show Kz (Lh (name:=K9 "__getitem__") d.typeIs Gw
  (Ln Gw d.typeIs NX ?_ (Oa _ _)))
 change KI _ _ (MW (.ref t) >>= _) _ _ s;show Kz (N4 d ?_);show Kz (Nx g ?_);rw[if_pos (by decide)];show Kz (sliceApplied_gen hs r o ?_);have i:¬ ((((sIx items.size 0 lo:Nat):Int)==0&&(1:Int)==1&&(sIx items.size items.size c-sIx items.size 0 lo)==items.size)=Qb):=by
  intro q;rw[FO,FO]at q;have y:((sIx items.size 0 lo:Nat):Int)=0:=eq_of_beq q.1.1;have x:sIx items.size items.size c-sIx items.size 0 lo=items.size:=eq_of_beq q.2;show u {by lia,by lia}
 change KI _ _ (if(((sIx items.size 0 lo:Nat):Int)==0&&(1:Int)==1&&(sIx items.size items.size c-sIx items.size 0 lo)==items.size)=Qb then _ else _) _ _ s;rw[if_neg i,pick_gen];first
  | show Kz (m:=KW _) (KU (KD ⟨_,rfl,KD h⟩) a)
  | show Kz (m:=KW _) (KU (Kz (KD (KD ⟨_,rfl,KD h⟩))) a)
  | show Kz (Kz (m:=KW _) (KU (KD (KD ⟨_,rfl,KD h⟩)) a))
  | show Kz (Kz (m:=KW _) (KU (KD ⟨_,rfl,KD h⟩) a))
end
end HT
namespace L2
open PySem PySem.Spec PyProof.Rows
protected def TO:=St->Hp->(↑Int->Hp->Prop)->Prop
abbrev PO(X:Cx)(e:↑Expr)(t:TO):Prop:=
 ∀(c:!(Addr×Obj)) (s:KC) (Z:St) (H:Hp) (Q:↑Int->Hp->Prop),Inv X c Z H s->t Z H Q ->
  KI (KO X.prog X.w) X.A (evalPart e X.env) (λu d=>∃o a,Inv X c Z a d/\Nh u o/\Q o a) X.xe s
abbrev r6:TO:=λ_ H Q=>Q P8 H
abbrev r8(t:TE):TO:=λZ H Q=>t Z H λx a=>∃i,x=.int i/\Q (P9 i) a
section
variable {X:Cx}{e:Expr}{te:TE}{lo hi:↑Expr}{tl th:TO}{pos p2:Pos}
def yC:PO X P8 r6:=by
 intro a s Z H Q I h;rw[Ni];show KD {P8,H,I,.none,h}
def nW(h:PE X e te):PO X (P9 e) (r8 te):=by
 intro a s Z H Q I g;rw[evalPart_some];show thn (h a s Z H _ I g) λu l c=>?_;have(x,f,j,d,k):=c;have(i,rfl,q):=k;have(t,rfl):=d;show{P9 i,f,j,.int i t,q}
abbrev SlR(X:Cx)(r:V->↑Int->↑Int->Hp->VK->Prop):Prop:=
 ∀(a:!(Addr×Obj)) (s:KC) (Z:St) (H:Hp) (x:V) (v f c:KA) (lo hi:↑Int) (d:Addr) (Q:VK),Inv X a Z H s->RelV x v->s.heap.IsSliceOf d f c .none->Nh f lo->Nh c hi->r x lo hi H Q ->
  ∃T id,typeLookup (.type T) "__getitem__" = pure (P9 (.builtin id))/\s.TypeIs v T/\KI (KO X.prog X.w) X.A (NV v (.ref d)) (EP X a Z Q) X.xe s
def SlR.or{r r':V->↑Int->↑Int->Hp->VK->Prop}(h:SlR X r)(h':SlR X r'):SlR X (λx lo hi H Q=>r x lo hi H Q\/r' x lo hi H Q):=by
 intro c s Z H x v k i lo hi j Q I f a g d q;rcases q with q|q;show h c s Z H x v k i lo hi j Q I f a g d q;show h' c s Z H x v k i lo hi j Q I f a g d q
abbrev tSl(r:V->↑Int->↑Int->Hp->VK->Prop)(te:TE)(tl th:TO):TE:=λZ H Q=>te Z H λx a=>tl Z a λl d=>th Z d λu c=>r x l u c Q
def vz{r:V->↑Int->↑Int->Hp->VK->Prop}(z:SlR X r)(P:PE X e te)(G:PO X lo tl)(C:PO X hi th):PE X (.Subscript e (.Slice lo hi P8 p2) pos) (tSl r te tl th):=by
 intro d s Z H Q I h;show O8 (thn (P d s Z H _ I h) λv S i=>?_);have(x,o,t,K,Y):=i;show OE (thn (G d S Z o _ t Y) λg p ⟨l,N,E,M,L⟩=>thn (C d p Z N _ E L) λf a i=>?_);have(u,j,O,k,J):=i;rw[Ni];show KD ?_;have y:Inv X d Z j {a with heap:=a.heap.push {cls:=.type "slice",data:=.fields #[g,f,.none]}}:=O.kept (t':=a.toks) λb ob q=>KB _ q;have(T,id,m,B,U):=z d {a with heap:=a.heap.push {cls:=.type "slice",data:=.fields #[g,f,.none]}} Z j x v g f l u a.heap.objs.size Q y K (MX ..) M k J;change KI (KO X.prog X.w) X.A (N5 e (.Slice lo hi P8 p2) v (.ref a.heap.objs.size)) (EP X d Z Q) X.xe {a with heap:=a.heap.push {cls:=.type "slice",data:=.fields #[g,f,.none]}};show PL (ops:=[.ref a.heap.objs.size,v]) B m U (by unhygienic rfl)
abbrev kX(xs:!V) (lo hi:↑Int):!V:=(xs.drop (HT.sIx xs.length 0 lo)).take (HT.sIx xs.length xs.length hi-HT.sIx xs.length 0 lo)
def jY(xs:!V)(lo hi:↑Int):(kX xs lo hi).length<=xs.length:=by
 unfold kX;rw[GS,Hz]
 lia
abbrev ED(K:yF):V->↑Int->↑Int->Hp->VK->Prop:=λx lo hi H Q=>∃a c,x=.ref a/\SqT K H a c /\
 ¬ (HT.sIx c.length 0 lo=0/\HT.sIx c.length c.length hi=c.length)/\∀p,H p=P8->Q (.ref p) (upd H p (.tup (kX c lo hi)))
def sl_tup:SlR X (ED X.K):=by
 intro u s Z H x v A y lo hi z Q I m k p l h;have(a,d,rfl,j,t,q):=h;cases m;have(f,r,i,g):=I.tuple j;have c:f.toArray.size=d.length:=by rw[FN];show r.length.symm
 show{"tuple",_,Gw.lookup,i.typeIs,?_};show HT.getItem_tuple_cut i k p l (by rw[c];show t) ?_ (by rw[c];show g);rw[c];show{.ref s.heap.objs.size,_,I.laid (t':=s.toks) (o:=.tup (kX d lo hi)) (λb w q=>KB _ q) (FV _) ?_,Xr,q _ (I.hok.fresh (FV _))};show{Gj (jY d lo hi) g,_,(r.drop (HT.sIx d.length 0 lo)).take (HT.sIx d.length d.length hi-HT.sIx d.length 0 lo),J1.new _ _}
abbrev Ag(K:yF):R2:=λx y H Q=>∃a b d c,x=.ref a/\y=.ref b/\SqT K H a d/\SqT K H b c/\d≠[]/\d.length+c.length<=sizeLine /\
 (c=[]->Q (.ref a) H)/\(c≠[]->∀p,H p=P8->Q (.ref p) (upd H p (.tup (d++c))))
def Vals.nil_iff{xs:!V}{a:!KA}(r:Vals xs a):a=[]↔xs=[]:=by
 cases r with
 | nil=>simp
 | cons _ _=>simp
def yl:OpR X (Lo .Add) (Ag X.K):=by
 intro G s Z H x y v u Q I p l h;obtain⟨a,b,j,k,rfl,rfl,m,t,i,f,r,A⟩:=h;cases p;cases l;have(B,d,C,_):=I.tuple m;have(g,c,p2,_):=I.tuple t;show HT.cat_tup C p2 (λz=>i (d.nil_iff.mp z)) (λz=>{.ref a,H,I,Xr,r (c.nil_iff.mp z)}) (λz=>?_) (by rw[<-d.length,<-c.length];show f);show{.ref s.heap.objs.size,_,I.laid (t':=s.toks) (o:=.tup (j++k)) (λb E q=>KB _ q) (FV _) ?_,Xr,A (λw=>z (c.nil_iff.mpr w)) _ (I.hok.fresh (FV _))};show{by rw[FQ];show f,_,d.append c,J1.new _ _}
end
abbrev ixN(n:Nat) (i:Int):↑Nat:=if 0<=i then(if i<n then P9 i.toNat else P8)else if -(n:Int)<=i then P9 (i+n).toNat else P8
abbrev atI{a:Type} (xs:!a) (i:Int):↑a:=(ixN xs.length i).bind λj=>xs[j]?
def rE{n:Nat}{i:Int}{j:Nat}(h:ixN n i*>j):seqIndex? i n*>j/\j<n/\-(n:Int)<=i/\i<n:=by
 unfold ixN at h;by_cases c:0<=i
 .rw[if_pos c]at h;by_cases a:i<n
  .rw[if_pos a]at h;have e:i.toNat=j:=F9.inj h;show{by rw[OG c a,e],by lia,by lia,a}
  .rw[if_neg a]at h;cases h
 .rw[if_neg c]at h;by_cases a : -(n:Int)<=i
  .rw[if_pos a]at h;have e:(i+n).toNat=j:=F9.inj h;show{by rw[seqIndex_neg (by lia) a,e],by lia,a,by lia}
  .rw[if_neg a]at h;cases h
def nq{a:Type}{xs:!a}{i:Int}{v : a}(h:atI xs i*>v):∃j,seqIndex? i xs.length*>j/\xs[j]?*>v/\j<xs.length/\-(xs.length:Int)<=i/\i<xs.length:=by
 unfold atI at h;cases e:ixN xs.length i with
 | none=>rw[e]at h;cases h
 | some j=>
  rw[e]at h;have(f,g,c,d):=rE e;show⟨j,f,h,g,c,d⟩
def um{a:Type}(xs:!a)(v : a):atI (xs++[v]) (-1)*>v:=by
 have c:(xs++[v]).length=xs.length+1:=by simp
 have e:ixN (xs++[v]).length (-1)*>xs.length:=by
  unfold ixN;rw[c,if_neg (by decide),if_pos (by lia)];congr 1
  lia
 unfold atI;rw[e];change(xs++[v])[xs.length]?*>v;simp
abbrev qZ(b:Expr):Prop:=∀o i,subscripted b Qa o i=operate [o,i] (NV o i)
abbrev IxR(X:Cx)(r:R2):Prop:=
 ∀(a slice:Expr) (c:!(Addr×Obj)) (s:KC) (Z:St) (H:Hp) (x y:V) (v u:KA) (Q:VK),Inv X c Z H s->RelV x v->RelV y u->r x y H Q ->
  subscripted slice Qa v u=operate [v,u] (NV v u)->KI (KO X.prog X.w) X.A (N5 a slice v u) (EP X c Z Q) X.xe s
abbrev MtR(X:Cx)(id:String)(r:V->!V->Hp->VK->Prop):Prop:=
 ∀(a:!(Addr×Obj)) (s:KC) (Z:St) (H:Hp) (x:V) (c:!V) (v:KA) (d:!KA) (Q:VK),Inv X a Z H s->RelV x v->Vals c d->r x c H Q ->
  KI (KO X.prog X.w) X.A (call (.builtin id) (v::d)) (EP X a Z Q) X.xe s
section
variable {X:Cx}{a b:Expr}{ta tb:TE}{pos:Pos}
def IxR.or{r r':R2}(h:IxR X r)(h':IxR X r'):IxR X (λx y H Q=>r x y H Q\/r' x y H Q):=by
 intro c slice f s Z H x y v u Q I g d q e;rcases q with q|q;show h c slice f s Z H x y v u Q I g d q e;show h' c slice f s Z H x y v u Q I g d q e
def MtR.or{id:String}{r r':V->!V->Hp->VK->Prop}(h:MtR X id r)(h':MtR X id r'):MtR X id (λx xs H Q=>r x xs H Q\/r' x xs H Q):=by
 intro c s Z H x xs v d Q I e f q;rcases q with q|q;show h c s Z H x xs v d Q I e f q;show h' c s Z H x xs v d Q I e f q
def D4{r:R2}(l:IxR X r)(f:PE X a ta)(i:PE X b tb)(hs:qZ b):PE X (.Subscript a b pos) (tOp r ta tb):=by
 intro e s Z H Q I h;show O8 (AB f i I h λv u k x y j c g d q=>l a b e k Z j x y v u Q c g d q (hs _ _))
abbrev Ew(K:yF):R2:=λx y H Q=>∃p c i v,x=.ref p/\y=.int i/\SqL K H p c/\atI c i*>v/\Q v H
abbrev Ey(K:yF):R2:=λx y H Q=>∃p c i v,x=.ref p/\y=.int i/\SqT K H p c/\atI c i*>v/\Q v H
abbrev Ex:R2:=λx y H Q=>∃z i c,x=.str z/\y=.int i/\z.length<=sizeLine/\atI z.cps.toList i*>c/\Q (.str {#[c]}) H
def ix_list:IxR X (Ew X.K):=by
 intro f slice A s Z H x y v u Q I L G h o;have(p,S,i,z,rfl,rfl,P,N,q):=h;cases L;have(t,rfl):=G;have(k,r,g,U):=I.list P;have(j,d,M,h3,E,O):=nq N;have(w,m,l):=r.get M;have J:=r.length;have Y:=iF;have c:EP X A Z Q w s:=⟨z,H,I,l,q⟩;by_cases B:0<=i
 .have e:i.toNat=j:=by
   rw[OG B O]at d;show F9.inj d
  show item_listR g.isList B (by lia) (by rw[e];exists m) c o
 .have e:(i+(k.toArray.size:Int)).toNat=j:=by
   rw[seqIndex_neg (by lia) E]at d;rw[FN,<-J];show F9.inj d
  show Ny (x:=w) g.isList.typeIs Ol.lookup
   (wpAny_getItem_list_neg (Q:=λr C=>r=w/\EP X A Z Q r C) g.isList (by lia) (by rw[FN]<;>lia) (by lia) (by rw[e];exists m) ⟨Xr,c⟩) o
def ix_tup:IxR X (Ey X.K):=by
 intro c slice f s Z H x y v u Q I C m h o;have(p,M,i,z,rfl,rfl,L,J,q):=h;cases C;have(t,rfl):=m;have(G,r,g,N):=I.tuple L;have(j,B,E,S,O,U):=nq J;have(w,l,d):=r.get E;have A:=r.length;have P:=iF;have e:EP X f Z Q w s:=⟨z,H,I,d,q⟩;show Ny (x:=w) g.typeIs slot_tuple_getitem.lookup
  (getItem_tuple (j:=j) (Q:=λr k=>r=w/\EP X f Z Q r k) g (by lia) (by lia) (by rw[FN,<-A];show B) (by exists l) ⟨Xr,e⟩) o
def AX:IxR X Ex:=by
 intro d slice G s Z H x y v u Q I p l h m;have(z,i,c,rfl,rfl,B,w,q):=h;have(t,rfl):=p;have(J,rfl):=l;have(j,e,r,E,f,A):=nq w;have o:z.cps.toList.length=z.length:=by simp[PR]
 rw[o]at e f A;have C:=iF;show PL (Mh s z t) slot_str_getitem.lookup (getItem_str (c:=c) (by
  have g:decide (i < -(2^63:Int))=Qa:=decide_eq_false (by lia);have k:decide (i≥2^63)=Qa:=decide_eq_false (by lia);rw[g,k,Bool.or_false]) (by rw[e];exists r) {.str {#[c]},H,I.tok _,{_,Xr},q}) m
abbrev rIx(K:yF):R2:=λx y H Q=>Ew K x y H Q\/Ey K x y H Q\/Ex x y H Q
def AW:IxR X (rIx X.K):=ix_list.or (ix_tup.or AX)
def qd(c:!KA)(n j:Nat)(u:KA):Mr (·.setIfInBounds j u) {cls:=.type "list",data:=.seq c.toArray n}={cls:=.type "list",data:=.seq (c.set j u).toArray n}:=by
 simp[Mr]
def Inv.lst{d:!(Addr×Obj)}{Z:St}{H:Hp}{s:KC}{p:Addr}{xs:!V}(I:Inv X d Z H s)(h:H p*>(.lst xs)) :
  ∃(c:!KA) (n:Nat),Vals xs c/\s.heap.get? p=P9 {cls:=.type "list",data:=.seq c.toArray n}/\xs.length<=sizeLine:=by
 have(z,c,n,r,e):=I.hok p _ h;show⟨c,n,r,e,z⟩
def Inv.lstUpd{i:!(Addr×Obj)}{Z:St}{H:Hp}{s:KC}{p:Addr}{xs g:!V}{c its':!KA}{n d:Nat}{f:Obj->Obj}(I:Inv X i Z H s)(h:H p*>(.lst xs))
  (ho:s.heap.get? p=P9 {cls:=.type "list",data:=.seq c.toArray n}) (j:f {cls:=.type "list",data:=.seq c.toArray n}={cls:=.type "list",data:=.seq its'.toArray d}) (r:Vals g its') (hz:g.length<=sizeLine) (t:Nat) :
  Inv X i Z (upd H p (.lst g)) {s with heap:=s.heap.update p f,toks:=t}:=by
 have e:(s.heap.update p f).get? p=P9 {cls:=.type "list",data:=.seq its'.toArray d}:=by
  rw[Ly f ho (by rw[j]<;>rfl),j]
 show I.write (x:=p) (e:=p) (by rw[h];trivial) (.inl rfl) (λb u l q=>(Nz _ _ (K3 l)).trans q) {_,e} ?_;show⟨hz,its',d,r,e⟩
abbrev Al:V->V->V->Hp->(Hp->Prop)->Prop:=λo i v H Q=>∃p c k j,o=.ref p/\i=.int k/\H p*>(.lst c)/\ixN c.length k*>j/\Q (upd H p (.lst (c.set j v)))
def wT:C9 X Al:=by
 intro G s Z H o i v N L u Q I E K J h;have(p,B,k,j,rfl,rfl,m,A,q):=h;cases E;have(t,rfl):=K;have(c,n,r,g,C):=I.lst m;have(d,O,w,l):=rE A;have f:=r.length;have M:=iF;have y:Inv X G Z (upd H p (.lst (B.set j v))) {s with heap:=s.heap.update p (Mr (·.setIfInBounds j u))}:=
  I.lstUpd m g (qd c n j u) (r.set J j) (by rw[HG];show C) s.toks
 by_cases z:0<=k
 .have e:k.toNat=j:=by
   rw[OG z l]at d;show F9.inj d
  show PySem.W.ki_setAt g z (by lia) (by rw[FN,<-f];show l) (by rw[e];show{_,y,q})
 .have e:(k+(c.toArray.size:Int)).toNat=j:=by
   rw[seqIndex_neg (by lia) w]at d;rw[FN,<-f];show F9.inj d
  show PySem.W.ki_setBack g (by lia) (by rw[FN,<-f];show w) (by lia) (by rw[e];show{_,y,q})
def ot(lo c:↑Int)(n:Nat):(LW lo c P8 n).1=((HT.sIx n 0 lo:Nat):Int)/\(LW lo c P8 n).2.1=((HT.sIx n n c:Nat):Int)/\(LW lo c P8 n).2.2=1:=by
 show{?_,?_,Xr}
 .cases lo with
  | none=>simp[LW,HT.sIx]
  | some i=>
   dsimp[LW,HT.sIx,Iw,show(1:Int)>0 by decide,if_true];by_cases h:i<0;dsimp[h,if_true]<;>lia;dsimp[h,if_false]<;>lia
 .cases c with
  | none=>simp[LW,HT.sIx]
  | some i=>
   dsimp[LW,HT.sIx,Iw,show(1:Int)>0 by decide,if_true];by_cases h:i<0;dsimp[h,if_true]<;>lia;dsimp[h,if_false]<;>lia
def lZ(c:!KA)(lo d:↑Int):slicePick c.toArray lo d P8=((c.drop (HT.sIx c.length 0 lo)).take (HT.sIx c.length c.length d-HT.sIx c.length 0 lo)).toArray:=by
 have(f,g,e):=ot lo d c.toArray.size;unfold slicePick;rw[f,g,e];dsimp[O9,PK,FN]<;>rfl
abbrev EC(K:yF):V->↑Int->↑Int->Hp->VK->Prop:=λx lo d H Q=>∃a c,x=.ref a/\SqL K H a c/\∀p,H p=P8->Q (.ref p) (upd H p (.lst (kX c lo d)))
def sl_list:SlR X (EC X.K):=by
 intro t s Z H x v z w lo e y Q I l i m j h;have(a,c,rfl,g,q):=h;cases l;have(p,r,f,k):=I.list g;have d:=r.length;show{"list",_,Ol.lookup,f.isList.typeIs,?_};show wpAny_getItem_list_slice f.isList i m j .none ∅ ?_ (by rw[FN]<;>lia);rw[lZ,<-d];show{.ref s.heap.objs.size,_,I.laid (t':=s.toks) (o:=.lst (kX c lo e)) (λb u q=>KB _ q) (FV _) ?_,Xr,q _ (I.hok.fresh (FV _))};show{Gj (jY c lo e) k,_,0,(r.drop (HT.sIx c.length 0 lo)).take (HT.sIx c.length c.length e-HT.sIx c.length 0 lo),KN _ rfl}
abbrev j1:V->Bool
 | .non=>Qb
 | .bl _=>Qb
 | .int _=>Qb
 | .str _=>Qb
 | _=>Qa
abbrev eqV:V->V->Bool
 | .non,.non=>Qb
 | .bl a,.bl b=>a==b
 | .bl a,.int b=>(if a then 1 else 0)==b
 | .int a,.bl b=>a==(if b then 1 else 0)
 | .int a,.int b=>a==b
 | .str a,.str b=>a==b
 | _,_=>Qa
def AI{A:Li}{s:KC}{y x:V}{u v:KA}(e:RelV y u)(c:RelV x v)(g:j1 y=Qb)(f:j1 x=Qb):Lg A s u v (eqV y x):=by
 cases y with
 | non=>
  cases e;cases x with
  | non=>cases c;show Lg.same _
  | bl b=>cases c;show Lg.none_bool b
  | int b=>have(t,rfl):=c;show Lg.none_int b t
  | str b=>have(t,rfl):=c;show Lg.none_str b t
  | _=>show absurd (show Qa=Qb from f) FZ
 | bl a=>
  cases e;cases x with
  | non=>cases c;show Lg.bool_none a
  | bl b=>cases c;show Lg.bool_bool a b
  | int b=>have(t,rfl):=c;show Lg.bool_int a b t
  | str b=>have(t,rfl):=c;show Lg.bool_str a b t
  | _=>show absurd (show Qa=Qb from f) FZ
 | int a=>
  have(d,rfl):=e;cases x with
  | non=>cases c;show Lg.int_none a d
  | bl b=>cases c;show Lg.int_bool a d b
  | int b=>have(t,rfl):=c;show Lg.int_int a d b t
  | str b=>have(t,rfl):=c;show N7 a d b t
  | _=>show absurd (show Qa=Qb from f) FZ
 | str a=>
  have(d,rfl):=e;cases x with
  | non=>cases c;show Lg.str_none a d
  | bl b=>cases c;show Lg.str_bool a d b
  | int b=>have(t,rfl):=c;show N8 a d b t
  | str b=>have(t,rfl):=c;show Lg.str_str a d b t
  | _=>show absurd (show Qa=Qb from f) FZ
 | _=>show absurd (show Qa=Qb from g) FZ
abbrev eqU(x:V) (u:KA):Bool:=match u with
 | .none=>eqV .non x
 | .bool b=>eqV (.bl b) x
 | .int i _=>eqV (.int i) x
 | .str z _=>eqV (.str z) x
 | _=>Qa
def uD{x y:V}{u:KA}(r:RelV y u)(f:j1 y=Qb):eqU x u=eqV y x:=by
 cases y with
 | non=>cases r;rfl
 | bl b=>cases r;rfl
 | int i=>have(t,rfl):=r;rfl
 | str z=>have(t,rfl):=r;rfl
 | _=>show absurd (show Qa=Qb from f) FZ
def iP{x:V}:∀{xs:!V} {c:!KA},Vals xs c->xs.all j1=Qb->c.any (eqU x)=xs.any λy=>eqV y x
 | _,_,.nil,_=>rfl
 | y::xs,u::c,.cons r t,f=>by
  rw[GO,FO]at f;rw[Ip,Ip,uD r f.1,iP t f.2]
def gE{A:Li}{s:KC}{x:V}{v:KA}(g:RelV x v)(e:j1 x=Qb):∀{xs:!V} {d:!KA},Vals xs d->xs.all j1=Qb->∀u∈d,Lg A s u v (eqU x u)
 | _,_,.nil,_=>λu c=>by cases c
 | y::xs,u::d,.cons r t,f=>λh c=>by
  rw[GO,FO]at f;rcases ycM c with rfl|c;rw[uD r f.1];show AI r g f.1 e;show gE g e t f.2 h c
abbrev inV(x:V) (xs:!V):Bool:=xs.any λy=>eqV y x
abbrev rIn(K:yF)(d:Bool):R2:=λx y H Q=>∃p c,y=.ref p/\(SqL K H p c\/SqT K H p c)/\j1 x=Qb/\c.all j1=Qb/\Q (.bl (if d then ~~~inV x c else inV x c)) H
def op_in_seq:OpR X (K7 .In) (rIn X.K Qa):=by
 intro m s Z H x y v u Q I i k h;have(p,o,rfl,d,j,e,q):=h;cases k;rcases d with d|d
 .have(c,r,f,l):=I.list d;show OM (eqU x) f.isList (λw g=>gE i j r e w (by exists g)) {.bl _,H,I,Xr,?_};rw[show c.toArray.any (eqU x)=c.any (eqU x) by simp,iP r e];show q
 .have(c,r,f,l):=I.tuple d;show Ox (eqU x) f (λw g=>gE i j r e w (by exists g)) {.bl _,H,I,Xr,?_};rw[show c.toArray.any (eqU x)=c.any (eqU x) by simp,iP r e];show q
def op_notIn_seq:OpR X (K7 .NotIn) (rIn X.K Qb):=by
 intro m s Z H x y v u Q I i k h;have(p,o,rfl,d,j,e,q):=h;cases k;rcases d with d|d
 .have(c,r,f,l):=I.list d;show Oc (eqU x) f.isList (λw g=>gE i j r e w (by exists g)) {.bl _,H,I,Xr,?_};rw[show c.toArray.any (eqU x)=c.any (eqU x) by simp,iP r e];show q
 .have(c,r,f,l):=I.tuple d;show NY (eqU x) f (λw g=>gE i j r e w (by exists g)) {.bl _,H,I,Xr,?_};rw[show c.toArray.any (eqU x)=c.any (eqU x) by simp,iP r e];show q
def op_notIn_str:OpR X (K7 .NotIn) (λx y H Q=>∃i j,x=.str i/\y=.str j/\Q (.bl (~~~(~~~(K0 j i 0 j.length 1).isEmpty))) H):=by
 intro e s Z H x y v u Q I d c h;have(i,j,rfl,rfl,q):=h;have(t,rfl):=d;have(f,rfl):=c;show notIn_str {.bl _,H,I,Xr,q}
def nu:HE X (.builtin "len") (λxs H Q=>∃p d,xs=[.ref p]/\(SqL X.K H p d\/SqT X.K H p d)/\Q (.int d.length) H):=by
 intro l s Z H xs m Q I r h;have(p,d,rfl,e,q):=h;have(u,rfl,k):=dm r;cases k;have o:=iF;rcases e with e|e
 .have(i,f,g,j):=I.list e;have c:=f.length;show Calls.call_len_list g.isList (by dsimp[FN]<;>lia) {.int d.length,H,I.tok _,{s.toks+1,by rw[FN,c]},q}
 .have(i,f,g,j):=I.tuple e;have c:=f.length;show len_tuple g (by dsimp[FN]<;>lia) {.int d.length,H,I.tok _,{s.toks+1,by rw[FN,c]},q}
def nw:HE X (.builtin "len") (λxs H Q=>∃z,xs=[.str z]/\z.length<=sizeLine/\Q (.int z.length) H):=by
 intro c s Z H xs e Q I r h;have(z,rfl,d,q):=h;have(u,rfl,t,rfl):=dm r;have f:=iF;show len_str (by lia) {.int z.length,H,I.tok _,{_,Xr},q}
def HE.or{f:KA}{r r':!V->Hp->VK->Prop}(h:HE X f r)(h':HE X f r'):HE X f (λxs H Q=>r xs H Q\/r' xs H Q):=by
 intro c s Z H xs d Q I e q;rcases q with q|q;show h c s Z H xs d Q I e q;show h' c s Z H xs d Q I e q
def ny:HE X (.type "list") (λxs H Q=>∃p f,xs=[.ref p]/\(SqL X.K H p f\/SqT X.K H p f)/\∀l,H l=P8->Q (.ref l) (upd H l (.lst f))):=by
 intro E s Z H xs J Q I r h;have(p,f,rfl,t,q):=h;have(u,rfl,G):=dm r;cases G;have v:∀(c:!KA),Vals f c->f.length<=sizeLine->∀(d:Heap) (g:Nat),(∀b B,s.heap.get? b*>B->d.get? b*>B) ->
   d.get? s.heap.objs.size=P9 {cls:=.type "list",dict:=P8,data:=.seq c.toArray g,slots:=#[]}->EP X E Z Q (.ref s.heap.objs.size) {s with heap:=d}:=λc i k d g j e=>
  {.ref s.heap.objs.size,_,I.laid (t':=s.toks) j (FV _) (show JZ X.prog X.w _ d _ (.lst f)from⟨k,c,g,i,e⟩),Xr,q _ (I.hok.fresh (FV _))}
 rcases t with t|t
 .have(c,i,A,k):=I.list t;have m:=i.length;have(o,z,y,n,x):=A.isList;show call_list_seq p (.inl rfl) z y x (λd g j e=>v c i k d g j e) (by dsimp[FN]<;>lia)
 .have(c,i,A,k):=I.tuple t;have m:=i.length;have(o,z,y,n,x):=A;show call_list_seq p (.inr rfl) z y x (λd g j e=>v c i k d g j e) (by dsimp[FN]<;>lia)
def lT:HE X (.type "tuple") (λxs H Q=>∃p d,xs=[.ref p]/\((SqL X.K H p d/\∀l,H l=P8->Q (.ref l) (upd H l (.tup d)))\/(SqT X.K H p d/\Q (.ref p) H))):=by
 intro m s Z H xs B Q I r h;have(p,d,rfl,h):=h;have(u,rfl,A):=dm r;cases A;rcases h with⟨k,q⟩|⟨k,q⟩
 .have(c,i,j,t):=I.list k;have v:=i.length;show call_tuple_list j.isList (λg z=>?_) (by dsimp[FN]<;>lia);have x:Inv X m Z H {s with heap:=g}:=I.kept (t':=s.toks) z;have y:Inv X m Z (upd H g.objs.size (.tup d)) {s with heap:=g.push {cls:=.type "tuple",data:=.seq c.toArray}}:=
   x.laid (t':=s.toks) (λb o e=>KB _ e) (FV _) (show JZ X.prog X.w _ _ _ (.tup d)from{t,c,i,J1.new _ _})
  show{.ref g.objs.size,_,y,Xr,q _ (x.hok.fresh (FV _))}
 .have(c,i,j,t):=I.tuple k;show call_tuple_same j {.ref p,H,I,Xr,q}
abbrev tyV(K:yF)(T:String)(x:V)(H:Hp):Prop:=match x with
 | .str _=>T = "str"
 | .int _=>T = "int"
 | .ref p=>(T = "list" /\ ∃d,SqL K H p d)\/(T = "tuple" /\ ∃o,K.lookup p*>o/\o.cls=.type "tuple" /\ o.dict=P8) \/
   (T = "dict" /\ ((∃c,H p*>(.dK c)) \/ ∃c,H p*>(.dT c)))\/(T = "set" /\ ∃S n,H p*>(.set S n))
 | _=>False
def xj{u:!(Addr×Obj)}{Z:St}{H:Hp}{s:KC}{T:String}{x:V}{v:KA}(I:Inv X u Z H s)(r:RelV x v)(g:tyV X.K T x H) :
  s.TypeIs v T/\∀a,v=.ref a->∃m,s.heap.get? a*>m/\m.dict=P8:=by
 cases x with
 | str z=>
  have(t,rfl):=r;cases (show T = "str" from g);show{Mh s z t,λ_ e=>nomatch e}
 | int i=>
  have(t,rfl):=r;cases (show T = "int" from g);show{Ms s i t,λ_ e=>nomatch e}
 | ref p=>
  cases r;rcases g with⟨rfl,A,y⟩|⟨rfl,o,d,q,k⟩|⟨rfl,d⟩|⟨rfl,S,n,d⟩
  .have(w,_,l,_):=I.list y;show{l.isList.typeIs,λa e=>?_};cases e;have(o,n,e,c,k,_):=l;show⟨o,e,k⟩
  .show{{o,I.kIn p o d,q},λa e=>?_};cases e;show{o,I.kIn _ o d,k}
  .have z:∃o,s.heap.get? p*>o/\o.ExactDict:=by
    rcases d with⟨h,d⟩|⟨h,d⟩
    .obtain⟨_,_,_,_,o,_,_,e,f,_⟩:=I.hok p _ d;show⟨o,e,f⟩
    .obtain⟨_,_,_,_,o,_,_,e,f,_⟩:=I.hok p _ d;show⟨o,e,f⟩
   have(o,e,f):=z;show{⟨o,e,f.1⟩,λa j=>?_};cases j;show⟨o,e,f.2.1⟩
  .have(o,_,_,_,e,f,_):=I.hok p _ d;show{⟨o,e,f.1⟩,λa j=>?_};cases j;show⟨o,e,f.2.1⟩
 | _=>show LY g
abbrev Cv(K:yF)(T:String)(r:V->!V->Hp->VK->Prop)(d:TE):TE:=λZ H Q=>d Z H λx c=>tyV K T x c/\r x [] c Q
abbrev tBM(K:yF)(T:String)(r:V->!V->Hp->VK->Prop)(e:TE)(t:TA):TE:=λZ H Q=>e Z H λx c=>tyV K T x c/\t Z c λd f=>r x d f Q
variable {o e:Expr}{es:!Expr}{to:TE}{t:TA}{name:Str}{apos cpos:Pos}{T id:String}{r:V->!V->Hp->VK->Prop}
def BK(z:Mt T)(f:Slot T name id)(g:Od (.builtin id)=pure (.type "method_descriptor"))(l:MtR X id r)(ho:PE X o to)
  (d:LR o name X.env (eval o X.env)=eval o X.env:=by rfl) (c:(apos.endLine==cpos.line)=Qb:=by rfl):PE X (.Call (.Attribute o name apos) [] [] cpos) (Cv X.K T r to):=by
 intro i s Z H Q I h;show wpAny_Call_method0_late d c (thn (ho i s Z H _ I h) λv y m=>?_);have(x,w,k,j,u,A):=m;have(p,q):=xj k j u;show{T,id,z,f,g,p,q,NA rfl (PySem.evalArgs_none (l i y Z w x [] v [] Q k j .nil A))}
def DZ(O:Mt T)(i:Slot T name id)(k:Od (.builtin id)=pure (.type "method_descriptor"))(u:MtR X id r)(ho:PE X o to)(y:PA X (e::es) t)
  (f:LR o name X.env (eval o X.env)=eval o X.env:=by rfl)
  (g:((Mk cpos (KT (e::es) X.env)).all (λx=> ~~~x.1)&&(backToKw cpos (keywordEach [] X.env)).all (λx=>x.1.isSome)
   && decide ((e::es).length+([]:!OS).length+(if([]:!OS).isEmpty then 0 else 1)<30))=Qb:=by rfl)
  (d:(apos.endLine==cpos.line)=Qb:=by rfl) (hs:KT (e::es) X.env=(Qa,eval e X.env)::KT es X.env:=by rfl) (c:(Mk cpos (KT es X.env)).any (·.1)=Qa:=by rfl) :
  PE X (.Call (.Attribute o name apos) (e::es) [] cpos) (tBM X.K T r to t):=by
 intro j s Z H Q I h;show wpAny_Call_method_late f g d rfl (thn (ho j s Z H _ I h) λv M z=>?_);have(x,G,p,m,E,P):=z;have(A,C):=xj p m E;show{T,id,O,i,k,A,C,?_};have l:=y cpos j M Z G _ p P;rw[hs]at l|-;show NA (by change(Qa||(Mk cpos (KT es X.env)).any (·.1))=Qa;rw[c]<;>rfl) (Calls.evalArgs_plain ?_);show thn l λN L ⟨vs,J,q,w,B⟩=>u j L Z J x vs v N Q q m w B
end
abbrev MtM(X:Cx)(id:String)(r:V->!V->Hp->VK->Prop):Prop:=
 ∀(a:!(Addr×Obj)) (s:KC) (Z:St) (H:Hp) (x:V) (c:!V) (v:KA) (d:!KA) (Q:VK),Inv X a Z H s->RelV x v->Vals c d->r x c H Q ->
  KI (KO X.prog X.w) X.A (call (.builtin id) (v::d)) (EP X a Z Q) X.xe s
def Vals.one:∀{x:V} {a:!KA},Vals [x] a->∃u,a=[u]/\RelV x u:=by
 intro x a h;cases h with
 | cons r t=>cases t;show{_,Xr,r}
def Vals.zero:∀{a:!KA},Vals [] a->a=[]
 | _,.nil=>rfl
def Vals.dropLast{xs:!V}{a:!KA}(h:Vals xs a):Vals xs.dropLast a.dropLast:=by
 induction h with
 | nil=>show .nil
 | cons r t c=>
  cases t with
  | nil=>show .nil
  | cons q d=>show .cons r c
def Vals.reverse{xs:!V}{a:!KA}(h:Vals xs a):Vals xs.reverse a.reverse:=by
 induction h with
 | nil=>show .nil
 | cons r t c=>rw[Hu,Hu];show Vals.append c (.cons r .nil)
def Vals.rep{xs:!V}{a:!KA}(h:Vals xs a):∀k:Nat,Vals (FU k xs).flatten (FU k a).flatten
 | 0=>.nil
 | k+1=>by
  rw[Gr,Gr,GG,GG];show Vals.append h (Vals.rep h k)
def pU{d:Type}(l:!d):l.eraseIdx (l.length-1)=l.dropLast:=by
 induction l with
 | nil=>rfl
 | cons a r c=>
  cases r with
  | nil=>rfl
  | cons b r=>
   have e:(a::b::r).length-1=((b::r).length-1)+1:=by
    have f:(a::b::r).length=r.length+2:=rfl;have g:(b::r).length=r.length+1:=rfl
    lia
   rw[e,List.eraseIdx_cons_succ,c];all_goals rfl
def fv(a:!KA):∀(k:Nat) (c:!KA),
  IC (λd g=>d++g) c.toArray (FU k a.toArray)=(c++(FU k a).flatten).toArray
 | 0,c=>by simp
 | k+1,c=>by
  have e:c.toArray++a.toArray=(c++a).toArray:=by simp
  have f:(c++a)++(FU k a).flatten=c++(FU (k+1) a).flatten:=by
   rw[Gr,GG,F5]
  rw[<-f,<-fv a k (c++a),<-e,Gr,HZ]
section
variable {X:Cx}{OK:!(Addr×Obj)}{Z:St}{H:Hp}{s:KC}{l b:Addr}{xs ys zs:!V}
def Inv.lset{a its':!KA}{n:Nat}{f:Array KA->Array KA}{t':Nat}(I:Inv X OK Z H s)(d:H l*>(.lst xs))
  (e:s.heap.get? l=P9 {cls:=.type "list",data:=.seq a.toArray n}) (h:f a.toArray=its'.toArray) (g:Vals ys its') (hz:ys.length<=sizeLine) :
  Inv X OK Z (upd H l (.lst ys)) {s with heap:=s.heap.update l (Mr f),toks:=t'}:=by
 have q:=PySem.IsL.update e f;rw[h]at q;show I.write (x:=l) (e:=l) (by rw[d];show trivial) (.inl rfl) (λk u i j=>(Nz s.heap (Mr f) (K3 i)).trans j) {_,q} ?_;show{hz,its',_,g,q}
def Inv.lnew{a:!KA}{t':Nat}(I:Inv X OK Z H s)(d:Vals ys a)(hz:ys.length<=sizeLine) :
  Inv X OK Z (upd H s.heap.objs.size (.lst ys)) {s with heap:=s.heap.push {cls:=.type "list",data:=.seq a.toArray},toks:=t'}:=
 I.laid (λ_ _ q=>KB _ q) (FV _) {hz,a,0,d,KN _ rfl}
def Inv.fresh(I:Inv X OK Z H s):H s.heap.objs.size=P8:=I.hok.fresh (FV _)
def Inv.lstM(I:Inv X OK Z H s)(c:H l*>(.lst xs)):xs.length<=sizeLine/\∃(a:!KA) (n:Nat),Vals xs a/\xs.length=a.length/\s.heap.get? l=P9 {cls:=.type "list",data:=.seq a.toArray n}:=by
 have(z,a,n,r,e):=I.hok l _ c;show⟨z,a,n,r,r.length,e⟩
def eg{n:Nat}(h:n<=sizeLine):Le n=Qa:=by
 unfold Le;show decide_eq_false (by lia)
end
section
variable {X:Cx}
abbrev n5:V->!V->Hp->VK->Prop:=λx vs H Q=>∃l a y,x=.ref l/\vs=[y]/\H l*>(.lst a)/\a.length<sizeLine/\Q .non (upd H l (.lst (a++[y])))
def sW:MtM X "list.append" n5:=by
 intro i s Z H x vs v o Q I d g h;have(l,k,y,rfl,rfl,c,m,q):=h;cases d;have(u,rfl,f):=g.one;have(z,a,n,r,j,e):=I.lstM c;show Ls F.slot_list_append {_,e,Xr} F.entry_list_append (F.args_list_append_2 _ _) (PySem.list_append l a.toArray n u (by rw[FN];lia)) {e,?_};show{.non,_,I.lset (its':=a++[u]) c e ∅ (r.append (.cons f .nil)) ?_,Xr,q};rw[FQ,List.length_singleton]
 lia
abbrev yT:V->!V->Hp->VK->Prop:=λx vs H Q=>∃l b a c,x=.ref l/\vs=[.ref b]/\H l*>(.lst a)/\H b*>(.lst c)/\a.length+c.length<=sizeLine/\Q .non (upd H l (.lst (a++c)))
def mt_extend:MtM X "list.extend" yT:=by
 intro G s Z H x vs v C Q I p t h;obtain⟨l,b,A,E,rfl,rfl,g,o,B,q⟩:=h;cases p;have(u,rfl,j):=t.one;cases j;have(z,c,n,r,J,e):=I.lstM g;have(y,a,w,i,m,k):=I.lstM o;have f:c.toArray.size+a.toArray.size<=sizeLine:=by rw[FN,FN];lia
 have d:¬ (~~~c.toArray.isEmpty&&Le (c.toArray.size+a.toArray.size))=Qb:=by
  rw[eg f,IR];show FZ
 show Ls MY {_,e,Xr} MK (Mx _ _)
  (Ml l c.toArray n b a.toArray w d (by rw[FN];lia) (by lia)) {e,k,?_}
 show{.non,_,I.lset (its':=c++a) g e ∅ (r.append i) ?_,Xr,q};rw[FQ]
 lia
abbrev Ch:V->!V->Hp->VK->Prop:=λx vs H Q=>∃l a y,x=.ref l/\vs=[]/\H l*>(.lst a)/\a[a.length-1]?*>y/\Q y (upd H l (.lst a.dropLast))
def Bc:MtM X "list.pop" Ch:=by
 intro p s Z H x vs v w Q I i k h;have(l,t,y,rfl,rfl,f,m,q):=h;cases i;have c:=k.zero;subst c;have(z,a,n,r,g,e):=I.lstM f;have(u,o,j):=r.get m;have d:a.toArray[a.toArray.size-1]?*>u:=by
  change a.toArray[a.length-1]?*>u;rw[<-Array.getElem?_toList,<-g];show o
 show Ls F.slot_list_pop {_,e,Xr} F.entry_list_pop (F.args_list_pop_1 _) (MeetsSeq.list_pop_last l a.toArray n u d (by rw[FN];lia)) {e,?_};show{y,_,I.lset (its':=a.dropLast) f e ?_ r.dropLast ?_,j,q}
 .change a.toArray.eraseIdxIfInBounds (a.toArray.size-1)=a.dropLast.toArray;rw[FN,List.eraseIdxIfInBounds_toArray,pU]
 .rw[List.length_dropLast]
  lia
abbrev Es:R2:=λx y H Q=>∃l b a c,x=.ref l/\y=.ref b/\H l*>(.lst a)/\H b*>(.lst c)/\a.length+c.length<=sizeLine/\∀p,H p=P8->Q (.ref p) (upd H p (.lst (a++c)))
def op_cat:OpR X (Lo .Add) Es:=by
 intro B s Z H x y v u Q I m i h;obtain⟨l,b,t,A,rfl,rfl,j,k,w,q⟩:=h;cases m;cases i;have(z,c,n,r,C,e):=I.lstM j;have(p,a,E,d,g,f):=I.lstM k;show PySem.P.add_list e f ?_ (by rw[FN,FN];lia);have o:c.toArray++a.toArray=(c++a).toArray:=by simp
 rw[o];show{.ref _,_,I.lnew (t':=s.toks) (r.append d) (by rw[FQ];lia),Xr,q _ I.fresh}
abbrev EB:R2:=λx y H Q=>∃l k a,x=.ref l/\y=.int k/\H l*>(.lst a)/\-(2^63)<=k/\k<2^63/\a.length*k.toNat<=sizeLine /\
 ∀p,H p=P8->Q (.ref p) (upd H p (.lst (FU k.toNat a).flatten))
def i3{c:Type}(xs:!c)(k:Nat):(FU k xs).flatten.length=k*xs.length:=by
 induction k with
 | zero=>simp
 | succ k a=>rw[Gr,GG,FQ,a,Je,Nat.add_comm]
def op_rep:OpR X (Lo .Mult) EB:=by
 intro N s Z H x y v u Q I K B h;obtain⟨l,k,M,rfl,rfl,C,J,L,w,q⟩:=h;cases K;have(t,rfl):=B;have(z,c,n,r,G,e):=I.lstM C;have j:c.toArray.size*k.toNat<=sizeLine:=by rw[FN,<-G];show w
 have g:¬ c.toArray.size*k.toNat>(2^63-1) / 8:=by
  have:(sizeLine:Nat)<=(2^63-1) / 8:=by decide
  lia
 have f:¬ (~~~Builtin.List.listFitsIndex k)=Qb:=by
  rw[Pa J L];show FZ
 have d:¬ Le (c.toArray.size*k.toNat)=Qb:=by
  rw[eg j];show FZ
 have i:IC (λp o=>p++o) #[] (FU (if c.toArray.isEmpty=Qb then 0 else k.toNat) c.toArray)=(FU k.toNat c).flatten.toArray:=by
  have E:∀m:Nat,IC (λp o=>p++o) #[] (FU m c.toArray)=(FU m c).flatten.toArray:=λm=>by
   have:=fv c m [];rw[G5]at this;show this
  rw[E];cases c with
  | nil=>simp
  | cons a O=>rw[if_neg ∅]
 show Me (T:="list") (U:="int") (by decide) {_,e,Xr} (λA=>Ms A k t) ON ND L5 repeat_list Nn.lookup
  (Ls L5 (Ms s k t) No (Nb _ _) (NI k t l c.toArray n)
   {e,Xr,{_,e,Xr},Ls OO {_,e,Xr} Oy (Om _ _) (Mi l c.toArray n k t f g d) {e,?_}})
 rw[i];show{.ref _,_,I.lnew (t':=s.toks) (r.rep k.toNat) (by rw[i3,Jf];show w),Xr,q _ I.fresh}
end
section
variable {prog:KP}{w:K2}{A:Li}{E:KA->KC->Prop}{s:KC}
def tZ(d e:!KA)(a c:Nat):d.toArray.extract 0 a++e.toArray++d.toArray.extract c d.toArray.size=(d.take a++e++d.drop c).toArray:=by
 apply Array.toList_inj.mp;first
  | (simp
     show GD ∅)
  | simp[GD]
  | simp
def pP{a c n:Nat}(e:a<=c)(g:c<=n):LW (P9 (a:Int)) (P9 (c:Int)) P8 n=((a:Int),(c:Int),1):=by
 dsimp[LW,Iw];have d:¬ ((a:Int)<0):=by lia
 have f:¬ ((c:Int)<0):=by lia
 dsimp[d,f,if_false,show(1:Int)>0 by decide,if_true];congr 1
 .lia
 .congr 1;lia
set_option maxRecDepth 100000 in
def lY{l b sl:Addr}{items new:Array KA}{n J:Nat}{v r:KA}{a c:Nat}{Q:Unit->KC->Prop}
  (e:s.heap.get? l=P9 {cls:=.type "list",data:=.seq items n}) (y:s.heap.get? b=P9 {cls:=.type "list",data:=.seq new J}) (t:l≠b)
  (hs:s.heap.IsSliceOf sl v r .none) (H:Nh v (P9 (a:Int))) (B:Nh r (P9 (c:Int))) (q:a<=c) (C:c<=items.size)
  (hsz:items.size+new.size<=sizeLine) (h:Q () {s with heap:=s.heap.update l (Mr λxs=>xs.extract 0 a++new++xs.extract c xs.size)}) :
  KI (KO prog w) A (Nv (.ref l) (.ref sl) (.ref b)) Q E s:=by
 have u:s.heap.IsList l items:=PySem.IsL.isList e;have G:s.heap.IsList b new:=PySem.IsL.isList y;have(os,f,o,g):=id hs;have k:s.TypeIs (.ref sl) "slice" :=⟨os,f,o⟩;have i:¬ ((rawPart P8==Mq 0)=Qb):=FZ;have d:Nj (.ref l) (.ref b)=Qa:=by
  unfold Nj;show beq_eq_false_iff_ne.mpr t
 have j:(max (a:Int) (c:Int)).toNat=c:=by lia
 have p:((λxs:Array KA=>xs.extract 0 a++new++xs.extract c xs.size) items).size<=sizeLine+1:=by
  dsimp[Jg,Array.size_extract]
  lia
 unfold Nv;try with_reducible refine Lz ?_
 first|refine Kz (KD ?_)|skip
 show Kz (Na u.typeIs (by decide) ?_);show Kz (Lh (name:=K9 "__setitem__") u.typeIs On
  (Ln On u.typeIs entry_list_setitem ?_ (args_list_setitem _ _ _)))
 change KI _ _ (ML (.ref sl) >>= _) _ _ s;show Kz ?_;unfold ML;show Kz (wpAny_specialOf k slice_no_index ?_);dsimp[Option.isNone_none,if_true];show KD ?_;change KI _ _ (Od (.ref sl) >>= _) _ _ s;show Kz (Nx k ?_);first
  | rw[if_neg (by decide)]
  | refine PySem.W.KFB.if_not (by decide) ?_
 rw[listSliceParts_eq];show Kz (Kz (K6 f g (x:=.none) rfl (Kz (NP .none ?_))));rw[if_neg i];show Kz (K6 f g (x:=v) rfl (Kz (NP H ?_)));show Kz (K6 f g (x:=r) rfl (Kz (NP B (KD ?_))));first
  | dsimp[d,Ih,if_false]
  | refine PySem.W.KFB.if_not d ?_
  | (dsimp only
     rw[if_neg (by rw[d];show FZ)])
 show Kz (m:=M7 (.ref b) "must assign iterable to extended slice") ?_;unfold M7;show Kz (Nx G.typeIs ?_);first
  | refine PySem.W.KFB.if_so (by decide) ?_
  | rw[if_pos (by decide)]
  | dsimp[beq_self_eq_true,JK,if_true]
 unfold Px;show Kz (Lu y rfl (KD ?_));show Kz (Kz (Lu e rfl (KD ?_)));show Kz (OH ((sliceIndices_raw (P9 (a:Int)) (P9 (c:Int)) P8 items.size ∅).trans (congrArg (pure:Int×Int×Int->Sem (Int×Int×Int)) (pP q C))) ?_);change KI _ _ (if((1:Int)==1)=Qb then _ else _) _ _ s;rw[if_pos (by decide)];show Kz (MR ?_);first
  | dsimp[eg hsz,Ih,if_false]
  | refine PySem.W.KFB.if_not (eg hsz) ?_
 first|refine Kz (KD ?_)|skip
 change KI _ _ (updateSeq l (λxs=>xs.extract 0 ((a:Int)).toNat++new++xs.extract (max (a:Int) (c:Int)).toNat xs.size) >>= _) _ _ s;rw[j,GF];show Kz (OP (hz:=Gj (GK _ _) hsz) (_hz':=p) e rfl ?_);show Kz (NQ ?_);first
  | show Kz (KD (KD ⟨.none,rfl,KD h⟩))
  | show KD ⟨.none,rfl,KD h⟩
end
section
variable {X:Cx}
def tY{t:!(Addr×Obj)}{s:KC}{Z:St}{H:Hp}{l b sl:Addr}{xs k:!V}{a c:Int}{v p:KA}{Q:Unit->KC->Prop}(I:Inv X t Z H s)
  (q:H l*>(.lst xs)) (C:H b*>(.lst k)) (j:l≠b) (hs:s.heap.IsSliceOf sl v p .none) (G:RelV (.int a) v) (E:RelV (.int c) p) (u:0<=a) (g:a<=c) (L:c<=xs.length)
  (hz:xs.length+k.length<=sizeLine) (h:∀o,Inv X t Z (upd H l (.lst (xs.take a.toNat++k++xs.drop c.toNat))) o->Q () o) :
  KI (KO X.prog X.w) X.A (Nv (.ref l) (.ref sl) (.ref b)) Q X.xe s:=by
 have(N,rfl):=G;have(J,rfl):=E;have(z,f,n,r,M,e):=I.lstM q;have(K,d,O,x,B,y):=I.lstM C;have(i,rfl):=Ix u;have(m,rfl):=Ix (Int.le_trans u g);dsimp[GF]at h;show lY (a:=i) (c:=m) e y j hs (.int _ _) (.int _ _) (by lia) (by rw[FN];lia) (by rw[FN,FN];lia) (h _ ?_);show I.lset (its':=f.take i++d++f.drop m) (t':=s.toks) q e ?_ (Vals.append (Vals.append (r.take _) x) (r.drop _)) ?_;show tZ f d i m
 .rw[FQ,FQ,GS,Hz]
  lia
end
end L2
namespace Att
open PySem PySem.W PySem.Calls PyProof.Rows
def ints_of_wellAll{P:Py}{h:Heap}:∀(ns:!Int) (vs:!KA),WellAll P h vs (ns.map P6)->OT vs ns:=by
 intro ns
 induction ns with
 | nil=>
  intro vs w;rw[HA]at w;cases w;show .nil
 | cons n ns c=>
  intro vs w;rw[FS]at w;cases w with
  | cons a b=>
   cases a;show .cons _ _ (c _ b)
def script_of{l:Pz}{n:Nat}(y:l.most*>n){P:Py}{h:Heap}{c:!P0}{e:!KA}
  (f:l.row.toRowW.claim.pre c=Qb) (o:WellAll P h e c) :
  ∃a vs ns,e=[LL a]/\c=[P0.list (ns.map P6)]/\h.get? a=P9 {cls:=.type "list",data:=.seq vs.toArray}/\OT vs ns/\ns.length<=n:=by
 have m:PB.hasAll [] c [.list .int]=Qb:=(pre_splitW f).1;have p:l.pre.holds [] {args:=c}=Qb:=(pre_splitW f).2;have(d,r,rfl,w,x):=hasAllW_cons m;obtain rfl:=hasAllW_nil x;have(z,rfl,s):=hasW_list w;have(ns,rfl):=items_int s;have g:ns.length<=n:=by
  unfold Pz.pre at p;have j:(WTm.not (.lt (.lit (.int (n:Int))) (.len (.arg 0)))).holds [] {args:=[.list (ns.map .int)]}=Qb:=by
   have j:=(holds_andW p).1;rw[y]at j;show j
  have k:=condW_of j (w_not (w_lt w_lit (w_len_list (w_arg rfl))));rw[FM]at k;show Nat.le_of_not_lt λq=>?_;have v:(n:Int)<((ns.length:Nat):Int):=by lia
  first
   | (rw[decide_eq_true v]at k;show absurd k (by decide))
   | (simp at k;lia)
 cases o with
 | cons w1 t=>
  cases t;cases w1 with
  | list u i=>show{_,_,ns,Xr,Xr,u,ints_of_wellAll ns _ i,g}
def post_true(l:Pz)(a:!P0):l.row.toRowW.claim.post a (.bool Qb) a=Qb:=
 postW_of (r:=l.row.toRowW) (X:=(Qb==Qb))
  (show PU [] (.bool Qb) .bool=Qb by first|rfl|decide|simp[PU,PB.arms,PB.armsAll])
  (show(WTm.eq .res (.lit (.bool Qb))).value [] {args:=a,res:=P9 (.bool Qb),after:=a}*>(.bool (Qb==Qb))from w_eq_bool (w_res rfl) w_lit) rfl
def attach_call{l:Pz}{n:Nat}{q:KP}{loose:!Str}{XP:(Str->↑KA)->Heap->Prop}{YP:K2->Heap->Prop}{d:DefRec}
  (M:l.most*>n) (v:d.params.defaults=[])
  (call:∀(w:K2) (e c : KC) (s A:Str->↑KA) (j:Addr) (o:Obj) (x t h:KA) (a:Addr) (vs:!KA) (ns:!Int),
   Ground q loose [] XP w e s A c.heap->YP w c.heap ->
   c.heap.get? j*>o->o.data=.func (docDef d.name d.params d.body d.scope x t h)->c.heap.CodeRec t d.name->s d.name*>(.ref j) ->
   c.heap.get? a=P9 {cls:=.type "list",data:=.seq vs.toArray}->OT vs ns->ns.length<=n->c.gens = #[] ->
   LP (KO l.prog w) NW (.call (.ref j) {[.ref a],[]}) (λr p=>r=.ok (.ret (.bool Qb))/\OldK c.heap p.heap/\p.os=c.os/\M8 p.gens) c) :
  WalkO q loose XP YP l.row.toRowW d [] (λf vs=>PySem.call f vs):=by
 intro w e c s A G Y j o x t h K kV P L z H u Z C B as k E X y Q;obtain rfl:K=.none:=Dflts.none H v;obtain rfl:kV=.none:=Dflts.noKw H;have(a,vs,ns,rfl,rfl,i,g,m):=script_of M k y;show enter_call (Nw (call w e c s A j o x t h a vs ns G Y P (fd_plain L) z u i g m Z) λr p U=>?_);have(rfl,S,O,J):=U;show{.inl {.bool Qb,.bool Qb,[],Xr,λ_=>rfl,.bool Qb,post_true l _,λ_=>{List.Pairwise.nil,λ_ N=>(nomatch N)}},S,O,J}
end Att
namespace L2
open PySem PySem.Spec PyProof.Rows
def nh:∀{vs:!KA} {ns:!Int},OT vs ns->Vals (ns.map V.int) vs
 | _,_,.nil=>.nil
 | _,_,.cons n t h=>.cons ⟨t,Xr⟩ (nh h)
abbrev C7(H:Hp):Prop:=∀b,H b=P8 \/ ∃o a,H b*>(.frz o (.lst a))
def uW{P:KP}{w:K2}{K:yF}{C mb:Str->↑KA}{CX:CXT}{k:Nat}{X a:Addr}{fd:LS}{x:Str}{sp:Sp}{c : KC}{vs:!KA}{ns:!Int}
  (KX:K.In c.heap) (y:c.heap.Ns K4 C) (g:c.heap.Ns N9 mb) (U:∀x:Str,x ≠ "__name__" -> mb x=Lr x) (G:c.heap.NoLimit) (hg:c.gens = #[])
  (Q:c.heap.get? a=P9 {cls:=.type "list",data:=.seq vs.toArray}) (hi:OT vs ns) (hl:ns.length<=sizeLine) (hr:Ka k NW)
  (F:∀i:Heap,K.In i->i.Ns K4 C->Ks P w K C i CX k X fd [x] sp) (t:∀(s:KC) (u:KA),NU s fd {[u],[]} [(x,u)])
  (Y:∀H:Hp,C7 H->SqL K H a (ns.map V.int)->sp [.ref a] H (λv _=>v=.bl Qb) λ_ _ _=>False)
  (hCX:∀H e j,CX [] H c (λ_ _ _=>False) e j->False) :
  LP (KO P w) NW (.call (.ref X) {[.ref a],[]}) (λr j=>r=.ok (.ret (.bool Qb))/\OldK c.heap j.heap/\j.os=c.os/\M8 j.gens) c:=by
 have rv:=nh hi;have E:=hi.length;have p:∀H:Hp,C7 H->SqL K H a (ns.map V.int)->HOk P w H c.heap->(∀b,H b≠P8->b=a)->(H a≠P8->K.lookup a=P8) ->
   LP (KO P w) NW (.call (.ref X) {[.ref a],[]}) (λr j=>r=.ok (.ret (.bool Qb))/\OldK c.heap j.heap/\j.os=c.os/\M8 j.gens) c:=by
  intro H hO hS J hA hK;have f:∀{b:Addr} {o:Obj},c.heap.get? b*>o->H b=P8->(nK c.heap H).get? b*>o:=λe n=>uK e n;have S:∀{b:Addr} {o:Obj} {M:Array Ov} {L:Nat},c.heap.get? b*>o->o.data=.dict M L->H b=P8:=λ{b o M L} e d=>by
   cases q:H b with
   | none=>rfl
   | some u=>
    have Z:b=a:=hA b (by rw[q];simp);subst Z;rw[Q]at e;cases e;have d':Data.seq vs.toArray _=Data.dict M L:=d;cases d'
  have l:∀{b:Addr} {m:Str->↑KA},c.heap.Ns b m->(nK c.heap H).Ns b m:=λ{b m} ⟨o,M,L,e,d,r⟩=>{o,M,L,f e (S e d),d,r};have O:K.In (nK c.heap H):=λb o e=>f (KX b o e) (by
   cases q:H b with
   | none=>rfl
   | some u=>
    have Z:b=a:=hA b (by rw[q];simp);subst Z;rw[hK (by rw[q];simp)]at e;cases e)
  have hM:Mod K C (nK c.heap H):={O,l y,{mb,l g,U},let ⟨mc,h1,h2⟩:=G;{mc,l h1,h2}};have e0:Kx P w K C (nK c.heap H) NW [] c H:={Xr,hM,λb o e=>yi e,Nat.le_of_eq (sJ _ _),trivial,λb g=>absurd (show b∈([]:!Addr)from g) ∅,J,.of_eq hg};show Nw ((F _ O (l y)).run NW [] c H {[.ref a],[]} [.ref a] [.ref a] _ _ hr e0 (t c (.ref a)) (.cons rfl .nil) (Y H hO hS)) λr j h=>?_;cases r with
  | error e=>show(hCX H e j h).elim
  | ok fl=>
   cases fl with
   | next=>show LY h
   | brk=>show LY h
   | cont=>show LY h
   | ret u=>
    have(v,H',os,A,un,N,r',q):=h;have q':v=.bl Qb:=q;subst q';obtain rfl:u=LX Qb:=r';show{Xr,OldK.of_keep λb o e=>?_,os,A};cases q:H b with
    | none=>show un.keep b o e q (by intro z;show absurd (show b∈([]:!Addr)from z) ∅) ∅
    | some u=>
     rcases hO b with z|⟨ob,xs,z⟩;rw[q]at z;cases z
     .have z2:=un.frzs b ob _ z;have(e1,_):=J b _ z;have(e2,_):=N b _ z2;rw[e]at e1;cases e1;show e2
 cases hk:K.lookup a with
 | some o=>
  have e:=KX a o hk;rw[Q]at e;cases e;show p (λ_=>P8) (λ_=>.inl rfl) (.inr {_,vs.toArray,_,hk,Xr,Xr,Xr,by rw[FN,E];show hl,by simpa using rv}) (λb u z=>by have B:(P8:↑HO)*>u:=z;cases B) (λb z=>absurd rfl z) λz=>absurd rfl z
 | none=>
  show p (λb=>if b=a then P9 (.frz {cls:=.type "list",data:=.seq vs.toArray} (.lst (ns.map V.int)))else P8) (λb=>?_) (.inl (.inr {{cls:=.type "list",data:=.seq vs.toArray},if_pos rfl})) (λb u z=>?_) (λb z=>?_) λ_=>hk
  .by_cases g:b=a;show .inr {_,_,if_pos g};show .inl (if_neg g)
  .by_cases g:b=a
   .have B:=(if_pos g).symm.trans z;cases B;subst g;show{Q,by rw[FM];show hl,vs,_,rv,Q}
   .have B:=(if_neg g).symm.trans z;cases B
  .by_cases g:b=a;show g;show absurd (if_neg g) z
abbrev dJ(s:Stmt):Arguments:=match s with
 | .FunctionDef _ a _ _ _ _ _ _ _ _=>a
 | _=>{posonlyargs:=[],args:=[],vararg:=P8,kwonlyargs:=[],kw_defaults:=[],kwarg:=P8,defaults:=[]}
abbrev bC(s:Stmt):!Stmt:=match s with
 | .FunctionDef _ _ b _ _ _ _ _ _ _=>b
 | _=>[]
abbrev aj(s:Stmt):Mj:=match s with
 | .FunctionDef _ _ _ _ _ _ a _ _ _=>a
 | _=>{kind:=.function,names:=[],isGenerator:=Qa,isCoroutine:=Qa}
protected def CX0:CXT:=λ_ _ _ _ _ _=>False
protected def E0:XK:=λ_ _ _=>False
def DX{X:Cx}:pK CX0 X E0:=λ_ _ _ _ _ _ _ h=>h.elim
structure Fun(K:yF)(x qual:Str)(st:Stmt)(f:Addr)(fd:LS):Prop where
 ex:∃(oc:KA) (od:↑Addr) (kV doc pm:KA) (an:↑Addr) (cdv ct:KA) (osl:Array ↑KA),
  fd=GV x qual (dJ st) (bC st) (aj st) .none kV doc pm an cdv ct/\K.lookup f*>{oc,od,.func fd,osl}/\Hw K cdv qual=Qb
 kp:GY K (.ref f)=Qb
section
variable {P:KP}{w:K2}{K:yF}{mg:Str->↑KA}{base:Heap}
def Fun.ok{x c:Str}{st:Stmt}{f:Addr}{o:LS}{N m:!Str}{k:Nat}{i:Sp}(F:Fun K x c st f o)(S:p6 N m (aj st))(g:∀vs H Q E,i vs H Q E->vs.length=m.length)
  (e:∀(d:KA) (A:Li) (a:!Env) (s:KC) (H:Hp) (vs:!V) (Q:VK) (E:XK),Ka k (A.deeper (MB c (aj st) s.heap.objs.size f d))->i vs H Q E ->
   ∃t,PSs (lU CX0 P w K mg base N c (aj st) f d A a s H E).nox (bC st) t/\t {nx:=λ_ H'=>Q .non H',rt:=Q} (bR N vs) H):Ks P w K mg base CX0 (k+1) f o m i:=by
 obtain⟨oc,z,kV,v,B,C,d,y,p,rfl,r,l⟩:=F.ex;show Dm r l S g λA a s H vs Q E u j=>?_;have(t,h,q):=e d A a s H vs Q E u j;show⟨t,h.nox,q⟩
def AO{x a:Str}{st:Stmt}{f:Addr}{oc:KA}{m i:↑Addr}{g:Array ↑KA}{kV e h d j:KA}(l:K.lookup f*>{oc,m,.func (GV x a (dJ st) (bC st) (aj st) .none kV e h i d j),g})
  (c:Hw K d a=Qb) (k:GY K (.ref f)=Qb):Fun K x a st f (GV x a (dJ st) (bC st) (aj st) .none kV e h i d j):={⟨oc,m,kV,e,h,i,d,j,g,Xr,l,c⟩,k}
end
def nO{A B:Prop}(h:B):if Qa=Qb then A else B:=by
 rw[if_neg FZ];show h
def nP{A B:Prop}(h:A):if Qb=Qb then A else B:=by
 rw[if_pos rfl];show h
abbrev JX(H H':Hp):Prop:=∀b o,H b*>o->H' b*>o
def JX.refl(H:Hp):JX H H:=λ_ _ h=>h
def JX.trans{H d e:Hp}(a:JX H d)(b:JX d e):JX H e:=λc o h=>b c o (a c o h)
def JX.free{H H':Hp}(e:JX H H'){l:Addr}(h:H' l=JV):H l=JV:=by
 cases q:H l with
 | none=>rfl
 | some o=>
  rw[e l o q]at h;cases h
def JX.seq{K:yF}{H H':Hp}{a:Addr}{xs:!V}(e:JX H H')(h:SqL K H a xs):SqL K H' a xs:=by
 rcases h with(h|⟨o,h⟩)|h;show .inl (.inl (e _ _ h));show .inl (.inr {o,e _ _ h});show .inr h
abbrev bL(env:Env):!(Str×KR)->!(Str×Addr)->!(Str×Addr)
 | [],a=>a
 | (n,k)::r,a=>if k == .free then bL env r ((n,(env.cells.lookup n).getD 0)::a)else bL env r a
def ju:∀(a:!(Str×KR)) (d:!(Str×Addr)),(∀x∈a,x.2=.free->∃c,env.cells.lookup x.1*>c) ->
  (forIn a d λ(x:Str×KR) (cs:!(Str×Addr))=>if x.2 == .free then(do let c <-cellOf env x.1;pure (MC ((x.1,c)::cs)):Sem _)else pure (MC cs))=(pure (bL env a d):Sem _)
 | [],d,_=>rfl
 | (n,k)::r,d,h=>by
  have j:∀x∈r,x.2=.free->∃c,env.cells.lookup x.1*>c:=λx l=>h x (ymC _ l);rw[HH];unfold bL;by_cases g:(k==LG)=Qb
  .have(c,m):=h (n,k) ymS (by exists g);have f:env.cells.lookup n*>c:=m;have e:cellOf env n=pure c:=by unfold cellOf;rw[f]
   dsimp[g,if_true,e,f,Option.getD_some,pure_bind];show ju r _ j
  .have i:(k==LG)=Qa:=by exists g
   dsimp[i,Ih,if_false,pure_bind];show ju r _ j
def eX(h:∀x∈scope.names,x.2=.free->∃c,env.cells.lookup x.1*>c):closureFor scope env=pure (bL env scope.names []):=by
 have:=ju (env:=env) scope.names [] h;dsimp[closureFor];rw[this,pure_bind]
def jr:∀(a:!(Str×KR)) (d:!(Str×Addr)),(∀y∈a,y.2=.free->∃c,env.cells.lookup y.1*>c)->(d.lookup x*>c->env.cells.lookup x*>c) ->
  (bL env a d).lookup x*>c->env.cells.lookup x*>c
 | [],d,_,g,h=>g h
 | (n,k)::r,d,q,g,h=>by
  have p:∀y∈r,y.2=.free->∃c,env.cells.lookup y.1*>c:=λy t=>q y (ymC _ t);unfold bL at h;by_cases o:(k==LG)=Qb
  .rw[if_pos o]at h;show jr r _ p (λe=>?_) h;have(s,l):=q (n,k) ymS (by exists o);have f:env.cells.lookup n*>s:=l;rw[Gs]at e;by_cases i:(x==n)=Qb
   .rw[i]at e;have m:x=n:=by exists i
    subst m;rw[f]at e|-;show e
   .have j:(x==n)=Qa:=by exists i
    rw[j]at e;show g e
  .rw[if_neg o]at h;show jr r d p g h
def jq:∀(c:!(Str×KR)) (a:!(Str×Addr)),(a.lookup x).isSome=Qb->((bL env c a).lookup x).isSome=Qb
 | [],_,h=>h
 | (n,k)::r,a,h=>by
  unfold bL;by_cases d:(k==LG)=Qb
  .rw[if_pos d];show jq r _ ?_;rw[Gs];cases hx:(x==n)with
   | true=>rfl
   | false=>show h
  .rw[if_neg d];show jq r a h
def fG:∀(a:!(Str×KR)) (c:!(Str×Addr)),(x,LG)∈a->((bL env a c).lookup x).isSome=Qb
 | [],_,h=>by cases h
 | (n,k)::r,c,h=>by
  unfold bL;rcases ycM h with e|h
  .cases e;rw[if_pos (by rfl)];show jq r _ ?_;rw[Gs,beq_self_eq_true];rfl
  .by_cases d:(k==LG)=Qb
   .rw[if_pos d];show fG r _ h
   .rw[if_neg d];show fG r _ h
def kS:∀(a:!(Str×KR)) (n:Nat) (e:!(Str×Addr)),(Ld n a e).lookup x*>c->(n<=c/\(x,KY)∈a)\/e.lookup x*>c
 | [],_,_,h=>.inr h
 | (y,k)::r,n,e,h=>by
  unfold Ld at h;by_cases m:(k==KY)=Qb
  .rw[if_pos m]at h;rcases kS r (n+1) _ h with⟨d,i⟩|d;show .inl {by omega,ymC _ i}
   .rw[Gs]at d;by_cases f:(x==y)=Qb
    .rw[f]at d;have l:x=y:=by exists f
     have j:k=.cell:=by exists m
     subst l j;cases d;show .inl {FV _,ymS}
    .have g:(x==y)=Qa:=by exists f
     rw[g]at d;show .inr d
  .rw[if_neg m]at h;rcases kS r n _ h with⟨d,i⟩|d;show .inl {d,ymC _ i};show .inr d
def pS:∀(g:!(Str×KR)) (n:Nat) (f:!(Str×Addr)),(∀x c,f.lookup x*>c->c<n)->(∀x y c,f.lookup x*>c->f.lookup y*>c->x=y) ->
  ∀x y c,(Ld n g f).lookup x*>c->(Ld n g f).lookup y*>c->x=y
 | [],_,_,_,m,x,y,c,h,j=>m x y c h j
 | (z,k)::r,n,f,o,m,x,y,c,h,j=>by
  unfold Ld at h j;by_cases p:(k==KY)=Qb
  .rw[if_pos p]at h j;show pS r (n+1) ((z,n)::f) (λa b e=>?_) (λa b d i l=>?_) x y c h j
   .rw[Gs]at e;cases q:(a==z)with
    | true=>rw[q]at e;cases e;show Jl _
    | false=>rw[q]at e;show Jh (o a b e)
   .rw[Gs]at i l;cases q1:(a==z)with
    | true=>
     cases q2:(b==z)with
     | true=>rw[beq_iff_eq.mp q1,beq_iff_eq.mp q2]
     | false=>rw[q1]at i;rw[q2]at l;cases (i);show absurd (o b n l) (GU _)
    | false=>
     cases q2:(b==z)with
     | true=>rw[q1]at i;rw[q2]at l;cases (l);show absurd (o a n i) (GU _)
     | false=>rw[q1]at i;rw[q2]at l;show m a b d i l
  .rw[if_neg p]at h j;show pS r n f o m x y c h j
def kT:∀(a:!(Str×KR)) (n:Nat) (c:!(Str×Addr)),(x,KY)∉a->(Ld n a c).lookup x=c.lookup x
 | [],_,_,_=>rfl
 | (y,k)::r,n,c,h=>by
  unfold Ld;by_cases e:(k==KY)=Qb
  .rw[if_pos e,kT r _ _ (λz=>h (ymC _ z)),Gs];have d:k=.cell:=by exists e
   have f:(x==y)=Qa:=by
    cases q:(x==y)with
    | false=>rfl
    | true=>show absurd (by rw[beq_iff_eq.mp q,d];show ymS) h
   rw[f]
  .rw[if_neg e];show kT r _ _ λz=>h (ymC _ z)
def nA:∀(i:!(Str×KR)) (n:Nat) (f:!(Str×Addr)),((x,KY)∈i \/ ∀g,f.lookup x*>g->n<=g)->(Ld n i f).lookup x*>c->∀lo,lo<=n->(∀g,f.lookup x*>g->lo<=g)\/(x,KY)∈i->lo<=c
 | [],n,f,_,h,lo,m,d=>by
  rcases d with d|d;show d c h;cases d
 | (y,k)::r,n,f,_,h,lo,m,d=>by
  unfold Ld at h;by_cases p:(k==KY)=Qb
  .rw[if_pos p]at h;have a:(∀g,((y,n)::f).lookup x*>g->lo<=g)\/(x,KY)∈r:=by
    by_cases l:(x==y)=Qb
    .show .inl λg e=>?_;rw[Gs,l]at e;cases e;show m
    .have o:(x==y)=Qa:=by exists l
     rcases d with d|d
     .show .inl λg e=>?_;rw[Gs,o]at e;show d g e
     .rcases ycM d with e|d
      .cases e;simp at l
      .show .inr d
   have q:(x,KY)∈r \/ ∀g,((y,n)::f).lookup x*>g->n+1<=g\/True:=.inr λ_ _=>.inr trivial;rcases a with a|a
   .by_cases j:(x,KY)∈r;show nA r (n+1) _ (.inl j) h lo ⋯ (.inr j)
    .rw[kT r _ _ j]at h;show a c h
   .show nA r (n+1) _ (.inl a) h lo ⋯ (.inr a)
  .rw[if_neg p]at h;have a:(∀g,f.lookup x*>g->lo<=g)\/(x,KY)∈r:=by
    rcases d with d|d;show .inl d
    .rcases ycM d with e|d
     .cases e;show absurd rfl p
     .show .inr d
   by_cases j:(x,KY)∈r;show nA r n _ (.inl j) h lo m (.inr j)
   .rcases a with a|a
    .rw[kT r _ _ j]at h;show a c h
    .show absurd a j
def fe:∀(d:!(Str×KR)) (h:Heap) (a:!(Str×Addr)),(Ld h.objs.size d a).lookup x*>c->(pushCells h d).IsCell c P8\/a.lookup x*>c
 | [],_,_,e=>.inr e
 | (y,k)::r,h,a,e=>by
  unfold Ld at e;unfold pushCells;by_cases f:(k==KY)=Qb
  .rw[if_pos f]at e|-;have g:(Ld (h.push {cls:=.type "cell",data:=.cell P8}).objs.size r ((y,h.objs.size)::a)).lookup x*>c:=by rw[Lq];show e
   rcases fe r (h.push {cls:=.type "cell",data:=.cell P8}) ((y,h.objs.size)::a) g with q|q;show .inl q
   .rw[Gs]at q;cases hx:(x==y)with
    | true=>
     rw[hx]at q;cases q;show .inl {_,NE r _ _ _ (KN _ rfl),Xr}
    | false=>rw[hx]at q;show .inr q
  .rw[if_neg f]at e|-;show fe r h a e
def lR
  (h:∀h',h'.Ns s.heap.objs.size (λ_=>P8)->(∀b o,s.heap.get? b*>o->h'.get? b*>o)->(∀x c,(Ld (s.heap.objs.size+1) scope.names cl).lookup x*>c->h'.IsCell c P8\/cl.lookup x*>c) ->
   Q (newEnv scope s.heap.objs.size globals (Ld (s.heap.objs.size+1) scope.names cl) qual P8 .none (P9 env) N9) {s with heap:=h'}) :
  KI M A (Mm scope globals cl [] qual P8 .none (P9 env)) Q E s:=by
 dsimp[Mm,Option.isSome_some,if_true];show Kz (wpAny_alloc ?_);show Kz (wpAny_layCells _ (λg d f=>by cases hkc:d==KY<;>simp[hkc]) _ _ _ _ ?_);rw[show({s with heap:=s.heap.push {cls:=.type "dict",data:=.dict #[]}}:KC).heap.objs.size=s.heap.objs.size+1 from Lq ..];rw[JA];show Kz (KD (KD (h _ ?_ ?_ ?_)));show(Heap.Ns.new s.heap (.type "dict")).keeps (NE _ _);show λb o e=>NE _ _ b o (KB _ e)
 .intro x c e;have i:(Ld (s.heap.push {cls:=.type "dict",data:=.dict #[]}).objs.size scope.names cl).lookup x*>c:=by rw[Lq];show e
  show fe _ _ _ i
abbrev rlK(env:Env) (n:Str) (k:KR):KR:=if(k == .free&&env.scope.kind == .function&&env.kindOf n==P9 .cell)then .cell else k
def mL:∀(a:!(Str×KR)),
  (a.map λ(n,k)=>if(k==LG&&env.scope.kind == .function&&env.kindOf n==P9 .cell)then(n,KY)else(n,k)).lookup x=(a.lookup x).map (rlK env x)
 | []=>rfl
 | (n,k)::r=>by
  have c:=mL (env:=env) (x:=x) r;rw[FS,Gs];have e:(if(k==LG&&env.scope.kind == .function&&env.kindOf n==P9 .cell)then(n,KY)else(n,k))=(n,rlK env n k):=by
   unfold rlK;split<;>rfl
  change HW x ((if(k==LG&&env.scope.kind == .function&&env.kindOf n==P9 .cell)then(n,KY)else(n,k))::_)=_;rw[e,Gs,Gs];cases hx:(x==n)with
  | true=>
   have d:=beq_iff_eq.mp hx;subst d;rfl
  | false=>show c
def gB:(NB scope env).names.lookup x=(scope.names.lookup x).map (rlK env x):=mL scope.names
structure Blk(osc sc:Mj)(N N':!Str)(fr:! ↑Nat):Prop where
 kind:sc.kind=.function
 nd:N'.Nodup
 len:fr.length=N'.length
 free:∀(i j:Nat) (x:Str),fr[i]?*>(P9 j)->N'[i]?*>x->N[j]?*>x/\sc.names.lookup x*>.free
 out:∀x∈sc.names,x.2=.free->(osc.names.lookup x.1*>.cell\/osc.names.lookup x.1*>.free)/\(x.1,KY)∉sc.names
 locl:∀x∈sc.names,x.2=.local->sc.names.lookup x.1*>.local
abbrev Dc(c a:Mj) (N N':!Str) (fr:! ↑Nat):Bool:=
 (a.kind == .function)&&decide N'.Nodup&&(fr.length==N'.length) &&
 (fr.zip N').all (λp=>match p.1 with|none=>Qb|some j=>N[j]? == P9 p.2&&a.names.lookup p.2==P9 .free) &&
 a.names.all (λp=>(p.2 != .free||((c.names.lookup p.1==P9 .cell||c.names.lookup p.1==P9 .free) &&  ~~~a.names.contains (p.1,.cell)))&&(p.2 != .local||a.names.lookup p.1==P9 .local))
def Blk.of(h:Dc osc sc N N' fr=Qb):Blk osc sc N N' fr:=by
 unfold Dc at h;dsimp[FO]at h;obtain⟨⟨⟨⟨m,p⟩,k⟩,l⟩,f⟩:=h;show{by simpa using m,of_decide_eq_true p,by simpa using k,λi j x o q=>?_,λx d e=>?_,λx d e=>?_}
 .have c:(P9 j,x)∈fr.zip N':=by
   show HQ.mpr {i,?_};rw[HC];show⟨o,q⟩
  have:=Go.mp l _ c;dsimp[FO]at this;show{by simpa using this.1,by simpa using this.2}
 .have:=Go.mp f x d;dsimp[FO]at this;have a:=this.1;rw[e]at a;dsimp[bne_self_eq_false,JE,FO,Ia,Gk]at a;show{a.1.imp (λz=>by exists z) (λz=>by exists z),λc=>?_};have g:=a.2;rw[List.contains_iff_mem.mpr c]at g;cases g
 .have:=Go.mp f x d;dsimp[FO]at this;have a:=this.2;rw[e]at a;dsimp[bne_self_eq_false,JE]at a;exists a
abbrev aZ(fr:! ↑Nat) (Z:St):St:=fr.map λo=>match o with
 | none=>P8
 | some j=>Z.getD j P8
def cb(fr:! ↑Nat)(Z:St):(aZ fr Z).length=fr.length:=by unfold aZ;rw[FM]
abbrev AG(X:Cx) (scope:Mj) (N':!Str) (cells:!(Str×Addr)) (C:Addr) (s:KC) (H:Hp) (ex:!Addr) (pn:!(Addr×Obj)) (xe:KA->KC->Prop):Cx where
 prog:=X.prog
 w:=X.w
 K:=X.K
 mg:=X.mg
 base:=X.base
 A:=X.A
 N:=N'
 s₀:=s
 H₀:=H
 env:=PM scope cells C X.env
 outer:=X.stack
 stack:=X.stack
 ex:=ex
 fn:=λx=>scope.names.lookup x==P9 .cell
 calm:=X.calm
 pn:=pn
 xe:=xe
section
variable {X:Cx}{OK:!(Addr×Obj)}{Z:St}{H H':Hp}{s:KC}{scope:Mj}{N':!Str}{fr:! ↑Nat}{ex:!Addr}{xe:KA->KC->Prop}
def ef{a:Mj}{x:Str}{k:KR}(h:a.names.lookup x*>k):(x,k)∈a.names:=G7 h
def Inv.freeCells(I:Inv X OK Z H s)(B:Blk X.env.scope scope X.N N' fr):∀x∈scope.names,x.2=.free->∃c,X.env.cells.lookup x.1*>c:=λx a d=>I.ok.has x.1 (B.out x a d).1
def Inv.enter{h':Heap}(I:Inv X OK Z H s)(B:Blk X.env.scope scope X.N N' fr)(t:∀b∈ex,dW X OK H b/\∃o,s.heap.get? b*>o)
  (O:h'.Ns s.heap.objs.size (λ_=>P8)) (G:∀b o,s.heap.get? b*>o->h'.get? b*>o)
  (L:∀x c,(Ld (s.heap.objs.size+1) scope.names (bL X.env scope.names [])).lookup x*>c->h'.IsCell c P8\/(bL X.env scope.names []).lookup x*>c) :
  Inv (AG X scope N' (Ld (s.heap.objs.size+1) scope.names (bL X.env scope.names [])) s.heap.objs.size s H ex (X.pn++OK) xe) [] (aZ fr Z) H {s with heap:=h'}:=by
 have Q:=I.freeCells B;have f:∀x c,(bL X.env scope.names []).lookup x*>c->X.env.cells.lookup x*>c:=λx c e=>jr scope.names [] Q (λz=>by cases z) e;have lt:∀x c,X.env.cells.lookup x*>c->c<s.heap.objs.size:=λx c e=>by
  have(v,q):=I.cell x c e;show q.lt
 have a:∀x c,(Ld (s.heap.objs.size+1) scope.names (bL X.env scope.names [])).lookup x*>c->s.heap.objs.size+1<=c\/X.env.cells.lookup x*>c:=λx c e=>
  (kS _ _ _ e).imp (λz=>z.1) (f x c)
 have J:∀b∈ex,b<s.heap.objs.size:=λb A=>by
  have(o,e):=(t b A).2;show KM e
 have has:∀x,scope.names.lookup x*>.cell\/scope.names.lookup x*>.free->∃c,(Ld (s.heap.objs.size+1) scope.names (bL X.env scope.names [])).lookup x*>c:=λx M=>by
  show HF.mp (HM _ _ _ (M.imp id λz=>fG _ _ (ef z)))
 show{{I.ok.mod,?_,I.ok.glob,I.ok.blt,FV _,?_,?_,?_,I.ok.hd,I.ok.gd,I.ok.frames,.inl rfl,?_,I.bs,Gj I.ok.bsz I.sz,?_,?_,I.stack,I.stkFree},Xr,I.bare,Un.kept G,{_,O,?_},?_,?_,?_,?_,I.hok.kept G,?_};show B.kind;show pS _ _ _ (λx c e=>Jh (lt x c (f x c e))) (λx y c e1 w=>I.ok.inj x y c (f x c e1) (f y c w))
 .intro x M;show has x ?_;have h:(NB scope X.env).names.lookup x*>.cell\/(NB scope X.env).names.lookup x*>.free:=M;rw[gB]at h;cases q:scope.names.lookup x with
  | none=>rw[q]at h;rcases h with z|z<;>cases z
  | some k=>
   rw[q]at h;have C:rlK X.env x k=.cell\/rlK X.env x k=.free:=h.imp (λz=>F9.inj z) (λz=>F9.inj z);unfold rlK at C;split at C
   .delta L;dsimp[FO]at L;have:k=.free:=by exists L.1.1
    rw[this];show .inr rfl
   .rcases C with z|z<;>rw[z];show .inl rfl;show .inr rfl
 .intro x c hf e;have E:scope.names.lookup x*>.cell:=by
   have:(scope.names.lookup x==P9 KY)=Qb:=hf;exists this
  show nA _ _ _ (.inl (ef E)) e _ (Im _) (.inr (ef E))
 .intro b A;obtain⟨⟨_,_,_,_,f4,_⟩,_⟩:=t b A;show{Ga (J b A),λx c e z=>?_};rcases a x c e with q|q
  .rw[z]at q;show absurd (F7 (J b A) (Nat.le_of_succ_le q)) (GU _)
  .show f4 x c q z
 .intro b o e A;obtain⟨⟨_,_,_,f3,_,_⟩,_⟩:=t b A;rcases f3 with z|z;show I.ok.noex b o e z;show absurd (F7 (KM e) (Gj I.ok.bsz z)) (GU _)
 .intro b A hf;obtain⟨⟨_,f1,f2,_,_,_⟩,_⟩:=t b A;rcases ycM (I.stkSub b hf)with z|z;show f1 z;show f2 z
 .intro i x v e1 w e3;unfold aZ at w;rw[F4]at w;cases q:fr[i]? with
  | none=>rw[q]at w;cases w
  | some o=>
   rw[q]at w;cases o with
   | none=>simp at w
   | some j=>
    have g:Z.getD j P8*>v:=by exists w
    have(b1,b2):=B.free i j x q e1;have e4:Z[j]?*>(P9 v):=by
     rw[Gb]at g;cases q2:Z[j]? with
     | none=>rw[q2]at g;cases g
     | some y=>rw[q2]at g;simp at g;rw[g]
    have(o1,o2):=B.out (x,.free) (ef b2) rfl;have(m,hn,hl):=I.loc;have Y:Vis X.env.scope x:=o1.elim (λz=>.inr (.inl z)) λz=>.inr (.inr z);have(u,r,l):=hl j x v b1 e4 Y;show{u,r,.inr ?_};have nl:∃c,X.env.cells.lookup x*>c/\s.heap.IsCell c (P9 u):=by
     rcases l with⟨kl,_⟩|⟨_,c,S,U⟩
     .have P:X.env.scope.names.lookup x*>.local:=kl;rcases o1 with z|z<;>· have z':X.env.scope.names.lookup x=_:=z;rw[P]at z';cases z'
     .show⟨c,S,U⟩
    have(c,S,U):=nl;have kd:(PM scope (Ld (s.heap.objs.size+1) scope.names (bL X.env scope.names [])) s.heap.objs.size X.env).kindOf x*>.cell\/(PM scope (Ld (s.heap.objs.size+1) scope.names (bL X.env scope.names [])) s.heap.objs.size X.env).kindOf x*>.free:=by
     change(NB scope X.env).names.lookup x*>.cell\/(NB scope X.env).names.lookup x*>.free;rw[gB,b2];change P9 (rlK X.env x .free)=_\/P9 (rlK X.env x .free)=_;unfold rlK;split;show .inl rfl;show .inr rfl
    show{kd,c,?_,U.keeps G};change(Ld (s.heap.objs.size+1) scope.names (bL X.env scope.names [])).lookup x*>c;rw[kT _ _ _ o2];have(c',K):=HF.mp (fG (env:=X.env) scope.names [] (ef b2));rw[K];have:=f x c' K;rw[S]at this;show this.symm
 .intro x c e;rcases L x c e with q|q;show{_,q}
  .have(v,z):=I.cell x c (f x c q);show{v,z.keeps G}
 .show I.hok.fresh (FV _)
 .intro x c e;rcases a x c e with q|q
  .show I.hok.fresh ⋯
  .show I.freeC x c q
 .intro p hp;have hp':p∈X.pn++OK:=by
   have:p∈(X.pn++OK)++[]:=hp;rwa [Ge]at this
  have(e,n,ne,nf,d):=I.pin p hp';show{G _ _ e,n,Ga (KM e),λz=>?_,d};rcases ycM (I.stkSub p.1 z)with q|q;show ne q;show nf q
 .change(aZ fr Z).length=N'.length;rw[cb,B.len]
def Inv.leave(I:Inv X OK Z H s)(a:∀b∈ex,dW X OK H b)
  (J:Inv (AG X scope N' cells C s H ex pn xe) pins' Z' H' s'):Inv X OK Z H' s':=
 I.call' J.os J.base J.hok J.bare λb g=>by
  have(_,f,_,c,e,d):=a b g;show⟨c,f,e,d⟩
def Inv.track(I:Inv X OK Z H s)(y:dW X OK H d)(E:d∉X.ex\/X.s₀.heap.objs.size<=d)(r:X.s₀.heap.objs.size<=d)(new:JZ X.prog X.w (upd H d o) s.heap d o):Inv X OK Z (upd H d o) s:=by
 have(a,l,G,C,v,B):=y;show{I.ok,I.os,I.bare,{I.base.keep,I.base.slot,λb u q n i=>?_,I.base.there,λb f q=>?_,λb u f q=>?_,λb A q=>?_},I.loc,I.cell,?_,λx c e=>?_,λp g=>?_,λb u q=>?_,I.len}
 .rw[upd_ne (Ga (F7 (KM q) r))];show I.base.free b u q n i
 .have:=I.base.tups b f q;rw[upd_ne (ba this a)];show this
 .have:=I.base.frzs b u f q;rw[upd_ne (ba this a)];show this
 .have(m,this):=I.base.tbls b A q;show{m,by rw[upd_ne (ba this a)];show this}
 .rw[upd_ne (K3 l)];show I.free
 .rw[upd_ne (v x c e)];show I.freeC x c e
 .have(e,n,j,k,t):=I.pin p g;show{e,by rw[upd_ne (B p g)];show n,j,k,t}
 .by_cases h:b=d
  .subst h;rw[aN]at q;cases q;show new
  .rw[upd_ne h]at q;show(I.hok b u q).stay (λ_ _ _ z=>z) (λc z=>by rw[upd_ne (ba z a)];show z) λc f z=>by rw[upd_ne (ba z a)];show z
end
noncomputable abbrev kM(ifs:!Expr) (env:Env):Sem Bool:=forIn ifs Qb λc r=>if r=Qb then do let ok <-NN c env (eval c env);pure (MC ok)else pure (MC r)
def gp(I:Nat->KC->Prop)
  (o:∀n s,I n s->KI (KO prog w) A (Mp it) (λr d=>match r with
   | none=>R (.ok .next) d
   | some v=>KI (KO prog w) A (Lw target it v) (λ_ c=>KI (KO prog w) A (L9 target env v) (λ_ g=>
     KI (KO prog w) A (kM ifs env) (λt a=>
      if t=Qb then KI (KO prog w) A (eval elt env) (λx i=>
       KI (KO prog w) A (call (.builtin "list.append") [acc,x]) (λ_ j=>∃m,m<n/\I m j) (λ_ _=>False) i) (λ_ _=>False) a
      else∃m,m<n/\I m a) (λ_ _=>False) g) (λ_ _=>False) c) (λ_ _=>False) d) (λ_ _=>False) s)
  (n:Nat) (h:I n s):LP (KO prog w) A (.compLoop (.ListComp elt [{target,iter,ifs,0}] scope pos) 0 it acc env) R s:=by
 show Oo rfl I (λn s u=>?_) n h;change KI _ A ((NR (.ListComp elt [{target,iter,ifs,0}] scope pos) 0 it acc env).onRaise (λx=>do Oz x env;NF x)) _ _ s;show OI ?_;rw[compTurn_list];show Kz (LD (Kz (Lb (o n s u) (λr d f=>?_) λ_ _ z=>z.elim)));cases r with
 | none=>show KD f
 | some v=>
  show Kz (Lb f (λ_ c k=>?_) λ_ _ z=>z.elim);show Kz (Lb k (λ_ g p=>Kz (Lb p (λt a e=>?_) λ_ _ z=>z.elim)) λ_ _ z=>z.elim);cases t with
  | false=>show KD ⟨Xr,e⟩
  | true=>
   show Kz (Kz (Lb e (λx i q=>Kz (Lb q (λ_ j l=>KD (KD ⟨Xr,l⟩)) λ_ _ z=>z.elim)) λ_ _ z=>z.elim))
abbrev PTs(X:Cx)(a:!Expr)(t:TT):Prop:=
 ∀(c:!(Addr×Obj)) (s:KC) (Z:St) (H:Hp) (Q:Bool->Hp->Prop),Inv X c Z H s->t Z H Q->KI (KO X.prog X.w) X.A (kM a X.env) (TP X c Z Q) X.xe s
abbrev EU:TT:=λ_ H Q=>Q Qb H
def yM:PTs X [] EU:=λ_ _ _ H _ I h=>wpAny_tests_nil ⟨H,I,h⟩
def yN(h:PT X c t):PTs X [c] t:=λa s Z H Q I q=>wpAny_tests_one (h a s Z H Q I q)
abbrev Kp(fr:! ↑Nat)(Z a:St):Prop:=a.length=Z.length/\∀i j:Nat,fr[i]?*>(P9 j)->a[i]?=Z[i]?
def Kp.refl(fr:! ↑Nat)(Z:St):Kp fr Z Z:={Xr,λ_ _ _=>rfl}
def Kp.trans(a:Kp fr Z Z')(b:Kp fr Z' Z''):Kp fr Z Z'':={b.1.trans a.1,λi j e=>(b.2 i j e).trans (a.2 i j e)}
abbrev dB(fr:! ↑Nat)(g:TG):Prop:=∀v Z H (Q d:St->Hp->Prop),(∀a c,Q a c->Kp fr Z a->d a c)->g v Z H Q->g v Z H d
abbrev kO(fr:! ↑Nat)(g:TGs):Prop:=∀v Z H (Q d:St->Hp->Prop),(∀a c,Q a c->Kp fr Z a->d a c)->g v Z H Q->g v Z H d
def xV(h:fr[i]?*>P8):dB fr (my i):=λv Z H Q c k q=>by
 show k _ _ q {HG,λa j e=>?_};have:i≠a:=λz=>by subst z;rw[h]at e;cases e
 show F6 this
def AR:kO fr AQ:=λv Z H Q a k q=>{q.1,k _ _ q.2 (Kp.refl _ _)}
def xU(a:dB fr g)(j:kO fr gs):kO fr (uH g gs):=λvs Z H Q p k q=>by
 obtain⟨v,r,e,q⟩:=q;show{v,r,e,a v Z H _ _ (λd i o l=>j r d i _ _ (λm f c h=>k m f c (l.trans h)) o) q}
def AS{fr:! ↑Nat}{K:yF}{n:Nat}{c:TGs}(h:kO fr c):dB fr (xT K n c):=λv Z H Q i k q=>by
 obtain⟨a,d,g,e,f,q⟩:=q;show{a,d,g,e,f,h d Z H Q i k q}
structure Bk where
 cells:!(Str×Addr)
 C:Addr
 s:KC
 H:Hp
 ex:!Addr
 pn:!(Addr×Obj)
noncomputable abbrev cxB(X:Cx) (scope:Mj) (N':!Str) (b:Bk):Cx:=AG X scope N' b.cells b.C b.s b.H b.ex b.pn λ_ _=>False
abbrev w9(r:TI)(fr:! ↑Nat)(g:TG)(k:TT)(p:TE):TE:=λZ H Q=>
 r Z H λJ q=>∃W:Nat->Nat->!V->Hp->Prop,(∃m,W 0 m [] q)/\∀i m a H,W i m a H->a.length<sizeLine /\
  ((J.stop i H/\∀d,H d=P8->Q (.ref d) (upd H d (.lst a))) \/
  (J.go i H/\∃N:!V->Hp->Prop,(∀c e,N c e->∃h,h<m/\W (i+1) h c e) /\
   ∀x e,J.yld i H x e->g x (aZ fr Z) e λj o=>k j o λb f=>if b=Qb then p j f λv l=>N (a++[v]) l else N a f))
noncomputable abbrev lO(its:!KA) (n:Nat):Obj:={cls:=.type "list",data:=.seq its.toArray n}
abbrev Wk(Ob : α->Obj->Prop)(Y:Cx)(pp:!(Addr×Obj))(fr:! ↑Nat)(c:St)(e:!Addr)(f:Nat->Heap->Prop)(d:Addr)(W:Nat->Nat->α->Hp->Prop)(n:Nat)(s:KC):Prop:=
 ∃i a o H Z,Inv Y pp Z H s/\Kp fr c Z/\f i s.heap/\(∀b∈e,H b=P8)/\H d=P8/\s.heap.get? d*>o/\Ob a o/\W i n a H
structure Wa(Y:Cx)(pp:!(Addr×Obj))(tg:Expr)(J:It)(fp:!Addr)(it:Addr)(tn:Nat->Heap->Prop)(d:Addr):Prop where
 hc:Y.calm=Qb
 T:Ko Y.prog Y.w Y.K tg J fp it tn
 df:∀{Hx:Hp},Hx d=P8->dW Y pp Hx d
 fpk:∀{Hx:Hp} {o:Obj},(∀b∈fp,Hx b=P8)->∀b∈fp,dW Y ((d,o)::pp) Hx b
def zH(a:Kp fr (aZ fr Z) Z5):∀(k:Nat) v,(aZ fr Z)[k]?*>(P9 v)->Z5[k]?*>(P9 v):=λk v e=>by
 cases q:fr[k]? with
 | none=>
  unfold aZ at e;rw[F4,q]at e;cases e
 | some o=>
  cases o with
  | none=>
   unfold aZ at e;rw[F4,q]at e;simp at e
  | some j=>rw[a.2 k j q];show e
def Wa.kept(A:Wa Y pp tg J fp it tn d)(f:tn i h7)(c:Inv Y (((d,o)::pp)++cQ fp h7) Z H s):tn i s.heap/\(∀b∈fp,H b=P8)/\s.heap.get? d*>o/\H d=P8/\Inv Y pp Z H s:=by
 have g:∀p∈(d,o)::pp,p∈Y.pn++(((d,o)::pp)++cQ fp h7):=λp j=>yaR _ (yaL _ j);have h:∀b∈fp,∀u,h7.get? b*>u->(b,u)∈Y.pn++(((d,o)::pp)++cQ fp h7):=λb a u e=>yaR _ (yaR _ (iH a e));have k:=c.pin _ (g _ ymS);show{A.T.keep _ _ _ f λb a u e=>(c.pin _ (h b a u e)).1,λb a=>?_,k.1,k.2.1,c.pins_of λp j=>c.pin p (g p (ymC _ j))};have(u,e,_):=A.T.obj _ _ f b a;show(c.pin _ (h b a u e)).2.1
def Wa.turn{Ob : α->Obj->Prop}{Sz : α->Prop}(hO:∀c o,Ob c o->∀v,o.data ≠ .cell v)(A:Wa Y pp tg J fp it tn d)(hg:PG Y tg g)(hgk:dB fr g){P : α->Hp->Prop}{B : α->(α->Hp->Prop)->St->Hp->Prop}{R h:KC->Prop}
  (hW:∀i m c H,W i m c H->Sz c/\((J.stop i H/\P c H)\/(J.go i H/\∃N : α->Hp->Prop,(∀acc' H',N acc' H'->∃U,U<m/\W (i+1) U acc' H')/\∀x H',J.yld i H x H'->g x (aZ fr Z) H' (B c N))))
  (hw:Wk Ob Y pp fr (aZ fr Z) fp tn d W n s)
  (O:∀c o y H Q,Inv Y ((d,o)::pp) y H Q->Kp fr (aZ fr Z) y->Ob c o->Sz c->H d=P8->P c H->R Q)
  (S:∀i c o N h7 y H Q,Inv Y (((d,o)::pp)++cQ fp h7) y H Q->tn (i+1) h7->Kp fr (aZ fr Z) y->Ob c o->Sz c->(∀acc' H',N acc' H'->∃U,U<n/\W (i+1) U acc' H')->B c N y H->h Q) :
  KI (KO Y.prog Y.w) Y.A (Mp (.ref it)) (λr e=>match r with
   | none=>R e
   | some v=>KI (KO Y.prog Y.w) Y.A (Lw tg (.ref it) v) (λ_ j=>KI (KO Y.prog Y.w) Y.A (L9 tg Y.env v) (λ_ X=>h X) Y.xe j) Y.xe e) Y.xe s:=by
 obtain⟨i,c,o,E,Z5,J5,t,K,M,C,pl5,l,w5⟩:=hw;have(hz,cs):=hW i n c E w5;have L:Inv Y ((d,o)::pp) Z5 E s:=J5.pins_of λp hp=>by
  rcases ycM hp with z|z
  .subst z;have f:=A.df C;show{pl5,C,f.2.1,f.2.2.1,hO c o l}
  .show J5.pin p (yaR _ z)
 rcases cs with⟨st,q⟩|⟨go,N,hN,step⟩
 .show thn (A.T.done Y rfl rfl rfl A.hc i _ s Z5 E _ L (A.fpk M) K st) λr s6 k=>?_;have(hr,J6):=k;subst hr;show O c o Z5 E s6 J6 t l hz C q
 .show thn (A.T.item Y rfl rfl rfl A.hc i _ s Z5 E _ L (A.fpk M) K go) λr s6 k=>?_;have(u,hr,h6):=k;subst hr;show thn h6 λ_ s7 k=>?_;have(x,H7,J7,r7,y7,st7,fr7):=k;have J7p:=(J7.weak t.1.symm (zH t)).pinned (A.fpk fr7) (A.T.obj _ _ st7);have G:=hgk x (aZ fr Z) H7 _ (λZ2 H2=>B c N Z2 H2/\Kp fr (aZ fr Z) Z2) (λy H' a b=>⟨a,b⟩) (step x H7 y7);show thn (hg _ s7 (aZ fr Z) H7 x u _ J7p r7 G) λ_ s8 k=>?_;have(Z8,H8,J8,q8,kp8):=k;show S i c o N s7.heap Z8 H8 s8 J8 st7 kp8 l hz hN q8
def Wa.grown{Ob : α->Obj->Prop}{N : α->Hp->Prop}{acc' : α}(A:Wa Y pp tg J fp it tn d)(j:tn (i+1) h7)(g:Kp fr Z0 Z8)(J:Inv Y (((d,o)::pp)++cQ fp h7) Z8 H s)(r:∀acc' H',N acc' H'->∃c,c<n/\W (i+1) c acc' H')(w:N acc' H)
  (k:KZ d s.heap h') (e:h'.get? d*>o') (ho:Ob acc' o'):∃m,m<n/\Wk Ob Y pp fr Z0 fp tn d W m {s with heap:=h',toks:=t'}:=by
 have(c,q,w):=r _ _ w;have(u,l,x,h,v):=A.kept j J;have f:=A.df h;have t:∀b∈fp,b≠d:=λb a z=>(A.fpk (o:=o) l b a).2.2.2.2.2 _ (yaR _ ymS) z.symm;show{c,q,i+1,acc',o',H,Z8,v.turned (it:=d) (t':=t') (λb o a e=>(k.2 b a).trans e) h f.2.1 f.2.2.2.1 f.2.2.2.2.1 f.2.2.2.2.2,g,A.T.keep _ _ _ u (λb a o e=>(k.2 b (t b a)).trans e),l,h,e,ho,w}
def Wa.stays{Ob : α->Obj->Prop}{N : α->Hp->Prop}(A:Wa Y pp tg J fp it tn d)(e:tn (i+1) h7)(c:Kp fr Z0 Z8)(J:Inv Y (((d,o)::pp)++cQ fp h7) Z8 H s)(g:∀acc' H',N acc' H'->∃a,a<n/\W (i+1) a acc' H')(w:N acc H)
  (ho:Ob acc o):∃m,m<n/\Wk Ob Y pp fr Z0 fp tn d W m s:=by
 have(a,f,w):=g _ _ w;have(k,j,l,h,p):=A.kept e J;show{a,f,i+1,acc,o,H,Z8,p,c,k,j,h,l,ho,w}
abbrev obL(c:!V)(o:Obj):Prop:=∃a n,o=lO a n/\Vals c a
abbrev szL(a:!V):Prop:=a.length<sizeLine
def qq(a:!V)(o:Obj)(h:obL a o):∀v,o.data ≠ .cell v:=by
 have(c,n,rfl,_):=h;show λv z=>by cases z
def Wa.app{N:!V->Hp->Prop}(A:Wa Y pp tg J fp it tn d)(Q:PTs Y ifs tc)(X:PE Y elt te)
  (U:Inv Y (((d,o)::pp)++cQ fp h7) Z8 H8 s8) (g:tn (i+1) h7) (p:Kp fr Z0 Z8) (c:obL acc o) (hz:szL acc) (E:∀acc' H',N acc' H'->∃H,H<n/\W (i+1) H acc' H')
  (M:tc Z8 H8 λb C=>if b=Qb then te Z8 C λv S=>N (acc++[v]) S else N acc C) :
  KI (KO Y.prog Y.w) Y.A (kM ifs Y.env) (λs f=>
   if s=Qb then KI (KO Y.prog Y.w) Y.A (eval elt Y.env) (λx j=>
    KI (KO Y.prog Y.w) Y.A (call (.builtin "list.append") [.ref d,x]) (λ_ q=>∃m,m<n/\Wk obL Y pp fr Z0 fp tn d W m q) Y.xe j) Y.xe f
   else∃m,m<n/\Wk obL Y pp fr Z0 fp tn d W m f) Y.xe s8:=by
 show thn (Q _ s8 Z8 H8 _ U M) λs P t=>?_;have(H9,G,r):=t;cases s with
 | false=>
  rw[if_neg (by decide)]at r|-;show A.stays g p G E r c
 | true=>
  rw[if_pos rfl]at r|-;show thn (X _ P Z8 H9 _ G r) λy O t=>?_;have(v,K,l,u,z):=t;have(e,k,rfl,c):=c;have B:e.toArray.size<=sizeLine:=by rw[FN,<-c.length];show Ic hz
  show wpAny_list_append_plain (hsz:=B) {k,(A.kept g l).2.2.1} λZ a h=>?_;have(L,a):=a;show A.grown (acc':=acc++[v]) g p l E z h a {e++[y],L,?_,c.append (.cons u .nil)};have:(e++[y]).toArray=e.toArray.push y:=by simp
  unfold lO;rw[this]
section
variable {X:Cx}{elt tg iter:Expr}{ifs:!Expr}{scope:Mj}{pos:Pos}{N':!Str}{fr:! ↑Nat}{wi:TI}{g:TG}{tc:TT}{te:TE}
def kU{Ob : α->Obj->Prop}{Sz : α->Prop}{ho : α->HO}{a0 : α}{o0:Obj}{C:Expr}{new:Sem KA}(hc:X.calm=Qb)(B:Blk X.env.scope scope X.N N' fr)
  {k:!(Addr×Obj)} {Z:St} {Q:VK} {RI:It->Hp->Prop} {itv:KA} {f:KC} {E:KA->KC->Prop} {RR:KA->Addr->Pw->KC->Prop}
  (U:∀{Q:KA->KC->Prop},Q (.ref f.heap.objs.size) {f with heap:=f.heap.push o0}->KI (KO X.prog X.w) X.A new Q E f)
  (hst:∀{it a:KA} {env:Env} {R:Pw->KC->Prop} {s:KC},LP (KO X.prog X.w) X.A (.compLoop C 0 it a env) R s->KI (KO X.prog X.w) X.A (NO it) (λit' m=>LP (KO X.prog X.w) X.A (.compLoop C 0 it' a env) R m) (notedBy (KO X.prog X.w) X.A env λx m=>R (.error x) m) s->LP (KO X.prog X.w) X.A (.compStart C 0 it a env) R s)
  (h0:Ob a0 o0) (hf:(f.heap.push o0).get? f.heap.objs.size*>o0) (hho:∀{a o H h d},Ob a o->Sz a->(d==MN)=Qa->h.get? d*>o->JZ X.prog X.w H h d (ho a))
  (h2:PIE X k Z tg RI itv f)
  (hRR:∀(d C:Addr) (v:V) (H':Hp) (m:KC) m',Inv X k Z H' m->v=.ref d->Q v H'->m.heap.Ns C m'->dW X k H' C->C≠d->RR (.ref d) C (.ok .next) m)
  (loop:∀(M:Bk) (it:Addr) (l:!Addr) (K:Nat->Heap->Prop) (J:It) (j:Hp) (d:Addr) (s4:KC),Wa (cxB X scope N' M) [] tg J l it K d->RI J j ->
   (∀W n,W 0 n a0 j->Wk Ob (cxB X scope N' M) [] fr (aZ fr Z) l K d W n s4) ->
   (∀a o Z' H m,Inv (cxB X scope N' M) [(d,o)] Z' H m->Kp fr (aZ fr Z) Z'->Ob a o->Sz a->H d=P8->(∀d,H d=P8->Q (.ref d) (upd H d (ho a)))->RR (.ref d) M.C (.ok .next) m) ->
   LP (KO X.prog X.w) X.A (.compLoop C 0 (.ref it) (.ref d) (cxB X scope N' M).env) (RR (.ref d) M.C) s4) :
  KI (KO X.prog X.w) X.A new (λa s₃=>KI (KO X.prog X.w) X.A (Mm scope X.env.globals (bL X.env scope.names []) [] X.env.qual P8 .none (P9 X.env)) (λu P=>
   LP (KO X.prog X.w) X.A (.compStart C 0 itv a {u with scope:=NB scope X.env}) (RR a u.locals) P) E s₃) E f:=by
 obtain⟨it,l,K,J,j,rfl,L,T,st2,f2,w0⟩:=h2;show U ?_;have y:(f.heap.objs.size==MN)=Qa:=beq_eq_false_iff_ne.mpr (K3 (Ga (Nat.lt_trans (by decide) (L.mod.glob.keeps L.bk).lt)));generalize hd:f.heap.objs.size=d at y hf;have fd:dW X k j d:=L.fpOk (by rw[hd];show FV _) (L.hok.fresh (by rw[hd];show FV _));have ne_d:∀b∈l,b≠d:=λb c=>by
  have(o,e,_):=T.obj _ _ st2 b c;rw[<-hd];show Ga (KM e)
 have S:X.s₀.heap.objs.size<=d:=by rw[<-hd];show L.sz
 have hk3:∀b o,f.heap.get? b*>o->(f.heap.push o0).get? b*>o:=λb o e=>KB _ e;have I3:Inv X k Z j {f with heap:=f.heap.push o0}:=L.kept (t':=f.toks) hk3;have t:K 0 (f.heap.push o0):=T.keep _ _ _ st2 λb _ o e=>hk3 b o e;generalize hs3:({f with heap:=f.heap.push o0}:KC)=s3 at I3;have G:s3.heap.get? d*>o0:=by rw[<-hs3];show hf
 replace t:K 0 s3.heap:=by rw[<-hs3];show t
 have O:∀b∈d::l,dW X k j b/\∃o,s3.heap.get? b*>o:=λb c=>by
  rcases ycM c with e|c;subst e;show{fd,_,G}
  .have(o,e,_):=T.obj _ _ t b c;show{f2 b c,o,e}
 show lR λh4 hns hk hcl=>?_;have J0:=I3.enter (ex:=d::l) (xe:=λ_ _=>False) B O hns hk hcl;generalize hCs:Ld (s3.heap.objs.size+1) scope.names (bL X.env scope.names [])=cells at J0;have hCd:s3.heap.objs.size≠d:=λz=>by have:=KM G;rw[z]at this;show GU _ this
 have r:Inv (cxB X scope N' {cells,s3.heap.objs.size,s3,j,d::l,X.pn++k}) [] (aZ fr Z) j {s3 with heap:=h4}:=J0;have fpk:∀{Hx:Hp} {pq:!(Addr×Obj)} (b),b∈d::l->Hx b=P8->(∀p∈(X.pn++k)++pq,p.1≠b)->dW (cxB X scope N' {cells,s3.heap.objs.size,s3,j,d::l,X.pn++k}) pq Hx b:=λb c Y hp=>
  {Y,(r.ok.exf b c).1,r.ok.exfs b c,.inl c,(r.ok.exf b c).2,hp}
 have st4:K 0 h4:=T.keep _ _ _ t λb _ o e=>hk b o e;have L4:=loop {cells,s3.heap.objs.size,s3,j,d::l,X.pn++k} it l K J j d {s3 with heap:=h4} {hc,T,λ{Hx} Y=>fpk d ymS Y λp hp=>fd.2.2.2.2.2 p (by rwa [Ge]at hp),λ{Hx o} Y b c=>fpk b (ymC _ c) (Y b c) λp hp=>by
   rcases yaM hp with z|z;show(f2 b c).2.2.2.2.2 p z
   .rw[ysM z];show K3 (ne_d b c)} w0
  (λW n w=>{0,a0,o0,j,aZ fr Z,r,Kp.refl _ _,st4,λb c=>(f2 b c).1,fd.1,hk d _ G,h0,w}) λa o Z' H5 s6 J6 _ va5 hz hd5 q=>by
   have(e6,n6,_):=J6.pin (d,o) (yaR _ ymS);have I6:Inv X k Z H5 s6:=I3.leave (λb c=>(O b c).1) J6;have I6t:Inv X k Z (upd H5 d (ho a)) s6:=I6.track ⟨hd5,fd.2⟩ (.inr S) S (hho va5 hz y e6);have(m6,hn6,_):=J6.loc;show hRR d s3.heap.objs.size (.ref d) _ s6 m6 I6t rfl (q d hd5) hn6 ?_ hCd;show I3.fpOk (FV _) (by rw[upd_ne hCd];show J6.free)
 show hst L4 (T.self X.A 0 _ _ _ st4 L4)
def zX{acc o H h d}(f:obL acc o)(i:szL acc)(_:(d==MN)=Qa)(e:h.get? d*>o):JZ X.prog X.w H h d (.lst acc):=by
 have(a,n,rfl,c):=f;show{Ic i,a,n,c,e}
def kW(hc:X.calm=Qb)(B:Blk X.env.scope scope X.N N' fr)
  (hg:∀b,PG (cxB X scope N' b) tg g) (u:dB fr g) (ht:∀b,PTs (cxB X scope N' b) ifs tc) (he:∀b,PE (cxB X scope N' b) elt te)
  {z:!(Addr×Obj)} {Z:St} {Q:VK} {k:KA} {M:KC} {E:KA->KC->Prop} {RR:KA->Addr->Pw->KC->Prop}
  (h2:PIE X z Z tg (λJ H1=>∃W:Nat->Nat->!V->Hp->Prop,(∃m,W 0 m [] H1)/\∀i m c H,W i m c H->c.length<sizeLine /\
   ((J.stop i H/\∀d,H d=P8->Q (.ref d) (upd H d (.lst c))) \/
   (J.go i H/\∃N:!V->Hp->Prop,(∀acc' H',N acc' H'->∃r,r<m/\W (i+1) r acc' H') /\
    ∀x H',J.yld i H x H'->g x (aZ fr Z) H' λO S=>tc O S λb P=>if b=Qb then te O P λv H4=>N (c++[v]) H4 else N c P))) k M)
  (K:∀(d C:Addr) (v:V) (H':Hp) (l:KC) r,Inv X z Z H' l->v=.ref d->Q v H'->l.heap.Ns C r->dW X z H' C->C≠d->RR (.ref d) C (.ok .next) l) :
  KI (KO X.prog X.w) X.A (newList []) (λc j=>KI (KO X.prog X.w) X.A (Mm scope X.env.globals (bL X.env scope.names []) [] X.env.qual P8 .none (P9 X.env)) (λe h=>
   LP (KO X.prog X.w) X.A (.compStart (.ListComp elt [{tg,iter,ifs,0}] scope pos) 0 k c {e with scope:=NB scope X.env}) (RR c e.locals) h) E j) E M:=
 kU (Ob:=obL) (Sz:=szL) (ho:=.lst) (a0:=[]) (o0:=lO [] 0) hc B (λq=>KU q) (λa b=>NC a b) {[],0,Xr,.nil} (KN _ rfl) zX h2 K λp it fp tn J S d s4 A t wk L=>by
  obtain⟨W,⟨U,t⟩,f⟩:=t;show gp (Wk obL (cxB X scope N' p) [] fr (aZ fr Z) fp tn d W) (λn s hw=>A.turn qq (hg p) u f hw L λi c o N h7 Z' H l J8 G y Y hz hN q8=>A.app (ht p) (he p) J8 G y Y hz hN q8) U (wk W U t)
def yt(r:X.calm=Qb)(B:Blk X.env.scope scope X.N N' fr)(k:PI X tg iter wi)
  (P:∀b,PG (cxB X scope N' b) tg g) (a:dB fr g) (p:∀b,PTs (cxB X scope N' b) ifs tc) (M:∀b,PE (cxB X scope N' b) elt te)
  (hs:∀x,K8 iter X.env x=pure x:=by intro _;rfl):PE X (.ListComp elt [{tg,iter,ifs,0}] scope pos) (w9 wi fr g tc te):=by
 intro f s Z H Q I h;rw[eval_ListComp];show Mf (use:=P8) rfl hs (eX (I.freeCells B)) B.kind B.locl (thn (k f s Z H _ I h) λv U z=>thn z λK S J=>?_);show kW (RR:=λc C=>PN (KO X.prog X.w) X.A X.xe P8 (EP X f Z Q) c C) r B P a p M J ?_;intro d C v l j u O t q m y L;show{u,m,λi E=>?_};have(c0,c1,c2,c3,c4,c5):=y;show{v,l,O.turned (it:=C) (t':=j.toks) (λb o G e=>(E.2 b G).trans e) c0 c1 c3 c4 c5,by rw[t];rfl,q}
def qB(S:X.calm=Qb)(P:X.N.Nodup)(f:X.N[i]?*>x)(r:X.env.scope.names.lookup x*>.local)(B:Blk X.env.scope scope X.N N' fr)(y:PI X tg iter wi)
  (hg:∀b,PG (cxB X scope N' b) tg g) (k:dB fr g) (O:∀b,PTs (cxB X scope N' b) ifs tc) (he:∀b,PE (cxB X scope N' b) elt te)
  (p:Nl (.ListComp elt [{tg,iter,ifs,0}] scope pos) (P9 (.Name x pos')) spos.line X.env=pure Qb:=by rfl)
  (hs:∀x,K8 iter X.env x=pure x:=by intro _;rfl):PS X (.Assign [.Name x pos'] (.ListComp elt [{tg,iter,ifs,0}] scope pos) spos) (zz (w9 wi fr g tc te) (my i)):=by
 intro l s Z H D I h;rw[exec_Assign_Name_used _ _ _ _ p];show Kz (LD (Kz ?_));change KI _ _ (do let _ <-comprehension (.ListComp elt [{tg,iter,ifs,0}] scope pos) scope X.env _ (newList []) Qa (eval iter X.env) (P9 (L9 (.Name x pos') X.env))) _ _ s;show Kz (Lb (Mf (use:=P9 (L9 (.Name x pos') X.env)) (Q:=λ_ c=>SP X l D .next c) rfl hs (eX (I.freeCells B)) B.kind B.locl (thn (y l s Z H _ I h) λv s1 h1=>thn h1 λitv s2 h2=>?_)) (λ_ c hq=>KD (KD hq)) λ_ _ e=>e);show kW (Q:=λv K=>my i v Z K D.nx) (RR:=λm C=>PN (KO X.prog X.w) X.A X.xe (P9 (L9 (.Name x pos') X.env)) (λ_ c=>SP X l D .next c) m C) S B hg k O he h2 ?_;intro d C v L c Y I' U q M fC hCd;have(c0,c1,c2,c3,c4,c5):=fC;subst U;show Og (m7 I' P f (.inl r) (show RelV (.ref d) (.ref d)from rfl) (λE J ⟨a,t,ha⟩=>?_) (.inr r));have j:C≠a:=by
  rcases ha with z|z;rw[z];show c1;show λG=>c4 x a z G.symm
 show{Y,M.sameBut t j,λu sb=>?_};show{_,L,J.turned (it:=C) (t':=E.toks) (λb o hb e=>(sb.2 b hb).trans e) c0 c1 c3 c4 c5,q}
end
inductive D where
 | int (i:Int)|str (x:Str)|tup (ds:!D)
mutual
def Rep(K:yF)(H:Hp):D->V->Prop
 | .int i,v=>v=.int i
 | .str x,v=>v=.str x
 | .tup d,v=>∃a c,v=.ref a/\SqT K H a c/\ve K H d c
def ve(K:yF)(H:Hp):!D->!V->Prop
 | [],a=>a=[]
 | d::c,a=>∃x r,a=x::r/\Rep K H d x/\ve K H c r
end
mutual
noncomputable def D.depth:D->Nat
 | .int _=>0
 | .str _=>0
 | .tup ds=>aL ds+1
noncomputable def aL:!D->Nat
 | []=>0
 | d::ds=>max d.depth (aL ds)
end
def mn:∀{a:!D},d∈a->d.depth<=aL a
 | [],h=>by cases h
 | e::a,h=>by
  rw[aL];rcases ycM h with z|z;rw[z];show II _ _;show Gj (mn z) (Iy _ _)
abbrev Ext(H H':Hp):Prop:=∀b o,H b*>o->(∃a,o=.tup a \/ ∃c,o=.frz c (.tup a))->H' b*>o
def Ext.trans(a:Ext H H1)(b:Ext H1 H2):Ext H H2:=λc o h k=>b c o (a c o h k) k
def ve.length{K:yF}{H:Hp}:∀{a:!D} {xs:!V},ve K H a xs->xs.length=a.length
 | [],xs,h=>by rw[ve]at h;rw[h];rfl
 | d::a,xs,h=>by
  rw[ve]at h;have(x,r,rfl,_,c):=h;rw[FR,FR,c.length]
def Rep.tup_iff{K:yF}{H:Hp}{c:!D}{v:V}:Rep K H (.tup c) v ↔ ∃a xs,v=.ref a/\SqT K H a xs/\ve K H c xs:=by rw[Rep]
def JX.laid(a:H p=P8):JX H (upd H p o):=λb u e=>by rw[upd_ne (ba e a)];show e
section
section
variable {X:Cx}{OK:!(Addr×Obj)}{Z:St}{H:Hp}{s:KC}
mutual
theorem Rep.inj(I:Inv X OK Z H s):∀{d e:D} {v:V},Rep X.K H d v->Rep X.K H e v->d=e
 | .int i,.int j,v,h,c=>by dsimp[Rep]at h c;subst h;cases c;rfl
 | .int i,.str j,v,h,c=>by dsimp[Rep]at h c;subst h;cases c
 | .int i,.tup j,v,h,c=>by dsimp[Rep]at h c;subst h;have(_,_,z,_):=c;cases z
 | .str i,.int j,v,h,c=>by dsimp[Rep]at h c;subst h;cases c
 | .str i,.str j,v,h,c=>by dsimp[Rep]at h c;subst h;cases c;rfl
 | .str i,.tup j,v,h,c=>by dsimp[Rep]at h c;subst h;have(_,_,z,_):=c;cases z
 | .tup i,.int j,v,h,c=>by dsimp[Rep]at h c;subst c;have(_,_,z,_):=h;cases z
 | .tup i,.str j,v,h,c=>by dsimp[Rep]at h c;subst c;have(_,_,z,_):=h;cases z
 | .tup q,.tup o,v,h,c=>by
  dsimp[Rep]at h c;have(a,m,rfl,l,g):=h;have(b,p,z,k,f):=c;cases z;rw[I.tuple_inj k l]at f;rw[ve.inj I g f]
theorem ve.inj(I:Inv X OK Z H s):∀{f c:!D} {xs:!V},ve X.K H f xs->ve X.K H c xs->f=c
 | [],[],xs,h,a=>rfl
 | [],e::c,xs,h,a=>by dsimp[ve]at h a;subst h;have(_,_,z,_):=a;cases z
 | d::f,[],xs,h,a=>by dsimp[ve]at h a;subst a;have(_,_,z,_):=h;cases z
 | d::f,e::c,xs,h,a=>by
  dsimp[ve]at h a;have(x,r,rfl,j,g):=h;have(y,q,z,i,k):=a;cases z;rw[Rep.inj I j i,ve.inj I g k]
end
open SeqAt in
mutual
theorem uB(I:Inv X OK Z H s):∀(d e:D) {x y:V} {u v:KA} {A:Li},Rep X.K H d x->Rep X.K H e y->RelV x u->RelV y v->A.units+d.depth<LF->∃b,(b=Qb↔d=e)/\EqAt A s u v b
 | .int i,.int j,x,y,u,v,A,h,c,r,g,_=>by
  dsimp[Rep]at h c;subst h c;have(t,rfl):=r;have(q,rfl):=g;show{_,by simp,EqAt.int_int i t j q}
 | .int i,.str j,x,y,u,v,A,h,c,r,g,_=>by
  dsimp[Rep]at h c;subst h c;have(t,rfl):=r;have(q,rfl):=g;show{_,by simp,EqAt.int_str i t j q}
 | .str i,.int j,x,y,u,v,A,h,c,r,g,_=>by
  dsimp[Rep]at h c;subst h c;have(t,rfl):=r;have(q,rfl):=g;show{_,by simp,EqAt.str_int i t j q}
 | .str i,.str j,x,y,u,v,A,h,c,r,g,_=>by
  dsimp[Rep]at h c;subst h c;have(t,rfl):=r;have(q,rfl):=g;show{_,by simp,EqAt.str_str i t j q}
 | .int i,.tup j,x,y,u,v,A,h,c,r,g,m=>by
  dsimp[Rep]at h c;subst h;have(t,rfl):=r;have(a,E,rfl,o,_):=c;cases g;have(f,_,p,_):=I.tuple o;show{Qa,by simp,EqAt.int_tuple i t (show s.heap.IsTuple a f.toArray from p) (Hc (GK _ _) m)}
 | .str i,.tup j,x,y,u,v,A,h,c,r,g,m=>by
  dsimp[Rep]at h c;subst h;have(t,rfl):=r;have(a,E,rfl,o,_):=c;cases g;have(f,_,p,_):=I.tuple o;show{Qa,by simp,EqAt.str_tuple i t (show s.heap.IsTuple a f.toArray from p) (Hc (GK _ _) m)}
 | .tup j,.int i,x,y,u,v,A,h,c,r,g,m=>by
  dsimp[Rep]at h c;subst c;have(t,rfl):=g;have(a,E,rfl,o,_):=h;cases r;have(f,_,p,_):=I.tuple o;show{Qa,by simp,EqAt.tuple_int i t (show s.heap.IsTuple a f.toArray from p) (Hc (GK _ _) m)}
 | .tup j,.str i,x,y,u,v,A,h,c,r,g,m=>by
  dsimp[Rep]at h c;subst c;have(t,rfl):=g;have(a,E,rfl,o,_):=h;cases r;have(f,_,p,_):=I.tuple o;show{Qa,by simp,EqAt.tuple_str i t (show s.heap.IsTuple a f.toArray from p) (Hc (GK _ _) m)}
 | .tup C,.tup N,x,y,u,v,A,h,c,r,g,m=>by
  by_cases B:u=v
  .subst B;have L:x=y:=r.inj g;subst L;show{Qb,by simp[Rep.inj I h c],EqAt.same u}
  .dsimp[Rep]at h c;have(a,E,rfl,o,M):=h;have(b,ys,rfl,Q,P):=c;cases r;cases g;have(f,O,p,_):=I.tuple o;have(k,w,U,_):=I.tuple Q;have G:a≠b:=λz=>B (by rw[z]);have J:A.in1.units+aL C<LF:=by
    have:A.units+(aL C+1)<LF:=by rw[D.depth]at m;show m
    change A.units+1+aL C<LF;omega
   have(e,he,S):=g9 I C N (A:=A.in1) M P O w J;have R:=RcAt.tuples (A:=A) (s:=s) (l:=a) (b:=b) (items:=f.toArray) (items2:=k.toArray) (e:=e) (show s.heap.IsTuple a f.toArray from p) (show s.heap.IsTuple b k.toArray from U) (Hc (GK _ _) m) (λj Y o=>by
    simpa using S j (f[j]'(by exists Y)) (k[j]'(by exists o)) ∅ ∅)
   show{_,?_,EqAt.of_refs G R};rw[he.symm];have l1:f.toArray.size=C.length:=by rw[FN,<-O.length,M.length]
   have l2:k.toArray.size=N.length:=by rw[FN,<-w.length,P.length]
   rw[l1,l2];simp
theorem g9(I:Inv X OK Z H s):∀(a c:!D) {xs k:!V} {i vs:!KA} {A:Li},ve X.K H a xs->ve X.K H c k->Vals xs i->Vals k vs->A.units+aL a<LF ->
  ∃e:Nat->Bool,(((Gn (min a.length c.length)).all e=Qb/\a.length=c.length)↔D.tup a=D.tup c)/\∀(j:Nat) u v,i[j]?*>u->vs[j]?*>v->EqAt A s u v (e j)
 | [],c,xs,k,i,vs,A,h,g,r,l,_=>by
  rw[ve]at h;subst h;cases r;show{λ_=>Qb,?_,λj u v e=>by simp at e};cases c<;>simp
 | d::a,[],xs,k,i,vs,A,h,g,r,l,_=>by
  rw[ve]at g;subst g;cases l;show{λ_=>Qb,by simp,λj u v _ e=>by simp at e}
 | d::a,e::c,xs,k,i,vs,A,h,g,r,l,G=>by
  dsimp[ve]at h g;have(x,q,rfl,P,J):=h;have(y,q',rfl,C,S):=g;cases r with
  | cons N B=>
   cases l with
   | cons E U=>
    rw[aL]at G;have m1:=II d.depth (aL a);have Y:=Iy d.depth (aL a);have(b,O,M):=uB I d e (A:=A) P C N E ⋯;have(f,L,Q):=g9 I a c (A:=A) J S B U ⋯;show{λj=>match j with|0=>b|j+1=>f j,?_,λj u v m p=>?_}
    .have o:((Gn (min a.length c.length)).all f=Qb/\a.length=c.length)↔a=c:=by rw[L];simp
     rw[FR,FR,Nat.succ_min_succ,List.range_succ_eq_map,GO,Ji];dsimp[D.tup.injEq,Hj.injEq,FO,Nat.add_right_cancel_iff];rw[<-o,<-O];constructor;rintro⟨⟨t,z⟩,w⟩;show⟨t,z,w⟩;rintro⟨t,z,w⟩;show{⟨t,z⟩,w}
    .cases j with
     | zero=>simp at m p;subst m p;show M
     | succ j=>show Q j u v (by exists m) (by exists p)
end
end
end
section
variable {X:Cx}
abbrev Et(K:yF):R2:=λx y H Q=>∃a c,Rep K H (.tup a) x/\Rep K H (.tup c) y/\aL a<=50/\∀b,(b=Qb↔a=c)->Q (.bl b) H
abbrev Ez(K:yF):R2:=λx y H Q=>∃a c,Rep K H (.tup a) x/\Rep K H (.tup c) y/\aL a<=50/\∀b,(b=Qb↔a≠c)->Q (.bl b) H
def Bf(U:X.A.units+64<LF):OpR X (K7 .Eq) (Et X.K):=by
 intro Y s Z H x y v u Q I L G h;have(f,i,k,m,P,q):=h;rw[Rep.tup_iff]at k m;have(a,O,rfl,J,t):=k;have(b,S,rfl,N,z):=m;cases L;cases G;have(d,B,p,_):=I.tuple J;have(c,g,E,_):=I.tuple N;have o:X.A.in1.units+aL f<LF:=by change X.A.units+1+aL f<LF;omega
 have(e,M,C):=g9 I f i (A:=X.A.in1) t z B g o;have R:=Pb.tuples (A:=X.A) (s:=s) (l:=a) (b:=b) (items:=d.toArray) (items2:=c.toArray) (e:=e) (show s.heap.IsTuple a d.toArray from p) (show s.heap.IsTuple b c.toArray from E) ⋯ (λj k m=>by
  simpa using C j (d[j]'(by exists k)) (c[j]'(by exists m)) ∅ ∅)
 show R X.prog X.w X.xe _ {.bl _,H,I,Xr,q _ ?_};have l1:d.toArray.size=f.length:=by rw[FN,<-B.length,t.length]
 have l2:c.toArray.size=i.length:=by rw[FN,<-g.length,z.length]
 have r:((Gn (min f.length i.length)).all e=Qb/\f.length=i.length)↔f=i:=by rw[M];simp
 rw[l1,l2,<-r];simp
def Bo(U:X.A.units+64<LF):OpR X (K7 .NotEq) (Ez X.K):=by
 intro Y s Z H x y v u Q I L G h;have(f,i,k,m,P,q):=h;rw[Rep.tup_iff]at k m;have(a,O,rfl,J,t):=k;have(b,S,rfl,N,z):=m;cases L;cases G;have(d,B,p,_):=I.tuple J;have(c,g,E,_):=I.tuple N;have o:X.A.in1.units+aL f<LF:=by change X.A.units+1+aL f<LF;omega
 have(e,M,C):=g9 I f i (A:=X.A.in1) t z B g o;have R:=PP (A:=X.A) (s:=s) (l:=a) (b:=b) (items:=d.toArray) (items2:=c.toArray) (e:=e) (show s.heap.IsTuple a d.toArray from p) (show s.heap.IsTuple b c.toArray from E) ⋯ (λj k m=>by
  simpa using C j (d[j]'(by exists k)) (c[j]'(by exists m)) ∅ ∅)
 show R X.prog X.w X.xe _ {.bl _,H,I,Xr,q _ ?_};have l1:d.toArray.size=f.length:=by rw[FN,<-B.length,t.length]
 have l2:c.toArray.size=i.length:=by rw[FN,<-g.length,z.length]
 have r:((Gn (min f.length i.length)).all e=Qb/\f.length=i.length)↔f=i:=by rw[M];simp
 rw[l1,l2,ne_eq,<-not_congr r,Gk,<-Jm,FO,beq_iff_eq]
abbrev Eu(K:yF):R2:=λx y H Q=>∃a b e f d g,x=.ref a/\y=.ref b/\SqL K H a e/\SqL K H b f/\ve K H d e/\ve K H g f/\aL d<=50/\∀c,(c=Qb↔d=g)->Q (.bl c) H
abbrev EA(K:yF):R2:=λx y H Q=>∃a b e f d g,x=.ref a/\y=.ref b/\SqL K H a e/\SqL K H b f/\ve K H d e/\ve K H g f/\aL d<=50/\∀c,(c=Qb↔d≠g)->Q (.bl c) H
def Bg(hu:X.A.units+64<LF):OpR X (K7 .Eq) (Eu X.K):=by
 intro OK s Z H x y v u Q I L G h;obtain⟨a,b,S,Y,f,g,rfl,rfl,J,P,r,B,U,q⟩:=h;cases L;cases G;have(d,C,p,_):=I.list J;have(c,i,t,_):=I.list P;have m:X.A.in1.units+aL f<LF:=by change X.A.units+1+aL f<LF;omega
 have(e,O,E):=g9 I f g (A:=X.A.in1) r B C i m;have l1:d.toArray.size=f.length:=by rw[FN,<-C.length,r.length]
 have l2:c.toArray.size=g.length:=by rw[FN,<-i.length,B.length]
 have o:((Gn (min f.length g.length)).all e=Qb/\f.length=g.length)↔f=g:=by rw[O];simp
 by_cases k:f.length=g.length
 .have R:=Pb.lists (A:=X.A) (s:=s) (l:=a) (b:=b) (items:=d.toArray) (items2:=c.toArray) (e:=e) p.isList t.isList (by rw[l1,l2];show k) ⋯ (λj M N=>by
   simpa using E j (d[j]'(by exists M)) (c[j]'(by exists N)) ∅ ∅)
  show R X.prog X.w X.xe _ {.bl _,H,I,Xr,q _ ?_};rw[l1,<-o,<-k,JL];simp
 .have R:=Pb.lists_lengths (A:=X.A) (s:=s) (l:=a) (b:=b) (items:=d.toArray) (items2:=c.toArray) p.isList t.isList (by rw[l1,l2];exists k) ⋯;show R X.prog X.w X.xe _ {.bl _,H,I,Xr,q _ ?_};constructor;intro z;cases z;intro z;show absurd (by rw[z]) k
def Bp(hu:X.A.units+64<LF):OpR X (K7 .NotEq) (EA X.K):=by
 intro OK s Z H x y v u Q I L G h;obtain⟨a,b,S,Y,f,g,rfl,rfl,J,P,r,B,U,q⟩:=h;cases L;cases G;have(d,C,p,_):=I.list J;have(c,i,t,_):=I.list P;have m:X.A.in1.units+aL f<LF:=by change X.A.units+1+aL f<LF;omega
 have(e,O,E):=g9 I f g (A:=X.A.in1) r B C i m;have l1:d.toArray.size=f.length:=by rw[FN,<-C.length,r.length]
 have l2:c.toArray.size=g.length:=by rw[FN,<-i.length,B.length]
 have o:((Gn (min f.length g.length)).all e=Qb/\f.length=g.length)↔f=g:=by rw[O];simp
 by_cases k:f.length=g.length
 .have R:=PV (A:=X.A) (s:=s) (l:=a) (b:=b) (items:=d.toArray) (items2:=c.toArray) (e:=e) p.isList t.isList (by rw[l1,l2];show k) ⋯ (λj M N=>by
   simpa using E j (d[j]'(by exists M)) (c[j]'(by exists N)) ∅ ∅)
  show R X.prog X.w X.xe _ {.bl _,H,I,Xr,q _ ?_};rw[l1,ne_eq,<-not_congr o,<-k,JL];simp
 .have R:=Pc (A:=X.A) (s:=s) (l:=a) (b:=b) (items:=d.toArray) (items2:=c.toArray) p.isList t.isList (by rw[l1,l2];exists k) ⋯;show R X.prog X.w X.xe _ {.bl _,H,I,Xr,q _ ?_};constructor;intro _ z;show absurd (by rw[z]) k;intro _;rfl
open Classical in
abbrev isD(K:yF) (H:Hp) (d:D) (u:KA):Bool:=decide (∃v,RelV v u/\Rep K H d v)
open Classical in
def rC{K:yF}{H:Hp}{d:D}{u:KA}:isD K H d u=Qb ↔ ∃v,RelV v u/\Rep K H d v:=by
 unfold isD;show decide_eq_true_iff
def iQ(I:Inv X OK Z H s)  : ∀{c:!D} {xs:!V} {a:!KA},ve X.K H c xs->Vals xs a->(a.any (isD X.K H d)=Qb↔d∈c)
 | [],xs,a,h,r=>by rw[ve]at h;subst h;cases r;simp
 | e::c,xs,a,h,r=>by
  rw[ve]at h;have(x,q,rfl,i,j):=h;cases r with
  | @cons _ k _ m g l=>
   rw[Ip,Ia,iQ I j l,Gg];have:isD X.K H d k=Qb↔d=e:=by
    rw[rC];constructor
    .rintro⟨v,o,f⟩;rw[o.inj g]at f;show Rep.inj I f i
    .intro z;subst z;show⟨x,g,i⟩
   rw[this]
def gv(I:Inv X OK Z H s)(l:Rep X.K H d x)(o:RelV x v)(c:A.units+aL ds<LF) :
  ∀{g:!D} {xs:!V} {a:!KA},(∀e∈g,e∈ds)->ve X.K H g xs->Vals xs a->∀u∈a,Lg A s u v (isD X.K H d u)
 | [],xs,a,_,h,r=>by rw[ve]at h;subst h;cases r;intro u c;cases c
 | e::g,xs,a,m,h,r=>by
  rw[ve]at h;have(y,q,rfl,i,t):=h;cases r with
  | cons f B=>
   intro u k;rcases ycM k with z|z
   .subst z;have(b,G,C):=uB I e d (A:=A) i l f o (Hc (Nat.add_le_add_left (mn (m e ymS)) _) c);have:isD X.K H d u=b:=by
     have L:isD X.K H d u=Qb↔e=d:=by
      rw[rC];constructor
      .rintro⟨w,j,p⟩;rw[j.inj f]at p;show(Rep.inj I p i).symm
      .intro z;subst z;show⟨y,f,i⟩
     rw[GI,L,G]
    rw[this];show C
   .show gv I l o c (λJ E=>m J (ymC _ E)) t B u z
abbrev yU(K:yF)(c:Bool):R2:=λx y H Q=>∃p e d a,y=.ref p/\(SqL K H p e\/SqT K H p e)/\Rep K H d x/\ve K H a e/\aL a<=50/\∀b,(b=Qb↔(if c=Qb then d∉a else d∈a))->Q (.bl b) H
def Bj(B:X.A.units+64<LF):OpR X (K7 .In) (yU X.K Qa):=by
 intro r s Z H x y v u Q I l o h;obtain⟨p,t,d,m,rfl,e,k,g,w,q⟩:=h;cases o;have f:X.A.in1.units+aL m<LF:=by change X.A.units+1+aL m<LF;omega
 rcases e with e|e
 .have(a,c,i,_):=I.list e;show OM (isD X.K H d) i.isList (λy j=>gv I k l f (λ_ z=>z) g c y (by exists j)) {.bl _,H,I,Xr,q _ ?_};rw[if_neg (by decide),<-iQ I g c];simp
 .have(a,c,i,_):=I.tuple e;show Ox (isD X.K H d) (show s.heap.IsTuple p a.toArray from i) (λy j=>gv I k l f (λ_ z=>z) g c y (by exists j)) {.bl _,H,I,Xr,q _ ?_};rw[if_neg (by decide),<-iQ I g c];simp
def tj(B:X.A.units+64<LF):OpR X (K7 .NotIn) (yU X.K Qb):=by
 intro r s Z H x y v u Q I l o h;obtain⟨p,t,d,m,rfl,e,k,g,w,q⟩:=h;cases o;have f:X.A.in1.units+aL m<LF:=by change X.A.units+1+aL m<LF;omega
 rcases e with e|e
 .have(a,c,i,_):=I.list e;show Oc (isD X.K H d) i.isList (λy j=>gv I k l f (λ_ z=>z) g c y (by exists j)) {.bl _,H,I,Xr,q _ ?_};rw[if_pos rfl,<-iQ I g c];simp
 .have(a,c,i,_):=I.tuple e;show NY (isD X.K H d) (show s.heap.IsTuple p a.toArray from i) (λy j=>gv I k l f (λ_ z=>z) g c y (by exists j)) {.bl _,H,I,Xr,q _ ?_};rw[if_pos rfl,<-iQ I g c];simp
abbrev pJ(i j:Int):Prop:=0<j/\j<2^64
def tf:OpR X (Lo .FloorDiv) (rI pJ λi j=>.int (i / j)):=opI λi j _ _ _ _ _ a q=>by
 have e:(0:Int)<j:=a.1;have f:j<2^64:=a.2;show floordiv_int ⋯ (by rw[Ie i ⋯];show q) (.inl (PyProof.noPylong_of_log2 ?_));have c:j.natAbs<2^64:=by omega
 have d:j.natAbs≠0:=by omega
 have:=(JW d).mpr c;omega
def BS(he:PE X e te):PI X tg e (λZ H R=>te Z H λx N=>∃z:Str,x=.str z/\R {λi _=>i<z.cps.size,λi H y H'=>H'=H/\∃c,z.cps[i]?*>c/\y=.str {#[c]},λi _=>z.cps.size<=i} N):=by
 intro OK s Z H R I h;show thn (he OK s Z H _ I h) λv a z9=>?_;have(x,N,I1,r1,q1):=z9;have(z,rfl,q):=q1;have(t,rfl):=r1;have l:∀(n:String) (o:Obj),(["enumerate","zip","dict_itemiterator","dict_reverseitemiterator","odict_iterator","itertools.zip_longest","itertools.pairwise"].contains n=Qa) ->
   o={cls:=.type n,data:=.fields #[.str z t,.int 0 0]}->(∀L:Li,L.handled=P8->PY X.prog X.w L a.heap.objs.size [a.heap.objs.size] [a.heap.objs.size] z.cps.size (SignAt z) (λi h=>h.IsStrIter a.heap.objs.size n z t i)) ->
   (∀(A:Li) (i:Nat) (s:KC) (Q:KA->KC->Prop) (E:KA->KC->Prop),s.heap.IsStrIter a.heap.objs.size n z t i->Q (.ref a.heap.objs.size) s->KI (KO X.prog X.w) A (NO (.ref a.heap.objs.size)) Q E s) ->
   PIE X OK Z tg R (.ref a.heap.objs.size) {a with heap:=a.heap.push o}:=by
  intro n o hn ho W m;subst ho;show{a.heap.objs.size,[a.heap.objs.size],λi h=>h.IsStrIter a.heap.objs.size n z t i/\i<=z.cps.size,_,N,Xr,I1.kept (t':=a.toks) λb o e=>KB _ e,?_,{{_,KN _ rfl,Xr,Xr},GA _},λb g=>?_,q}
  .show{by simp,λi h st b g=>?_,λi h G st k=>{?_,st.2},?_,?_,λA i s Q E st h=>?_}
   .have e:b=a.heap.objs.size:=by exists g
    subst e;have(o,e,c,d):=st.1;show{o,e,λv z=>by rw[d]at z;cases z}
   .have(o,ho,r):=st.1;show{o,k _ ∅ o ho,r}
   .intro Y hP hw hK hc i f B Z' H' E p K st J;have(U,f1,f2,f3,f4,S):=K a.heap.objs.size ∅;show(W Y.A (p.ok.hd hc)).item i B _ _ J st.1 λv G O hv C M=>?_;have(c,u,hc',rfl):=hv;have P:Inv Y f Z' H' {B with heap:=G,toks:=O}:=p.turned (λb o g e=>M b o (by exists g) e) U f1 f3 f4 S;have(o,e,cl,d):=id C;show{_,Xr,oS (s:={B with heap:=G,toks:=O}) e cl d hn {.str {#[c]},H',P,⟨u,Xr⟩,⟨Xr,c,hc',Xr⟩,⟨C,J⟩,λb g=>(K b g).1}}
   .intro Y hP hw hK hc i f B Z' H' E p K st J;have(U,f1,f2,f3,f4,S):=K a.heap.objs.size ∅;have hi:i=z.cps.size:=Js st.2 J;show(W Y.A (p.ok.hd hc)).done B _ _ (hi▸st.1) λG O M=>{Xr,?_};show p.turned (λb o g e=>M b o (by exists g) e) U f1 f3 f4 S
   .show m A i s Q E st.1 h
  .have e:b=a.heap.objs.size:=by exists g
   subst e;show I1.fpOk (FV _) (I1.hok.fresh (FV _))
 cases ha:z.cps.all (· < 128);show wpAny_pyIter_wide ha (l "str_iterator" _ (by decide) rfl (λL hA=>PY.strWide hA _ z t) λA i s Q E st h=>wpAny_pyIter_striter_wide st h);show wpAny_pyIter_ascii ha (l "str_ascii_iterator" _ (by decide) rfl (λL hA=>PY.strAscii hA _ z t) λA i s Q E st h=>wpAny_pyIter_striter_ascii st h)
end
noncomputable abbrev sL(z:Str):!Nat:=z.cps.toList
noncomputable abbrev oL(l:!Nat):Str:=⟨l.toArray⟩
def cw(l:!Nat):sL (oL l)=l:=rfl
def lr(z:Str):oL (sL z)=z:=by cases z;rfl
def aH(z:Str):z.length=(sL z).length:=by unfold PR sL;rw[GE]
def iK(x y:Str):sL (x++y)=sL x++sL y:=by
 change(x.cps++y.cps).toList=_;rw[Array.toList_append]
def iL(h:sL x=sL y):x=y:=by rw[<-lr x,h,lr]
abbrev cy{a:Type} (xs:!a) (lo c:↑Int):!a:=(xs.drop (HT.sIx xs.length 0 lo)).take (HT.sIx xs.length xs.length c-HT.sIx xs.length 0 lo)
def pD(lo c:↑Int)(n:Nat):Lf lo c 1 n=(Gn (HT.sIx n n c-HT.sIx n 0 lo)).map (HT.sIx n 0 lo + ·):=by
 have f:(1:Int)>0:=by lia
 have a:∀(v:↑Int) (d:Nat),(match v with|none=>(d:Int)|some i=>(if(1:Int)>0 then max 0 (min (if i<0 then i+(n:Int)else i) (n:Int))else max (-1) (min (if i<0 then i+(n:Int)else i) ((n:Int)-1))))=((HT.sIx n d v:Nat):Int):=by
  intro v d;cases v with
  | none=>rfl
  | some i=>
   change(if(1:Int)>0 then max 0 (min (if i<0 then i+(n:Int)else i) (n:Int))else _)=(((if i<0 then(i+(n:Int)).toNat else min i.toNat n):Nat):Int);rw[if_pos f];by_cases c:i<0;dsimp[if_pos c];lia;dsimp[if_neg c];lia
 have e:Lf lo c 1 n=sliceRange ((HT.sIx n 0 lo:Nat):Int) ((HT.sIx n n c:Nat):Int) 1:=by
  unfold Lf;dsimp[f,if_true];have c1:=a lo 0;have c2:=a c n;dsimp[f,if_true]at c1 c2;rw[<-c1,<-c2];rfl
 rw[e,O9]
def no(x:Str)(lo a:↑Int):Pp x lo a=oL (cy (sL x) lo a):=by
 have e:x.length=(sL x).length:=aH x;have d:((Lf lo a 1 x.length).filterMap (x.cps[·]?))=cy (sL x) lo a:=by
  rw[pD,e];unfold cy;show PK x.cps _ _
 unfold Pp;split
 .delta h;have g:(Lf lo a 1 x.length).length=x.length:=by
   dsimp[FO]at h;exists h.2
  have f:(cy (sL x) lo a)=sL x:=by
   unfold cy;rw[pD,FM,Jj,e]at g;have i:=HT.sIx_le (sL x).length (sL x).length (FV _) a;have c:HT.sIx (sL x).length 0 lo=0\/(sL x).length=0:=by lia
   rcases c with c|c
   .rw[c,IS];show GD (by lia)
   .rw[HX c];simp
  rw[f,lr]
 .rw[d]
section
variable {X:Cx}
def Cu:SlR X (λx lo a H Q=>∃z,x=.str z/\z.length<=sizeLine/\Q (.str (oL (cy (sL z) lo a))) H):=by
 intro A s Z H x v B w lo a y Q I j g m d h;have(z,rfl,f,q):=h;have(t,rfl):=j;have c:∀{v:KA} {o:↑Int},Nh v o->∃p:↑(Int×Tok),v=partValue p/\p.map (·.1)=o:=λ{v o} p=>by
  cases p with
  | none=>show⟨P8,Xr,Xr⟩
  | int i t=>show{P9 (i,t),Xr,Xr}
 have(l,rfl,rfl):=c m;have(u,rfl,rfl):=c d;show{"str",_,F.slot_str_getitem.lookup,Mh _ _ _,?_};show wpAny_getItem_str_slice (l:=l) (u:=u) (st:=P8) g rfl ?_;have e:sliceMade z t l u P8=if((1:Int)==1&&(Lf (l.map (·.1)) (u.map (·.1)) 1 z.length).length==z.length)=Qb then Made.val (.str z t)else Made.str {((Lf (l.map (·.1)) (u.map (·.1)) 1 z.length).filterMap (z.cps[·]?)).toArray}:=rfl;rw[e];show OQ {Gj (Txt.slice_le z _ _) f,λr k=>?_};show{.str (Pp z (l.map (·.1)) (u.map (·.1))),H,I.tok k,⟨r,Xr⟩,?_};rw[no];show q
abbrev rSl(K:yF):V->↑Int->↑Int->Hp->VK->Prop:=λx lo a H Q=>ED K x lo a H Q\/EC K x lo a H Q \/ ∃z,x=.str z/\z.length<=sizeLine/\Q (.str (oL (cy (sL z) lo a))) H
def qO:∀{a:!KA},Vals (zs.map V.str) a->StrsAre a zs:=by
 induction zs with
 | nil=>intro a r;rw[HA]at r;cases r;show .nil
 | cons n g c=>
  intro a r;rw[FS]at r;cases r with
  | cons f d=>
   have(t,e):=f;subst e;show .cons n t (c d)
def yf:MtR X "str.join" (λx vs H Q=>∃z a zs,x=.str z/\vs=[.ref a]/\SqL X.K H a (zs.map V.str)/\(zs.map (·.length)).sum+zs.length*z.length<=16777216/\Q (.str (Lj z zs)) H):=by
 intro l s Z H x m v o Q I d g h;have(z,a,zs,rfl,rfl,j,c,q):=h;have(t,rfl):=d;have(u,rfl,e):=dm g;cases e;have(f,r,p,_):=I.list j;show join_list p.isList (by simpa using qO r) c λi k=>{.str (Lj z zs),H,I.tok k,⟨i,Xr⟩,q}
def sI(zs:!Str):sL (Lj (oL []) zs)=(zs.map sL).flatten:=by
 have c:∀(zs:!Str) (a:Array Nat),(zs.foldl (λa p=>a++(oL []).cps++p.cps) a).toList=a.toList++(zs.map sL).flatten:=by
  intro zs
  induction zs with
  | nil=>intro a;simp
  | cons z zs d=>
   intro a;rw[HZ,d];simp
 cases zs with
 | nil=>rfl
 | cons z zs=>
  change(zs.foldl (λa p=>a++(oL []).cps++p.cps) z.cps).toList=_;rw[c];simp
def op_mulS:OpR X (Lo .Mult) (λx y H Q=>∃z n,x=.str z/\y=.int n/\1<=n/\n<=1000/\z.length<=1000/\Q (.str (oL (FU n.toNat (sL z)).flatten)) H):=by
 intro L s Z H x y v u Q I G o h;have(z,n,rfl,rfl,M,N,r,q):=h;have(t,rfl):=G;have(O,rfl):=o;have C:∀(m:Nat) (d:Array Nat),(FU m z.cps).foldl (· ++ ·) d=d++(FU m (sL z)).flatten.toArray:=by
  intro m
  induction m with
  | zero=>intro d;simp
  | succ m w=>intro d;rw[Gr,HZ,w,Gr,GG];apply Array.ext';simp
 have g:z.length*n.toNat<=1000*1000:=IT r (by lia);have j:¬ n<1:=by lia
 show P.mul_str ?_ ?_ ?_ ?_;rw[decide_eq_false (by lia),decide_eq_false (by lia)];rfl
 .intro _ _;have K:n*9223372036854775<=2^63-1:=by lia
  have:(9223372036854775:Int)<=(2^63-1) / n:=(Int.le_ediv_iff_mul_le (by lia)).mpr (by lia)
  lia
 .intro _ _;unfold PQ;show decide_eq_false (by rw[KG];lia)
 .rw[if_neg j];show OQ ?_;have B:(if(n==1||z.length==0)=Qb then z else({(FU n.toNat z.cps).foldl (· ++ ·) #[]}:Str))=oL (FU n.toNat (sL z)).flatten:=by
   split
   .delta p;rcases Bool.or_eq_true_iff.mp p with c|c
    .have:n=1:=by exists c
     subst this;change z=oL (FU 1 (sL z)).flatten;dsimp[Gr,List.replicate_zero,GG,List.flatten_nil,Ge]
    .have J:(sL z).length=0:=by rw[<-aH];exists c
     have f:sL z=[]:=HX J;rw[f];apply iL;rw[f,cw];symm;show List.eq_nil_iff_forall_not_mem.mpr λa E=>by
      have(l,A,e):=Jn.mp E;rw[List.eq_of_mem_replicate A]at e;cases e
   .rw[C];simp
  rw[B];show{?_,λi k=>{.str (oL (FU n.toNat (sL z)).flatten),H,I.tok k,⟨i,Xr⟩,q}};rw[aH,cw,i3,<-aH,KG,Jf]
  lia
def jJ:fillsNumberSlot (.type "tuple") "mul" = pure Qa:=
 PySem.fillsNumberSlot_seq (id:="tuple.__mul__") (r:=P9 (.builtin "tuple.__rmul__")) Md.lookup (by decide +kernel) Oq.lookup (by decide +kernel)
def om:seqRepeat? (.type "tuple")=pure (P9 (.builtin "tuple.__mul__")):=by
 unfold seqRepeat?;rw[Jo (T:="tuple") (name:="__mul__") (id:="tuple.__mul__") Md.lookup (by decide +kernel),Jo (T:="tuple") (name:="__rmul__") (id:="tuple.__rmul__") Oq.lookup (by decide +kernel)];rfl
def lb(a:Int)(t:Tok)(l:Addr)(items:Array KA)(n:Nat)(e:↑Addr)(sl:Array ↑KA) :
  P3 (KJ.«int.__rmul__» {[.int a t,.ref l],[]}) (λ_ R s=>s.heap.get? l=P9 {cls:=.type "tuple",dict:=e,data:=.seq items n,slots:=sl}/\R (.ok (.ret KA.notImplemented)) s):=
 .of_wp λc w A R s h=>by obtain⟨i,g,d,j,os⟩:=s;obtain⟨f,h⟩:=h;wp_walk;show{_,Xr,h}
def km(l:Addr)(items:Array KA)(n:Nat)(r:↑Addr)(sl:Array ↑KA)(k:Int)(t:Tok)(u:2<=k)(q:k<=1000)(c:items.isEmpty=Qa)(hz:items.size<=1000) :
  P3 (KJ.«tuple.__mul__» {[.ref l,.int k t],[]}) (λ_ R s=>s.heap.get? l=P9 {cls:=.type "tuple",dict:=r,data:=.seq items n,slots:=sl} /\
   R (.ok (.ret (.ref s.heap.objs.size))) {s with heap:=s.heap.push {cls:=.type "tuple",data:=.seq ((FU k.toNat items).foldl (· ++ ·) #[])}}):=
 .of_wp λf w A R s h=>by
  obtain⟨x,g,d,y,os⟩:=s;obtain⟨e,h⟩:=h;have c1:¬ (decide (k < -(2^63))||decide (k≥2^63))=Qb:=by rw[decide_eq_false (by lia),decide_eq_false (by lia)];decide
  have c2:¬ (items.isEmpty||k==1)=Qb:=by rw[c];simp;lia
  have c3:¬ (decide (k<=0)||items.isEmpty)=Qb:=by rw[c,decide_eq_false (by lia)];decide
  have c0:((items.size:Nat):Int)*k<=1000*1000:=Int.mul_le_mul (by lia) q (by lia) (by lia);have c4:¬ ((items.size:Int)*k>(2^63-1) / 8):=by lia
  have c5:¬ MZ ((items.size:Int)*k)=Qb:=by unfold MZ;simp;rw[KG];lia
  have v:=Mv;wp_walk using LA e
  rw[if_neg c1];show Kz (N4 {_,e,Xr,n,Xr} ?_);dsimp only;rw[if_neg c2,if_neg c3,if_neg c4,if_neg c5];have a:sizeOk (.seq ((FU k.toNat items).foldl (· ++ ·) #[])):=by
   change((FU k.toNat items).foldl (· ++ ·) #[]).size<=sizeLine;have o:=fv items.toList k.toNat [];have i:(FU k.toNat items.toList.toArray).foldl (· ++ ·) #[]=(FU k.toNat items.toList).flatten.toArray:=by exists o
   have p:items.toList.toArray=items:=by simp
   rw[p]at i;rw[i,FN,i3,GE,KG];have z:k.toNat*items.size<=1000*1000:=IT (by lia) hz
   lia
  first
   | show Kz (m:=KW _) (KU (KD ⟨_,rfl,h⟩) a)
   | show Kz (Kz (m:=KW _) (KU (KD ⟨_,rfl,h⟩) a))
abbrev Ak(K:yF):R2:=λx y H Q=>∃l k a,x=.ref l/\y=.int k/\SqT K H l a/\a≠[]/\a.length<=1000/\0<=k/\k<=1000 /\
 (k=1->Q (.ref l) H)/\(k≠1->∀p,H p=P8->Q (.ref p) (upd H p (.tup (FU k.toNat a).flatten)))
def yo:OpR X (Lo .Mult) (Ak X.K):=by
 intro OK s Z H x y v u Q I rx ry h;obtain⟨l,k,C,rfl,rfl,hH,w,f,h1,h2,q1,N⟩:=h;cases rx;have(t,rfl):=ry;have(c,r,p,hz):=I.tuple (X:=X) hH;obtain⟨⟨z,G,i,L⟩,m,M,n,J⟩:=id p;simp only at M J;subst M J;have hl:=r.length;have j:c.toArray.isEmpty=Qa:=by
  cases c with
  | nil=>cases r;show absurd rfl w
  | cons a r'=>rfl
 have e:s.TypeIs (.ref l) "tuple" :={_,m,Xr};show Me (T:="tuple") (U:="int") (by decide) e (λO=>Ms O k t) jJ ND L5 om Nn.lookup
  (Ls L5 (Ms s k t) No (Nb _ _) (lb k t l c.toArray n G L)
   {m,Xr,e,?_})
 by_cases A:k=1
 .subst A;show Ln Md e Nc ?_ (M0 _ _);have S:=Mv;have c1:¬ (decide ((1:Int) < -(2^63))||decide ((1:Int)≥2^63))=Qb:=by decide
  have(E,g,d,tk,os):=s;wp_walk using LA m
  show{_,Xr,.ref l,H,I,Xr,q1 rfl}
 by_cases B:k=0
 .subst B;show Ln Md e Nc ?_ (M0 _ _);have S:=Mv;have c1:¬ (decide ((0:Int) < -(2^63))||decide ((0:Int)≥2^63))=Qb:=by decide
  have q3:=N A s.heap.objs.size (I.hok.fresh (FV _));have I3:=I.laid (t':=s.toks) (o:=.tup []) (a:=s.heap.objs.size) (λb Y q=>KB {cls:=.type "tuple",data:=.seq #[]} q) (FV _) {GA _,[],.nil,J1.new _ _};have(E,g,d,tk,os):=s;wp_walk using LA m
  show{_,Xr,.ref E.objs.size,_,I3,Xr,q3}
 .have h1:2<=k:=by lia
  show Ls Md e Nc (M0 _ _) (km l c.toArray n G L k t (by lia) h2 j (by rw[FN,<-hl];show f)) {m,?_};have P:(FU k.toNat c.toArray).foldl (· ++ ·) #[]=(FU k.toNat c).flatten.toArray:=by simpa using fv c k.toNat []
  rw[P];show{.ref s.heap.objs.size,_,I.laid (t':=s.toks) (o:=.tup (FU k.toNat C).flatten) (λb Y q=>KB _ q) (FV _) ?_,Xr,N A _ (I.hok.fresh (FV _))};show{?_,_,r.rep k.toNat,J1.new _ _};rw[i3,KG];have a1:k.toNat*C.length<=1000*1000:=IT (by lia) f
  lia
def iC(l:Addr)(items:Array KA)(n:Nat)(b:Addr)(items2:Array KA)(p:Nat)(o:↑Addr)(sl:Array ↑KA)(k:¬(~~~items.isEmpty&&Le (items.size+items2.size))=Qb)(e:items.size<=sizeLine)(c:items.size+items2.size<=sizeLine+1) :
  P3 (KJ.«list.extend» {[.ref l,.ref b],[]}) (λ_ R s=>s.heap.get? l=P9 {cls:=.type "list",dict:=P8,data:=.seq items n,slots:=#[]}/\s.heap.get? b=P9 {cls:=.type "tuple",dict:=o,data:=.seq items2 p,slots:=sl}/\R (.ok (.ret LQ)) {s with heap:=s.heap.update l (Mr λx=>x++items2),toks:=s.toks}):=
 .of_wp λi w A R s h=>by
  obtain⟨u,g,d,v,os⟩:=s;obtain⟨f,m,h⟩:=h;have t:=Mv;have r:=AutoSeq1.sub_tuple_tuple;have q:=AutoSeq1.sub_list_list;have y:=AutoSeq1.sub_tuple_list;have z:=AutoSeq1.sub_list_tuple;have a:(items++items2).size<=sizeLine+1:=by rw[Jg];show c
  wp_walk using(OP f rfl (hz:=e) (_hz':=a)),LA f,LA m;show{_,Xr,h}
abbrev pj(K:yF):V->!V->Hp->VK->Prop:=λx vs H Q=>∃l b a c,x=.ref l/\vs=[.ref b]/\H l*>(.lst a)/\SqT K H b c/\a.length+c.length<=sizeLine/\Q .non (upd H l (.lst (a++c)))
def qh:MtM X "list.extend" (pj X.K):=by
 intro S s Z H x vs v O Q I E G h;obtain⟨l,b,M,P,rfl,rfl,k,B,N,q⟩:=h;cases E;have(u,rfl,p):=G.one;cases p;have(z,c,n,r,U,e):=I.lstM k;have(a,g,o,L):=I.tuple B;obtain⟨⟨A,t,i,w⟩,C,m,J,j⟩:=id o;simp only at m j;subst m j;have y:=g.length;have f:c.toArray.size+a.toArray.size<=sizeLine:=by rw[FN,FN];lia
 have d:¬ (~~~c.toArray.isEmpty&&Le (c.toArray.size+a.toArray.size))=Qb:=by
  rw[eg f,IR];show FZ
 show Ls MY {_,e,Xr} MK (Mx _ _)
  (iC l c.toArray n b a.toArray J t w d (by rw[FN];lia) (by lia)) {e,C,?_}
 show{.non,_,I.lset (its':=c++a) k e ∅ (r.append g) ?_,Xr,q};rw[FQ]
 lia
end
section
variable {X:Cx}
def gl{c d:Type}{f : c->↑d}{g : c->d}:∀{l:!c},(∀k∈l,f k*>(g k))->l.filterMap f=l.map g
 | [],_=>rfl
 | a::l,h=>by
  rw[Gc,h a ymS,FS];change g a::_=_;rw[gl λk e=>h k (ymC _ e)]
def wN(xs:Array KA):((Gn xs.size).filterMap λ(k:Nat)=>xs[(((xs.size:Int)-1)+(k:Int) * -1).toNat]?)=xs.toList.reverse:=by
 apply Hh;intro i;rw[gl (g:=λk=>(xs[xs.size-1-k]?).getD default) (λk f=>?_),F4]
 .by_cases a:i<xs.size
  .have c:xs.size-1-i<xs.size:=by omega
   rw[List.getElem?_range a,HR (by exists a)];simp[c]
  .rw[IL (by exists a),IL (by exists a)];rfl
 .have d:=GP.mp f;have e:((((xs.size:Nat):Int)-1)+(k:Int) * -1).toNat=xs.size-1-k:=by omega
  rw[e];have c:xs.size-1-k<xs.size:=by omega
  simp[c]
def iV(e:Pn s.heap t items)(hs:s.heap.IsSliceOf sl .none .none (.int (-1) tt))
  (h:Q (.ref s.heap.objs.size) {s with heap:=s.heap.push {cls:=.type "tuple",data:=.seq items.toList.reverse.toArray}})
  (hsz:items.size<=sizeLine):KI (KO prog w) A (NV (.ref t) (.ref sl)) Q E s:=by
 have a:sizeOk (.seq items.toList.reverse.toArray):=by
  change items.toList.reverse.toArray.size<=sizeLine;rw[FN,Hi,GE];show hsz
 have(os,c,g,d):=id hs;have j:s.TypeIs (.ref sl) "slice" :=⟨os,c,g⟩;unfold NV;try with_reducible refine Lz ?_
 first|refine Kz (KD ?_)|skip
 show Kz (Na e.typeIs (by decide) ?_);show Kz (Lh (name:=K9 "__getitem__") e.typeIs Gw
  (Ln Gw e.typeIs NX ?_ (Oa _ _)))
 change KI _ _ (MW (.ref t) >>= _) _ _ s;show Kz (N4 e ?_);show Kz (Nx j ?_);rw[if_pos (by decide)];have f:∀{i:Int×Int×Nat->KC->Prop},i ((items.size:Int)-1,-1,items.size) s->KI (KO prog w) A.in1 (LJ (.ref sl) (pure (items.size:Int))) i E s:=by
  intro i o;unfold LJ M6;show Kz (Kz (K6 c d (x:=.none) rfl (Kz (K6 c d (x:=.none) rfl (Kz (K6 c d (x:=.int (-1) tt) rfl (KD ?_)))))));show Kz (slicePart_int ?_);change KI _ _ (if((-1:Int)==0)=Qb then _ else _) _ _ s;rw[if_neg (by decide)];show Kz (MV (Kz (MV (Kz (KD ?_)))));change KI _ _ (match Lp P8 P8 (-1) (items.size:Int)with|(lo,p)=>pure (lo,(-1:Int),Lc lo p (-1))) _ _ s;have q:Lp P8 P8 (-1) (items.size:Int)=((items.size:Int)-1,-1):=by
   unfold Lp;simp
  rw[q];have l:Lc ((items.size:Int)-1) (-1) (-1)=items.size:=by
   unfold Lc;rw[if_neg ⋯];split;rw[Int.neg_neg,JJ];omega;omega
  change KI _ _ (pure ((items.size:Int)-1,(-1:Int),Lc ((items.size:Int)-1) (-1) (-1))) _ _ s;rw[l];show KD o
 show Kz (f ?_);change KI _ _ (if((((items.size:Int)-1)==0&&(-1:Int)==1&&items.size==items.size))=Qb then _ else _) _ _ s;rw[if_neg ∅,wN];first
  | show Kz (m:=KW _) (KU (KD ⟨_,rfl,KD h⟩) a)
  | show Kz (m:=KW _) (KU (Kz (KD (KD ⟨_,rfl,KD h⟩))) a)
  | show Kz (Kz (m:=KW _) (KU (KD (KD ⟨_,rfl,KD h⟩)) a))
  | show Kz (Kz (m:=KW _) (KU (KD ⟨_,rfl,KD h⟩) a))
abbrev xb(K:yF)(e:TE):TE:=λZ H Q=>e Z H λx c=>∃a d,x=.ref a/\SqT K c a d/\∀p,c p=P8->Q (.ref p) (upd c p (.tup d.reverse))
def yv(O:PE X e te):PE X (.Subscript e (.Slice P8 P8 (P9 (.UnaryOp .USub (.Constant (.int 1) j p1) p2)) p3) pos) (xb X.K te):=by
 intro f s Z H Q I h;show O8 (thn (O f s Z H _ I h) λv P i=>?_);have(x,t,J,M,N):=i;have(a,z,rfl,S,q):=N;cases M;show OE ?_;rw[Ni];show KD (KD ?_);rw[evalPart_some];show thn (Ab xl vy f P Z t (λx k=>x=.int (-1)/\k=t) J {1,Xr,Xr,Xr}) λU c i=>?_;have(y,k,L,B,C,G):=i;subst C G;have(g,rfl):=B;have l:Inv X f Z k {c with heap:=c.heap.push {cls:=.type "slice",data:=.fields #[.none,.none,.int (-1) g]}}:=L.kept (t':=c.toks) λb E q=>KB _ q;have(m,r,u,p):=l.tuple S;change KI (KO X.prog X.w) X.A (N5 e (.Slice P8 P8 (P9 (.UnaryOp .USub (.Constant (.int 1) j p1) p2)) p3) (.ref a) (.ref c.heap.objs.size)) (EP X f Z Q) X.xe {c with heap:=c.heap.push {cls:=.type "slice",data:=.fields #[.none,.none,.int (-1) g]}};show PL (ops:=[.ref a,.ref c.heap.objs.size]) u.typeIs Gw.lookup (iV (tt:=g) u (MX ..) ?_ (by rw[FN,<-r.length];show p)) (by unhygienic rfl);show{.ref _,_,l.laid (t':=c.toks) (o:=.tup z.reverse) (λb E q=>KB _ q) (FV _) ?_,Xr,q _ (l.hok.fresh (FV _))};show{by rw[Hi];show p,m.reverse,r.reverse,J1.new _ _}
def qQ{A:Li}{bs:!Bool}:TruthOf X.prog X.w A (λi v=>(bs.map LX)[i]?*>v) (λi=>bs.getD i Qa):=by
 intro i v s Q E a c;rw[F4]at a;cases q:bs[i]? with
 | none=>rw[q]at a;cases a
 | some b=>
  rw[q]at a;cases a;have e:bs.getD i Qa=b:=by rw[Gb,q];rfl
  dsimp[e]at c;show Ll c
def EV{bs:!Bool}:∀{a:!KA},Vals (bs.map V.bl) a->a=bs.map LX:=by
 induction bs with
 | nil=>intro a r;rw[HA]at r;cases r;rfl
 | cons b bs c=>
  intro a r;rw[FS]at r;cases r with
  | cons e d=>rw[c d,FS];cases e;rfl
def range_getD(bs:!Bool):(Gn bs.length).all (λi=>bs.getD i Qa)=bs.all id:=by
 have:(Gn bs.length).map (λi=>bs.getD i Qa)=bs:=Pq bs Qa
 conv=>rhs;rw[<-this]
 rw[Ji];rfl
def uq(t:X.calm=Qb):HE X (.builtin "all") (λxs H Q=>∃(a:Addr) (bs:!Bool),xs=[.ref a]/\SqL X.K H a (bs.map V.bl)/\Q (.bl (bs.all id)) H):=by
 intro w s Z H xs G Q I B h;have(a,bs,rfl,d,q):=h;have(u,rfl,g):=dm B;cases g;have(y,r,p,C):=I.list d;have e:=EV r;subst e;have c:a≠s.heap.objs.size:=by
  have(o,n,e,_):=p;show Ga (KM e)
 show call_all_walk (M9 p.isList ?_);show{s.heap.objs.size,_,_,_,_,_,λi=>bs.getD i Qa,Xr,PY.list (A:=X.A.in1) (show X.A.in1.handled=P8 from I.ok.hd t) s.heap.objs.size a c (bs.map LX).toArray,{{_,KN _ rfl,Xr,Xr},?_},?_,λj k m=>?_};show p.isList.at λo e=>KB _ e
 .intro i v s Q E x d;show qQ (bs:=bs) i v s Q E (by exists x) d
 .have l:Inv X w Z H {s with heap:=j,toks:=k}:=I.kept λb o e=>m b o (λz=>absurd (ysM z) (Ga (KM e))) (KB _ e);show{.bl _,H,l,Xr,?_};have:(Gn (bs.map LX).toArray.size).all (λi=>bs.getD i Qa)=bs.all id:=by rw[FN,FM];show range_getD bs
  rw[this];show q
abbrev uI(g:TE)(j k:TO):TG:=λv Z H Q=>g Z H λo i=>j Z i λl h=>k Z h λu e=>∃p b d f a c,o=.ref p/\v=.ref b/\l*>a/\u*>c/\e p*>(.lst d)/\e b*>(.lst f)/\p≠b/\0<=a/\a<=c/\c<=d.length/\d.length+f.length<=sizeLine /\
 Q Z (upd e p (.lst (d.take a.toNat++f++d.drop c.toNat)))
def vC{o:Expr}{lo f:↑Expr}{w:TE}{y z:TO}{i pos:Pos}(ho:PE X o w)(hl:PO X lo y)(P:PO X f z)
  (ha:∀v,L9 (.Subscript o (.Slice lo f P8 i) pos) X.env v=(do
   let d <-LO [v] (eval o X.env)
   let k <-LO [v,d] (eval (.Slice lo f P8 i) X.env)
   Mb pos
   LO [v,d,k] (Nv d k v)
   Pv [k,v,d] []):=by intro _;rfl):PG X (.Subscript o (.Slice lo f P8 i) pos) (uI w y z):=by
 intro g s Z H v u Q I r h;rw[ha];show Kz (Lz (thn (ho g s Z H _ I h) λd s1 j=>?_));have(x,J,N,r1,q1):=j;show Kz (Lz (OE (thn (hl g s1 Z J _ N q1) λvl L ⟨l,H2,S,pl,q2⟩=>thn (P g L Z H2 _ S q2) λK e j=>?_)));have(w',U,I3,B,q3):=j;rw[Ni];show KD ?_;obtain⟨p,b,xs,ys,a,c,rfl,rfl,rfl,rfl,E,hb,t,h0,m,Y,C,q⟩:=q3;have O:Inv X g Z U {e with heap:=e.heap.push {cls:=.type "slice",data:=.fields #[vl,K,.none]}}:=I3.kept (t':=e.toks) λb ob q=>KB _ q;cases r1;cases r;show Kz (LD (Kz (Lz ?_)));cases pl with
 | int _ G=>
  cases B with
  | int _ M=>
   show tY (sl:=e.heap.objs.size) O E hb t (MX ..) ⟨G,Xr⟩ ⟨M,Xr⟩ h0 m Y C λs' I'=>wpAny_release {Z,_,I',q}
end
abbrev Has(P:KP)(w:K2)(K:yF)(e:Str->↑KA)(a:Heap)(k:Nat)(name:Str)(g:!Str)(i:Sp):Prop:=
 ∃(f:Addr) (d:LS),e name*>(.ref f)/\GY K (.ref f)=Qb/\Kn K d g []/\Ks P w K e a CX0 k f d g i/\∃oc h c,K.lookup f*>{oc,h,.func d,c}
abbrev Def(K:yF)(d:Str->↑KA)(name:Str)(st:Stmt)(c:!Str):Prop:=
 ∃(f:Addr) (a:LS),d name*>(.ref f)/\Fun K name name st f a/\Kn K a c []
def Def.has{P:KP}{w:K2}{K:yF}{o:Str->↑KA}{a:Heap}{k:Nat}{name:Str}{st:Stmt}{N i:!Str}{m:Sp}(d:Def K o name st i)(S:p6 N i (aj st))(j:∀vs H Q E,m vs H Q E->vs.length=i.length)
  (h:∀(f:Addr) (c:KA) (A:Li) (g:!Env) (s:KC) (H:Hp) (vs:!V) (Q:VK) (E:XK),Ka k (A.deeper (MB name (aj st) s.heap.objs.size f c))->m vs H Q E ->
   ∃t,PSs (lU CX0 P w K o a N name (aj st) f c A g s H E).nox (bC st) t/\t {nx:=λ_ H'=>Q .non H',rt:=Q} (bR N vs) H):Has P w K o a (k+1) name i m:=by
 have(f,v,r,F,b):=d;obtain⟨oc,q,kV,x,z,B,c,y,l,e,p,u⟩:=F.ex;show{f,v,r,F.kp,b,F.ok S j (h f),oc,q,l,p}
def uX{P:KP}{w:K2}{K:yF}{c:Str->↑KA}{p:Addr}{name:Str}{st:Stmt}{x:Str}{k:Nat}{o:Sp}(i:c name*>(.ref p))(d:Def K c name st [x])
  (J:∀(kV j t:KA) (u:↑Addr) (h r:KA) (s:KC) (v:KA),NU s (GV name name (dJ st) (bC st) (aj st) .none kV j t u h r) {[v],[]} [(x,v)])
  (H:∀a:Heap,K.In a->a.Ns K4 c->Has P w K c a k name [x] o) :
  ∃l:LS,(∀(s:KC) (v:KA),NU s l {[v],[]} [(x,v)])/\∀a:Heap,K.In a->a.Ns K4 c->Ks P w K c a CX0 k p l [x] o:=by
 have(f,l,y,F,b):=d;rw[i]at y;cases y;obtain⟨oc,O,kV,j,t,u,h,r,z,e,E,N⟩:=F.ex;show{l,λs v=>by rw[e];show J _ _ _ _ _ _ s v,λa A C=>?_};obtain⟨Q,B,q,_,_,G,M,L,m,g⟩:=H a A C;rw[i]at q;cases q;rw[E]at g;cases g;show G
section
variable {X:Cx}{x:Str}{e:Expr}{es:!Expr}{p pos:Pos}{k:Nat}{ps:!Str}{sp:Sp}{t:TA}
def D3(h:Has X.prog X.w X.K X.mg X.base k x ps sp)(j:Ka k X.A)(o:Gl X x)(i:PA X (e::es) t)(c:(x==("__debug__" : Str))=Qa:=by decide)
  (d:KT (e::es) X.env=(Qa,eval e X.env)::KT es X.env:=by rfl) (a:(Mk pos (KT es X.env)).any (·.1)=Qa:=by rfl) :
  PE X (.Call (.Name x p) (e::es) [] pos) (lK sp [] E0 t):=by
 have(f,r,m,q,g,l,_):=h;show yq l j o m q g .nil DX i c d a
end
section
variable {X:Cx}
abbrev Ae(K:yF):R2:=λx y H Q=>rI0 (λi j=>.int (i+j)) x y H Q\/((∃i j,x=.str i/\y=.str j/\i.length+j.length<=sizeLine/\Q (.str (i++j)) H)\/(Es x y H Q\/Ag K x y H Q))
def op_addX:OpR X (Lo .Add) (Ae X.K):=op_add.or (op_add_str.or (op_cat.or yl))
abbrev Ai(K:yF):R2:=λx y H Q=>rI Kv (λi j=>.int (i*j)) x y H Q\/((∃z n,x=.str z/\y=.int n/\1<=n/\n<=1000/\z.length<=1000/\Q (.str (oL (FU n.toNat (sL z)).flatten)) H)\/(EB x y H Q\/Ak K x y H Q))
def op_mulX:OpR X (Lo .Mult) (Ai X.K):=op_mul.or (op_mulS.or (op_rep.or yo))
abbrev Cc(K:yF):R2:=λx y H Q=>rEq x y H Q\/(Et K x y H Q\/Eu K x y H Q)
def Bh(a:X.A.units+64<LF):OpR X (K7 .Eq) (Cc X.K):=op_eq.or ((Bf a).or (Bg a))
abbrev Cg(K:yF):R2:=λx y H Q=>rNe x y H Q\/(Ez K x y H Q\/EA K x y H Q)
def Bq(a:X.A.units+64<LF):OpR X (K7 .NotEq) (Cg X.K):=op_ne.or ((Bo a).or (Bp a))
abbrev Cd(K:yF):R2:=λx y H Q=>(∃i j,x=.str i/\y=.str j/\Q (.bl (~~~(K0 j i 0 j.length 1).isEmpty)) H)\/(rIn K Qa x y H Q\/yU K Qa x y H Q)
def Bl(a:X.A.units+64<LF):OpR X (K7 .In) (Cd X.K):=op_in_str.or (op_in_seq.or (Bj a))
abbrev n9(K:yF):R2:=λx y H Q=>(∃i j,x=.str i/\y=.str j/\Q (.bl (~~~(~~~(K0 j i 0 j.length 1).isEmpty))) H)\/(rIn K Qb x y H Q\/yU K Qb x y H Q)
def tm(a:X.A.units+64<LF):OpR X (K7 .NotIn) (n9 X.K):=op_notIn_str.or (op_notIn_seq.or (tj a))
def FD:SlR X (rSl X.K):=sl_tup.or (sl_list.or Cu)
abbrev wp(K:yF):!V->Hp->VK->Prop:=λc H Q=>(∃p a,c=[.ref p]/\(SqL K H p a\/SqT K H p a)/\Q (.int a.length) H)\/(∃z,c=[.str z]/\z.length<=sizeLine/\Q (.int z.length) H)
def sy:HE X (.builtin "len") (wp X.K):=HE.or nu nw
def wO(n:String):RelV (.ty n) (.type n):=rfl
end
abbrev JY(a:Str->↑KA)(x:Str)(v:V):Prop:=∃u,a x*>u/\RelV v u
abbrev Ke(K:yF)(a:Addr)(xs:!V):Prop:=∃(o:Obj) (c:Array KA) (n:Nat),K.lookup a*>o/\(o.cls=.type "tuple" /\ o.dict=P8)/\o.data=.seq c n/\c.size<=sizeLine/\Vals xs c.toList
def Ke.sq{K:yF}{a:Addr}{xs:!V}(h:Ke K a xs){H:Hp}:SqT K H a xs:=.inr h
def pb(h:JY X.mg x v)(c:Gl X x)(d:(x==("__debug__" : Str))=Qa:=by decide):PE X (.Name x pos) (tC v):=by
 have(u,a,e):=h;show yu c a e d
abbrev Its(z:Str):It:={λi _=>i<z.cps.size,λi H y a=>a=H/\∃c,z.cps[i]?*>c/\y=.str {#[c]},λi _=>z.cps.size<=i}
abbrev Dq(c:TE):TI:=λZ H R=>c Z H λx a=>∃z:Str,x=.str z/\R (Its z) a
def yB(a:PE X e te):PI X tg e (Dq te):=BS a
def j3{N:!Str}(h:decide N.Nodup=Qb):N.Nodup:=of_decide_eq_true h
section
variable {X:Cx}{K:yF}
def Fw(h:X.K=K):IxR X (rIx K):=h▸AW
abbrev wv(K:yF):!V->Hp->VK->Prop:=λc H Q=>∃p a,c=[.ref p]/\((SqL K H p a/\∀l,H l=P8->Q (.ref l) (upd H l (.tup a)))\/(SqT K H p a/\Q (.ref p) H))
abbrev wq(K:yF):!V->Hp->VK->Prop:=λc H Q=>∃p a,c=[.ref p]/\(SqL K H p a\/SqT K H p a)/\∀l,H l=P8->Q (.ref l) (upd H l (.lst a))
abbrev Er(K:yF):!V->Hp->VK->Prop:=λd H Q=>∃(a:Addr) (c:!Bool),d=[.ref a]/\SqL K H a (c.map V.bl)/\Q (.bl (c.all id)) H
abbrev Ah(K:yF):V->!V->Hp->VK->Prop:=λx vs H Q=>∃z a c,x=.str z/\vs=[.ref a]/\SqL K H a (c.map V.str)/\(c.map (·.length)).sum+c.length*z.length<=16777216/\Q (.str (Lj z c)) H
def FC(h:X.K=K)(a:PE X e te):PE X (.Subscript e (.Slice P8 P8 (P9 (.UnaryOp .USub (.Constant (.int 1) j p1) p2)) p3) pos) (xb K te):=h▸yv a
def tgK(h:X.K=K)(c:X.calm=Qb)(hs:PGs X es t)
  (d:(LC es X.env).length=n:=by rfl) (a:(LC es X.env).findIdx? (·.1)=P8:=by rfl):PG X (.Tuple es k pos) (xT K n t):=h▸BQ c hs d a
def ilK(h:X.K=K)(a:PE X l tl):PI X tg l (rA K tl):=h▸yA a
def itK(h:X.K=K)(a:PE X l tl):PI X tg l (xX K tl):=h▸BU a
abbrev ES(K:yF)(c:TE):TT:=λZ H Q=>c Z H λx a=>∃k,xH K x a k/\Q k a
def FF(h:X.K=K)(d:PE X a ta)(e:∀c,NN a X.env c=(do let v <-c;Mb a.pos;LO [v] (OV v))):PT X a (ES K ta):=h▸wb d e
variable {o e:Expr}{es:!Expr}{to:TE}{t:TA}{name:Str}{apos cpos:Pos}{T id:String}{r:V->!V->Hp->VK->Prop}
def Fm(h:X.K=K)(i:Mt T)(d:Slot T name id)(f:Od (.builtin id)=pure (.type "method_descriptor"))(g:MtR X id r)(ho:PE X o to)
  (c:LR o name X.env (eval o X.env)=eval o X.env:=by rfl) (a:(apos.endLine==cpos.line)=Qb:=by rfl):PE X (.Call (.Attribute o name apos) [] [] cpos) (Cv K T r to):=h▸BK i d f g ho c a
def bmK(h:X.K=K)(l:Mt T)(g:Slot T name id)(i:Od (.builtin id)=pure (.type "method_descriptor"))(j:MtR X id r)(ho:PE X o to)(k:PA X (e::es) t)
  (d:LR o name X.env (eval o X.env)=eval o X.env:=by rfl)
  (f:((Mk cpos (KT (e::es) X.env)).all (λx=> ~~~x.1)&&(backToKw cpos (keywordEach [] X.env)).all (λx=>x.1.isSome)
   && decide ((e::es).length+([]:!OS).length+(if([]:!OS).isEmpty then 0 else 1)<30))=Qb:=by rfl)
  (c:(apos.endLine==cpos.line)=Qb:=by rfl) (hs:KT (e::es) X.env=(Qa,eval e X.env)::KT es X.env:=by rfl) (a:(Mk cpos (KT es X.env)).any (·.1)=Qa:=by rfl) :
  PE X (.Call (.Attribute o name apos) (e::es) [] cpos) (tBM K T r to t):=h▸DZ l g i j ho k d f c hs a
end
def JX.put(s:JX H H1)(a:H l=P8):JX H (L2.upd H1 l o):=λb u h=>by rw[L2.upd_ne (ba h a)];show s b u h
structure Bi(mg:Str->↑KA):Prop where
 b_len:mg "len" = P8
 b_all:mg "all" = P8
 b_any:mg "any" = P8
 b_tuple:mg "tuple" = P8
 b_list:mg "list" = P8
 b_range:mg "range" = P8
 b_min:mg "min" = P8
 b_max:mg "max" = P8
 b_int:mg "int" = P8
 b_bool:mg "bool" = P8
 b_isinstance:mg "isinstance" = P8
 b_str:mg "str" = P8
 b_sorted:mg "sorted" = P8
 b_sum:mg "sum" = P8
 b_zip:mg "zip" = P8
 b_enumerate:mg "enumerate" = P8
 b_dict:mg "dict" = P8
 b_abs:mg "abs" = P8
 b_repr:mg "repr" = P8
 b_reversed:mg "reversed" = P8
 b_set:mg "set" = P8
def cU(x y:Str):(x++y).length=x.length+y.length:=by rw[aH,iK,FQ,aH,aH]
noncomputable abbrev LET:Str:="abcdefghijklmnopqrstuvwxyz"
def ko:(sL LET).length=26:=by decide +kernel
def LET_len':LET.length=26:=by decide +kernel
abbrev rd:D->↑D
 | .tup [.str x,c,a]=>if x=("at" : Str)then P9 (.tup [c,a])else P8
 | _=>P8
noncomputable abbrev SIGNS:Str:=" !\"#$&'()*+,-./0123456789:;<=>?@ABCDEFGHIJKLMNOPQRSTUVWXYZ[\\]^_`abcdefghijklmnopqrstuvwxyz{|}~\n"
abbrev Itv(K:yF) (a:Addr) (n:Nat):It:=
 {λi H=>i<n/\∃c,SqL K H a c/\c.length=n,λi H x d=>d=H/\∀c,SqL K H a c->c.length=n->c[n-1-i]?*>x,λi _=>n<=i}
def xg{P:KP}{w:K2}{K:yF}{tg:Expr}(a it:Addr)(n:Nat):Ko P w K tg (Itv K a n) [it] it (λi h=>h.IsRevIter it a ((n:Int)-1-i)/\i<=n) where
 mem:=by simp
 obj:=λi h st b hb=>by
  have e:b=it:=by exists hb
  subst e;have(o,e,c,d):=st.1;show{o,e,λv z=>by rw[d]at z;cases z}
 keep:=λi h h' st k=>{st.1.at λo e=>k it ∅ o e,st.2}
 item:=by
  intro X hP hw hK hc i OK s Z H E I hf st hg;subst hP hw hK;have(hi,xs,hq,hl):=hg;have(its,rv,p,hz):=I.list hq;have hlt:n-1-i<xs.length:=by omega
  have(u,hu,ru):=rv.get (i:=n-1-i) (x:=xs[n-1-i]) (by simp[hlt]);have(f0,f1,f2,f3,f4,f5):=hf it ∅;have e1:((n:Int)-1-i)=((n-1-i:Nat):Int):=by omega
  have st1:=st.1;rw[e1]at st1;show wpAny_pyNext_rev_item st1 p.isList (x:=u) (by exists hu) λh' st' sb=>?_;have I1:Inv X OK Z H {s with heap:=h'}:=I.turned (t':=s.toks) (λb o hb e=>(sb.2 b hb).trans e) f0 f1 f3 f4 f5;have(o,e,c,d):=id st';have e2:((n-1-i:Nat):Int)-1=(n:Int)-1-((i+1:Nat):Int):=by omega
  rw[e2]at st';show{u,Xr,oS (s:={s with heap:=h'}) e c d (by decide) {xs[n-1-i],H,I1,ru,{Xr,λys hy _=>by rw[I.list_inj hy hq];simp[hlt]},{st',by omega},λb hb=>(hf b hb).1}}
 done:=by
  intro X hP hw hK hc i OK s Z H E I hf st hg;subst hP hw hK;have(f0,f1,f2,f3,f4,f5):=hf it ∅;have hi:i=n:=Js st.2 hg;have e1:((n:Int)-1-i) = -1:=by omega
  have st1:=st.1;rw[e1]at st1;show wpAny_pyNext_rev_end (I.ok.hd hc) st1 λh' eb=>{Xr,I.turned (t':=s.toks) (λb o hb e=>eb b o hb e) f0 f1 f3 f4 f5}
 self:=λ_ _ _ _ _ st h=>NS st.1 h
abbrev AT(K:yF)(e:TA):TI:=λZ H R=>e Z H λvs c=>∃a d,vs=[.ref a]/\SqL K c a d/\R (Itv K a d.length) c
def BR{X:Cx}{C a:Expr}{j:TA}{p pos:Pos}(E:Gl X "reversed")(t:X.mg "reversed" = P8)(x:PA X [a] j)(hs:KT [a] X.env=[(Qa,eval a X.env)]:=by rfl):PI X C (.Call (.Name "reversed" p) [a] [] pos) (AT X.K j):=by
 intro v s Z H R I h;show PZ (gz I E t boot_reversed (GB (thn (x pos v s Z H _ I h) λL c ⟨vs,m,f,y,G⟩=>?_) hs rfl));have(l,g,e,B,q):=G;subst e;have(u,rfl,k):=dm y;cases k;have(d,A,r,J):=f.list B;show call_reversed_list r.isList ?_;have w:=A.length;have st:(c.heap.push (revObj l ((d.toArray.size:Int)-1))).IsRevIter c.heap.objs.size l ((g.length:Int)-1-((0:Nat):Int)):=by
  show{_,KN _ rfl,Xr,?_};change PJ #[.ref l,Mq ((d.toArray.size:Int)-1)]=_;rw[FN,<-w];simp
 show NS (i:=((g.length:Int)-1-((0:Nat):Int))) st ?_;show{c.heap.objs.size,[c.heap.objs.size],_,_,m,Xr,f.kept (t':=c.toks) λb o e=>KB _ e,xg l _ g.length,{st,GA _},λb z=>?_,q};have e:b=c.heap.objs.size:=by exists z
 subst e;show f.fpOk (FV _) (f.hok.fresh (FV _))
def irK{X:Cx}{K:yF}{f a:Expr}{c:TA}{p pos:Pos}(h:X.K=K)(g:Gl X "reversed")(d:X.mg "reversed" = P8)(e:PA X [a] c)(hs:KT [a] X.env=[(Qa,eval a X.env)]:=by rfl):PI X f (.Call (.Name "reversed" p) [a] [] pos) (AT K c):=h▸BR g d e hs
def u9:MtR X "str.index" (λx vs H Q=>∃(z y:Str) (i:Nat) (rest:!Nat),x=.str z/\vs=[.str y]/\K0 z y 0 z.length 1=i::rest/\Q (.int i) H):=by
 intro g s Z H x j v k Q I c e h;have(z,y,i,rest,rfl,rfl,a,q):=h;have(t,rfl):=c;have(u,rfl,d):=dm e;have(f,rfl):=d;show call_gives F.slot_str_index (Mh s z t) F.entry_str_index (F.args_str_index_2 _ _) (gives_str_index z y t f i rest a) {.int i,H,I.tok _,{_,Xr},q}
def qT(e f iter c iter2:Expr)(a:!Expr)(scope:Mj)(pos:Pos)(it d:KA)(env:Env) :
  NR (.ListComp e [{f,iter,[],0},{c,iter2,a,0}] scope pos) 0 it d env=(Mb iter.pos >>= λ_=>Mp it >>= λr=>match r with
   | none=>pure (.done .next)
   | some v=>Lw f it v >>= λ_=>L9 f env v >>= λ_=>
    (eval iter2 env >>= λx=>Mb iter2.pos >>= λ_=>K8 iter2 env x >>= λx=>LO [x] (NO x) >>= λj=>runOwn (.compStart (.ListComp e [{f,iter,[],0},{c,iter2,a,0}] scope pos) 1 j d env) env >>= λ_=>
     again (.compLoop (.ListComp e [{f,iter,[],0},{c,iter2,a,0}] scope pos) 0 it d env))):=by
 unfold NR;rfl
def qS(f d iter2:Expr)(g1:Comprehension)(a:!Expr)(scope:Mj)(pos:Pos)(it e:KA)(env:Env) :
  NR (.ListComp f [g1,{d,iter2,a,0}] scope pos) 1 it e env=(do
   Mb iter2.pos
   match <-Mp it with
   | none=>pure (.done .next)
   | some v=>
    Lw d it v
    L9 d env v
    let mut g:=Qb
    for c in a do
     if g then g <-NN c env (eval c env)
    if g then
     (do let _ <-call (.builtin "list.append") [e,<-eval f env])
    again (.compLoop (.ListComp f [g1,{d,iter2,a,0}] scope pos) 1 it e env)):=by rfl
def pY(I:Nat->KC->Prop)
  (l:∀n s,I n s->KI (KO prog w) A (Mp it) (λr c=>match r with
   | none=>R (.ok .next) c
   | some v=>KI (KO prog w) A (Lw tg2 it v) (λ_ a=>KI (KO prog w) A (L9 tg2 env v) (λ_ i=>
     KI (KO prog w) A (kM ifs2 env) (λu d=>
      if u=Qb then KI (KO prog w) A (eval elt env) (λx f=>
       KI (KO prog w) A (call (.builtin "list.append") [acc,x]) (λ_ j=>∃m,m<n/\I m j) (λ_ _=>False) f) (λ_ _=>False) d
      else∃m,m<n/\I m d) (λ_ _=>False) i) (λ_ _=>False) a) (λ_ _=>False) c) (λ_ _=>False) s)
  (n:Nat) (h:I n s):LP (KO prog w) A (.compLoop (.ListComp elt [g1,{tg2,iter2,ifs2,0}] scope pos) 1 it acc env) R s:=by
 have never:∀{y:Type} {t:Sem y} {C : y->KC->Prop} {E:KA->KC->Prop} {B:KC},KI (KO prog w) A t C (λ_ _=>False) B->KI (KO prog w) A t C E B:=λH=>Lb H (λ_ _ z=>z) λ_ _ z=>z.elim;show Oo rfl I (λn s G=>?_) n h;change KI _ A ((NR (.ListComp elt [g1,{tg2,iter2,ifs2,0}] scope pos) 1 it acc env).onRaise (λx=>do Oz x env;NF x)) _ _ s;show OI ?_;rw[qS];show Kz (LD (Kz (Lb (l n s G) (λr c g=>?_) λ_ _ z=>z.elim)));cases r with
 | none=>show KD g
 | some v=>
  show Kz (Lb g (λ_ a k=>?_) λ_ _ z=>z.elim);show Kz (Lb k (λ_ i o=>Kz (Lb o (λu d e=>?_) λ_ _ z=>z.elim)) λ_ _ z=>z.elim);cases u with
  | false=>show KD ⟨Xr,e⟩
  | true=>
   show Kz (Kz (Lb e (λx f q=>Kz (Lb q (λ_ j p=>KD (KD ⟨Xr,p⟩)) λ_ _ z=>z.elim)) λ_ _ z=>z.elim))
def pC
  (d:LP (KO prog w) A (.compLoop (.ListComp elt [g1,{tg2,iter2,ifs2,0}] scope pos) 1 it acc env) R s)
  (h:KI (KO prog w) A (NO it) (λa c=>LP (KO prog w) A (.compLoop (.ListComp elt [g1,{tg2,iter2,ifs2,0}] scope pos) 1 a acc env) R c) (notedBy (KO prog w) A env λx c=>R (.error x) c) s) :
  LP (KO prog w) A (.compStart (.ListComp elt [g1,{tg2,iter2,ifs2,0}] scope pos) 1 it acc env) R s:=by
 show codeAny_of_tree ?_;change KI _ _ ((compStart (.ListComp elt [g1,{tg2,iter2,ifs2,0}] scope pos) 1 it acc env).onRaise (λx=>do Oz x env;Mb theWindowsPlace)) _ _ s;show wpAny_notedAt ?_;unfold compStart;change KI _ _ (ask >>= _) _ _ s;show Kz (wpAny_askSetting (wpAny_ite ?_));split
 .first
   | show KD (Ps rfl d)
   | show Kz (KD (KD (Ps rfl d)))
 .show Kz (MR ?_);change KI _ _ (Mb iter2.pos >>= _) _ _ s;show Kz (LD (Kz (Lb h (λa c e=>KD (Ps rfl e)) λ_ _ x=>x)))
def pZ(hs:∀x,K8 iter2 env x=pure x)(I:Nat->KC->Prop)
  (q:∀n s,I n s->KI (KO prog w) A (Mp it) (λr c=>match r with
   | none=>R (.ok .next) c
   | some v=>KI (KO prog w) A (Lw tg it v) (λ_ a=>KI (KO prog w) A (L9 tg env v) (λ_ k=>
     KI (KO prog w) A (eval iter2 env) (λx d=>KI (KO prog w) A (NO x) (λj l=>
      LP (KO prog w) A (.compStart (.ListComp elt [{tg,iter,[],0},{tg2,iter2,ifs2,0}] scope pos) 1 j acc env) (λr o=>match r with|.ok _=>∃m,m<n/\I m o|.error _=>False) l)
       (λ_ _=>False) d) (λ_ _=>False) k) (λ_ _=>False) a) (λ_ _=>False) c) (λ_ _=>False) s)
  (n:Nat) (h:I n s):LP (KO prog w) A (.compLoop (.ListComp elt [{tg,iter,[],0},{tg2,iter2,ifs2,0}] scope pos) 0 it acc env) R s:=by
 show Oo rfl I (λn s B=>?_) n h;change KI _ A ((NR (.ListComp elt [{tg,iter,[],0},{tg2,iter2,ifs2,0}] scope pos) 0 it acc env).onRaise (λx=>do Oz x env;NF x)) _ _ s;show OI ?_;rw[qT];show Kz (LD (Kz (Lb (q n s B) (λr c i=>?_) λ_ _ z=>z.elim)));cases r with
 | none=>show KD i
 | some v=>
  show Kz (Lb i (λ_ a p=>?_) λ_ _ z=>z.elim);show Kz (Lb p (λ_ k u=>?_) λ_ _ z=>z.elim);show Kz (Lb u (λx d t=>Kz (LD (Kz (OH (hs x) (Kz (Lz (Lb t (λj l y=>?_) λ_ _ z=>z.elim))))))) λ_ _ z=>z.elim);show Kz (wpAny_runOwn (Nw y λr o g=>?_));cases r with
  | ok f=>show KD ⟨Xr,g⟩
  | error e=>show g.elim
abbrev ug(f:It)(r:St)(p:TG)(g:TT)(q:TE)(acc0:!V)(l:Hp)(N:!V->Hp->Prop):Prop:=
 ∃W2:Nat->Nat->!V->Hp->Prop,(∃m,W2 0 m acc0 l)/\∀i m a H,W2 i m a H->a.length<sizeLine /\
  ((f.stop i H/\N a H) \/
  (f.go i H/\∃e:!V->Hp->Prop,(∀c d,e c d->∃k,k<m/\W2 (i+1) k c d) /\
   ∀x d,f.yld i H x d->p x r d λh o=>g h o λb j=>if b=Qb then q h j λv H6=>e (a++[v]) H6 else e a j))
abbrev uh(J:It)(u:St)(g:TG)(f:TI)(j:! ↑Nat)(r:TG)(h:TT)(s:TE)(t:Hp)(Q:VK):Prop:=
 ∃W:Nat->Nat->!V->Hp->Prop,(∃m,W 0 m [] t)/\∀i m a H,W i m a H->a.length<sizeLine /\
  ((J.stop i H/\∀d,H d=P8->Q (.ref d) (upd H d (.lst a))) \/
  (J.go i H/\∃N:!V->Hp->Prop,(∀c e,N c e->∃k,k<m/\W (i+1) k c e) /\
   ∀x e,J.yld i H x e->g x u e λl q=>f l q λp o=>ug p (aZ j l) r h s a o N))
abbrev xa(i:TI)(fr:! ↑Nat)(g:TG)(c:TI)(d:! ↑Nat)(f:TG)(a:TT)(h:TE):TE:=λZ H Q=>i Z H λJ e=>uh J (aZ fr Z) g c d f a h e Q
section
variable {X:Cx}{elt tg iter tg2 iter2:Expr}{ifs2:!Expr}{scope:Mj}{pos:Pos}{N':!Str}{fr fr2:! ↑Nat}{wi wi2:TI}{g g2:TG}{tc2:TT}{te:TE}
abbrev qP(fr fr2:! ↑Nat):Bool:=(fr2.length==fr.length)&&(Gn fr.length).all λk=>(fr2[k]? == P9 (P9 k))||(fr2[k]? == P9 P8&&fr[k]? == P9 P8)
def A6(h:qP fr fr2=Qb)(d:Kp fr (aZ fr Z) Z8)(a:Kp fr2 (aZ fr2 Z8) Z5):Kp fr (aZ fr Z) Z5:=by
 unfold qP at h;rw[FO]at h;have(p,q):=h;have o:fr2.length=fr.length:=by exists p
 show{by rw[a.1,cb,cb,o],λk j e=>?_};have l:k<fr.length:=(FL.mp e).1;have f:=Go.mp q k (GP.mpr l);rw[e]at f;have i:fr2[k]?*>(P9 k):=by
  rw[Ia]at f;rcases f with z|z;exists z
  .rw[FO]at z;have m:=z.2;simp at m
 rw[a.2 k k i,<-d.2 k j e];have c:k<Z8.length:=by rw[d.1,cb];show l
 unfold aZ;rw[F4,i];change P9 (Z8.getD k P8)=_;rw[Gb,GX c];rfl
def xy(a:qP fr fr2=Qb)(d:Kp fr (aZ fr Z) Z8):(aZ fr2 Z8).length=Z8.length/\∀(k:Nat) v,(aZ fr2 Z8)[k]?*>(P9 v)->Z8[k]?*>(P9 v):=by
 unfold qP at a;rw[FO]at a;have h:fr2.length=fr.length:=by exists a.1
 show{by rw[cb,d.1,cb,h],λk v e=>?_};unfold aZ at e;rw[F4]at e;cases q:fr2[k]? with
 | none=>rw[q]at e;cases e
 | some o=>
  rw[q]at e;cases o with
  | none=>simp at e
  | some j=>
   have f:=Go.mp a.2 k (GP.mpr (by rw[<-h];show(FL.mp q).1));rw[q]at f;simp at f;subst f;have c:Z8.getD j P8*>v:=by exists e
   rw[Gb]at c;cases q2:Z8[j]? with
   | none=>rw[q2]at c;cases c
   | some y=>rw[q2]at c;simp at c;rw[c]
def oN(hc:X.calm=Qb)(B:Blk X.env.scope scope X.N N' fr)(u:qP fr fr2=Qb)
  (hg:∀b,PG (cxB X scope N' b) tg g) (hgk:dB fr g) (hi2:∀b,PI (cxB X scope N' b) tg2 iter2 wi2) (hg2:∀b,PG (cxB X scope N' b) tg2 g2) (hgk2:dB fr2 g2) (ht:∀b,PTs (cxB X scope N' b) ifs2 tc2) (he:∀b,PE (cxB X scope N' b) elt te)
  (hs2:∀b x,K8 iter2 (cxB X scope N' b).env x=pure x)
  {OK:!(Addr×Obj)} {Z:St} {Q:VK} {itv:KA} {s2:KC} {E:KA->KC->Prop} {RR:KA->Addr->Pw->KC->Prop}
  (h2:PIE X OK Z tg (λJ H1=>uh J (aZ fr Z) g wi2 fr2 g2 tc2 te H1 Q) itv s2)
  (hRR:∀(d C:Addr) (v:V) (H':Hp) (s':KC) m',Inv X OK Z H' s'->v=.ref d->Q v H'->s'.heap.Ns C m'->dW X OK H' C->C≠d->RR (.ref d) C (.ok .next) s') :
  KI (KO X.prog X.w) X.A (newList []) (λc s₃=>KI (KO X.prog X.w) X.A (Mm scope X.env.globals (bL X.env scope.names []) [] X.env.qual P8 .none (P9 X.env)) (λk L=>
   LP (KO X.prog X.w) X.A (.compStart (.ListComp elt [{tg,iter,[],0},{tg2,iter2,ifs2,0}] scope pos) 0 itv c {k with scope:=NB scope X.env}) (RR c k.locals) L) E s₃) E s2:=
 kU (Ob:=obL) (Sz:=szL) (ho:=.lst) (a0:=[]) (o0:=lO [] 0) hc B (λq=>KU q) (λa b=>NC a b) {[],0,Xr,.nil} (KN _ rfl) zX h2 hRR λh it fp tn J H2 d s4 A w0 wk fin=>by
  obtain⟨W,⟨m0,w0⟩,H⟩:=w0;show pZ (hs2 h) (Wk obL (cxB X scope N' h) [] fr (aZ fr Z) fp tn d W) (λn s hw=>A.turn qq (hg h) hgk (B:=λc N Z2 H2=>wi2 Z2 H2 λJ2 H3=>ug J2 (aZ fr2 Z2) g2 tc2 te c H3 N) H hw fin λi c o N h7 Z8 H8 s8 J8 st7 P va hz hN q8=>?_) m0 (wk W m0 w0);show thn (hi2 h _ s8 Z8 H8 _ J8 q8) λv9 s9 h9=>thn h9 λj s10 h10=>?_;obtain⟨it2,M,Y,J2,H10,rfl,G,T2,l,S,W2,⟨m2,w2⟩,y⟩:=h10;have(_,k2,k3,k4,k5):=A.kept st7 G;have A2:Wa (cxB X scope N' h) (cQ fp h7) tg2 J2 M it2 Y d:={A.hc,T2,λ{Hx} hn=>by
   have(f0,f1,f2,f3,f4,O):=A.df hn;show{f0,f1,f2,f3,f4,λp U=>?_};rcases yaM U with z|z;show O p (yaL _ z)
   .show λe=>(A.fpk (o:=o) k2 p.1 (mS z).1).2.2.2.2.2 _ (yaR _ ymS) e.symm,λ{Hx o'} hn b hb=>by
   have(_,f1,f2,f3,f4,O):=S b hb;show{hn b hb,f1,f2,f3,f4,λp U=>?_};rcases yaM U with z|z;show O p (yaL _ z)
   .rcases ycM z with z|z
    .rw[z];show O (d,o) (yaR _ (yaL _ ymS))
    .show O p (yaR _ (yaR _ z))}
  have(wl,ww):=xy u P;have f:=pY (g1:={tg,iter,[],0}) (iter2:=iter2) (scope:=scope) (pos:=pos) (R:=λr s₅=>match r with|.ok _=>∃m,m<n/\Wk obL (cxB X scope N' h) [] fr (aZ fr Z) fp tn d W m s₅|.error _=>False) (Wk obL (cxB X scope N' h) (cQ fp h7) fr2 (aZ fr2 Z8) M Y d W2) (λn2 t hw2=>A2.turn qq (hg2 h) hgk2 y hw2 (λacc2 o2 τ K5 t6 L6 kq vb _ _ q2=>A.stays (pp:=[]) st7 (A6 u P kq) L6 hN q2 vb) λi2 acc2 o2 N2 h9 τ K t L8 ut kq vb hz2 hN2 q9=>A2.app (ht h) (he h) L8 ut kq vb hz2 hN2 q9) m2
   {0,c,o,H10,aZ fr2 Z8,(G.pins_of λp U=>G.pin p (yaR _ (yaR _ U))).weak wl ww,Kp.refl _ _,l,λb hb=>(S b hb).1,k4,k3,va,w2}
  show pC f (T2.self X.A 0 _ _ _ l f)
def vt(E:X.calm=Qb)(B:Blk X.env.scope scope X.N N' fr)(a:qP fr fr2=Qb)(t:PI X tg iter wi)
  (hg:∀b,PG (cxB X scope N' b) tg g) (j:dB fr g) (l:∀b,PI (cxB X scope N' b) tg2 iter2 wi2) (f:∀b,PG (cxB X scope N' b) tg2 g2) (c:dB fr2 g2) (z:∀b,PTs (cxB X scope N' b) ifs2 tc2) (Y:∀b,PE (cxB X scope N' b) elt te)
  (hs:∀x,K8 iter X.env x=pure x:=by intro _;rfl) (i:∀b x,K8 iter2 (cxB X scope N' b).env x=pure x:=by intro _ _;rfl) :
  PE X (.ListComp elt [{tg,iter,[],0},{tg2,iter2,ifs2,0}] scope pos) (xa wi fr g wi2 fr2 g2 tc2 te):=by
 intro m s Z H Q I h;rw[eval_ListComp];show Mf (use:=P8) rfl hs (eX (I.freeCells B)) B.kind B.locl (thn (t m s Z H _ I h) λv s1 L=>thn L λS s2 P=>?_);show oN (RR:=λk C=>PN (KO X.prog X.w) X.A X.xe P8 (EP X m Z Q) k C) E B a hg j l f c z Y i P ?_;intro d C v u r J I' G q y K U;show{J,y,λp M=>?_};have(c0,c1,c2,c3,c4,c5):=K;show{v,u,I'.turned (it:=C) (t':=r.toks) (λb o O e=>(M.2 b O).trans e) c0 c1 c3 c4 c5,by rw[G];rfl,q}
end
open PySem.AutoSeq1 (wpAny_loadPart')
section
variable {prog:KP}{w:K2}{A:Li}{E:KA->KC->Prop}{ss:KC}
def lX(d:ss.heap.IsTupleIter jt tt k)(m:ss.heap.IsTuple tt els)(j:els[k]?*>y)
  (i:∀e,e.IsTupleIter jt tt (k+1)->KZ jt ss.heap e->Q y {ss with heap:=e}):KI (KO prog w) A (KS (.ref jt)) Q E ss:=by
 have(p,c,l,a):=id d;have(q,h,_,o,f):=m;unfold KS;show Kz (Lh (name:=K9 "__next__") d.typeIs LK (Ln LK d.typeIs MM ?_ (MD _)));change KI _ _ (OJ (.ref jt) 0 >>= _) _ _ ss;show Kz (K6 c a (x:=.ref tt) rfl ?_);change KI _ _ (if(LL tt==LQ)=Qb then _ else _) _ _ ss;rw[if_neg (show ¬ ((LL tt==LQ)=Qb)from FZ)];change KI _ _ (OJ (.ref jt) 1 >>= _) _ _ ss;show Kz (K6 c a (x:=.int k 0) rfl ?_);change KI _ _ (Np (.ref tt) >>= _) _ _ ss;show Kz (Lu h f ?_);dsimp[GF,j];show Kz (LU c a ∅ (KD {y,Xr,KD (i _ ?_ (Lv ..))}));show{_,Ly _ c (Obj.isFreed_of_fields (Oe a _)),(Obj.cls_mapFields ..).trans l,by rw[Oe a];simp[Mq]}
def fN(j:A.handled=P8)(c:ss.heap.IsTupleIter jt tt k)(r:ss.heap.IsTuple tt els)(q:els[k]?=P8)
  (p:∀f e,NT jt ss.heap f->(∃o,f.get? e*>o/\o.cls=.type "StopIteration")->E (.ref e) {ss with heap:=f}):KI (KO prog w) A (KS (.ref jt)) Q E ss:=by
 have(t,g,v,d):=id c;have(u,l,_,s,h):=r;unfold KS;show Kz (Lh (name:=K9 "__next__") c.typeIs LK (Ln LK c.typeIs MM ?_ (MD _)));change KI _ _ (OJ (.ref jt) 0 >>= _) _ _ ss;show Kz (K6 g d (x:=.ref tt) rfl ?_);change KI _ _ (if(LL tt==LQ)=Qb then _ else _) _ _ ss;rw[if_neg (show ¬ ((LL tt==LQ)=Qb)from FZ)];change KI _ _ (OJ (.ref jt) 1 >>= _) _ _ ss;show Kz (K6 g d (x:=.int k 0) rfl ?_);change KI _ _ (Np (.ref tt) >>= _) _ _ ss;show Kz (Lu l h ?_);dsimp[GF,q];show Kz (MR (Kz (LU g d ∅ ?_)));change KI _ _ (newExc (.type "StopIteration") ([]:!KA) >>= _) _ _ _;show Kz ?_;dsimp[newExc,newTuple];show Kz (KU ?_ (by size_fits));show Kz (m:=Pd _ _) (OH (a:=LQ) (by first|rfl|(dsimp[Pd];rfl;done)) ?_);show KU ?_ (by size_fits);dsimp[raiseNew];show Kz (wpAny_handled ?_);first|rw[show A.in1.handled=P8 from j]|rw[id j]
 show Kz (KD (wpAny_throw ?_));show p _ _ (((Lv ..).extBut.push _).push _) {_,KN _ rfl,Xr}
def j0(hh:A.handled=P8)(jt tt:Addr)(ne:tt≠jt)(els:Array KA):NG prog w A jt [jt,tt] els.size (λk v=>els[k]?*>v) (λk h=>h.IsTupleIter jt tt k/\h.IsTuple tt els) where
 live:=λ_ _ st=>let ⟨o,ho,_⟩:=st.1;⟨o,ho⟩
 frame:=λ_ _ _ st hk=>{st.1.at λo e=>hk jt ∅ o e,let ⟨o,ho,r⟩:=st.2;{o,hk tt ∅ o ho,r}}
 item:=λk s Q E hi st kk=>lX st.1 st.2 (y:=els[k]) (by simp[hi]) λh1 i1 s1=>kk _ h1 s.toks (by simp[hi]) {i1,st.2.extBut s1.extBut ne} s1
 done:=λs Q E st kk=>fN hh st.1 st.2 ∅ kk
def jH(l:Addr)(e:Array KA)(n:Nat)(i:↑Addr)(sl:Array ↑KA) :
  P3 (KJ.«enumerate.__new__» {[.type "enumerate",.ref l],[]}) (λ_ R s=>s.heap.get? l=P9 {cls:=.type "tuple",dict:=i,data:=.seq e n,slots:=sl} /\
   R (.ok (.ret (.ref (s.heap.push {cls:=.type "tuple_iterator",data:=.fields #[.ref l,.int 0 0]}).objs.size)))
    {s with heap:=(s.heap.push {cls:=.type "tuple_iterator",data:=.fields #[.ref l,.int 0 0]}).push {cls:=.type "enumerate",data:=.fields #[.none,.bool Qa,.ref s.heap.objs.size,Mq 0,.none,.none]}}):=
 .of_wp λq r t RR m a=>by
  obtain⟨k,g,d,o,os⟩:=m;obtain⟨c,a⟩:=a;have h:=sub_enumerate;have f:Heap.IsTuple (KC.heap ⟨k,g,d,o,os⟩) l e:={_,c,Xr,n,Xr};wp_walk using MF c
  show wpAny_stack_any λp=>KD ?_;split
  .rename_i c0 _ _ _ _ _;cases (c0==LI "enumerate")
   .wp_walk using MF c,LZ f
    show{_,Xr,a}
   .wp_walk using MF c,LZ f
    show{_,Xr,a}
  .wp_walk using MF c,LZ f
   show{_,Xr,a}
def kf(r:ss.heap.IsTuple l els)
  (k:∀e,PD e (ss.heap.objs.size+1) ss.heap.objs.size 0 .none->e.IsTupleIter ss.heap.objs.size l 0->e.objs.size=ss.heap.objs.size+2->(∀b o,ss.heap.get? b*>o->e.get? b*>o)->Q (.ref (ss.heap.objs.size+1)) {ss with heap:=e}) :
  KI (KO prog w) A (call (.type "enumerate") [.ref l]) Q E ss:=by
 obtain⟨⟨c0,h,m,q⟩,p,d,n,a⟩:=r;replace d:c0=.type "tuple" :=d;replace a:m=.seq els n:=a;subst d a;show callType_new F.called_enumerate (by decide) (F.typeCall_enumerate_1 _) (F.newCall_enumerate_1 _) (λg=>F.args_object_init_2 g _) F.entry_enumerate_new (jH l els n h q) {p,?_};have c:(ss.heap.push {cls:=.type "tuple_iterator",data:=.fields #[.ref l,.int 0 0]}).objs.size=ss.heap.objs.size+1:=Lq ..;change _/\_;rw[c];have f:PD ((ss.heap.push {cls:=.type "tuple_iterator",data:=.fields #[.ref l,.int 0 0]}).push {cls:=.type "enumerate",data:=.fields #[.none,.bool Qa,.ref ss.heap.objs.size,Mq 0,.none,.none]}) (ss.heap.objs.size+1) ss.heap.objs.size 0 .none:=by
  have j:=KN (ss.heap.push {cls:=.type "tuple_iterator",data:=.fields #[.ref l,.int 0 0]}) (o:={cls:=.type "enumerate",data:=.fields #[.none,.bool Qa,.ref ss.heap.objs.size,Mq 0,.none,.none]}) rfl;rw[c]at j;show j
 show{{_,f,Xr},k _ f {_,KB _ (KN _ rfl),Xr,Xr} (by rw[Lq,c]) λb o x=>KB _ (KB _ x)}
end
def Inv.turned2(I:Inv X OK Z H s)(k:∀b o,b≠i1->b≠i2->s.heap.get? b*>o->h'.get? b*>o)(i:dW X OK H i1)(h:dW X OK H i2):Inv X OK Z H {s with heap:=h',toks:=t'}:=by
 have d:∀b u,H b*>u->b≠i1/\b≠i2:=λb u e=>{λz=>(by rw[z,i.1]at e;cases e),λz=>(by rw[z,h.1]at e;cases e)};show I.step (g':=s.gens) (d':=s.drawn) (ch:=[i1,i2]) (λb y=>?_) (λb o _ _ a e _=>k b o (λz=>a (by simp[z])) (λz=>a (by simp[z])) e) (λb o _ _ a e _=>{o.slots,k b o (λz=>a (by simp[z])) (λz=>a (by simp[z])) e}) (λ_ _ _ _ n=>n)
  (λb o a e=>{o,k b o (λz=>a (by simp[z])) (λz=>a (by simp[z])) e}) (λ_ _ e=>e) (λ_ _ _ e=>e) (λb B e=>{#[],by rw[e];simp}) (λm t=>?_) (λb u e=>?_) I.bare
 .have e:b=i1\/b=i2:=by exists y
  rcases e with e|e
  .subst e;have(_,l,_,g,j,f):=i;show⟨g,l,j,f⟩
  .subst e;have(_,l,_,g,j,f):=h;show⟨g,l,j,f⟩
 .have(o,x,A,w,r):=t;show{o,x,A,k _ o (K3 i.2.1) (K3 h.2.1) w,r}
 .show(I.hok b u e).stay (λc v a q=>k c v ?_ ?_ q) (λ_ q=>q) λ_ _ q=>q
  .rcases a with z|z;rw[z];show(d b u e).1;show(d c _ z).1
  .rcases a with z|z;rw[z];show(d b u e).2;show(d c _ z).2
def uA
  (D:∀(Q:KA->KC->Prop) (E:KA->KC->Prop),(∀a x,NT jt ss.heap a->(∃o,a.get? x*>o/\o.cls=.type "StopIteration")->E (.ref x) {ss with heap:=a})->KI (KO prog w) A.in1 (KS (.ref jt)) Q E ss)
  (h:PD ss.heap e jt i old) (k:∀a,NT jt ss.heap a->Q P8 {ss with heap:=a}):KI (KO prog w) A (Mp (.ref e)) Q E ss:=by
 have g:ss.TypeIs (.ref e) "enumerate" :={_,h,Xr};unfold Mp;show Kz (N6 (Lh (name:=K9 "__next__") g NJ (Ln NJ g F.entry_enumerate_next ?_ (F.args_enumerate_next_1 _))));change KI _ _ (OJ (.ref e) 2 >>= _) _ _ _;show Kz (K6 h rfl (x:=.ref jt) rfl ?_);show Kz (D _ _ λa x f d=>?_);have(o,l,j):=d;show Kz (OA (T:="StopIteration") (b:=Qb) ⟨o,l,j⟩ Pe ?_);show KD (k _ f)
def sF{prog:KP}{w:K2}{A:Li}{ss:KC}{c tt:Addr}{k:Nat}{a:Array KA}(h:A.handled=P8)(i:ss.heap.IsTupleIter c tt k)(j:ss.heap.IsTuple tt a)(g:a[k]?=P8) :
  ∀(Q:KA->KC->Prop) (E:KA->KC->Prop),(∀d x,NT c ss.heap d->(∃o,d.get? x*>o/\o.cls=.type "StopIteration")->E (.ref x) {ss with heap:=d})->KI (KO prog w) A.in1 (KS (.ref c)) Q E ss:=λQ E f=>fN h i j g f
abbrev Ite(K:yF) (a:Addr):It:=
 {λi H=>∃c x,SqT K H a c/\c[i]?*>x,λi H y d=>∃p x,H p=P8/\y=.ref p/\d=upd H p (.tup [.int i,x])/\∀c,SqT K H a c->c[i]?*>x,λi H=>∃c,SqT K H a c/\c.length<=i}
def t9{P:KP}{w:K2}{K:yF}{elts:!Expr}{k0:Nat}{pos:Pos}(a it e:Addr)(hei:e≠it) :
  Ko P w K (.Tuple elts k0 pos) (Ite K a) [e,it] e (λi h=>(∃old,PD h e it ((i:Nat):Int) old)/\h.IsTupleIter it a i) where
 mem:=by simp
 obj:=λi h st b hb=>by
  rcases ycM hb with z|z
  .subst z;have(old,e1):=st.1;show{_,e1,λv z=>by cases z}
  .have z':b=it:=by exists z
   subst z';have(o,e,c,d):=st.2;show{o,e,λv z=>by rw[d]at z;cases z}
 keep:=λi h h' st k=>{let ⟨old,e1⟩:=st.1;{old,k e ∅ _ e1},st.2.at λo e=>k it ∅ o e}
 item:=by
  intro X hP hw hK hc i OK s Z H E I hf st hg;subst hP hw hK;have(xs,x,hq,hx):=hg;have(its,rv,p,hz):=I.tuple hq;have(u,hu,ru):=rv.get hx;have(f0,f1,f2,f3,f4,f5):=hf it ∅;have(e0,e1,e2,e3,e4,e5):=hf e ∅;obtain⟨⟨old,he⟩,hit⟩:=st;have hT:s.heap.IsTuple a its.toArray:=p;have nai:a≠it:=λz=>by
   subst z;have(o1,q1,q2,_):=hT;have(o2,q3,q4,_):=hit;rw[q1]at q3;cases q3;rw[q2]at q4;show absurd q4 (by decide +kernel)
  have nae:e≠a:=λz=>by
   subst z;have(o1,q1,q2,_):=hT;have q3:s.heap.get? e=_:=he;rw[q1]at q3;cases q3;have q5:LI "enumerate" = LI "tuple" :=q2;show absurd q5 (by decide +kernel)
  have hn:i<its.toArray.size:=by
   rw[FN];show(FL.mp hu).1
  show Nq (j0 (A:=X.A.in1) (I.ok.hd hc) it a nai its.toArray) he ⟨hit,hT⟩ hn hei (by simp[hei,nae]) λx' h1 tk px ho st1 ht hz1 kk=>?_;have ex:x'=u:=by
   have e1:its.toArray[i]?*>x':=px;have e2:its.toArray[i]?*>u:=by exists hu
   rw[e1]at e2;show F9.inj e2
  subst ex;show{_,Xr,M1 ho λh2 he2 sb=>?_};have sb':KZ e h1 h2:=sb;have hel:e<s.heap.objs.size:=KM he;have k2:∀b o,b≠e->b≠it->s.heap.get? b*>o->h2.get? b*>o:=λb o n1 n2 q=>(sb'.2 b n1).trans (kk b o n1 n2 q);have I1:Inv X OK Z H {s with heap:=h2,toks:=tk+1}:=I.turned2 k2 (hf e ∅) (hf it ∅);have fz:dW X OK H s.heap.objs.size:=I.fpOk (FV _) (I.hok.fresh (FV _));have hT2:h2.get? s.heap.objs.size=P9 {cls:=.type "tuple",data:=.seq #[.int i tk,x']}:=(sb'.2 _ (Hy hel)).trans ht;have I2:Inv X OK Z (upd H s.heap.objs.size (.tup [.int i,x])) {s with heap:=h2,toks:=tk+1}:=I1.track fz (.inr I.sz) I.sz {by change 2<=sizeLine;decide,[.int i tk,x'],.cons ⟨tk,Xr⟩ (.cons ru .nil),{_,hT2,⟨Xr,Xr⟩,_,Xr}};show{.ref s.heap.objs.size,_,I2,Xr,{_,x,fz.1,Xr,Xr,λys hy=>by rw[I.tuple_inj hy hq];show hx},{{x',?_},?_},λb hb=>?_}
  .have e9:((i+1:Nat):Int)=(i:Int)+1:=by push_cast;rfl
   rw[e9];show he2
  .show st1.1.extBut sb'.extBut (K3 hei)
  .have hbo:∃o,s.heap.get? b*>o:=by
    rcases ycM hb with z|z;subst z;show{_,he}
    .have z':b=it:=by exists z
     subst z';have(o,q,_):=hit;show⟨o,q⟩
   have(o,q):=hbo;rw[upd_ne (Ga (KM q))];show(hf b hb).1
 done:=by
  intro X hP hw hK hc i OK s Z H E I hf st hg;subst hP hw hK;have(xs,hq,hx):=hg;have(its,rv,p,hz):=I.tuple hq;have(f0,f1,f2,f3,f4,f5):=hf it ∅;have hl:=rv.length;obtain⟨⟨old,he⟩,hit⟩:=st;have hT:s.heap.IsTuple a its.toArray:=p;have nai:a≠it:=λz=>by
   subst z;have(o1,q1,q2,_):=hT;have(o2,q3,q4,_):=hit;rw[q1]at q3;cases q3;rw[q2]at q4;show absurd q4 (by decide +kernel)
  show uA (sF (I.ok.hd hc) hit hT (by simp;lia)) he λh1 eb=>{Xr,I.turned (t':=s.toks) (λb o hb e=>eb b o hb e) f0 f1 f3 f4 f5}
 self:=λ_ _ _ _ _ st h=>by
  obtain⟨⟨old,he⟩,_⟩:=st;show Mn he h
abbrev uM(K:yF)(e:TA):TI:=λZ H R=>e Z H λvs c=>∃a d,vs=[.ref a]/\SqT K c a d/\R (Ite K a) c
def yz{X:Cx}{a:Expr}{i:TA}{elts:!Expr}{k0:Nat}{p pos pt:Pos}(G:Gl X "enumerate")(x:X.mg "enumerate" = P8)(A:PA X [a] i)(hs:KT [a] X.env=[(Qa,eval a X.env)]:=by rfl):PI X (.Tuple elts k0 pt) (.Call (.Name "enumerate" p) [a] [] pos) (uM X.K i):=by
 intro y s Z H R I h;show PZ (gz I G x Pf (GB (thn (A pos y s Z H _ I h) λN c ⟨vs,v,d,B,J⟩=>?_) hs rfl));have(l,L,e,E,q):=J;subst e;have(u,rfl,r):=dm B;cases r;have(g,P,w,M):=d.tuple E;show kf (show c.heap.IsTuple l g.toArray from w) λO j f m k=>?_;show Mn j ?_;show{c.heap.objs.size+1,[c.heap.objs.size+1,c.heap.objs.size],_,_,v,Xr,d.kept (t':=c.toks) λb o e=>k b o e,t9 l c.heap.objs.size _ (Jp _),{{_,j},f},λb C=>?_,q};rcases ycM C with z|z
 .subst z;show d.fpOk (Im _) (d.hok.fresh (Im _))
 .have t:b=c.heap.objs.size:=by exists z
  subst t;show d.fpOk (FV _) (d.hok.fresh (FV _))
def ieK{X:Cx}{K:yF}{a:Expr}{c:TA}{elts:!Expr}{k0:Nat}{p pos pt:Pos}(h:X.K=K)(f:Gl X "enumerate")(d:X.mg "enumerate" = P8)(e:PA X [a] c)(hs:KT [a] X.env=[(Qa,eval a X.env)]:=by rfl):PI X (.Tuple elts k0 pt) (.Call (.Name "enumerate" p) [a] [] pos) (uM K c):=h▸yz f d e hs
abbrev Ev(a:Bool):R2:=λx y H Q=>∃i j,x=.bl i/\y=.bl j/\Q (.bl (if a then ~~~decide (i=j)else decide (i=j))) H
def op_isB:OpR X (K7 .Is) (Ev Qa):=by
 intro d s Z H x y v u Q I c a h;have(i,j,rfl,rfl,q):=h;cases c;cases a;cases i<;>cases j<;>show KD (aO I q rfl)
abbrev bH:Expr->Bool
 | .Starred _ _=>Qb
 | _=>Qa
def bf(h:bH e=Qa):KT (e::es) env=(Qa,eval e env)::KT es env:=by
 cases e<;>first|rfl|cases h
abbrev aY:!Expr->Bool
 | []=>Qb
 | e::a=>(~~~bH e)&&aY a
def db:∀{a:!Expr},aY a=Qb->(Mk pos (KT a env)).any (·.1)=Qa
 | [],_=>rfl
 | e::a,h=>by
  rw[aY,FO]at h;have c:bH e=Qa:=by exists h.1
  rw[bf c];change(Qa||(Mk pos (KT a env)).any (·.1))=Qa;rw[db h.2];rfl
def j4:∀{a:!Expr},aY a=Qb->(Mk pos (KT a env)).all (λx=> ~~~x.1)=Qb
 | [],_=>rfl
 | e::a,h=>by
  rw[aY,FO]at h;have c:bH e=Qa:=by exists h.1
  rw[bf c];change(~~~Qa&&(Mk pos (KT a env)).all (λx=> ~~~x.1))=Qb;rw[j4 h.2];rfl
section
variable {X:Cx}{K:yF}{e:Expr}{es:!Expr}{te:TE}{t:TA}{x:Str}{p pos:Pos}{k:Nat}{ps:!Str}{sp:Sp}
def de(a:PE X e te)(c:PA X es t)(hs:bH e=Qa:=by rfl):PA X (e::es) (rZ te t):=yp a c (bf hs)
def qw(h:Has X.prog X.w X.K X.mg X.base k x ps sp)(f:Ka k X.A)(g:Gl X x)(d:PA X (e::es) t)(c:aY (e::es)=Qb:=by rfl)(a:(x==("__debug__" : Str))=Qa:=by decide):PE X (.Call (.Name x p) (e::es) [] pos) (lK sp [] E0 t):=by
 rw[aY,FO]at c;show D3 h f g d a (bf (by exists c.1)) (db c.2)
def jM{id:String}{r:!V->Hp->VK->Prop}(f:HE X (.builtin id) r)(j:Gl X x)(d:X.mg x=P8)(h:Lr x*>(.builtin id))(i:PA X (e::es) t)(c:aY (e::es)=Qb:=by rfl)(g:x≠("__name__" : Str):=by decide)(a:(x==("__debug__" : Str))=Qa:=by decide):PE X (.Call (.Name x p) (e::es) [] pos) (tCB r t):=by
 rw[aY,FO]at c;show vq f j d h i g a (bf (by exists c.1)) (db c.2)
def qv(f:HE X (.type T) r)(j:Gl X x)(d:X.mg x=P8)(h:Lr x*>(.type T))(i:PA X (e::es) t)(c:aY (e::es)=Qb:=by rfl)(g:x≠("__name__" : Str):=by decide)(a:(x==("__debug__" : Str))=Qa:=by decide):PE X (.Call (.Name x p) (e::es) [] pos) (tCB r t):=by
 rw[aY,FO]at c;show tp f j d h i g a (bf (by exists c.1)) (db c.2)
def Dd{o:Expr}{m:TE}{name:Str}{a c:Pos}{T id:String}{r:V->!V->Hp->VK->Prop}(h:X.K=K)(v:Mt T)(j:Slot T name id)(l:Od (.builtin id)=pure (.type "method_descriptor"))(s:MtR X id r)(ho:PE X o m)(u:PA X (e::es) t)(q:aY (e::es)=Qb:=by rfl)(i:decide ((e::es).length<30)=Qb:=by rfl)
  (g:LR o name X.env (eval o X.env)=eval o X.env:=by rfl) (d:(a.endLine==c.line)=Qb:=by rfl):PE X (.Call (.Attribute o name a) (e::es) [] c) (tBM K T r m t):=by
 have f:=q;rw[aY,FO]at f;show bmK h v j l s ho u g ?_ d (bf (by exists f.1)) (db f.2);rw[j4 q];have:=of_decide_eq_true i;dsimp[Iq,Jt,JM,List.isEmpty_nil,if_true];rw[decide_eq_true this];rfl
end
end L2
namespace L2
open PySem PySem.Spec PySem.Calls PyProof.Rows PySem.W
abbrev kw:!KA->Bool
 | .ref _::r=>kw r
 | .type n::r=>n == "ValueError" && r==[.type "Exception",.type "BaseException",.type "object"]
 | _=>Qa
open Builtin Builtin.ObjectAttr
end L2
namespace L2
open PySem PySem.Spec PyProof.Rows
open PySem.W (Frag clsIn findIn subIn specialIn instIn mroIn takesIn InstAt Looks)
abbrev exO(b:Bool) (C:Addr) (d:↑Addr) (x:Addr):HO:=.ext λh=>∃vs,h.get? x=P9 {cls:=.ref C,dict:=d,data:=.fields vs}/\(b=Qa->∃t,vs = #[.ref t,.none,.none,.none,.bool Qa,.none])
abbrev AK(K:Frag) (C:Addr):Bool:=match K.lookup C with
 | some o=>(match o.data with
  | .cls a=>decide (o.cls=.type "type")&&decide (o.slots.size=6)&&decide (o.slots[4]?*>(P9 (.builtin "ValueError.__new__")))&&decide (a.mro.head?*>(.ref C)) &&  ~~~a.hasDel&&a.hasDict&&kw a.mro.tail &&  ~~~a.mro.tail.contains (.type "AttributeError") &&  ~~~a.mro.tail.contains (.type "NameError")&&a.mro.tail.contains (.type "ValueError")
  | _=>Qa)
 | none=>Qa
structure ExK(K:Frag)(C:Addr):Prop where
 obj:AK K C=Qb
 sa:PF K (.ref C) "__setattr__" = P9 (P9 (.builtin "object.__setattr__"))
 ga:PF K (.ref C) "__getattribute__" = P9 (P9 (.builtin "BaseException.__getattribute__"))
 g0:PF K (.ref C) "__getattr__" = P9 P8
 sub:subIn K (.ref C) (.type "BaseException")*>Qb
 call:Pt K (.ref C) "__call__" = P9 (P9 (.builtin "type.__call__"))
 typ:instIn K (.ref C) (.type "type")*>Qb
 ca:PF K (.ref C) "__class__" = P9 (P9 (.builtin "object.__class__"))
 cn:Pt K (.builtin "object.__class__") "__get__" = P9 (P9 (.builtin "getset_descriptor.__get__"))
 ct:takesIn K (.builtin "object.__class__")*>Qb
 cm:mroIn K C (.type "object")*>Qb
def xN{K:Frag}{C:Addr}(e:AK K C=Qb):∃u q N bs h a s sub k g m k0 v t p r,K.lookup C*>(excClassObj u q C N bs h a s sub k g m k0 v t p r "ValueError.__new__") /\
  h.contains (.type "ValueError")=Qb/\h.contains (.type "AttributeError")=Qa/\h.contains (.type "NameError")=Qa/\kw h=Qb/\a=Qb:=by
 unfold AK at e;ext e o J;ext e P j;dsimp[FO,decide_eq_true_eq,Gk]at e;obtain⟨⟨⟨⟨⟨⟨⟨⟨⟨A,f⟩,w⟩,z⟩,d⟩,x⟩,i⟩,E⟩,y⟩,B⟩:=e;obtain⟨c,m,Q,⟨l⟩⟩:=o;obtain⟨u,bs,G,M,L,H,s,sub,k,g,O⟩:=P;dsimp only at z d x j A w f i E y B;have(h,rfl):=List.head?_eq_some_iff.mp z;subst d x j A;have(k0,l,rfl):=Gv (l:=l) (n:=5) f;have(v,l,rfl):=Gv (l:=l) (n:=4) (He.inj f);have(t,l,rfl):=Gv (l:=l) (n:=3) (He.inj (He.inj f));have(p,l,rfl):=Gv (l:=l) (n:=2) (He.inj (He.inj (He.inj f)));have(S,l,rfl):=Gv (l:=l) (n:=1) (He.inj (He.inj (He.inj (He.inj f))));have(r,rfl):=G9.mp (He.inj (He.inj (He.inj (He.inj (He.inj f)))));cases F9.inj w;show⟨u,L,M,bs,h,Qb,s,sub,k,g,m,k0,v,t,p,r,J,B,E,y,i,Xr⟩
section
variable {X:Cx}{CX:CXT}{k:Nat}{C f:Addr}{fd:LS}{ps:!Str}{sp:Sp}{E:XK}{OK:!(Addr×Obj)}{Z:St}{H:Hp}{s:KC}
structure EMk(K:Frag)(C f:Addr):Prop where
 ex:ExK K C
 init:PF K (.ref C) "__init__" = P9 (P9 (.ref f))
 fn:JI K (.ref f)=Qb
 kp:GY K (.ref C)=Qb
end
open PySem.W (Frag clsIn findIn subIn specialIn instIn mroIn takesIn InstAt Looks)
abbrev exX(fs:!(Str×V)) (c:Addr):HO:=.ext λh=>∃a,h.Ns1 c a/\(∀f,RelO (fs.lookup f) (a f))/\PySem.Within a (fs.map (·.1))
def ExK.cls{K:Frag}{C:Addr}(x:ExK K C):∃a,clsIn K C*>a/\kw a.mro=Qb/\a.hasDict=Qb:=by
 obtain⟨k,q,N,i,o,c,f,sub,h,d,l,g,m,j,p,r,e,c1,c2,c3,c4,c5⟩:=xN x.obj;show{_,by unfold clsIn;rw[e],c4,c5}
end L2
namespace L2
open PySem PySem.Spec PyProof.Rows
open PySem.W (Frag clsIn findIn subIn specialIn instIn mroIn takesIn InstAt Looks keepIn readsIn findCls handedIn)
structure CIn(K:Frag)(B f:Addr):Prop where
 sp:Pt K (.ref B) "__getattribute__" = P9 (P9 (.builtin "type.__getattribute__"))
 rd:readsIn K B (.type "type")=Qb
 fc:findCls K (.ref B) (.type "type") "__init__" = P9 (.val (.ref f))
 kp:keepIn K (.ref f)=Qb
 hh:handedIn (.ref f)=Qb
inductive I where
 | non|bl (b:Bool)|int (i:Int)|str (x:Str)|tup (is:!I)|ls (is:!I)
 | fd (ks:!Key) (is:!I)
 | exn (x:Str) (ks:!Str) (is:!I)
mutual
def I.beq:I->I->Bool
 | .non,b=>(match b with|.non=>Qb|_=>Qa)
 | .bl a,b=>(match b with|.bl b=>a==b|_=>Qa)
 | .int a,b=>(match b with|.int b=>decide (a=b)|_=>Qa)
 | .str a,b=>(match b with|.str b=>decide (a=b)|_=>Qa)
 | .tup a,b=>(match b with|.tup b=>I.beqs a b|_=>Qa)
 | .ls a,b=>(match b with|.ls b=>I.beqs a b|_=>Qa)
 | .fd k a,b=>(match b with|.fd j b=>decide (k=j)&&I.beqs a b|_=>Qa)
 | .exn x k a,b=>(match b with|.exn y j b=>decide (x=y/\k=j)&&I.beqs a b|_=>Qa)
def I.beqs:!I->!I->Bool
 | [],b=>b.isEmpty
 | a::c,b=>(match b with|b::d=>I.beq a b&&I.beqs c d|[]=>Qa)
end
mutual
theorem I.beq_iff:∀{a b:I},I.beq a b=Qb↔a=b
 | .non,b=>by cases b<;>simp[I.beq]
 | .bl x,b=>by cases b<;>simp[I.beq]
 | .int x,b=>by cases b<;>simp[I.beq]
 | .str x,b=>by cases b<;>simp[I.beq]
 | .tup x,b=>by
  cases b with
  | tup y=>dsimp[I.beq,I.beqs_iff,I.tup.injEq]
  | _=>simp[I.beq]
 | .ls x,b=>by
  cases b with
  | ls y=>dsimp[I.beq,I.beqs_iff,I.ls.injEq]
  | _=>simp[I.beq]
 | .fd k x,b=>by
  cases b with
  | fd j y=>dsimp[I.beq,FO,I.beqs_iff,I.fd.injEq,decide_eq_true_iff]
  | _=>simp[I.beq]
 | .exn z k x,b=>by
  cases b with
  | exn w j y=>dsimp[I.beq,FO,I.beqs_iff,I.exn.injEq,decide_eq_true_iff,and_assoc]
  | _=>simp[I.beq]
theorem I.beqs_iff:∀{a b:!I},I.beqs a b=Qb↔a=b
 | [],b=>by cases b<;>simp[I.beqs]
 | x::c,b=>by
  cases b with
  | nil=>simp[I.beqs]
  | cons y d=>dsimp[I.beqs,FO,I.beq_iff,I.beqs_iff,Hj.injEq]
end
instance:DecidableEq I:=λa b=>decidable_of_iff (I.beq a b=Qb) I.beq_iff
inductive T where
 | im (i:I)|tup (ts:!T)|li (is:!I)|lst (ts:!T)|di (kvs:!(I×I))|dc (kvs:!(I×T))|ins (x:Str) (fs:!(Str×T))
 | dq (kvs:!(I×I))
abbrev AZ:Key->I
 | .inl i=>.int i
 | .inr x=>.str x
abbrev DAt(K:yF)(H:Hp)(a:Addr)(ks:!(I×V)):Prop:=∃c:!(Key×V),H a*>(.dK c)/\ks=c.map λp=>(AZ p.1,p.2)
mutual
def RpI(K:yF)(H:Hp):I->V->Prop
 | .non,v=>v=.non
 | .bl b,v=>v=.bl b
 | .int i,v=>v=.int i
 | .str x,v=>v=.str x
 | .tup c,v=>∃a e,v=.ref a/\SqT K H a e/\md K H c e
 | .ls c,v=>∃a o e,v=.ref a/\H a*>(.frz o (.lst e))/\md K H c e
 | .fd f c,v=>∃a o d,v=.ref a/\H a*>(.frz o (.dK d))/\d.map (·.1)=f/\md K H c (d.map (·.2))
 | .exn x f c,v=>∃C a,v=.ref a/\Hn K K4 x*>(P9 (.ref C))/\∃b,(f=[]/\c=[]/\H a*>(exO b C P8 a) \/ ∃g d,H a*>(exO b C (P9 g) a)/\H g*>(exX d g)/\d.map (·.1)=f/\md K H c (d.map (·.2)))
def md(K:yF)(H:Hp):!I->!V->Prop
 | [],a=>a=[]
 | t::c,a=>∃x r,a=x::r/\RpI K H t x/\md K H c r
end
abbrev k1I:K1->I
 | .inl k=>AZ k
 | .inr a=>.tup (a.map AZ)
abbrev Dg(ks:!K1):I:=.tup (ks.map k1I)
protected def QA1(K:yF)(H:Hp)(p:I×I)(y:!K1×Addr×V):Prop:=Dg y.1=p.1/\RpI K H p.1 (.ref y.2.1)/\RpI K H p.2 y.2.2
mutual
def Rp(K:yF)(H:Hp):T->V->!Addr->Prop
 | .im i,v,F=>RpI K H i v/\F=[]
 | .tup g,v,F=>∃a f,v=.ref a/\SqT K H a f/\Rps K H g f F
 | .li j,v,F=>∃a f,v=.ref a/\Rd H a (.lst f)/\md K H j f/\F=[a]
 | .lst g,v,F=>∃a f e,v=.ref a/\Rd H a (.lst f)/\Rps K H g f e/\F=a::e
 | .di c,v,F=>∃a d,v=.ref a/\DAt K H a d/\md K H (c.map (·.2)) (d.map (·.2))/\d.map (·.1)=c.map (·.1)/\F=[a]
 | .dc c,v,F=>∃a d e,v=.ref a/\DAt K H a d/\Rpk K H c d e/\F=a::e
 | .ins x k,v,F=>∃C a h d e,Hn K K4 x*>(P9 (.ref C))/\v=.ref a/\H a*>(.ins C h d)/\Rpf K H k d e/\F=a::e
 | .dq c,v,F=>∃a d,v=.ref a/\H a*>(.dT d)/\Paired (QA1 K H) c d/\F=[a]
def Rps(K:yF)(H:Hp):!T->!V->!Addr->Prop
 | [],a,F=>a=[]/\F=[]
 | t::e,a,F=>∃x r d c,a=x::r/\Rp K H t x d/\Rps K H e r c/\F=d++c
def Rpk(K:yF)(H:Hp):!(I×T)->!(I×V)->!Addr->Prop
 | [],a,F=>a=[]/\F=[]
 | (k,t)::e,a,F=>∃x r d c,a=(k,x)::r/\Rp K H t x d/\Rpk K H e r c/\F=d++c
def Rpf(K:yF)(H:Hp):!(Str×T)->!(Str×V)->!Addr->Prop
 | [],a,F=>a=[]/\F=[]
 | (k,t)::e,a,F=>∃x r d c,a=(k,x)::r/\Rp K H t x d/\Rpf K H e r c/\F=d++c
end
abbrev Ft:HO->Bool
 | .lst _=>Qb|.dK _=>Qb|.dT _=>Qb|.ins _ _ _=>Qb|_=>Qa
abbrev Mu(H:Hp)(a:Addr):Prop:=∃o,H a*>o/\Ft o=Qb
abbrev td(M:!Addr)(H H':Hp):Prop:=∀b o,H b*>o->b∉M->H' b*>o
def JX.offM(s:JX H H')(M:!Addr):td M H H':=λb o h _=>s b o h
def td.refl(M:!Addr)(H:Hp):td M H H:=λb o h _=>h
def td.trans(x:td M H H1)(y:td M H1 H2):td M H H2:=λb o h n=>y b o (x b o h n) n
def td.mono(x:td M H H1)(y:∀a∈M,a∈M'):td M' H H1:=λb o h n=>x b o h λz=>n (y b z)
def td.upd:td [a] H (upd H a o):=λb u h n=>by rw[upd_ne (by exists n)];show h
def td.rd(x:td M H H')(n:a∉M)(h:Rd H a o):Rd H' a o:=by
 rcases h with h|⟨u,h⟩;show .inl (x a _ h n);show .inr {u,x a _ h n}
def td.sqT{K:yF}{M:!Addr}{H H':Hp}{a:Addr}{xs:!V}(x:td M H H')(c:∀b∈M,Mu H b)(h:SqT K H a xs):SqT K H' a xs:=by
 rcases h with(h|⟨u,h⟩)|h;show .inl (.inl (x a _ h λz=>by have(o,e,m):=c a z;rw[h]at e;cases e;cases m));show .inl (.inr {u,x a _ h λz=>by have(o,e,m):=c a z;rw[h]at e;cases e;cases m});show .inr h
def DAt.off{K:yF}{M:!Addr}{H H':Hp}{a:Addr}{ks:!(I×V)}(x:td M H H')(n:a∉M)(h:DAt K H a ks):DAt K H' a ks:=by
 have(d,c,e):=h;show{d,x a _ c n,e}
def DAt.dom{K:yF}{H:Hp}{a:Addr}{ks:!(I×V)}(h:DAt K H a ks):∃o,H a*>o:=by
 have(d,c,e):=h;show{_,c}
def Rd.dom(h:Rd H a u):∃o,H a*>o:=by
 rcases h with h|⟨o,h⟩;show{_,h};show{_,h}
mutual
theorem RpI.off{K:yF}{M:!Addr}{H H':Hp}(x:td M H H')(f:∀b∈M,Mu H b):∀{t:I} {v:V},RpI K H t v->RpI K H' t v
 | .non,_,h=>by rw[RpI]at h|-;show h
 | .bl _,_,h=>by rw[RpI]at h|-;show h
 | .int _,_,h=>by rw[RpI]at h|-;show h
 | .str _,_,h=>by rw[RpI]at h|-;show h
 | .tup l,_,h=>by rw[RpI]at h|-;have(a,j,g,c,d):=h;show{a,j,g,x.sqT f c,md.off x f d}
 | .ls l,_,h=>by
  rw[RpI]at h|-;have(a,o,j,g,c,d):=h;show{a,o,j,g,x a _ c (λz=>by have(u,e,m):=f a z;rw[c]at e;cases e;cases m),md.off x f d}
 | .fd B l,_,h=>by
  rw[RpI]at h|-;have(a,o,q,g,c,d,y):=h;show{a,o,q,g,x a _ c (λz=>by have(u,e,m):=f a z;rw[c]at e;cases e;cases m),d,md.off x f y}
 | .exn z B l,_,h=>by
  have i:∀{b:Addr} {r : Heap->Prop},H b*>(.ext r)->H' b*>(.ext r):=λ{b r} c=>x b _ c λz=>by have(u,e,m):=f b z;rw[c]at e;cases e;cases m
  rw[RpI]at h|-;obtain⟨C,a,g,c,d⟩:=h;obtain⟨b,d⟩:=d;show{C,a,g,c,b,?_};rcases d with⟨p,k,s⟩|⟨w,q,p,k,s,A⟩;show .inl {p,k,i s};show .inr {w,q,i p,i k,s,md.off x f A}
theorem md.off{K:yF}{M:!Addr}{H H':Hp}(x:td M H H')(a:∀b∈M,Mu H b):∀{ts:!I} {xs:!V},md K H ts xs->md K H' ts xs
 | [],_,h=>by rw[md]at h|-;show h
 | t::ts,_,h=>by
  rw[md]at h|-;have(y,r,d,e,c):=h;show{y,r,d,RpI.off x a e,md.off x a c}
end
mutual
theorem Rp.off{K:yF}{M:!Addr}{H H':Hp}(x:td M H H')(g:∀b∈M,Mu H b):∀{t:T} {v:V} {F:!Addr},(∀a∈F,a∉M)->Rp K H t v F->Rp K H' t v F
 | .im _,_,_,_,h=>by rw[Rp]at h|-;show{RpI.off x g h.1,h.2}
 | .tup l,_,_,n,h=>by rw[Rp]at h|-;have(a,f,d,e,c):=h;show{a,f,d,x.sqT g e,Rps.off x g n c}
 | .li l,_,_,n,h=>by
  rw[Rp]at h|-;have(a,f,d,e,c,rfl):=h;show{a,f,d,x.rd (n a ymS) e,md.off x g c,Xr}
 | .lst l,_,_,n,h=>by
  rw[Rp]at h|-;have(a,f,i,d,e,c,rfl):=h;show{a,f,i,d,x.rd (n a ymS) e,Rps.off x g (λb k=>n b (ymC _ k)) c,Xr}
 | .di j,_,_,n,h=>by
  rw[Rp]at h|-;have(a,f,d,e,c,o,rfl):=h;show{a,f,d,e.off x (n a ymS),md.off x g c,o,Xr}
 | .dc j,_,_,n,h=>by
  rw[Rp]at h|-;have(a,f,i,d,e,c,rfl):=h;show{a,f,i,d,e.off x (n a ymS),Rpk.off x g (λb k=>n b (ymC _ k)) c,Xr}
 | .ins C s,_,_,n,h=>by
  rw[Rp]at h|-;obtain⟨C,a,m,f,i,q,d,e,c,rfl⟩:=h;show{C,a,m,f,i,q,d,x a _ e (n a ymS),Rpf.off x g (λb k=>n b (ymC _ k)) c,Xr}
 | .dq j,_,_,n,h=>by
  rw[Rp]at h|-;have(a,r,d,e,c,rfl):=h;show{a,r,d,x a _ e (n a ymS),Paired.mapP c λp y z=>{z.1,RpI.off x g z.2.1,RpI.off x g z.2.2},Xr}
theorem Rps.off{K:yF}{M:!Addr}{H H':Hp}(x:td M H H')(d:∀b∈M,Mu H b):∀{ts:!T} {xs:!V} {F:!Addr},(∀a∈F,a∉M)->Rps K H ts xs F->Rps K H' ts xs F
 | [],_,_,_,h=>by rw[Rps]at h|-;show h
 | t::ts,_,_,n,h=>by
  rw[Rps]at h|-;have(y,r,j,f,g,i,e,rfl):=h;show{y,r,j,f,g,Rp.off x d (λb c=>n b (yaL _ c)) i,Rps.off x d (λb c=>n b (yaR _ c)) e,Xr}
theorem Rpk.off{K:yF}{M:!Addr}{H H':Hp}(x:td M H H')(d:∀b∈M,Mu H b):∀{ts:!(I×T)} {xs:!(I×V)} {F:!Addr},(∀a∈F,a∉M)->Rpk K H ts xs F->Rpk K H' ts xs F
 | [],_,_,_,h=>by rw[Rpk]at h|-;show h
 | (k,t)::ts,_,_,n,h=>by
  rw[Rpk]at h|-;have(y,r,j,f,g,i,e,rfl):=h;show{y,r,j,f,g,Rp.off x d (λb c=>n b (yaL _ c)) i,Rpk.off x d (λb c=>n b (yaR _ c)) e,Xr}
theorem Rpf.off{K:yF}{M:!Addr}{H H':Hp}(x:td M H H')(d:∀b∈M,Mu H b):∀{ts:!(Str×T)} {xs:!(Str×V)} {F:!Addr},(∀a∈F,a∉M)->Rpf K H ts xs F->Rpf K H' ts xs F
 | [],_,_,_,h=>by rw[Rpf]at h|-;show h
 | (k,t)::ts,_,_,n,h=>by
  rw[Rpf]at h|-;have(y,r,j,f,g,i,e,rfl):=h;show{y,r,j,f,g,Rp.off x d (λb c=>n b (yaL _ c)) i,Rpf.off x d (λb c=>n b (yaR _ c)) e,Xr}
end
def Rp.same{K:yF}{H H':Hp}(x:JX H H'){t:T}{v:V}{F:!Addr}(h:Rp K H t v F):Rp K H' t v F:=Rp.off (x.offM []) ∅ ∅ h
def Rps.same{K:yF}{H H':Hp}(x:JX H H'){t:!T}{v:!V}{F:!Addr}(h:Rps K H t v F):Rps K H' t v F:=Rps.off (x.offM []) ∅ ∅ h
def md.same{K:yF}{H H':Hp}(x:JX H H'){t:!I}{v:!V}(h:md K H t v):md K H' t v:=md.off (x.offM []) ∅ h
mutual
theorem Rp.dom{K:yF}{H:Hp}:∀{t:T} {v:V} {F:!Addr},Rp K H t v F->∀a∈F,∃o,H a*>o
 | .im _,_,_,h=>by rw[Rp]at h;rw[h.2];simp
 | .tup f,_,_,h=>by rw[Rp]at h;obtain⟨_,_,_,_,h⟩:=h;show Rps.dom h
 | .li f,_,_,h=>by
  rw[Rp]at h;have(a,i,g,d,e,rfl):=h;intro b c;rw[ysM c];show d.dom
 | .lst f,_,_,h=>by
  rw[Rp]at h;have(a,i,j,g,d,e,rfl):=h;intro b c;rcases ycM c with rfl|c;show d.dom;show Rps.dom e b c
 | .di f,_,_,h=>by
  rw[Rp]at h;have(a,i,g,d,e,l,rfl):=h;intro b c;rw[ysM c];show d.dom
 | .dc f,_,_,h=>by
  rw[Rp]at h;have(a,i,j,g,d,e,rfl):=h;intro b c;rcases ycM c with rfl|c;show d.dom;show Rpk.dom e b c
 | .ins C f,_,_,h=>by
  rw[Rp]at h;obtain⟨C,a,k,i,j,m,g,d,e,rfl⟩:=h;intro b c;rcases ycM c with rfl|c;show{_,d};show Rpf.dom e b c
 | .dq f,_,_,h=>by
  rw[Rp]at h;have(a,p,g,d,e,rfl):=h;intro b c;rw[ysM c];show{_,d}
theorem Rps.dom{K:yF}{H:Hp}:∀{ts:!T} {xs:!V} {F:!Addr},Rps K H ts xs F->∀a∈F,∃o,H a*>o
 | [],_,_,h=>by rw[Rps]at h;rw[h.2];simp
 | t::ts,_,_,h=>by
  rw[Rps]at h;have(y,r,i,f,g,e,d,rfl):=h;intro b c;rcases yaM c with c|c;show Rp.dom e b c;show Rps.dom d b c
theorem Rpk.dom{K:yF}{H:Hp}:∀{ts:!(I×T)} {xs:!(I×V)} {F:!Addr},Rpk K H ts xs F->∀a∈F,∃o,H a*>o
 | [],_,_,h=>by rw[Rpk]at h;rw[h.2];simp
 | (k,t)::ts,_,_,h=>by
  rw[Rpk]at h;have(y,r,i,f,g,e,d,rfl):=h;intro b c;rcases yaM c with c|c;show Rp.dom e b c;show Rpk.dom d b c
theorem Rpf.dom{K:yF}{H:Hp}:∀{ts:!(Str×T)} {xs:!(Str×V)} {F:!Addr},Rpf K H ts xs F->∀a∈F,∃o,H a*>o
 | [],_,_,h=>by rw[Rpf]at h;rw[h.2];simp
 | (k,t)::ts,_,_,h=>by
  rw[Rpf]at h;have(y,r,i,f,g,e,d,rfl):=h;intro b c;rcases yaM c with c|c;show Rp.dom e b c;show Rpf.dom d b c
end
def md.nil{K:yF}{H:Hp}:md K H [] []:=by rw[md]
def md.cons{K:yF}{H:Hp}{t:I}{ts:!I}{x:V}{xs:!V}(h:RpI K H t x)(hs:md K H ts xs):md K H (t::ts) (x::xs):=by rw[md];show⟨x,xs,Xr,h,hs⟩
def md.cons_inv{K:yF}{H:Hp}{t:I}{ts:!I}{xs:!V}(h:md K H (t::ts) xs):∃x r,xs=x::r/\RpI K H t x/\md K H ts r:=by rw[md]at h;show h
def md.nil_inv{K:yF}{H:Hp}{xs:!V}(h:md K H [] xs):xs=[]:=by rw[md]at h;show h
def md.length{K:yF}{H:Hp}:∀{ts:!I} {xs:!V},md K H ts xs->xs.length=ts.length
 | [],xs,h=>by rw[h.nil_inv];rfl
 | d::c,xs,h=>by have(x,r,rfl,_,a):=h.cons_inv;rw[FR,FR,a.length]
def md.get{K:yF}{H:Hp}:∀{ts:!I} {xs:!V} {i:Nat} {t:I},md K H ts xs->ts[i]?*>t->∃x,xs[i]?*>x/\RpI K H t x
 | [],_,_,_,_,e=>by simp at e
 | d::k,xs,0,g,h,e=>by
  have(x,r,rfl,c,a):=h.cons_inv;simp at e;subst e;show⟨x,Xr,c⟩
 | d::k,xs,i+1,g,h,e=>by
  have(x,r,rfl,c,a):=h.cons_inv;have(y,f,j):=md.get (i:=i) a (by exists e);show{y,by simpa using f,j}
def md.append{K:yF}{H:Hp}:∀{f c:!I} {xs a:!V},md K H f xs->md K H c a->md K H (f++c) (xs++a)
 | [],c,xs,a,h,e=>by obtain rfl:=h.nil_inv;show e
 | d::f,c,xs,a,h,e=>by
  have(x,r,rfl,i,g):=h.cons_inv;show md.cons i (md.append g e)
def md.take{K:yF}{H:Hp}:∀{ds:!I} {xs:!V} (n:Nat),md K H ds xs->md K H (ds.take n) (xs.take n)
 | ds,xs,0,h=>by dsimp[JB];show md.nil
 | [],xs,n+1,h=>by obtain rfl:=h.nil_inv;show md.nil
 | d::ds,xs,n+1,h=>by
  have(x,r,rfl,c,a):=h.cons_inv;show md.cons c (md.take n a)
def md.drop{K:yF}{H:Hp}:∀{ds:!I} {xs:!V} (n:Nat),md K H ds xs->md K H (ds.drop n) (xs.drop n)
 | ds,xs,0,h=>h
 | [],xs,n+1,h=>by obtain rfl:=h.nil_inv;show md.nil
 | d::ds,xs,n+1,h=>by
  have(x,r,rfl,c,a):=h.cons_inv;show md.drop n a
def md.one{K:yF}{H:Hp}{t:I}{x:V}(h:RpI K H t x):md K H [t] [x]:=.cons h .nil
def md.reverse{K:yF}{H:Hp}:∀{a:!I} {xs:!V},md K H a xs->md K H a.reverse xs.reverse
 | [],xs,h=>by obtain rfl:=h.nil_inv;show md.nil
 | d::a,xs,h=>by
  have(x,r,rfl,e,c):=h.cons_inv;rw[Hu,Hu];show md.append (md.reverse c) (.one e)
def md.set{K:yF}{H:Hp}{t:I}{x:V}(e:RpI K H t x):∀{a:!I} {xs:!V} (n:Nat),md K H a xs->md K H (a.set n t) (xs.set n x)
 | [],xs,n,h=>by obtain rfl:=h.nil_inv;show md.nil
 | d::a,xs,0,h=>by have(y,r,rfl,f,c):=h.cons_inv;show md.cons e c
 | d::a,xs,n+1,h=>by have(y,r,rfl,f,c):=h.cons_inv;show md.cons f (md.set e n c)
def md.ints{K:yF}{H:Hp}:∀(ns:!Int),md K H (ns.map I.int) (ns.map V.int)
 | []=>md.nil
 | n::ns=>md.cons (by rw[RpI]) (md.ints ns)
def Rps.nil{K:yF}{H:Hp}:Rps K H [] [] []:=by rw[Rps];show⟨Xr,Xr⟩
def Rps.cons{K:yF}{H:Hp}{t:T}{ts:!T}{x:V}{xs:!V}{F F':!Addr}(h:Rp K H t x F)(hs:Rps K H ts xs F'):Rps K H (t::ts) (x::xs) (F++F'):=by rw[Rps];show⟨x,xs,F,F',Xr,h,hs,Xr⟩
def Rps.cons_inv{K:yF}{H:Hp}{t:T}{ts:!T}{xs:!V}{F:!Addr}(h:Rps K H (t::ts) xs F):∃x r c a,xs=x::r/\Rp K H t x c/\Rps K H ts r a/\F=c++a:=by rw[Rps]at h;show h
def Rps.nil_inv{K:yF}{H:Hp}{xs:!V}{F:!Addr}(h:Rps K H [] xs F):xs=[]/\F=[]:=by rw[Rps]at h;show h
def Rps.length{K:yF}{H:Hp}:∀{ts:!T} {xs:!V} {F:!Addr},Rps K H ts xs F->xs.length=ts.length
 | [],xs,_,h=>by rw[h.nil_inv.1];rfl
 | d::c,xs,_,h=>by have(x,r,_,_,rfl,_,a,_):=h.cons_inv;rw[FR,FR,a.length]
def Rps.append{K:yF}{H:Hp}:∀{f a:!T} {xs c:!V} {F G:!Addr},Rps K H f xs F->Rps K H a c G->Rps K H (f++a) (xs++c) (F++G)
 | [],a,xs,c,F,G,h,e=>by have(rfl,rfl):=h.nil_inv;show e
 | d::f,a,xs,c,F,G,h,e=>by
  have(x,r,k,j,rfl,i,g,rfl):=h.cons_inv;rw[F5];show Rps.cons i (Rps.append g e)
def Rps.at{K:yF}{H:Hp}:∀{ts:!T} {xs:!V} {F:!Addr} {i:Nat} {t:T},Rps K H ts xs F->ts[i]?*>t ->
  ∃x A G B,xs[i]?*>x/\Rp K H t x G/\F=A++G++B/\Rps K H (ts.take i) (xs.take i) A/\Rps K H (ts.drop (i+1)) (xs.drop (i+1)) B
 | [],_,_,_,_,_,e=>by simp at e
 | d::q,xs,_,0,o,h,e=>by
  have(x,r,f,g,rfl,c,a,rfl):=h.cons_inv;simp at e;subst e;show{x,[],f,g,Xr,c,by simp,Rps.nil,by simpa using a}
 | d::q,xs,_,i+1,o,h,e=>by
  have(x,r,f,g,rfl,c,a,rfl):=h.cons_inv;have(y,A,G,B,l,p,k,j,m):=Rps.at (i:=i) a (by exists e);show{y,f++A,G,B,by simpa using l,p,by rw[k];simp,?_,by simpa using m};simpa using Rps.cons c j
def Rps.take{K:yF}{H:Hp}:∀{ds:!T} {xs:!V} {F:!Addr} (n:Nat),Rps K H ds xs F->∃G a,Rps K H (ds.take n) (xs.take n) G/\Rps K H (ds.drop n) (xs.drop n) a/\F=G++a
 | ds,xs,F,0,h=>{[],F,by dsimp[JB];show Rps.nil,by simpa using h,Xr}
 | [],xs,F,n+1,h=>by have(rfl,rfl):=h.nil_inv;show{[],[],Rps.nil,Rps.nil,Xr}
 | d::ds,xs,F,n+1,h=>by
  have(x,r,g,j,rfl,e,c,rfl):=h.cons_inv;have(G,a,i,f,rfl):=Rps.take n c;show{g++G,a,Rps.cons e i,f,by rw[F5]}
def Rps.ims{K:yF}{H:Hp}:∀{is:!I} {xs:!V} {F:!Addr},Rps K H (is.map T.im) xs F↔(md K H is xs/\F=[])
 | [],xs,F=>by rw[HA,Rps,md]
 | i::is,xs,F=>by
  rw[FS,Rps,md];constructor
  .rintro⟨x,r,e,d,rfl,a,c,rfl⟩;rw[Rp]at a;have:=Rps.ims.mp c;show{⟨x,r,Xr,a.1,this.1⟩,by rw[a.2,this.2];rfl}
  .rintro⟨⟨x,r,rfl,a,c⟩,rfl⟩;show{x,r,[],[],Xr,by rw[Rp];show⟨a,Xr⟩,Rps.ims.mpr ⟨c,Xr⟩,Xr}
def iy{K:yF}{H:Hp}{i:I}{v:V}(h:RpI K H i v):Rp K H (.im i) v []:=by rw[Rp];show⟨h,Xr⟩
def bo{K:yF}{H:Hp}{i:I}{v:V}{F:!Addr}(h:Rp K H (.im i) v F):RpI K H i v/\F=[]:=by rw[Rp]at h;show h
abbrev I.sc:I->↑V
 | .non=>P9 .non|.bl b=>P9 (.bl b)|.int i=>P9 (.int i)|.str x=>P9 (.str x)|.tup _=>P8|.ls _=>P8|.fd _ _=>P8|.exn _ _ _=>P8
def gX{t:I}{K:yF}{H:Hp}{v:V}(h:t.sc*>v):RpI K H t v:=by
 cases t<;>dsimp[I.sc]at h<;>cases h<;>rw[RpI]
def Am{t:I}{K:yF}{H:Hp}{v w:V}(h:t.sc*>v)(r:RpI K H t w):w=v:=by
 cases t<;>dsimp[I.sc]at h<;>cases h<;>rw[RpI]at r<;>show r
inductive Ac where
 | ix (n:Nat)|ky (k:I)|fd (f:Str)
 deriving DecidableEq
abbrev fL{a c:Type} [DecidableEq a]:!(a × c)->a->↑c
 | [],_=>P8
 | (d,t)::r,k=>if d=k then P9 t else fL r k
abbrev lA{a d:Type} [DecidableEq a]:!(a × d)->a->d->!(a × d)
 | [],_,_=>[]
 | (c,t)::r,k,s=>if c=k then(c,s)::r else(c,t)::lA r k s
abbrev kj:T->Ac->↑T
 | .lst d,.ix n=>d[n]?
 | .dc a,.ky k=>fL a k
 | .ins _ c,.fd f=>fL c f
 | _,_=>P8
abbrev D8:T->Ac->T->T
 | .lst c,.ix n,s=>.lst (c.set n s)
 | .dc a,.ky k,s=>.dc (lA a k s)
 | .ins C d,.fd f,s=>.ins C (lA d f s)
 | t,_,_=>t
abbrev T.sub:T->!Ac->↑T
 | t,[]=>P9 t
 | t,a::p=>(kj t a).bind λs=>s.sub p
abbrev T.put:T->!Ac->T->T
 | _,[],s=>s
 | t,a::p,s=>match kj t a with
  | some u=>D8 t a (u.put p s)
  | none=>t
abbrev at1(K:yF)(H:Hp):V->Ac->V->Prop
 | v,.ix n,w=>∃a d,v=.ref a/\H a*>(.lst d)/\d[n]?*>w
 | v,.ky k,w=>∃a c,v=.ref a/\DAt K H a c/\fL c k*>w
 | v,.fd f,w=>∃a C e c,v=.ref a/\H a*>(.ins C e c)/\fL c f*>w
abbrev atP(K:yF)(H:Hp):V->!Ac->V->Prop
 | v,[],w=>w=v
 | v,a::p,w=>∃u,at1 K H v a u/\atP K H u p w
def DAt.det{K:yF}{H:Hp}{a:Addr}{xs c:!(I×V)}(h:DAt K H a xs)(g:DAt K H a c):xs=c:=by
 have(i,f,rfl):=h;have(e,d,rfl):=g;rw[f]at d;cases d;rfl
def rf{K:yF}{H:Hp}{v w p:V}{a:Ac}(h:at1 K H v a w)(g:at1 K H v a p):w=p:=by
 cases a with
 | ix n=>
  have(a,m,rfl,i,j):=h;have(o,l,e,d,c):=g;cases e;rw[i]at d;cases d;rw[j]at c;cases c;rfl
 | ky k=>
  have(a,m,rfl,i,j):=h;have(o,l,e,d,c):=g;cases e;have:=i.det d;subst this;rw[j]at c;cases c;rfl
 | fd f=>
  have(a,C,r,m,rfl,i,j):=h;have(o,s,q,l,e,d,c):=g;cases e;rw[i]at d;cases d;rw[j]at c;cases c;rfl
def iR{K:yF}{H:Hp}:∀{p:!Ac} {v w c:V},atP K H v p w->atP K H v p c->w=c
 | [],v,w,c,h,g=>by rw[atP]at h g;rw[h,g]
 | a::p,v,w,c,h,g=>by
  rw[atP]at h g;have(u,e,i):=h;have(j,f,d):=g;have:=rf e f;subst this;show iR i d
def rh{K:yF}{H:Hp}{a:Ac}:∀{p:!Ac} {v w u:V},atP K H v p w->at1 K H w a u->atP K H v (p++[a]) u
 | [],v,w,u,h,g=>by rw[atP]at h;subst h;show⟨u,g,Xr⟩
 | b::p,v,w,u,h,g=>by
  rw[atP]at h;have(x,c,d):=h;show{x,c,rh d g}
def rY:∀{p:!Ac} {t s u:T},t.sub p*>s->kj s a*>u->t.sub (p++[a])*>u
 | [],t,s,u,h,g=>by rw[T.sub]at h;cases h;rw[G5,T.sub,g];rfl
 | b::p,t,s,u,h,g=>by
  rw[T.sub]at h;rw[F8,T.sub];cases e:kj t b with
  | none=>rw[e]at h;cases h
  | some x=>rw[e]at h;show rY (p:=p) h g
section
variable {K:yF}{H:Hp}
def Rpk.at:∀{ts:!(I×T)} {xs:!(I×V)} {F:!Addr} {t:T},Rpk K H ts xs F->fL ts k*>t ->
  ∃x A G B,fL xs k*>x/\Rp K H t x G/\F=A++G++B/\∀H' g f,(∀{u:T} {w:V} {F':!Addr},(∀a∈F',a∈A\/a∈B)->Rp K H u w F'->Rp K H' u w F')->Rp K H' g x f->Rpk K H' (lA ts k g) xs (A++f++B)
 | [],xs,F,t,h,e=>by simp[fL]at e
 | (z,d)::Q,xs,F,t,h,e=>by
  rw[Rpk]at h;have(x,r,o,m,rfl,l,j,rfl):=h;by_cases i:z=k
  .subst i;simp[fL]at e;subst e;show{x,[],o,m,by simp[fL],l,by simp,λH' g f st q=>?_};dsimp[lA,if_pos];rw[Rpk];show{x,r,f,m,Xr,q,?_,by simp};have:∀{ts:!(I×T)} {xs:!(I×V)} {F:!Addr},(∀a∈F,a∈m)->Rpk K H ts xs F->Rpk K H' ts xs F:=by
    intro ts
    induction ts with
    | nil=>intro xs F _ h;rw[Rpk]at h|-;show h
    | cons p ts L=>
     intro xs F s h;have(S,P):=p;rw[Rpk]at h|-;have(y,r,J,E,N,l,j,rfl):=h;show{y,r,J,E,N,st (λa c=>.inr (s a (yaL _ c))) l,L (λa c=>s a (yaR _ c)) j,Xr}
   show this (λa c=>c) j
  .simp[fL,i]at e;have(y,A,G,B,C,O,M,v):=Rpk.at j e;show{y,o++A,G,B,by simp[fL,i,C],O,by rw[M];simp,λH' g f st q=>?_};dsimp[lA,if_neg i];rw[Rpk];show{x,r,o,A++f++B,Xr,st (λa c=>.inl (yaL _ c)) l,v H' g f (λc=>st (λa h=>(c a h).imp (yaR _) id)) q,by simp}
def Rpf.at:∀{ts:!(Str×T)} {xs:!(Str×V)} {F:!Addr} {t:T},Rpf K H ts xs F->fL ts k*>t ->
  ∃x A G B,fL xs k*>x/\Rp K H t x G/\F=A++G++B/\∀H' g f,(∀{u:T} {w:V} {F':!Addr},(∀a∈F',a∈A\/a∈B)->Rp K H u w F'->Rp K H' u w F')->Rp K H' g x f->Rpf K H' (lA ts k g) xs (A++f++B)
 | [],xs,F,t,h,e=>by simp[fL]at e
 | (z,d)::Q,xs,F,t,h,e=>by
  rw[Rpf]at h;have(x,r,o,m,rfl,l,j,rfl):=h;by_cases i:z=k
  .subst i;simp[fL]at e;subst e;show{x,[],o,m,by simp[fL],l,by simp,λH' g f st q=>?_};dsimp[lA,if_pos];rw[Rpf];show{x,r,f,m,Xr,q,?_,by simp};have:∀{ts:!(Str×T)} {xs:!(Str×V)} {F:!Addr},(∀a∈F,a∈m)->Rpf K H ts xs F->Rpf K H' ts xs F:=by
    intro ts
    induction ts with
    | nil=>intro xs F _ h;rw[Rpf]at h|-;show h
    | cons p ts L=>
     intro xs F s h;have(S,P):=p;rw[Rpf]at h|-;have(y,r,J,E,N,l,j,rfl):=h;show{y,r,J,E,N,st (λa c=>.inr (s a (yaL _ c))) l,L (λa c=>s a (yaR _ c)) j,Xr}
   show this (λa c=>c) j
  .simp[fL,i]at e;have(y,A,G,B,C,O,M,v):=Rpf.at j e;show{y,o++A,G,B,by simp[fL,i,C],O,by rw[M];simp,λH' g f st q=>?_};dsimp[lA,if_neg i];rw[Rpf];show{x,r,o,A++f++B,Xr,st (λa c=>.inl (yaL _ c)) l,v H' g f (λc=>st (λa h=>(c a h).imp (yaR _) id)) q,by simp}
def Mu.lst(m:Mu H a)(h:Rd H a (.lst xs)):H a*>(.lst xs):=by
 rcases h with h|⟨o,h⟩;show h;obtain⟨u,e,m⟩:=m;rw[h]at e;cases e;cases m
def Rps.stay:∀{ts:!T} {xs:!V} {F:!Addr},(∀{u:T} {w:V} {F':!Addr},(∀a∈F',a∈F)->Rp K H u w F'->Rp K H' u w F')->Rps K H ts xs F->Rps K H' ts xs F
 | [],_,_,_,h=>by rw[Rps]at h|-;show h
 | t::ts,_,_,n,h=>by
  rw[Rps]at h|-;have(y,r,i,e,f,g,d,rfl):=h;show{y,r,i,e,f,n (λa c=>yaL _ c) g,Rps.stay (λc=>n λa h=>yaR _ (c a h)) d,Xr}
def Rp.at1(h:Rp K H t v F)(S:∀b∈F,Mu H b)(P:F.Nodup)(e:kj t a*>s) :
  ∃w A G B,L2.at1 K H v a w/\Rp K H s w G/\F=A++G++B/\∀H' j l,td G H H'->Rp K H' j w l->Rp K H' (D8 t a j) v (A++l++B):=by
 have y:∀{A G B:!Addr},F=A++G++B->∀b,(b∈A\/b∈B)->b∉G:=by
  intro A G B e b f X;rw[e]at P;rcases f with f|f;show(FP.mp (FP.mp P).1).2.2 b f b X rfl;show(FP.mp P).2.2 b (yaR _ X) b f rfl
 have p:∀{A G B:!Addr},F=A++G++B->∀b∈G,Mu H b:=λe b f=>S b (by rw[e];simp[f]);cases t with
 | lst M=>
  cases a with
  | ix n=>
   rw[Rp]at h;have(a,i,d,rfl,o,J,rfl):=h;have U:=(S a ymS).lst o;have(x,A,G,B,m,N,L,E,h8):=J.at e;have g:a::d=(a::A)++G++B:=by rw[L];simp
   show{x,a::A,G,B,⟨a,i,Xr,U,m⟩,N,g,λH' j l c q=>?_};have st:∀{u:T} {w:V} {d:!Addr},(∀b∈d,b∈A\/b∈B)->Rp K H u w d->Rp K H' u w d:=λf r=>r.off c (p g) (λb z=>y g b ((f b z).imp (ymC _) id));change Rp K H' (.lst (M.set n j)) (.ref a) _;rw[Rp];show{a,i,A++l++B,Xr,.inl (c a _ U (y g a (.inl ymS))),?_,by simp};have hn:n<M.length:=(FL.mp e).1;have hn':n<i.length:=(FL.mp m).1;have Z:M.set n j=M.take n++j::M.drop (n+1):=by rw[List.set_eq_take_append_cons_drop,if_pos hn]
   have e2:i=i.take n++x::i.drop (n+1):=by
    have:=FL.mp m;have(hl,Y):=this
    conv=>lhs;rw[<-Hf n i,GR hl,Y]
   rw[Z,e2,F5];show Rps.append (Rps.stay (λf=>st λb z=>.inl (f b z)) E) (Rps.cons q (Rps.stay (λf=>st λb z=>.inr (f b z)) h8))
  | ky k=>cases e
  | fd k=>cases e
 | dc O=>
  cases a with
  | ky k=>
   rw[Rp]at h;have(a,i,d,rfl,o,J,rfl):=h;have(x,A,G,B,m,N,L,E):=J.at e;have g:a::d=(a::A)++G++B:=by rw[L];simp
   show{x,a::A,G,B,⟨a,i,Xr,o,m⟩,N,g,λH' j l c q=>?_};have st:∀{u:T} {w:V} {d:!Addr},(∀b∈d,b∈A\/b∈B)->Rp K H u w d->Rp K H' u w d:=λf r=>r.off c (p g) (λb z=>y g b ((f b z).imp (ymC _) id));change Rp K H' (.dc (lA O k j)) (.ref a) _;rw[Rp];show{a,i,A++l++B,Xr,o.off c (y g a (.inl ymS)),E H' j l st q,by simp}
  | ix k=>cases e
  | fd k=>cases e
 | ins C fs=>
  cases a with
  | fd k=>
   rw[Rp]at h;obtain⟨D,a,Q,i,d,h0,rfl,o,J,rfl⟩:=h;have(x,A,G,B,m,N,L,E):=J.at e;have g:a::d=(a::A)++G++B:=by rw[L];simp
   show{x,a::A,G,B,⟨a,D,Q,i,Xr,o,m⟩,N,g,λH' j l c q=>?_};have st:∀{u:T} {w:V} {d:!Addr},(∀b∈d,b∈A\/b∈B)->Rp K H u w d->Rp K H' u w d:=λf r=>r.off c (p g) (λb z=>y g b ((f b z).imp (ymC _) id));change Rp K H' (.ins C (lA fs k j)) (.ref a) _;rw[Rp];show{D,a,Q,i,A++l++B,h0,Xr,c a _ o (y g a (.inl ymS)),E H' j l st q,by simp}
  | ix k=>cases e
  | ky k=>cases e
 | im _=>cases a<;>cases e
 | tup _=>cases a<;>cases e
 | li _=>cases a<;>cases e
 | di _=>cases a<;>cases e
 | dq _=>cases a<;>cases e
def Rp.atP:∀{p:!Ac} {t s:T} {v:V} {F:!Addr},Rp K H t v F->(∀b∈F,Mu H b)->F.Nodup->t.sub p*>s ->
  ∃w A G B,L2.atP K H v p w/\Rp K H s w G/\F=A++G++B/\∀H' c d,td G H H'->Rp K H' c w d->Rp K H' (t.put p c) v (A++d++B)
 | [],t,s,v,F,h,g,j,e=>by
  rw[T.sub]at e;cases e;show{v,[],F,[],Xr,h,by simp,λH' c d _ q=>by rw[T.put];simpa using q}
 | a::p,t,s,v,F,h,g,j,e=>by
  rw[T.sub]at e;cases e1:kj t a with
  | none=>rw[e1]at e;cases e
  | some u=>
   rw[e1]at e;have(w,A,G,B,C,E,rfl,r):=h.at1 g j e1;have k:=(FP.mp (FP.mp j).1).2.1;have(x,o,d,m,y,J,rfl,z):=Rp.atP (p:=p) E (λb i=>g b (yaL _ (yaR _ i))) k e;show{x,A++o,d,m++B,⟨w,C,y⟩,J,by simp,λH' c l f q=>?_};rw[T.put,e1];have:=r H' (u.put p c) (o++l++m) (f.mono λb i=>by simp[i]) (z H' c l f q);exists this
end
inductive Kd where
 | ow|io (k:Nat)|vw (r:↑Nat) (p:Option !Ac)
structure R where
 k:Kd
 t:T
structure En where
 key:↑Nat
 v:V
 r:R
structure Hd where
 e:En
 F:!Addr
structure Gm where
 K:yF
 H0:Hp
 io:!Addr
 iov:!V
abbrev Kd.isOw:Kd->Bool
 | .vw _ _=>Qa|_=>Qb
abbrev Kd.root:Kd->↑Nat
 | .vw r _=>r|_=>P8
abbrev Hd.own(h:Hd):!Addr:=if h.e.r.k.isOw=Qb then h.F else []
abbrev vx(c:Gm)(H:Hp)(L:!Hd)(h:Hd):Prop:=match h.e.r.k with
 | .ow=>∀a∈h.F,c.H0 a=P8
 | .io k=>c.iov[k]?*>h.e.v
 | .vw P8 _=>∀a∈h.F,a∉L.flatMap Hd.own
 | .vw (P9 j) p=>∃g∈L,g.e.key*>j/\g.e.r.k.isOw=Qb/\(∀a∈h.F,a∈g.F\/a∉L.flatMap Hd.own)/\∀q,p*>q->g.e.r.t.sub q*>h.e.r.t/\atP c.K H g.e.v q h.e.v
structure GW(Γ:Gm)(H:Hp)(L:!Hd):Prop where
 nd:(L.flatMap Hd.own).Nodup
 ad:∀a∈L.flatMap Hd.own,Mu H a/\(Γ.H0 a=P8\/a ∈ Γ.io)
 rp:∀h∈L,Rp Γ.K H h.e.r.t h.e.v h.F
 kd:∀h∈L,vx Γ H L h
 ks:(L.filterMap λh=>h.e.key).Nodup
 fr:∀b o,Γ.H0 b*>o->b∉Γ.io->H b*>o
 iol:∀a ∈ Γ.io,∃o,H a*>o
section
variable {Γ:Gm}{H H':Hp}{L L':!Hd}{h:Hd}
def vx.sub(k:vx Γ H L h)(s:∀g∈L,g.e.r.k.isOw=Qb->g∈L')(o:∀a∈L'.flatMap Hd.own,a∈L.flatMap Hd.own):vx Γ H L' h:=by
 unfold vx at k|-;split at k;show k;show k;show λa c z=>k a c (o a z)
 .have(g,j,l,d,i,f):=k;show{g,s g j d,l,d,λa c=>(i a c).imp id λz w=>z (o a w),f}
def GW.perm(G:GW Γ H L)(p:L.Perm L'):GW Γ H L':=
 {(p.flatMap_right _).nodup_iff.mp G.nd,λa c=>G.ad a ((p.flatMap_right _).mem_iff.mpr c),λh d=>G.rp h (p.mem_iff.mpr d),λh d=>(G.kd h (p.mem_iff.mpr d)).sub (λg e _=>p.mem_iff.mp e) (λa c=>(p.flatMap_right _).mem_iff.mpr c),(p.filterMap _).nodup_iff.mp G.ks,G.fr,G.iol}
def kB(s:L'.Sublist L):(L'.flatMap Hd.own).Sublist (L.flatMap Hd.own):=by
 induction s with
 | slnil=>show List.Sublist.refl _
 | cons a s c=>rw[FW];show c.trans (List.sublist_append_right _ _)
 | cons_cons a s c=>rw[FW,FW];show(List.Sublist.refl _).append c
def GW.sub(G:GW Γ H L)(s:L'.Sublist L)(q:∀h∈L',∀j,h.e.r.k.root*>j->∀g∈L,g.e.key*>j->g.e.r.k.isOw=Qb->g∈L'):GW Γ H L':=by
 show{(kB s).nodup G.nd,λa c=>G.ad a ((kB s).subset c),λh d=>G.rp h (s.subset d),λh d=>?_,(s.filterMap _).nodup G.ks,G.fr,G.iol};have k:=G.kd h (s.subset d);unfold vx at k|-;split at k;show k;show k;show λa c z=>k a c ((kB s).subset z)
 .delta j p e;have(g,m,i,f,l,o):=k;show{g,q h d j (by rw[e];rfl) g m i f,i,f,λa c=>(l a c).imp id λz w=>z ((kB s).subset w),o}
def GW.drop(G:GW Γ H (h::L))(d:h.e.key=P8):GW Γ H L:=by
 show G.sub (ID _ _) λg f j _ x a c _=>?_;rcases ycM a with rfl|a;rw[d]at c;cases c;show a
def GW.dropK(G:GW Γ H (h::L))(d:∀g∈L,∀j,h.e.key*>j->g.e.r.k.root≠P9 j):GW Γ H L:=by
 show G.sub (ID _ _) λg f j c x a i _=>?_;rcases ycM a with rfl|a;show absurd c (d g f j i);show a
def GW.filter(G:GW Γ H L)(p:Hd->Bool)(d:∀h∈L,h.e.r.k.isOw=Qb->p h=Qb):GW Γ H (L.filter p):=
 G.sub Gx λh i j f g a l c=>FX.mpr {a,d g a c}
def GW.new0(G:GW Γ H L)(e:H a=P8) : Γ.H0 a=P8:=by
 cases q : Γ.H0 a with
 | none=>rfl
 | some o=>
  exfalso;by_cases c:a ∈ Γ.io;have(o,d):=G.iol a c;rw[e]at d;cases d;have:=G.fr a o q c;rw[e]at this;cases this
def GW.push(G:GW Γ H L)(j:Rp Γ.K H r.t v F)(l:vx Γ H L {⟨P8,v,r⟩,F})(i:r.k.isOw=Qa\/F=[]):GW Γ H ({⟨P8,v,r⟩,F}::L):=by
 have e:Hd.own {⟨P8,v,r⟩,F}=[]:=by
  unfold Hd.own;rcases i with h|h;simp[h];simp[h]
 show{by rw[FW,e];show G.nd,λa c=>G.ad a (by rw[FW,e]at c;show c),λx d=>?_,λx d=>?_,?_,G.fr,G.iol}
 .rcases ycM d with rfl|d;show j;show G.rp x d
 .rcases ycM d with rfl|d;show l.sub (λg f _=>ymC _ f) (λa c=>by rw[FW,e]at c;show c);show(G.kd x d).sub (λg f _=>ymC _ f) (λa c=>by rw[FW,e]at c;show c)
 .rw[Gc];show G.ks
def GW.rekey(G:GW Γ H (h::L))(i:h.e.key=P8)(l:∀j,key*>j->j∉L.filterMap λh=>h.e.key):GW Γ H ({⟨key,h.e.v,h.e.r⟩,h.F}::L):=by
 have o:(({⟨key,h.e.v,h.e.r⟩,h.F}:Hd)::L).flatMap Hd.own=(h::L).flatMap Hd.own:=rfl;have m:∀x∈L,vx Γ H (h::L) x->vx Γ H ({⟨key,h.e.v,h.e.r⟩,h.F}::L) x:=λx a k=>by
  unfold vx at k|-;split at k;show k;show k;show k
  .have(g,c,d,f):=k;rcases ycM c with rfl|c;rw[i]at d;cases d;show{g,ymC _ c,d,f}
 show{G.nd,G.ad,λx a=>?_,λx a=>?_,?_,G.fr,G.iol}
 .rcases ycM a with rfl|a;show G.rp h ymS;show G.rp x (ymC _ a)
 .rcases ycM a with rfl|a
  .have k:=G.kd h ymS;unfold vx at k|-;split at k;delta e;dsimp[e];show k;delta e;dsimp[e];show k;delta e;dsimp[e];show k
   .delta e;dsimp[e];have(g,c,d,f):=k;rcases ycM c with rfl|c;rw[i]at d;cases d;show{g,ymC _ c,d,f}
  .show m x a (G.kd x (ymC _ a))
 .have g:=G.ks;rw[Gc,i]at g;rw[Gc];cases key with
  | none=>show g
  | some j=>show Gi.mpr {l j rfl,g}
def i9(ho:h.e.r.k.isOw=Qb)(c:a∈h.F):a∈h.own:=by unfold Hd.own;rw[if_pos ho];show c
def GW.apart(G:GW Γ H (hs++L))(B:∀g∈L,∀h∈hs,∀j,h.e.key*>j->g.e.r.k.root≠P9 j)(ho:∀h∈hs,h.e.r.k.isOw=Qb):∀g∈L,∀a∈g.F,∀h∈hs,a∉h.F:=by
 intro g l a i h s m;have u:=G.nd;rw[F3]at u;have t:a∈hs.flatMap Hd.own:=GL.mpr {h,s,i9 (ho h s) m};have f:a∉(hs++L).flatMap Hd.own->False:=λn=>n (by rw[F3];show yaL _ t);have k:=G.kd g (yaR _ l);have c:∀x∈L,x.e.r.k.isOw=Qb->a∈x.F->False:=λx d y q=>
  (FP.mp u).2.2 a t a (GL.mpr {x,d,i9 y q}) rfl
 unfold vx at k;split at k;delta e;show c g l (by rw[e];rfl) i;delta e;show c g l (by rw[e];rfl) i;show f (k a i)
 .delta j p e;have(x,o,A,v,w,_):=k;rcases w a i with z|z
  .rcases yaM o with d|d;show B g l x d j A (by rw[e];rfl);show c x d v z
  .show f z
def nr{M:!Addr}(c:td M H H'){F:!Addr}(p:∀a∈F,a∉M)(J:∀a∈F,Mu H a):∀{q:!Ac} {t s:T} {v w:V} {F':!Addr},(∀a∈F',a∈F)->F'.Nodup->Rp Γ.K H t v F'->t.sub q*>s->atP Γ.K H v q w->atP Γ.K H' v q w
 | [],_,_,_,_,_,_,_,_,_,h=>h
 | a::q,t,s,v,w,F',j,N,r,e,h=>by
  rw[atP]at h|-;have(u,o,S):=h;rw[T.sub]at e;cases e1:kj t a with
  | none=>rw[e1]at e;cases e
  | some x=>
   rw[e1]at e;have(y,A,G,B,P,U,rfl,_):=r.at1 (λb z=>J b (j b z)) N e1;have:=rf o P;subst this;show{u,?_,nr c p J (λb z=>j b (yaL _ (yaR _ z))) (FP.mp (FP.mp N).1).2.1 U e S};cases a with
   | ix n=>
    have(b,f,rfl,m,d):=o;show{b,f,Xr,c b _ m (p b ?_),d};cases t<;>dsimp[kj]at e1<;>try cases e1
    rw[Rp]at r;have(E,l,k,i,_,_,g):=r;cases i;show j b (by rw[g];show ymS)
   | ky n=>
    have(b,f,rfl,m,d):=o;show{b,f,Xr,m.off c (p b ?_),d};cases t<;>dsimp[kj]at e1<;>try cases e1
    rw[Rp]at r;have(E,l,k,i,_,_,g):=r;cases i;show j b (by rw[g];show ymS)
   | fd n=>
    have(b,C,Q,f,rfl,m,d):=o;show{b,C,Q,f,Xr,c b _ m (p b ?_),d};cases t<;>dsimp[kj]at e1<;>try cases e1
    rw[Rp]at r;obtain⟨_,E,O,l,k,_,i,_,_,g⟩:=r;cases i;show j b (by rw[g];show ymS)
def GW.ndF(G:GW Γ H L)(c:h∈L)(ho:h.e.r.k.isOw=Qb):h.F.Nodup:=by
 have a:=G.nd;have(s,t,rfl):=HK c;rw[F3,FW]at a;have:=(FP.mp (FP.mp a).2.1).1;unfold Hd.own at this;rw[if_pos ho]at this;show this
def GW.muF(G:GW Γ H L)(d:h∈L)(ho:h.e.r.k.isOw=Qb):∀a∈h.F,Mu H a:=λa c=>(G.ad a (GL.mpr {h,d,i9 ho c})).1
def gG{hs:!Hd}(ho:∀h∈hs,h.e.r.k.isOw=Qb):hs.flatMap Hd.own=hs.flatMap (·.F):=by
 induction hs with
 | nil=>rfl
 | cons x d c=>
  rw[FW,FW,c λh a=>ho h (ymC _ a)];unfold Hd.own;rw[if_pos (ho x ymS)]
def GW.step{hs:!Hd}(G:GW Γ H (hs++L))(ho:∀h∈hs,h.e.r.k.isOw=Qb)(Z:∀g∈L,∀h∈hs,∀j,h.e.key*>j->g.e.r.k.root≠P9 j)
  (d:td (hs.flatMap (·.F)) H H') (S:∀a∈hs.flatMap (·.F),∃o,H' a*>o) {key:↑Nat} {v:V} {r:R} {F:!Addr} (nd:F.Nodup) (B:∀a∈F,(a∈hs.flatMap (·.F)\/H a=P8)/\Mu H' a) (hp:Rp Γ.K H' r.t v F)
  (hk:(r.k=.ow/\∀h∈hs,h.e.r.k=.ow) \/ ∃k,r.k=.io k/\Γ.iov[k]?*>v) (A:∀j,key*>j->j∉L.filterMap λh=>h.e.key):GW Γ H' ({⟨key,v,r⟩,F}::L):=by
 have M:r.k.isOw=Qb:=by rcases hk with⟨e,_⟩|⟨k,e,_⟩<;>rw[e]<;>rfl
 have O:=gG ho;have J:=G.nd;rw[F3,O]at J;have P:=(FP.mp J).2.1;have Y:=(FP.mp J).2.2;have y:∀a∈L.flatMap Hd.own,Mu H a/\(Γ.H0 a=P8\/a ∈ Γ.io):=λa c=>G.ad a (by rw[F3];show yaR _ c);have s:∀a∈hs.flatMap (·.F),Mu H a/\(Γ.H0 a=P8\/a ∈ Γ.io):=λa c=>G.ad a (by rw[F3,O];show yaL _ c);have ap:=G.apart Z ho;have C:∀g∈L,∀a∈g.F,a∉hs.flatMap (·.F):=λg i a c l=>by
  have(h,E,u):=GL.mp l;show ap g i a c h E u
 have N:Hd.own {⟨key,v,r⟩,F}=F:=by unfold Hd.own;rw[if_pos M]
 have f0:∀a∈F,Γ.H0 a=P8\/a ∈ Γ.io:=λa c=>by
  rcases(B a c).1 with z|z;show(s a z).2;show .inl (G.new0 z)
 show{?_,λa c=>?_,λx f=>?_,λx f=>?_,?_,λb o e n=>?_,λa c=>?_}
 .rw[FW,N];show FP.mpr {nd,P,λa c b hb=>?_};rintro rfl;rcases(B a c).1 with z|z;show Y a z a hb rfl
  .have(o,e,_):=(y a hb).1;rw[z]at e;cases e
 .rw[FW,N]at c;rcases yaM c with c|c;show{(B a c).2,f0 a c}
  .obtain⟨⟨o,e,m⟩,z⟩:=y a c;show{{o,d a o e λl=>Y a l a c rfl,m},z}
 .rcases ycM f with rfl|f;show hp;show(G.rp x (yaR _ f)).off d (λa c=>(s a c).1) (C x f)
 .rcases ycM f with rfl|f
  .unfold vx;rcases hk with⟨e,eh⟩|⟨k,e,ek⟩
   .dsimp[e];intro a c;rcases(B a c).1 with z|z
    .have(h,E,u):=GL.mp z;have q:=G.kd h (yaL _ E);unfold vx at q;rw[eh h E]at q;show q a u
    .show G.new0 z
   .dsimp[e];show ek
  .have k:=G.kd x (yaR _ f);have st:∀a∈x.F,a∉(hs++L).flatMap Hd.own->a∉(({⟨key,v,r⟩,F}:Hd)::L).flatMap Hd.own:=λa c n z=>by
    rw[FW,N]at z;rcases yaM z with z|z
    .rcases(B a z).1 with w|w;show n (by rw[F3,O];show yaL _ w)
     .have(o,e):=(G.rp x (yaR _ f)).dom a c;rw[w]at e;cases e
    .show n (by rw[F3];show yaR _ z)
   unfold vx at k|-;split at k;show k;show k;show λa c=>st a c (k a c)
   .delta j p e;have(g,h1,h2,Q,h4,U):=k;rcases yaM h1 with i|i;show absurd (by rw[e];rfl) (Z x f g i j h2)
    .show{g,ymC _ i,h2,Q,λa c=>(h4 a c).imp id (st a c),λq X=>{(U q X).1,?_}};show nr d (F:=g.F) (C g i) (G.muF (yaR _ i) Q) (λa c=>c) (G.ndF (yaR _ i) Q) (G.rp g (yaR _ i)) (U q X).1 (U q X).2
 .have g:=G.ks;rw[Hg]at g;have g2:=(FP.mp g).2.1;rw[Gc];cases key with
  | none=>show g2
  | some j=>show Gi.mpr {A j rfl,g2}
 .show d b o (G.fr b o e n) λl=>?_;rcases(s b l).2 with z|z;rw[z]at e;cases e;show n z
 .have(o,e):=G.iol a c;by_cases l:a∈hs.flatMap (·.F);show S a l;show{o,d a o e l}
end
def mW{j k:Type}{f : j->k}{N M:!k}(p:N.Perm M):∀L:!j,L.map f=N->∃c,L.Perm c/\c.map f=M:=by
 induction p with
 | nil=>intro L h;show{L,List.Perm.refl _,h}
 | cons x p o=>
  intro L h;cases L with
  | nil=>cases h
  | cons a L=>
   rw[FS,Hj.injEq]at h;have(c,e,g):=o L h.2;show⟨a::c,e.cons a,by rw[FS,h.1,g]⟩
 | swap x y l=>
  intro L h;cases L with
  | nil=>cases h
  | cons a L=>
   cases L with
   | nil=>cases h
   | cons b L=>
    dsimp[FS,Hj.injEq]at h;show⟨b::a::L,List.Perm.swap _ _ _,by simp[h.1,h.2.1,h.2.2]⟩
 | trans p q d i=>
  intro L h;have(r,e,g):=d L h;have(L2,m,s):=i r g;show{L2,e.trans m,s}
abbrev p9(a:Gm)(H:Hp)(X:!En):Prop:=∃L,GW a H L/\L.map (·.e)=X
section
variable {Γ:Gm}{H H':Hp}{X Y:!En}{e:En}
def p9.perm(S:p9 Γ H X)(p:X.Perm Y):p9 Γ H Y:=by
 have(L,g,e):=S;have(a,c,d):=mW p L e;show{a,g.perm c,d}
def ax{g c:Type}{f : g->c}{L:!g}{b : c}{X:!c}(h:L.map f=b::X):∃a d,L=a::d/\f a=b/\d.map f=X:=by
 cases L with
 | nil=>cases h
 | cons a L=>rw[FS,Hj.injEq]at h;show⟨a,L,Xr,h.1,h.2⟩
def cu{g d:Type}{f : g->d}:∀{A:!d} {L:!g} {B:!d},L.map f=A++B->∃c L2,L=c++L2/\c.map f=A/\L2.map f=B
 | [],L,B,h=>{[],L,Xr,Xr,h}
 | a::A,L,B,h=>by
  have(x,m,rfl,j,l):=ax h;have(c,L2,rfl,i,k):=cu l;show⟨x::c,L2,Xr,by rw[FS,j,i],k⟩
def p9.drop(S:p9 Γ H (e::X))(d:e.key=P8):p9 Γ H X:=by
 have(L,g,h):=S;have(x,a,rfl,c,f):=ax h;subst c;show{a,g.drop d,f}
def p9.dropK(S:p9 Γ H (e::X))(i:∀g∈X,∀j,e.key*>j->g.r.k.root≠P9 j):p9 Γ H X:=by
 have(L,g,h):=S;have(x,c,rfl,l,a):=ax h;subst l;show{c,g.dropK λy d j f=>i y.e (by rw[<-a];show Gd d) j f,a}
abbrev az(M:!Nat) (e:En):Bool:=match e.r.k.root with
 | some j=> ~~~M.contains j
 | none=>Qb
abbrev ag(M:!Nat) (E:!En):!En:=E.filter (az M)
def sN(e:En):az [] e=Qb:=by unfold az;split<;>rfl
def bW(E:!En):ag [] E=E:=by unfold ag;rw[G8];intro a _;show sN a
def aE(M:!Nat)(A B:!En):ag M (A++B)=ag M A++ag M B:=Jb ..
def jy(M N:!Nat)(e:En):az (M++N) e=(az N e&&az M e):=by
 unfold az;split
 .rename_i j _;by_cases a:j∈M<;>by_cases c:j∈N<;>simp[a,c]
 .rfl
def ae(M N:!Nat)(E:!En):ag N (ag M E)=ag (M++N) E:=by
 unfold ag;rw[Ii];congr 1;funext e;rw[jy]
def p9.kill(S:p9 Γ H X)(M:!Nat):p9 Γ H (ag M X):=by
 have(L,g,h):=S;show{L.filter λx=>az M x.e,g.filter _ λx _ a=>?_,?_}
 .unfold az;cases k:x.e.r.k with
  | vw r p=>rw[k]at a;cases a
  | ow=>rfl
  | io _=>rfl
 .rw[<-h];unfold ag;rw[Hs];rfl
def p9.push(S:p9 Γ H X)(h:RpI Γ.K H i v):p9 Γ H ({P8,v,{.ow,.im i}}::X):=by
 have(L,g,d):=S;show{_,g.push (v:=v) (r:={.ow,.im i}) (iy h) (λa c=>by cases c) (.inr rfl),by rw[FS,d]}
def p9.rekey(S:p9 Γ H (e::X))(m:e.key=P8){key:↑Nat}(k:∀j,key*>j->∀g∈X,g.key≠P9 j):p9 Γ H (⟨key,e.v,e.r⟩::X):=by
 have(L,g,h):=S;have(x,o,rfl,l,c):=ax h;subst l;show{_,g.rekey m (key:=key) λj f d=>?_,by rw[FS,c]};have(y,i,a):=Gp.mp d;show k j f y.e (by rw[<-c];show Gd i) a
def p9.rd(S:p9 Γ H X)(a:e∈X):∃F,Rp Γ.K H e.r.t e.v F:=by
 have(L,g,rfl):=S;have(h,c,rfl):=FT.mp a;show{h.F,g.rp h c}
def p9.view(S:p9 Γ H X)(d:e∈X)(l:e.key*>j)(ho:e.r.k.isOw=Qb):p9 Γ H ({P8,e.v,{.vw (P9 j) (P9 []),e.r.t}}::X):=by
 have(L,g,rfl):=S;have(h,c,rfl):=FT.mp d;show{_,g.push (v:=h.e.v) (r:={.vw (P9 j) (P9 []),h.e.r.t}) (g.rp h c) {h,c,l,ho,λa i=>.inl i,λq f=>by cases f;show⟨Xr,Xr⟩} (.inl rfl),Xr}
def p9.copy(S:p9 Γ H X)(c:e∈X)(ho:e.r.k.isOw=Qa):p9 Γ H (⟨P8,e.v,e.r⟩::X):=by
 have(L,g,rfl):=S;have(h,a,rfl):=FT.mp c;show{_,g.push (v:=h.e.v) (r:=h.e.r) (F:=h.F) (g.rp h a) (g.kd h a) (.inl ho),Xr}
def p9.part(S:p9 Γ H X)(y:e∈X){c:↑Nat}{p:Option !Ac}(ho:e.r.k=.vw c p){P:V->Prop}{s:T}(o:∀F,Rp Γ.K H e.r.t e.v F->∃w G,P w/\Rp Γ.K H s w G/\∀a∈G,a∈F):∃w,P w/\p9 Γ H ({P8,w,{.vw c P8,s}}::X):=by
 have(L,g,rfl):=S;have(h,f,rfl):=FT.mp y;have(w,G,l,u,i):=o h.F (g.rp h f);show{w,l,_,g.push (v:=w) (r:={.vw c P8,s}) (F:=G) u ?_ (.inl rfl),Xr};have k:=g.kd h f;unfold vx at k|-;rw[ho]at k;cases c with
 | none=>show λa d=>k a (i a d)
 | some j=>
  have(x,z,m,C,A,E):=k;show{x,z,m,C,λa d=>A a (i a d),λq B=>by cases B}
def p9.partP(S:p9 Γ H X)(Q:e∈X)(ho:e.r.k=.vw (P9 j) (P9 q))(hs:kj e.r.t a*>s):∃w,at1 Γ.K H e.v a w/\p9 Γ H ({P8,w,{.vw (P9 j) (P9 (q++[a])),s}}::X):=by
 have(L,g,rfl):=S;have(h,hh,rfl):=FT.mp Q;have k:=g.kd h hh;unfold vx at k;rw[ho]at k;have(x,c,P,d,x4,x5):=k;have(p,U):=x5 q rfl;have o:x.e.r.t.sub (q++[a])*>s:=rY p hs;have(w,A,G,B,y,z,C,_):=(g.rp x c).atP (g.muF c d) (g.ndF c d) o;have(w0,A0,u,B0,m,E,i,_):=(g.rp x c).atP (g.muF c d) (g.ndF c d) p;have J:=iR m U;subst J;have M:u.Nodup:=by
  have:=g.ndF c d;rw[i]at this;show(FP.mp (FP.mp this).1).2.1
 have O:∀b∈u,Mu H b:=λb f=>g.muF c d b (by rw[i];show yaL _ (yaR _ f));have(l,A',G',B',v1,v2,v3,_):=E.at1 O M hs;have N:=iR (rh m v1) y;subst N;show{l,v1,_,g.push (v:=l) (r:={.vw (P9 j) (P9 (q++[a])),s}) (F:=G) z {x,c,P,d,λb f=>.inl (by rw[C];show yaL _ (yaR _ f)),λq' Z=>?_} (.inl rfl),Xr};cases Z;show⟨o,y⟩
abbrev aI:!V->!T->!En
 | v::vs,t::a=>{P8,v,{.ow,t}}::aI vs a
 | _,_=>[]
def lL:∀{vs:!V} {ts:!T} {L:!Hd},vs.length=ts.length->L.map (·.e)=aI vs ts->(∀h∈L,Rp Γ.K H h.e.r.t h.e.v h.F)->Rps Γ.K H ts vs (L.flatMap (·.F))/\∀h∈L,h.e.r.k=.ow/\h.e.key=P8
 | [],[],L,_,h,_=>by
  have:L=[]:=List.map_eq_nil_iff.mp h;subst this;show{Rps.nil,by simp}
 | v::vs,t::ts,L,g,h,f=>by
  have(x,m,rfl,c,l):=ax h;have(j,i):=lL (vs:=vs) (ts:=ts) (by exists g) l λy a=>f y (ymC _ a);have d:=f x ymS;rw[c]at d;rw[FW];show{Rps.cons d j,λy a=>?_};rcases ycM a with rfl|a;rw[c];show⟨Xr,Xr⟩;show i y a
 | [],_::_,_,h,_,_=>by cases h
 | _::_,[],_,h,_,_=>by cases h
def p9.use{vs:!V}{ts:!T}(S:p9 Γ H (aI vs ts++X))(w:vs.length=ts.length):∃F,Rps Γ.K H ts vs F/\F.Nodup/\(∀a∈F,Mu H a) /\
  ∀H' v t F',td F H H'->(∀a∈F,∃o,H' a*>o)->F'.Nodup->(∀a∈F',(a∈F\/H a=P8)/\Mu H' a)->Rp Γ.K H' t v F'->p9 Γ H' ({P8,v,{.ow,t}}::X):=by
 have(L,g,h):=S;have(u,L2,rfl,A,C):=cu h;have(B,f):=lL w A λy c=>g.rp y (yaL _ c);have l:∀h∈u,h.e.r.k.isOw=Qb:=λh s=>by rw[(f h s).1];rfl
 have q:=g.nd;rw[F3,gG l]at q;show{_,B,(FP.mp q).1,λa z=>(g.ad a (by rw[F3,gG l];show yaL _ z)).1,λH' v t F' i p m E G=>?_};show{_,g.step l (λx _ y c j d=>by rw[(f y c).2]at d;cases d) i p (key:=P8) (v:=v) (r:={.ow,t}) m E G (.inl {Xr,λy c=>(f y c).1}) (λj d=>by cases d),by rw[FS,C]}
def p9.mutP{vs:!V}{ts:!T}{p:!Ac}{s:T}(S:p9 Γ H (e::aI vs ts++X))(hl:vs.length=ts.length)(ho:e.r.k.isOw=Qb)(hr:∀g∈X,∀j,e.key*>j->g.r.k.root≠P9 j)(hs:e.r.t.sub p*>s)(hX:∀j,e.key*>j->∀g∈X,g.key≠P9 j) :
  ∃w G F,atP Γ.K H e.v p w/\Rp Γ.K H s w G/\Rps Γ.K H ts vs F/\(G++F).Nodup/\(∀a∈G++F,Mu H a) /\
  ∀H' Q E,td G H H'->(∀a∈G,∃o,H' a*>o)->E.Nodup->(∀a∈E,(a∈G++F\/H a=P8)/\Mu H' a)->Rp Γ.K H' Q w E->p9 Γ H' ({e.key,e.v,{e.r.k,e.r.t.put p Q}}::X):=by
 have(L,g,h):=S;rw[F8]at h;have(x,L',rfl,h1,h2):=ax h;have(c,L2,rfl,h3,h4):=cu h2;subst h1;have(r1,r2):=lL hl h3 λy l=>g.rp y (ymC _ (yaL _ l));have C:∀h∈x::c,h.e.r.k.isOw=Qb:=λh hh=>by
  rcases ycM hh with rfl|hh;show ho;rw[(r2 h hh).1];rfl
 have nx:=g.ndF ymS ho;have(w,A,G,B,z1,z2,Z,z4):=(g.rp x ymS).atP (g.muF ymS ho) nx hs;have nd:=g.nd;rw[show x::(c++L2)=(x::c)++L2 from rfl,F3,gG C]at nd;have U:=(FP.mp nd).1;rw[FW,Z]at U;have mu:∀a∈(x::c).flatMap (·.F),Mu H a:=λa d=>(g.ad a (by rw[show x::(c++L2)=(x::c)++L2 from rfl,F3,gG C];show yaL _ d)).1;have J:∀a,a∈G++c.flatMap (·.F)->a∈(x::c).flatMap (·.F):=λa d=>by
  rw[FW,Z];rcases yaM d with z|z;show yaL _ (yaL _ (yaR _ z));show yaR _ z
 have f:=(FP.mp U);have ndG:(G++c.flatMap (·.F)).Nodup:=FP.mpr {(FP.mp (FP.mp f.1).1).2.1,f.2.1,λa d b N=>f.2.2 a (yaL _ (yaR _ d)) b N};show{w,G,c.flatMap (·.F),z1,z2,r1,ndG,λa d=>mu a (J a d),λH' Q E m dom nd' hG rp=>?_};have u:∀a,(a∈A\/a∈B)->a∉G++c.flatMap (·.F):=λa d i=>by
  rcases yaM i with z|z
  .rcases d with q|q;show(FP.mp (FP.mp f.1).1).2.2 a q a z rfl;show(FP.mp f.1).2.2 a (yaR _ z) a q rfl
  .rcases d with q|q;show f.2.2 a (yaL _ (yaL _ q)) a z rfl;show f.2.2 a (yaR _ q) a z rfl
 have rp':=z4 H' Q E m rp;show{_,g.step (hs:=x::c) (L:=L2) C (λy l z hz j P=>?_) (m.mono λa d=>J a (yaL _ d)) (λa d=>?_) (key:=x.e.key) (v:=x.e.v) (r:={x.e.r.k,x.e.r.t.put p Q}) (F:=A++E++B) ?_ (λa d=>?_) rp' ?_ (λj P i=>?_),by rw[FS,h4]}
 .rcases ycM hz with rfl|hz;show hr y.e (by rw[<-h4];show Gd l) j P;rw[(r2 z hz).2]at P;cases P
 .by_cases i:a∈G;show dom a i
  .have(o,M,_):=mu a d;show{o,m a o M i}
 .have ab:=FP.mp f.1;have aG:=FP.mp ab.1;have nG:∀a,(a∈A\/a∈B)->a∉E:=λa d hg=>by
   rcases(hG a hg).1 with z|z;show u a d z
   .have:Mu H a:=mu a (by
     rw[FW,Z];rcases d with q|q;show yaL _ (yaL _ (yaL _ q));show yaL _ (yaR _ q))
    have(o,M,_):=this;rw[z]at M;cases M
  show FP.mpr {FP.mpr {aG.1,nd',λa d b N e=>nG a (.inl d) (e▸N)},ab.2.1,λa d b N e=>?_};subst e;rcases yaM d with z|z;show ab.2.2 a (yaL _ z) a N rfl;show nG a (.inr N) z
 .have O:a∈A\/a∈B->(a∈(x::c).flatMap (·.F)\/H a=P8)/\Mu H' a:=λq=>by
   have i:a∈(x::c).flatMap (·.F):=by
    rw[FW,Z];rcases q with q|q;show yaL _ (yaL _ (yaL _ q));show yaL _ (yaR _ q)
   have(o,M,m1):=mu a i;show{.inl i,o,m a o M (λz=>u a q (yaL _ z)),m1}
  rcases yaM d with z|z
  .rcases yaM z with z|z;show O (.inl z);show{(hG a z).1.imp (J a) id,(hG a z).2}
  .show O (.inr z)
 .have k:=g.kd x ymS;unfold vx at k;cases ek:x.e.r.k with
  | ow=>
   show .inl {Xr,λy l=>?_};rcases ycM l with rfl|l;show ek;show(r2 y l).1
  | io n=>rw[ek]at k;show .inr ⟨n,Xr,k⟩
  | vw a b=>rw[ek]at ho;cases ho
 .have(y,l,hyk):=Gp.mp i;show hX j P y.e (by rw[<-h4];show Gd l) hyk
end
protected def Rho:=! ↑R
abbrev aA:Nat->! ↑V->Rho->!En
 | i,P9 v::Z,P9 r::O=>{P9 i,v,r}::aA (i+1) Z O
 | i,P8::Z,_::O=>aA (i+1) Z O
 | i,P9 _::Z,P8::O=>aA (i+1) Z O
 | _,_,_=>[]
def bD{r:R}:∀{k:Nat} {Z:! ↑V} {O:Rho} {i:Nat} {v:V},Z[i]?*>(P9 v)->O[i]?*>(P9 r)->(aA k Z O).Perm ({P9 (k+i),v,r}::aA k Z (O.set i P8))
 | _,[],_,_,_,h,_=>by simp at h
 | _,_::_,[],_,_,_,h=>by simp at h
 | k,x::Z,y::O,0,v,c,d=>by
  simp at c d;subst c d;simp[aA]
 | k,x::Z,y::O,i+1,v,c,d=>by
  have a:=bD (k:=k+1) (Z:=Z) (O:=O) (i:=i) (v:=v) (r:=r) (by exists c) (by exists d);rw[show k+1+i=k+(i+1) by omega]at a;cases x with
  | none=>simpa[aA]using a
  | some x=>
   cases y with
   | none=>simpa[aA]using a
   | some y=>
    dsimp[aA,Jc];show(List.Perm.cons _ a).trans (List.Perm.swap _ _ _)
def mw:∀{k:Nat} {Z:! ↑V} {O:Rho} {i:Nat} {x:↑V},aA k (Z.set i x) (O.set i P8)=aA k Z (O.set i P8)
 | _,[],O,_,_=>rfl
 | _,x::Z,[],i,y=>by cases i<;>cases x<;>simp[aA]<;>cases y<;>simp[aA]
 | _,x::Z,y::O,0,z=>by cases x<;>cases z<;>simp[aA]
 | k,x::Z,y::O,i+1,z=>by
  have a:=mw (k:=k+1) (Z:=Z) (O:=O) (i:=i) (x:=z);cases x<;>cases y<;>simp[aA,a]
def gt{k:Nat}{Z:! ↑V}{O:Rho}{i:Nat}{v:V}{r:R}(a:i<Z.length)(c:i < O.length):(aA k (Z.set i (P9 v)) (O.set i (P9 r))).Perm ({P9 (k+i),v,r}::aA k Z (O.set i P8)):=by
 have:=bD (k:=k) (Z:=Z.set i (P9 v)) (O:=O.set i (P9 r)) (i:=i) (v:=v) (r:=r) (by simp[a]) (by simp[c]);rw[List.set_set,mw]at this;show this
def cZ{e:En}:∀{k:Nat} {Z:! ↑V} {O:Rho},e∈aA k Z O->∃i,e.key*>(k+i)/\O[i]?*>(P9 e.r)/\Z[i]?*>(P9 e.v)
 | _,[],_,h=>by simp[aA]at h
 | _,x::_,[],h=>by cases x<;>simp[aA]at h
 | k,x::Z,y::O,h=>by
  have a:e∈aA (k+1) Z O->∃i,e.key*>(k+i)/\(y::O)[i]?*>(P9 e.r)/\(x::Z)[i]?*>(P9 e.v):=λh=>by
   have(i,d,f,c):=cZ h;show{i+1,by rw[d];congr 1;omega,by simpa using f,by simpa using c}
  cases x with
  | none=>dsimp[aA]at h;show a h
  | some x=>
   cases y with
   | none=>dsimp[aA]at h;show a h
   | some y=>
    dsimp[aA]at h;rcases ycM h with rfl|h;show{0,Xr,Xr,Xr};show a h
abbrev gm(M:!Nat) (r:R):Bool:=match r.k.root with
 | some j=> ~~~M.contains j
 | none=>Qb
abbrev cA(M:!Nat):↑R->↑R
 | some r=>if gm M r=Qb then P9 r else P8
 | none=>P8
abbrev am(M:!Nat) (O:Rho):Rho:=O.map (cA M)
def aJ(M:!Nat)(O:Rho):(am M O).length=O.length:=by unfold am;rw[FM]
def ft(M:!Nat):∀{k:Nat} {Z:! ↑V} {O:Rho},aA k Z (am M O)=ag M (aA k Z O)
 | _,[],_=>rfl
 | _,x::_,[]=>by cases x<;>rfl
 | k,x::Z,y::O=>by
  have a:=ft M (k:=k+1) (Z:=Z) (O:=O);have e:am M (y::O)=cA M y::am M O:=rfl;rw[e];cases x with
  | none=>simpa[aA]using a
  | some v=>
   cases y with
   | none=>simpa[aA,cA]using a
   | some r=>
    have c:az M {P9 k,v,r}=gm M r:=rfl;cases q:gm M r with
    | true=>dsimp[aA,cA,q,if_true,ag,Hb,c,a]
    | false=>
     dsimp[aA,cA,q,ag,Hb,c,a];simp[aA,a,ag]
def mH{M:!Nat}{O:Rho}{i:Nat}{r:R}(h:(am M O)[i]?*>(P9 r)) : O[i]?*>(P9 r):=by
 unfold am at h;rw[F4]at h;cases q : O[i]? with
 | none=>rw[q]at h;cases h
 | some o=>
  rw[q]at h;cases o with
  | none=>cases h
  | some x=>
   have a:cA M (P9 x)*>r:=by exists h
   dsimp[cA]at a;split at a;rw[F9.inj a];show absurd a ∅
def sQ{M:!Nat}{O:Rho}{i:Nat}{r:R}(h : O[i]?*>(P9 r))(ho:r.k.isOw=Qb):(am M O)[i]?*>(P9 r):=by
 unfold am;rw[F4,h];have:gm M r=Qb:=by
  unfold gm;cases e:r.k with
  | vw a b=>rw[e]at ho;cases ho
  | ow=>rfl
  | io _=>rfl
 simp[cA,this]
structure Sim(Γ:Gm)(H:Hp)(O:Rho)(Z:St)(E:!En):Prop where
 sl:p9 Γ H (E++aA 0 Z O)
 al:∀(i:Nat) r,O[i]?*>(P9 r)->∃v,Z[i]?*>(P9 v)
 len:Z.length=O.length
 hi:∀e∈E,∀j,e.key*>j->O.length<=j
section
variable {Γ:Gm}{H H':Hp}{O:Rho}{Z:St}{E E':!En}{e:En}{r:R}{v w x:V}{i j:Nat}{t s:T}
def Sim.perm(S:Sim Γ H O Z E)(p:E.Perm E'):Sim Γ H O Z E':={S.sl.perm (p.append_right _),S.al,S.len,λe a=>S.hi e (p.mem_iff.mpr a)}
def Sim.drop(S:Sim Γ H O Z (e::E))(c:e.key=P8):Sim Γ H O Z E:={S.sl.drop c,S.al,S.len,λx a=>S.hi x (ymC _ a)}
def Sim.swap(S:Sim Γ H O Z (e::f::E)):Sim Γ H O Z (f::e::E):=S.perm (List.Perm.swap _ _ _)
def Sim.imm(S:Sim Γ H O Z E){i:I}(h:RpI Γ.K H i v):Sim Γ H O Z ({P8,v,{.ow,.im i}}::E):=
 {S.sl.push h,S.al,S.len,λx a j c=>by
  rcases ycM a with rfl|a;cases c;show S.hi x a j c}
def Sim.rd(S:Sim Γ H O Z E)(a:e∈E):∃F,Rp Γ.K H e.r.t e.v F:=S.sl.rd (yaL _ a)
def Sim.slot(S:Sim Γ H O Z E)(h : O[i]?*>(P9 r)):∃v,Z[i]?*>(P9 v)/\({P9 i,v,r}:En)∈E++aA 0 Z O:=by
 have(v,a):=S.al i r h;show{v,a,yaR _ ((bD a h).mem_iff.mpr ?_)};rw[Gq];show ymS
abbrev rdR(i:Nat):R->R
 | ⟨.ow,.im x⟩=>{.ow,.im x}
 | ⟨.vw a b,t⟩=>{.vw a b,t}
 | ⟨_,t⟩=>{.vw (P9 i) (P9 []),t}
def Sim.cons(S:Sim Γ H O Z E)(h:p9 Γ H' (⟨P8,v,r⟩::(E++aA 0 Z O))):Sim Γ H' O Z (⟨P8,v,r⟩::E):=
 {h,S.al,S.len,λx a j c=>by
  rcases ycM a with rfl|a;cases c;show S.hi x a j c}
def Sim.var(S:Sim Γ H O Z E)(h : O[i]?*>(P9 r)):∃v,Z[i]?*>(P9 v)/\Sim Γ H O Z ({P8,v,rdR i r}::E):=by
 have(v,d,c):=S.slot h;show{v,d,S.cons ?_};have(k,t):=r;cases k with
 | vw a b=>show S.sl.copy (e:={P9 i,v,{.vw a b,t}}) c rfl
 | io n=>
  have:=S.sl.view (e:={P9 i,v,{.io n,t}}) c rfl rfl;cases t<;>show this
 | ow=>
  cases t with
  | im x=>
   have(F,f):=S.sl.rd c;show S.sl.push (bo f).1
  | tup _=>show S.sl.view (e:={P9 i,v,{.ow,_}}) c rfl rfl
  | li _=>show S.sl.view (e:={P9 i,v,{.ow,_}}) c rfl rfl
  | lst _=>show S.sl.view (e:={P9 i,v,{.ow,_}}) c rfl rfl
  | di _=>show S.sl.view (e:={P9 i,v,{.ow,_}}) c rfl rfl
  | dq _=>show S.sl.view (e:={P9 i,v,{.ow,_}}) c rfl rfl
  | dc _=>show S.sl.view (e:={P9 i,v,{.ow,_}}) c rfl rfl
  | ins _ _=>show S.sl.view (e:={P9 i,v,{.ow,_}}) c rfl rfl
def Sim.kill(S:Sim Γ H O Z E)(M:!Nat):Sim Γ H (am M O) Z (ag M E):=by
 show{?_,λi r h=>S.al i r (mH h),by rw[aJ];show S.len,λx a j c=>by rw[aJ];show S.hi x (FX.mp a).1 j c};rw[ft,<-aE];show S.sl.kill M
def lp{M:!Nat}{X:!En}(a:i∈M):∀g∈ag M X,g.r.k.root≠P9 i:=λg c z=>by
 have:=(FX.mp c).2;unfold az at this;rw[z]at this;simp[a]at this
def Sim.out(S:Sim Γ H O Z E)(h : O[i]?*>(P9 r))(ho:r.k.isOw=Qb):∃v,Z[i]?*>(P9 v)/\p9 Γ H ({P9 i,v,r}::(ag [i] E++aA 0 Z ((am [i] O).set i P8))) /\
  (∀g∈ag [i] E++aA 0 Z ((am [i] O).set i P8),g.r.k.root≠P9 i)/\∀g∈ag [i] E++aA 0 Z ((am [i] O).set i P8),g.key≠P9 i:=by
 have(v,o):=S.al i r h;have l:=S.kill [i];have y:=sQ (M:=[i]) h ho;have c:i < O.length:=(FL.mp h).1;show{v,o,l.sl.perm ?_,λg f=>?_,λg f q=>?_}
 .have:=(bD (k:=0) o y).append_left (ag [i] E);rw[Gq]at this;show this.trans Gh
 .rcases yaM f with z|z;show lp ∅ g z
  .have:g∈aA 0 Z (am [i] O):=by
    have(m,d,a,p):=cZ z;have u:m≠i:=λe=>by subst e;simp[aJ,c]at a
    rw[F6 (K3 u)]at a;have:=(bD (k:=0) p a).mem_iff.mpr (ymS);have e:g={P9 (0+m),g.v,g.r}:=by cases g;dsimp[En.mk.injEq,and_self,and_true];show d
    rw[e];show this
   rw[ft]at this;show lp ∅ g this
 .rcases yaM f with z|z
  .have:=l.hi g z i q;rw[aJ]at this;omega
  .have(m,d,a,p):=cZ z;rw[q,Gq]at d;cases d;simp[aJ,c]at a
def Sim.back(S:Sim Γ H O Z E){a:Rho}{c:St}(h:p9 Γ H' (E'++aA 0 c a))(f : a.length=O.length)(m:c.length=Z.length)(l:∀(i:Nat) r,a[i]?*>(P9 r)->∃v,c[i]?*>(P9 v))(k:∀e∈E',∀j,e.key*>j->e∈E):Sim Γ H' a c E':=
 {h,l,by rw[f,m];show S.len,λe g j d=>by rw[f];show S.hi e (k e g j d) j d}
abbrev gF(O:Rho) (i:Nat):Bool:=match O[i]? with
 | some (P9 ⟨.io _,_⟩)=>Qa
 | some _=>Qb
 | none=>Qa
def Ay{O:Rho}{Z:St}(f:∀(i:Nat) r,O[i]?*>(P9 r)->∃v,Z[i]?*>(P9 v))(d:i<Z.length):∀(m:Nat) r',(O.set i (P9 r))[m]?*>(P9 r')->∃c,(Z.set i (P9 v))[m]?*>(P9 c):=λm r' a=>by
 by_cases e:m=i;subst e;show{v,by simp[d]};rw[F6 (K3 e)]at a|-;show f m r' a
def Sim.put(S:Sim Γ H O Z (⟨P8,v,r⟩::E))(J:gF O i=Qb)(X:r.k.root≠P9 i):Sim Γ H ((am [i] O).set i (P9 r)) (Z.set i (P9 v)) (ag [i] E):=by
 have d:i < O.length:=by
  unfold gF at J;cases q : O[i]? with
  | none=>rw[q]at J;cases J
  | some o=>show(FL.mp q).1
 have A:i<Z.length:=by rw[S.len];show d
 have u:az [i] ⟨P8,v,r⟩=Qb:=by
  unfold az;split
  .delta j h;have:j≠i:=λz=>X (z▸h);simp[this]
  .rfl
 have M:ag [i] (⟨P8,v,r⟩::E)=⟨P8,v,r⟩::ag [i] E:=by unfold ag;rw[Hb,if_pos u]
 have l:=S.kill [i];rw[M]at l;have L:p9 Γ H (⟨P8,v,r⟩::(ag [i] E++aA 0 Z ((am [i] O).set i P8)))/\∀g∈ag [i] E++aA 0 Z ((am [i] O).set i P8),g.key≠P9 i:=by
  cases q:(am [i] O)[i]? with
  | none=>rw[List.getElem?_eq_none_iff,aJ]at q;omega
  | some o=>
   cases o with
   | none=>
    have e:(am [i] O).set i P8=am [i] O:=by
     apply Hh;intro m;by_cases G:m=i;subst G;rw[q];simp[aJ,d];rw[F6 (K3 G)]
    rw[e];show{l.sl,λg f B=>?_};rcases yaM f with z|z
    .have:=l.hi g (ymC _ z) i B;rw[aJ]at this;omega
    .obtain⟨m,a,c,K⟩:=cZ z;rw[B,Gq]at a;cases a;rw[q]at c;cases c
   | some U=>
    have P:=mH q;by_cases ho:U.k.isOw=Qb
    .obtain⟨v0,y,a,Q,c⟩:=S.out P ho;rw[M]at a Q c;show{a.dropK λg f j h=>by cases h;show Q g f,λg f=>c g (ymC _ f)}
    .obtain⟨v0,y⟩:=S.al i U P;have p:=(bD (k:=0) y q).append_left (⟨P8,v,r⟩::ag [i] E);rw[Gq]at p;have a:=l.sl.perm (p.trans Gh);show{a.dropK λg f j h=>?_,λg f B=>?_}
     .cases (h);have C:g∈ag [i] (⟨P8,v,r⟩::E)++ag [i] (aA 0 Z O):=by
       rw[M,<-ft];rcases yaM f with z|z;show yaL _ z
       .show yaR _ ?_;obtain⟨m,a,c,K⟩:=cZ z;have G:m≠i:=λe=>by subst e;simp[aJ,d]at c
        rw[F6 (K3 G)]at c;have:=(bD (k:=0) K c).mem_iff.mpr (ymS);have e:g={P9 (0+m),g.v,g.r}:=by cases (g);dsimp[En.mk.injEq,and_self,and_true];show a
        rw[e];show this
      rw[<-aE]at C;show lp ∅ g C
     .rcases yaM f with z|z
      .have:=l.hi g (ymC _ z) i B;rw[aJ]at this;omega
      .obtain⟨m,a,c,K⟩:=cZ z;rw[B,Gq]at a;cases a;simp[aJ,d]at c
 obtain⟨L,N⟩:=L;have Y:=L.rekey (e:=⟨P8,v,r⟩) rfl (key:=P9 i) λj h g f=>by cases h;show N g f
 show l.back (Y.perm ?_) (by simp[aJ]) ∅ (Ay l.al A) (λe he j h=>ymC _ he);have p:=(gt (k:=0) (Z:=Z) (O:=am [i] O) (v:=v) (r:=r) A (by rw[aJ];show d)).append_left (ag [i] E);rw[Gq]at p;show(Gh.symm).trans p.symm
def Sim.mut{vs:!V}{ts:!T}{p:!Ac}{k:Kd}(S:Sim Γ H O Z (aI vs ts++{P8,w,{.vw (P9 i) (P9 p),s}}::E))(hl:vs.length=ts.length)(h : O[i]?*>(P9 ⟨k,t⟩))(ho:k.isOw=Qb) :
  ∃G F,Rp Γ.K H s w G/\Rps Γ.K H ts vs F/\(G++F).Nodup/\(∀a∈G++F,Mu H a) /\
  ∀H' C J,td G H H'->(∀a∈G,∃o,H' a*>o)->J.Nodup->(∀a∈J,(a∈G++F\/H a=P8)/\Mu H' a)->Rp Γ.K H' C w J->Sim Γ H' ((am [i] O).set i (P9 {k,t.put p C})) Z (ag [i] E):=by
 have l:i < O.length:=(FL.mp h).1;have(v0,u,f):=S.slot h;have pl:t.sub p*>s/\atP Γ.K H v0 p w:=by
  have(L,g,e):=S.sl;have:({P8,w,{.vw (P9 i) (P9 p),s}}:En)∈L.map (·.e):=by rw[e];simp
  have(y,hy,ey):=FT.mp this;have kd:=g.kd y hy;unfold vx at kd;rw[ey]at kd;have(x,x1,x2,x3,x4,x5):=kd;have hm':({P9 i,v0,⟨k,t⟩}:En)∈L.map (·.e):=by rw[e];show f
  have(z,c,ez):=FT.mp hm';have:x=z:=by
   have Q:=g.ks;by_cases q:x=z;show q
   .exfalso;have(A,B,rfl):=HK x1;rw[Hg,Gc,x2]at Q;rcases yaM c with c|c;show(FP.mp Q).2.2 i (Gp.mpr {z,c,by rw[ez]}) i ymS rfl
    .rcases ycM c with c|c;show q c.symm;show(Gi.mp (FP.mp Q).2.1).1 (Gp.mpr {z,c,by rw[ez]})
  subst this;have:=x5 p rfl;rw[ez]at this;show this
 have(v1,M,P,U,h3):=S.out h ho;rw[u]at M;cases M;have d:∀{vs:!V} {ts:!T},ag [i] (aI vs ts)=aI vs ts:=by
  intro vs
  induction vs with
  | nil=>intro ts;rfl
  | cons v vs ih=>
   intro ts;cases ts with
   | nil=>rfl
   | cons t ts=>change List.filter _ _=_;rw[aI,Hb,if_pos (show az [i] {P8,v,{.ow,t}}=Qb from rfl)];show congrArg _ ih
 have kv:az [i] {P8,w,{.vw (P9 i) (P9 p),s}}=Qa:=by unfold az;simp[Kd.root]
 have ek:ag [i] (aI vs ts++{P8,w,{.vw (P9 i) (P9 p),s}}::E)=aI vs ts++ag [i] E:=by
  rw[aE,d];unfold ag;rw[Hb,if_neg (by rw[kv];simp)]
 rw[ek]at P U h3;rw[F5]at P U h3;have(w',G,F,m1,m2,m3,m4,m5,m6):=p9.mutP (e:={P9 i,v0,⟨k,t⟩}) (X:=ag [i] E++aA 0 Z ((am [i] O).set i P8)) (by rw[F8];show P) hl ho (λg Y j N=>by cases N;show U g (yaR _ Y)) pl.1 (λj N g Y=>by cases N;show h3 g (yaR _ Y));have ew:=iR m1 pl.2;subst ew;show{G,F,m2,m3,m4,m5,λH' C J off dom nd hG rp=>?_};have S5:=m6 H' C J off dom nd hG rp;have S2:=S.kill [i];show S2.back (S5.perm ?_) (by simp[aJ]) rfl (λm r' f=>?_) (λe he j N=>by rw[ek];show yaR _ he)
 .have p:=(gt (k:=0) (Z:=Z) (O:=am [i] O) (v:=v0) (r:={k,t.put p C}) (by rw[S.len];show l) (by rw[aJ];show l)).append_left (ag [i] E);rw[Gq]at p;have eZ:Z.set i (P9 v0)=Z:=by
   apply Hh;intro m;by_cases f:m=i;subst f;rw[u];simp[S.len,l];rw[F6 (K3 f)]
  rw[eZ]at p;show(Gh.symm).trans p.symm
 .by_cases e:m=i;subst e;show⟨v0,u⟩;rw[F6 (K3 e)]at f;show S2.al m r' f
def Sim.move(S:Sim Γ H O Z ({P8,w,{.vw (P9 i) (P9 []),s}}::E))(h : O[i]?*>(⇑t)):Sim Γ H ((am [i] O).set i P8) Z ({P8,w,{.ow,s}}::ag [i] E):=by
 have N:i < O.length:=(FL.mp h).1;have(v0,u,p):=S.slot h;have pl:s=t/\w=v0:=by
  have(L,g,e):=S.sl;have:({P8,w,{.vw (P9 i) (P9 []),s}}:En)∈L.map (·.e):=by rw[e];simp
  have(y,d,ey):=FT.mp this;have G:=g.kd y d;unfold vx at G;rw[ey]at G;have(x,x1,x2,x3,x4,x5):=G;have J:({P9 i,v0,{.ow,t}}:En)∈L.map (·.e):=by rw[e];show p
  have(z,c,C):=FT.mp J;have:x=z:=by
   have K:=g.ks;by_cases q:x=z;show q
   .exfalso;have(A,B,rfl):=HK x1;rw[Hg,Gc,x2]at K;rcases yaM c with c|c;show(FP.mp K).2.2 i (Gp.mpr {z,c,by rw[C]}) i ymS rfl
    .rcases ycM c with c|c;show q c.symm;show(Gi.mp (FP.mp K).2.1).1 (Gp.mpr {z,c,by rw[C]})
  subst this;have:=x5 [] rfl;rw[C]at this;have(Y,q2):=this;rw[T.sub]at Y;cases Y;show⟨Xr,q2⟩
 have(rfl,rfl):=pl;have(v1,o,U,h2,h3):=S.out h rfl;rw[u]at o;cases o;have kv:az [i] {P8,w,{.vw (P9 i) (P9 []),s}}=Qa:=by unfold az;simp[Kd.root]
 have X:ag [i] ({P8,w,{.vw (P9 i) (P9 []),s}}::E)=ag [i] E:=by
  unfold ag;rw[Hb,if_neg (by rw[kv];simp)]
 rw[X]at U h2 h3;have P:=S.kill [i];show P.back (E':={P8,w,{.ow,s}}::ag [i] E) ?_ (by simp[aJ]) rfl (λm r' p=>?_) (λe M j k=>?_)
 .have(L,g,e):=U;have(x,L',rfl,l,Q):=ax e;have:=g.step (hs:=[x]) (L:=L') (H':=H) (λy d=>by rw[ysM d,l];rfl) (λy d z c j k=>by
   rw[ysM c,l]at k;cases k;show h2 y.e (by rw[<-Q];show Gd d)) (td.refl _ _) (λa f=>by
    have(y,d,f):=GL.mp f;rw[ysM d]at f;show(g.rp x ymS).dom a f) (key:=P8) (v:=w) (r:={.ow,s}) (F:=x.F) (g.ndF ymS (by rw[l];rfl)) (λa f=>{.inl (by exists f),g.muF ymS (by rw[l];rfl) a f})
    (by have:=g.rp x ymS;rw[l]at this;show this) (.inl {Xr,λy d=>by rw[ysM d,l]}) (λj k=>by cases k)
  show{_,this,by rw[FS,Q];rfl}
 .by_cases e:m=i;subst e;simp[aJ,N]at p;rw[F6 (K3 e)]at p;show P.al m r' p
 .rcases ycM M with rfl|M;cases k;rw[X];show M
def Sim.use(S:Sim Γ H O Z (aI vs ts++E))(l:vs.length=ts.length):∃F,Rps Γ.K H ts vs F/\F.Nodup/\(∀a∈F,Mu H a) /\
  ∀H' v t F',td F H H'->(∀a∈F,∃o,H' a*>o)->F'.Nodup->(∀a∈F',(a∈F\/H a=P8)/\Mu H' a)->Rp Γ.K H' t v F'->Sim Γ H' O Z ({P8,v,{.ow,t}}::E):=by
 have h:=S.sl;rw[F5]at h;have(F,p,q,k,m):=h.use l;show{F,p,q,k,λH' v t F' a b c d e=>?_};show{m H' v t F' a b c d e,S.al,S.len,λx f j g=>by
  rcases ycM f with rfl|f;cases g;show S.hi x (yaR _ f) j g}
def Sim.same(S:Sim Γ H O Z E)(d:JX H H'):Sim Γ H' O Z E:=by
 have(F,c,g,f,a):=Sim.use (vs:=[]) (ts:=[]) S rfl;have:=c.nil_inv.2;subst this;show(a H' .non (.im .non) [] (d.offM _) ∅ GH ∅ (iy (by rw[RpI]))).drop rfl
def Sim.part(S:Sim Γ H O Z E)(d:e∈E){c:↑Nat}{p:Option !Ac}(ho:e.r.k=.vw c p){P:V->Prop}(f:∀F,Rp Γ.K H e.r.t e.v F->∃w G,P w/\Rp Γ.K H s w G/\∀a∈G,a∈F):∃w,P w/\Sim Γ H O Z ({P8,w,{.vw c P8,s}}::E):=by
 have(w,g,h):=S.sl.part (yaL _ d) ho f;show{w,g,S.cons h}
def Sim.partP(S:Sim Γ H O Z E)(d:e∈E)(ho:e.r.k=.vw (P9 j) (P9 q))(hs:kj e.r.t a*>s):∃w,at1 Γ.K H e.v a w/\Sim Γ H O Z ({P8,w,{.vw (P9 j) (P9 (q++[a])),s}}::E):=by
 have(w,c,f):=S.sl.partP (yaL _ d) ho hs;show{w,c,S.cons f}
end
structure ME where
 run:Rho->↑(R×Rho)
 mu:!Nat
structure MT where
 run:Rho->↑(Bool×Rho)
 mu:!Nat
structure MA where
 run:Rho->↑(!R×Rho)
 mu:!Nat
inductive Fl where
 | nx|rt (t:T)|bk|ct
structure MS where
 run:Rho->↑(Fl×Rho)
 mu:!Nat
structure MG where
 run:R->Rho->↑Rho
 mu:!Nat
structure MGs where
 run:!R->Rho->↑Rho
 mu:!Nat
abbrev ens:!V->!R->!En
 | v::vs,r::a=>⟨P8,v,r⟩::ens vs a
 | _,_=>[]
abbrev aw(M:!Nat) (r:R):Bool:=gm M r
def bt(h:aw M r=Qb):az M ⟨P8,v,r⟩=Qb:=h
def av(h:az M e=Qb):ag M (e::E)=e::ag M E:=by unfold ag;rw[Hb,if_pos h]
def jA:∀{vs:!V} {rs:!R},rs.all (aw M)=Qb->ag M (ens vs rs)=ens vs rs
 | [],_,_=>by cases ‹!R›<;>rfl
 | _::_,[],_=>rfl
 | v::vs,r::rs,h=>by
  rw[GO,FO]at h;rw[ens,av (bt h.1),jA h.2]
def Sim.weak(S:Sim Γ H O Z E)(M:!Nat):Sim Γ H O Z (ag M E):=by
 show{?_,S.al,S.len,λe i=>S.hi e (FX.mp i).1};have(L,g,h):=S.sl;have(A,B,rfl,d,f):=cu h;show{A.filter (λx=>az M x.e)++B,g.sub (Gx.append (List.Sublist.refl _)) λx m j o y l p c=>?_,?_}
 .rcases yaM l with z|z
  .show yaL _ (FX.mpr {z,?_});unfold az;cases e:y.e.r.k with
   | vw a b=>rw[e]at c;cases c
   | ow=>rfl
   | io _=>rfl
  .show yaR _ z
 .rw[FY,f,<-d];unfold ag;rw[Hs];rfl
abbrev aR(K:yF)(e:TE)(m:ME):Prop:=∀(a:Gm) (H:Hp) (O:Rho) (Z:St) (E:!En) (Q:VK) (r:R) (d:Rho),a.K=K->m.run O*>(r,d)->Sim a H O Z E->(∀v c,Sim a c d Z (⟨P8,v,r⟩::ag m.mu E)->Q v c)->e Z H Q
abbrev eW(K:yF)(e:TT)(m:MT):Prop:=∀(a:Gm) (H:Hp) (O:Rho) (Z:St) (E:!En) (Q:Bool->Hp->Prop) (b:Bool) (d:Rho),a.K=K->m.run O*>(b,d)->Sim a H O Z E->(∀c,Sim a c d Z (ag m.mu E)->Q b c)->e Z H Q
abbrev fo(K:yF)(f:TA)(m:MA):Prop:=∀(a:Gm) (H:Hp) (O:Rho) (Z:St) (E:!En) (Q:!V->Hp->Prop) (c:!R) (e:Rho),a.K=K->m.run O*>(c,e)->Sim a H O Z E->(∀vs d,vs.length=c.length->Sim a d e Z (ens vs c++ag m.mu E)->Q vs d)->f Z H Q
abbrev Kj(e:Gm)(d:Rho)(E:!En)(D:Km):Fl->Prop
 | .nx=>∀c a,Sim e a d c E->D.nx c a
 | .bk=>∀c a,Sim e a d c E->D.bk c a
 | .ct=>∀c a,Sim e a d c E->D.ct c a
 | .rt t=>∀v c a,Sim e a d c [{P8,v,{.ow,t}}]->D.rt v a
abbrev eV(K:yF)(ts:TS)(m:MS):Prop:=∀(a:Gm) (H:Hp) (O:Rho) (Z:St) (E:!En) (D:Km) (f:Fl) (c:Rho),a.K=K->(∀e∈E,e.key=P8)->m.run O*>(f,c)->Sim a H O Z E->Kj a c (ag m.mu E) D f->ts D Z H
abbrev j8(K:yF)(g:TG)(m:MG):Prop:=∀(a:Gm) (H:Hp) (O:Rho) (Z:St) (E:!En) (Q:St->Hp->Prop) (v:V) (r:R) (d:Rho),a.K=K->m.run r O*>d->Sim a H O Z (⟨P8,v,r⟩::E)->(∀e c,Sim a c d e (ag m.mu E)->Q e c)->g v Z H Q
abbrev oI(K:yF)(g:TGs)(m:MGs):Prop:=∀(a:Gm) (H:Hp) (O:Rho) (Z:St) (E:!En) (Q:St->Hp->Prop) (vs:!V) (c:!R) (e:Rho),a.K=K->m.run c O*>e->vs.length=c.length->Sim a H O Z (ens vs c++E)->(∀f d,Sim a d e f (ag m.mu E)->Q f d)->g vs Z H Q
abbrev C8(X:Cx)(st:!Stmt)(m:MS):Prop:=∃a,PSs X st a/\eV X.K a m
section
variable {K:yF}{X:Cx}
private def mC(i:I):ME:={λO=>P9 ({.ow,.im i},O),[]}
private def ah(i:Nat):ME:={λO=>match O[i]? with
 | some (P9 r)=>P9 (rdR i r,O)
 | _=>P8,[]}
def pv(h:i.sc*>v):aR K (tC v) (mC i):=by unhygienic
 intro e H O Z E Q r d c a S q;cases a;show q v H (by rw[show(mC i).mu=[]from rfl,bW];show S.imm (gX h))
def zi:aR K (Cy i) (ah i):=by unhygienic
 intro g H O Z E Q r f h a S q;dsimp[ah]at a;ext a j e;cases a;have(v,d,c):=S.var e;show{v,d,q v H (by rw[show(ah i).mu=[]from rfl,bW];show c)}
private def mNil:MA:={λO=>P9 ([],O),[]}
private def ac(m:ME)(a:MA):MA:={λO=>match m.run O with
 | some (r,c)=>match a.run c with
  | some (d,e)=>if aw a.mu r=Qb then P9 (r::d,e)else P8
  | none=>P8
 | none=>P8,m.mu++a.mu}
def y9:fo K EL mNil:=by unhygienic
 intro e H O Z E Q f d c a S q;cases a;show q [] H rfl (by rw[show mNil.mu=[]from rfl,bW];show S)
def xM{v:V}{r:R}{E:!En}:∀{vs:!V} {rs:!R},(ens vs rs++⟨P8,v,r⟩::E).Perm (⟨P8,v,r⟩::(ens vs rs++E)):=Gh
def wA(j:aR K te m)(o:fo K ta ms):fo K (rZ te ta) (ac m ms):=by unhygienic
 intro e H O Z E Q w u g a S q;dsimp[ac]at a;ext a r f k;ext a c x s;ext a t;cases a;show j e H O Z E _ r f g k S λv p i=>?_;show o e p f Z _ _ c _ g s i λvs l h d=>q (v::vs) l (by rw[FR,FR,h]) ?_;rw[av (bt t),ae]at d;show d.perm xM
private def mNext:MS:={λO=>P9 (.nx,O),[]}
private def aq(a b:MS):MS:={λO=>match a.run O with
 | some (.nx,c)=>b.run c
 | some (.rt t,c)=>P9 (.rt t,c)
 | some (.bk,c)=>P9 (.bk,c)
 | some (.ct,c)=>P9 (.ct,c)
 | none=>P8,a.mu++b.mu}
private def mIf(c:MT)(a b:MS):MS:={λO=>match c.run O with
 | some (Qb,d)=>a.run d
 | some (Qa,d)=>b.run d
 | none=>P8,c.mu++(a.mu++b.mu)}
private def cC(e:ME):MS:={λO=>match e.run O with
 | some (_,a)=>P9 (.nx,a)
 | none=>P8,e.mu}
private def aU(e:ME)(g:MG):MS:={λO=>match e.run O with
 | some (r,a)=>match g.run r a with
  | some c=>P9 (.nx,c)
  | none=>P8
 | none=>P8,e.mu++g.mu}
private def tX:R->Rho->↑(T×Rho)
 | ⟨.ow,t⟩,O=>P9 (t,O)
 | ⟨.vw (P9 i) (P9 []),t⟩,O=>match O[i]? with
  | some (⇑_)=>P9 (t,(am [i] O).set i P8)
  | _=>P8
 | _,_=>P8
private def aX(e:ME):MS:={λO=>match e.run O with
 | some (r,a)=>match tX r a with
  | some (t,c)=>P9 (.rt t,c)
  | none=>P8
 | none=>P8,e.mu}
def Kj.weak{e:Gm}{d:Rho}{E:!En}{D:Km}{f:Fl}{M N:!Nat}(h:Kj e d (ag (M++N) E) D f):Kj e d (ag M E) D f:=by
 cases f with
 | rt t=>show h
 | nx=>show λc a S=>h c a (by rw[<-ae];show S.weak N)
 | bk=>show λc a S=>h c a (by rw[<-ae];show S.weak N)
 | ct=>show λc a S=>h c a (by rw[<-ae];show S.weak N)
def pX(M N:!Nat)(E:!En):ag M (ag N E)=ag N (ag M E):=by
 unfold ag;rw[Ii,Ii];congr 1;funext e;show Bool.and_comm _ _
def Kj.weak2{c:Gm}{a:Rho}{E:!En}{D:Km}{f:Fl}{M N:!Nat}(h:Kj c a (ag (M++N) E) D f):Kj c a (ag N E) D f:=by
 show Kj.weak (N:=M) ?_;rwa [<-ae,pX,ae]
def bV(h:∀e∈E,e.key=P8):∀e∈ag M E,e.key=P8:=λe a=>h e (FX.mp a).1
def wH:eV K Aq mNext:=by unhygienic
 intro e H O Z E D f d c g a S q;cases a;show q Z H (by rw[show mNext.mu=[]from rfl,bW];show S)
def zf(j:eV K t a)(p:eV K u b):eV K (ER t u) (aq a b):=by
 intro c H O Z E D f k h i e S q;change t {D with nx:=u D} Z H;dsimp[aq]at e q;split at e
 .delta g d;show j c H O Z E _ .nx g h i d S λm r l=>?_;show p c r g m _ D f k h (bV i) e l ?_;rw[ae];show q
 .delta o g d;cases e;show j c H O Z E _ (.rt o) _ h i d S q
 .delta g d;cases e;show j c H O Z E _ .bk _ h i d S (show Kj c _ (ag a.mu E) D .bk from q.weak)
 .delta g d;cases e;show j c H O Z E _ .ct _ h i d S (show Kj c _ (ag a.mu E) D .ct from q.weak)
 .cases e
def y3(l:eW K c mc)(p:eV K t a)(r:eV K u b):eV K (EJ c t u) (mIf mc a b):=by
 intro g H O Z E D f m h o e S q;dsimp[mIf]at e q;rw[<-ae]at q;split at e
 .delta d j;show l g H O Z E _ Qb d h j S λk i=>nP ?_;show p g k d Z _ D f m h (bV o) e i q.weak
 .delta d j;show l g H O Z E _ Qa d h j S λk i=>nO ?_;show r g k d Z _ D f m h (bV o) e i q.weak2
 .cases e
def wB(h:aR K te m):eV K (Ap te) (cC m):=by unhygienic
 intro c H O Z E D f j i l a S q;dsimp[cC]at a;ext a r k e;cases a;show h c H O Z E _ r _ i e S λv g d=>q Z g (d.drop rfl)
def oh(h:aR K te m)(t:j8 K g mg):eV K (zz te g) (aU m mg):=by
 intro c H O Z E D f u e x a S q;dsimp[aU]at a q;ext a r d k;ext a w p;cases a;show h c H O Z E _ r d e k S λv o j=>?_;show t c o d Z _ _ v r _ e p j λs l i=>q s l (by rw[<-ae];show i)
def Sim.only(S:Sim Γ H O Z (e::E))(a:∀x∈E,x.key=P8):Sim Γ H O Z [e]:=by
 induction E with
 | nil=>show S
 | cons x E c=>show c (S.swap.drop (a x ymS)) λy d=>a y (ymC _ d)
def zd(h:aR K te m):eV K (EQ te) (aX m):=by unhygienic
 intro l H O Z E D f x w g d S q;dsimp[aX]at d;ext d r o s;ext d t y c;cases d;show h l H O Z E _ r o w s S λv e j=>?_;have(k,A):=r;cases k with
 | ow=>
  cases c;show q v Z e (j.only (bV g))
 | io n=>cases c
 | vw a b=>
  cases a with
  | none=>cases c
  | some i=>
   cases b with
   | none=>cases c
   | some p=>
    cases p with
    | cons _ _=>cases c
    | nil=>
     dsimp[tX]at c;ext c z u;cases c;show q v Z e ((j.move u).only (bV (bV g)))
private def ai(i:Nat):MG:={λr O=>if(gF O i&&aw [i] r)=Qb then P9 ((am [i] O).set i (P9 r))else P8,[i]}
def iA(h:aw [i] r=Qb):r.k.root≠P9 i:=λz=>by
 unfold aw gm at h;rw[z]at h;simp at h
def lG:j8 K (my i) (ai i):=by unhygienic
 intro e H O Z E Q v r d c a S q;dsimp[ai]at a;ext a h;cases a;rw[FO]at h;show q _ H (S.put h.1 (iA h.2))
end
section
variable {X:Cx}
def Inv.lstR(I:Inv X OK Z H s)(c:Rd H l (.lst xs)):xs.length<=sizeLine/\∃(a:!KA) (n:Nat),Vals xs a/\xs.length=a.length/\s.heap.get? l=P9 {cls:=.type "list",data:=.seq a.toArray n}:=by
 have(z,a,n,r,e):=c.ok I.hok;show⟨z,a,n,r,r.length,e⟩
abbrev Af:R2:=λx y H Q=>∃l b a c,x=.ref l/\y=.ref b/\Rd H l (.lst a)/\Rd H b (.lst c)/\a.length+c.length<=sizeLine/\∀p,H p=P8->Q (.ref p) (upd H p (.lst (a++c)))
def op_catR:OpR X (Lo .Add) Af:=by
 intro B s Z H x y v u Q I m i h;obtain⟨l,b,t,A,rfl,rfl,j,k,w,q⟩:=h;cases m;cases i;have(z,c,n,r,C,e):=I.lstR j;have(p,a,E,d,g,f):=I.lstR k;show PySem.P.add_list e f ?_ (by rw[FN,FN];omega);have o:c.toArray++a.toArray=(c++a).toArray:=by simp
 rw[o];show{.ref _,_,I.lnew (t':=s.toks) (r.append d) (by rw[FQ];omega),Xr,q _ I.fresh}
abbrev wn(K:yF):R2:=λx y H Q=>∃a b c,x=.ref a/\y=.ref b/\SqT K H a []/\SqT K H b c/\Q (.ref b) H
def vf:OpR X (Lo .Add) (wn X.K):=by
 intro P s Z H x y v u Q I E A h;have(a,b,O,rfl,rfl,C,J,q):=h;cases E;cases A;have(j,G,L,_):=I.tuple C;have(c,N,r,_):=I.tuple J;have B:j=[]:=G.nil_iff.mpr rfl;subst B;obtain⟨⟨z,t,k,w⟩,p,o,n,m⟩:=id L;obtain⟨⟨l,i,data2,g⟩,f,e,M,d⟩:=id r;simp only at o m e d;subst o m e d;show Oj {_,p,Xr} {_,f,Xr} Nm N3 PySem.F.slot_tuple_add PySem.F.entry_tuple_add (PySem.F.args_tuple_add_2 _ _)
   (tuple_addW0 a b #[] c.toArray n M t i w g rfl) {p,f,{.ref b,H,I,Xr,q}}
abbrev wm(K:yF):R2:=λx y H Q=>Ae K x y H Q\/(Af x y H Q\/wn K x y H Q)
def yk:OpR X (Lo .Add) (wm X.K):=op_addX.or (op_catR.or vf)
abbrev Aj:R2:=λx y H Q=>∃l k a,x=.ref l/\y=.int k/\Rd H l (.lst a)/\-(2^63)<=k/\k<2^63/\a.length*k.toNat<=sizeLine/\∀p,H p=P8->Q (.ref p) (upd H p (.lst (FU k.toNat a).flatten))
def yn:OpR X (Lo .Mult) Aj:=by
 intro N s Z H x y v u Q I K B h;obtain⟨l,k,M,rfl,rfl,C,J,L,w,q⟩:=h;cases K;have(t,rfl):=B;have(z,c,n,r,G,e):=I.lstR C;have j:c.toArray.size*k.toNat<=sizeLine:=by rw[FN,<-G];show w
 have g:¬ c.toArray.size*k.toNat>(2^63-1) / 8:=by
  have:(sizeLine:Nat)<=(2^63-1) / 8:=by decide
  omega
 have f:¬ (~~~Builtin.List.listFitsIndex k)=Qb:=by
  rw[Pa J L];show FZ
 have d:¬ Le (c.toArray.size*k.toNat)=Qb:=by
  rw[eg j];show FZ
 have i:IC (λp o=>p++o) #[] (FU (if c.toArray.isEmpty=Qb then 0 else k.toNat) c.toArray)=(FU k.toNat c).flatten.toArray:=by
  have E:∀m:Nat,IC (λp o=>p++o) #[] (FU m c.toArray)=(FU m c).flatten.toArray:=λm=>by
   have:=fv c m [];rw[G5]at this;show this
  rw[E];cases c with
  | nil=>simp
  | cons a O=>rw[if_neg ∅]
 show Me (T:="list") (U:="int") (by decide) {_,e,Xr} (λA=>Ms A k t) ON ND L5 repeat_list Nn.lookup
  (Ls L5 (Ms s k t) No (Nb _ _) (NI k t l c.toArray n)
   {e,Xr,{_,e,Xr},Ls OO {_,e,Xr} Oy (Om _ _) (Mi l c.toArray n k t f g d) {e,?_}})
 rw[i];show{.ref _,_,I.lnew (t':=s.toks) (r.rep k.toNat) (by rw[i3,Jf];show w),Xr,q _ I.fresh}
abbrev wr(K:yF):R2:=λx y H Q=>Ai K x y H Q\/Aj x y H Q
def ym:OpR X (Lo .Mult) (wr X.K):=op_mulX.or yn
abbrev pi:V->!V->Hp->VK->Prop:=λx vs H Q=>∃l b a c,x=.ref l/\vs=[.ref b]/\H l*>(.lst a)/\Rd H b (.lst c)/\a.length+c.length<=sizeLine/\Q .non (upd H l (.lst (a++c)))
def qg:MtM X "list.extend" pi:=by
 intro G s Z H x vs v C Q I p t h;obtain⟨l,b,A,E,rfl,rfl,g,o,B,q⟩:=h;cases p;have(u,rfl,j):=t.one;cases j;have(z,c,n,r,J,e):=I.lstM g;have(y,a,w,i,m,k):=I.lstR o;have f:c.toArray.size+a.toArray.size<=sizeLine:=by rw[FN,FN];omega
 have d:¬ (~~~c.toArray.isEmpty&&Le (c.toArray.size+a.toArray.size))=Qb:=by
  rw[eg f,IR];show FZ
 show Ls MY {_,e,Xr} MK (Mx _ _)
  (Ml l c.toArray n b a.toArray w d (by rw[FN];omega) ⋯) {e,k,?_}
 show{.non,_,I.lset (its':=c++a) g e ∅ (r.append i) ?_,Xr,q};rw[FQ];omega
abbrev wo(K:yF):V->!V->Hp->VK->Prop:=λx a H Q=>pi x a H Q\/pj K x a H Q
def ye:MtR X "list.extend" (wo X.K):=MtR.or qg qh
end
abbrev Rpx(K:yF)(H:Hp)(t:T)(v:V):Prop:=∃F,Rp K H t v F
abbrev New(K:yF)(H H':Hp)(t:T)(v:V):Prop:=JX H H'/\∃F,Rp K H' t v F/\F.Nodup/\∀a∈F,H a=P8/\Mu H' a
section
variable {K:yF}{H H':Hp}{Γ:Gm}{O:Rho}{Z:St}{E:!En}{t:T}{v x y:V}{Q:VK}
def Sim.fresh(S:Sim Γ H O Z E)(n:New Γ.K H H' t v):Sim Γ H' O Z ({P8,v,{.ow,t}}::E):=by
 have(g,F,f,h,c):=n;have(i,e,_,_,k):=Sim.use (vs:=[]) (ts:=[]) S rfl;have:=e.nil_inv.2;subst this;show k H' v t F (g.offM _) ∅ h (λa d=>{.inr (c a d).1,(c a d).2}) f
def New.im(h:RpI K H i v):New K H H (.im i) v:={JX.refl H,[],iy h,GH,by simp}
def New.sc(h:i.sc*>v):New K H H (.im i) v:=.im (gX h)
def New.tup(a:H p=P8)(h:md K H is xs):New K H (upd H p (.tup xs)) (.im (.tup is)) (.ref p):=by
 show{JX.laid a,[],iy ?_,GH,by simp};rw[RpI];show{p,xs,Xr,SqT.of aN,h.same (JX.laid a)}
def New.li(c:H p=P8)(h:md K H is xs):New K H (upd H p (.lst xs)) (.li is) (.ref p):=by
 show{JX.laid c,[p],?_,by simp,λa d=>?_};rw[Rp];show{p,xs,Xr,.inl aN,h.same (JX.laid c),Xr};rw[ysM d];show{c,_,aN,Xr}
def dI(h:Rpx K H (.im i) v):RpI K H i v:=by obtain⟨F,h⟩:=h;show(bo h).1
def aQ(h:Rpx K H (.im (.int n)) v):v=.int n:=by have:=dI h;rw[RpI]at this;show this
def bc(h:Rpx K H (.im (.str n)) v):v=.str n:=by have:=dI h;rw[RpI]at this;show this
def gn(h:Rpx K H (.im (.bl n)) v):v=.bl n:=by have:=dI h;rw[RpI]at this;show this
def wQ(h:Rpx K H (.im .non) v):v=.non:=by have:=dI h;rw[RpI]at this;show this
def bQ(h:Rpx K H (.im (.tup is)) v):∃a xs,v=.ref a/\SqT K H a xs/\md K H is xs:=by have:=dI h;rw[RpI]at this;show this
def bF(h:Rpx K H (.li is) v):∃a xs,v=.ref a/\Rd H a (.lst xs)/\md K H is xs:=by
 obtain⟨F,h⟩:=h;rw[Rp]at h;obtain⟨a,xs,d,e,c,_⟩:=h;show⟨a,xs,d,e,c⟩
def j6(h:Rpx K H (.im (.ls is)) v):∃a xs,v=.ref a/\Rd H a (.lst xs)/\md K H is xs:=by
 have:=dI h;rw[RpI]at this;have(a,o,xs,d,e,c):=this;show{a,xs,d,.inr ⟨o,e⟩,c}
def fX(h:Rpx K H (.lst ts) v):∃a xs F,v=.ref a/\Rd H a (.lst xs)/\Rps K H ts xs F:=by
 obtain⟨F,h⟩:=h;rw[Rp]at h;obtain⟨a,xs,d,e,f,c,_⟩:=h;show⟨a,xs,d,e,f,c⟩
def aB(h:Rd H a (.lst xs)):SqL K H a xs:=.inl h
abbrev re(K:yF)(red:V->Hp->VK->Prop)(f:T->↑T):Prop:=∀(H:Hp) (x:V) (a t:T) (Q:VK),Rpx K H a x->f a*>t->(∀v H',New K H H' t v->Q v H')->red x H Q
abbrev dD(K:yF)(red:R2)(f:T->T->↑T):Prop:=∀(H:Hp) (x y:V) (c a t:T) (Q:VK),Rpx K H c x->Rpx K H a y->f c a*>t->(∀v H',New K H H' t v->Q v H')->red x y H Q
abbrev Ki(K:yF)(H:Hp):!T->!V->Prop
 | [],vs=>vs=[]
 | t::a,vs=>∃v r,vs=v::r/\Rpx K H t v/\Ki K H a r
abbrev gi(K:yF)(red:!V->Hp->VK->Prop)(f:!T->↑T):Prop:=∀(H:Hp) (vs:!V) (a:!T) (t:T) (Q:VK),Ki K H a vs->f a*>t->(∀v H',New K H H' t v->Q v H')->red vs H Q
private def mOp(f:T->T->↑T)(a b:ME):ME:={λO=>match a.run O with
 | some (c,e)=>match b.run e with
  | some (d,g)=>if aw b.mu c=Qb then(match f c.t d.t with
   | some t=>P9 ({.ow,t},g)
   | none=>P8)else P8
  | none=>P8
 | none=>P8,a.mu++b.mu}
def qI(l:dD K red f)(z:aR K ta a)(A:aR K tb b):aR K (tOp red ta tb) (mOp f a b):=by unhygienic
 intro Γ H O Z E Q r G e c S q;dsimp[mOp]at c;ext c k i m;ext c g J p;ext c C;ext c t s;cases c;show z Γ H O Z E _ k i e m S λx o w=>?_;show A Γ o i Z _ _ g _ e p w λy B d=>?_;rw[av (bt C),ae]at d;have j:=d.rd (ymC _ ymS);have h:=d.rd ymS;rw[e]at j h;show l B x y k.t g.t t Q j h s λv u n=>q v u ?_;rw[<-e]at n;show((d.drop rfl).drop rfl).fresh n
private def mUn(f:T->↑T)(a:ME):ME:={λO=>match a.run O with
 | some (d,c)=>(match f d.t with
  | some t=>P9 ({.ow,t},c)
  | none=>P8)
 | none=>P8,a.mu}
def qJ(k:re K red f)(j:aR K ta a):aR K (tUn red ta) (mUn f a):=by unhygienic
 intro Γ H O Z E Q r p d c S q;dsimp[mUn]at c;ext c h s l;ext c t o;cases c;show j Γ H O Z E _ h _ d l S λx m e=>?_;have g:=e.rd ymS;rw[d]at g;show k m x h.t t Q g o λv i n=>q v i ?_;rw[<-d]at n;show(e.drop rfl).fresh n
def Sim.rds:∀{vs:!V} {rs:!R} {E:!En},Sim Γ H O Z (ens vs rs++E)->vs.length=rs.length->Ki Γ.K H (rs.map (·.t)) vs
 | [],[],E,S,_=>rfl
 | v::vs,r::rs,E,S,h=>by
  rw[ens,F8]at S;show{v,vs,Xr,S.rd ymS,Sim.rds (S.drop rfl) (by exists h)}
 | [],_::_,_,_,h=>by cases h
 | _::_,[],_,_,h=>by cases h
def Sim.drops:∀{vs:!V} {rs:!R} {E:!En},Sim Γ H O Z (ens vs rs++E)->Sim Γ H O Z E
 | [],rs,E,S=>by cases rs<;>show S
 | v::vs,[],E,S=>S
 | v::vs,r::rs,E,S=>by
  rw[ens,F8]at S;show Sim.drops (S.drop rfl)
private def mB(f:!T->↑T)(a:MA):ME:={λO=>match a.run O with
 | some (d,c)=>(match f (d.map (·.t))with
  | some t=>P9 ({.ow,t},c)
  | none=>P8)
 | none=>P8,a.mu}
def wy(l:gi K red f)(j:fo K ta a):aR K (tCB red ta) (mB f a):=by unhygienic
 intro Γ H O Z E Q r s d c S q;dsimp[mB]at c;ext c k u m;ext c t p;cases c;show j Γ H O Z E _ k _ d m S λvs o i e=>?_;have g:=e.rds i;rw[d]at g;show l o vs _ t Q g p λv h n=>q v h ?_;rw[<-d]at n;show e.drops.fresh n
private def mM(f:T->!T->↑T)(o:ME)(a:MA):ME:={λO=>match o.run O with
 | some (r,c)=>match a.run c with
  | some (e,d)=>if aw a.mu r=Qb then(match f r.t (e.map (·.t))with
   | some t=>P9 ({.ow,t},d)
   | none=>P8)else P8
  | none=>P8
 | none=>P8,o.mu++a.mu}
abbrev kP(K:yF)(d:String)(red:V->!V->Hp->VK->Prop)(f:T->!T->↑T):Prop:=∀(H:Hp) (x:V) (vs:!V) (a:T) (c:!T) (t:T) (Q:VK),Rpx K H a x->Ki K H c vs->f a c*>t->(∀v H',New K H H' t v->Q v H')->red x vs H Q
def EF(z:kP K T0 red f)(h:∀(H:Hp) (x:V) (k:T) ts t,Rpx K H k x->f k ts*>t->tyV K T0 x H)(ho:aR K to o)(J:fo K ta a):aR K (tBM K T0 red to ta) (mM f o a):=by unhygienic
 intro Γ H O Z E Q r P d c S q;dsimp[mM]at c;ext c M B u;ext c w U A;ext c N;ext c t m;cases c;show ho Γ H O Z E _ M _ d u S λx j p=>?_;have e:=p.rd ymS;rw[d]at e;show{h j x _ _ _ e m,?_};show J Γ j B Z _ _ w _ d A p λvs L G g=>?_;rw[av (bt N),ae]at g;have s:=g.rds G;have l:=g.drops;have i:=l.rd ymS;rw[d]at s i;show z L x vs _ _ t Q i s m λv C n=>q v C ?_;rw[<-d]at n;show(l.drop rfl).fresh n
private def ak(a:ME):MT:={λO=>match a.run O with
 | some (⟨_,.im (.bl b)⟩,c)=>P9 (b,c)
 | _=>P8,a.mu}
def lH(e:aR K ta a):eW K (xc ta) (ak a):=by unhygienic
 intro Γ H O Z E Q b j i c S q;dsimp[ak]at c;ext c k m l g;cases c;show e Γ H O Z E _ _ _ i g S λx h d=>{b,?_,q h (d.drop rfl)};have f:=d.rd ymS;show gn f
def Cr(c:aR K ta a):eW K (tB ta) (ak a):=lH c
abbrev tru:T->↑Bool
 | .im .non=>P9 Qa
 | .im (.bl b)=>P9 b
 | .im (.int i)=>P9 (i != 0)
 | .im (.str x)=>if x.length<=sizeLine then P9 ((x.length:Int) != 0)else P8
 | .im (.tup c)=>P9 (~~~c.isEmpty)
 | .li c=>P9 (~~~c.isEmpty)
 | .lst a=>P9 (~~~a.isEmpty)
 | .tup a=>P9 (~~~a.isEmpty)
 | _=>P8
private def sU(a:ME):MT:={λO=>match a.run O with
 | some (r,c)=>(match tru r.t with
  | some b=>P9 (b,c)
  | none=>P8)
 | none=>P8,a.mu}
def g8{a c:Type}{l:!a}{m:!c}(h:l.length=m.length):l.isEmpty=m.isEmpty:=by
 cases l<;>cases m<;>first|rfl|cases h
def tru_ok'{b:Bool}(h:tru t*>b)(r:Rpx K H t v):xH K v H b:=by
 cases t with
 | im i=>
  cases i with
  | non=>rw[wQ r];cases h;rfl
  | bl x=>rw[gn r];cases h;rfl
  | int x=>rw[aQ r];cases h;rfl
  | str x=>
   rw[bc r];dsimp[tru]at h;split at h;cases h;show{by assumption,Xr};cases h
  | tup f=>
   have(a,c,rfl,d,e):=bQ r;cases h;show .inr (.inl {c,d,by rw[g8 e.length]})
  | ls f=>cases h
  | fd _ _=>cases h
  | exn _ _ _=>cases h
 | li f=>
  have(a,c,rfl,d,e):=bF r;cases h;show .inl {c,aB d,by rw[g8 e.length]}
 | lst f=>
  have(a,c,F,rfl,d,e):=fX r;cases h;show .inl {c,aB d,by rw[g8 e.length]}
 | tup g=>
  obtain⟨F,r⟩:=r;rw[Rp]at r;have(a,c,rfl,d,e):=r;cases h;show .inr (.inl {c,d,by rw[g8 e.length]})
 | di _=>cases h
 | dq _=>cases h
 | dc _=>cases h
 | ins _ _=>cases h
def zh(g:aR K ta a):eW K (ES K ta) (sU a):=by unhygienic
 intro Γ H O Z E Q b k f c S q;dsimp[sU]at c;ext c r l h;ext c m j;cases c;show g Γ H O Z E _ _ _ f h S λx i d=>{b,?_,q i (d.drop rfl)};have e:=d.rd ymS;rw[f]at e;show tru_ok' j e
private def lm(a b:MT):MT:={λO=>match a.run O with
 | some (Qb,c)=>b.run c
 | some (Qa,c)=>P9 (Qa,c)
 | none=>P8,a.mu++b.mu}
private def mOr(a b:MT):MT:={λO=>match a.run O with
 | some (Qb,c)=>P9 (Qb,c)
 | some (Qa,c)=>b.run c
 | none=>P8,a.mu++b.mu}
private def fA(a:MT):MT:={λO=>match a.run O with
 | some (b,c)=>P9 (~~~b,c)
 | none=>P8,a.mu}
def yX(i:eW K ta a)(l:eW K tb b):eW K (EH ta tb) (lm a b):=by
 intro Γ H O Z E Q c o h d S q;dsimp[lm]at d q;split at d
 .delta j f;show i Γ H O Z E _ _ _ h f S λg e=>nP ?_;show l Γ g j Z _ _ _ _ h d e λm k=>q m (by rw[<-ae];show k)
 .delta j f;cases d;show i Γ H O Z E _ _ _ h f S λg e=>nO (q g (by rw[<-ae];show e.weak _))
 .cases d
def Cp(i:eW K ta a)(l:eW K tb b):eW K (tOr ta tb) (mOr a b):=by
 intro Γ H O Z E Q c o h d S q;dsimp[mOr]at d q;split at d
 .delta j f;cases d;show i Γ H O Z E _ _ _ h f S λg e=>nP (q g (by rw[<-ae];show e.weak _))
 .delta j f;show i Γ H O Z E _ _ _ h f S λg e=>nO ?_;show l Γ g j Z _ _ _ _ h d e λm k=>q m (by rw[<-ae];show k)
 .cases d
def za(f:eW K ta a):eW K (EM ta) (fA a):=by
 intro Γ H O Z E Q c j i d S q;dsimp[fA]at d q;ext d b k g;cases d;show f Γ H O Z E _ _ _ i g S λh e=>q h e
private def i5(a b:ME):ME:={λO=>match a.run O with
 | some (⟨_,.im (.bl Qb)⟩,c)=>b.run c
 | some (⟨_,.im (.bl Qa)⟩,c)=>P9 ({.ow,.im (.bl Qa)},c)
 | _=>P8,a.mu++b.mu}
private def qa(a b:ME):ME:={λO=>match a.run O with
 | some (⟨_,.im (.bl Qb)⟩,c)=>P9 ({.ow,.im (.bl Qb)},c)
 | some (⟨_,.im (.bl Qa)⟩,c)=>b.run c
 | _=>P8,a.mu++b.mu}
private def mO(a:ME):ME:={λO=>match a.run O with
 | some (⟨_,.im (.bl b)⟩,c)=>P9 ({.ow,.im (.bl (~~~b))},c)
 | _=>P8,a.mu}
def wz(i:aR K ta a)(m:aR K tb b):aR K (Ao ta tb) (i5 a b):=by
 intro Γ H O Z E Q c p h e S q;dsimp[i5]at e q;split at e
 .delta k j f;show i Γ H O Z E _ _ _ h f S λx g d=>{Qb,gn (d.rd ymS),nP ?_};show m Γ g j Z _ _ _ _ h e (d.drop rfl) λv o l=>q v o (by rw[<-ae];show l)
 .delta k j f;cases e;show i Γ H O Z E _ _ _ h f S λx g d=>{Qa,gn (d.rd ymS),nO (q _ g ?_)};rw[<-ae];show((d.drop rfl).weak _).imm (gX rfl)
 .cases e
def zb(i:aR K ta a)(m:aR K tb b):aR K (EN ta tb) (qa a b):=by
 intro Γ H O Z E Q c p h e S q;dsimp[qa]at e q;split at e
 .delta k j f;cases e;show i Γ H O Z E _ _ _ h f S λx g d=>{Qb,gn (d.rd ymS),nP (q _ g ?_)};rw[<-ae];show((d.drop rfl).weak _).imm (gX rfl)
 .delta k j f;show i Γ H O Z E _ _ _ h f S λx g d=>{Qa,gn (d.rd ymS),nO ?_};show m Γ g j Z _ _ _ _ h e (d.drop rfl) λv o l=>q v o (by rw[<-ae];show l)
 .cases e
def wI(f:aR K ta a):aR K (Ar ta) (mO a):=by
 intro Γ H O Z E Q c j i d S q;dsimp[mO]at d q;ext d k b l g;cases d;show f Γ H O Z E _ _ _ i g S λx h e=>{b,gn (e.rd ymS),q _ h ((e.drop rfl).imm (gX rfl))}
private def lV(c:MT)(a b:ME):ME:={λO=>match c.run O with
 | some (Qb,d)=>a.run d
 | some (Qa,d)=>b.run d
 | none=>P8,c.mu++(a.mu++b.mu)}
def y0(P:eW K tc c)(ha:aR K ta a)(hb:aR K tb b):aR K (tIf tc ta tb) (lV c a b):=by
 intro Γ H O Z E Q r U p l S q;dsimp[lV]at l q;split at l
 .delta u z;show P Γ H O Z E _ _ _ p z S λC G=>nP ?_;show ha Γ C u Z _ _ _ _ p l G λv o f=>q v o ?_;rw[ae]at f;rw[<-F5,<-ae];show{?_,f.al,f.len,λe i=>f.hi e ?_}
  .have h:=(f.drop rfl).weak b.mu;have h2:Sim Γ o U Z (⟨P8,v,r⟩::ag (c.mu++a.mu) E):=f;have(L,g,e):=h2.sl;have(x,L',rfl,N,s):=ax e;have(A,B,rfl,J,M):=cu s;show⟨x::(A.filter (λw=>az b.mu w.e)++B),g.sub (List.Sublist.cons_cons _ (Gx.append (List.Sublist.refl _))) λw hw j X y d Y m=>?_,?_⟩
   .rcases ycM d with rfl|d;show ymS
    .show ymC _ ?_;rcases yaM d with d|d
     .show yaL _ (FX.mpr {d,?_});unfold az;cases e:y.e.r.k with
      | vw a b=>rw[e]at m;cases m
      | ow=>rfl
      | io _=>rfl
     .show yaR _ d
   .rw[FS,N,FY,M,<-J];unfold ag;rw[Hs];rfl
  .rcases ycM i with rfl|i;show ymS;show ymC _ (FX.mp i).1
 .delta u z;show P Γ H O Z E _ _ _ p z S λC G=>nO ?_;show hb Γ C u Z _ _ _ _ p l G λv o f=>q v o ?_;rw[ae]at f;have ek:ag (c.mu++(a.mu++b.mu)) E=ag a.mu (ag (c.mu++b.mu) E):=by
   rw[ae];unfold ag;congr 1;funext e;dsimp[jy];rcases az c.mu e<;>rcases az a.mu e<;>rcases az b.mu e<;>rfl
  rw[ek];show{?_,f.al,f.len,λe i=>f.hi e ?_}
  .have(L,g,e):=f.sl;have(x,L',rfl,N,s):=ax e;have(A,B,rfl,J,M):=cu s;show⟨x::(A.filter (λw=>az a.mu w.e)++B),g.sub (List.Sublist.cons_cons _ (Gx.append (List.Sublist.refl _))) λw hw j X y d Y m=>?_,?_⟩
   .rcases ycM d with rfl|d;show ymS
    .show ymC _ ?_;rcases yaM d with d|d
     .show yaL _ (FX.mpr {d,?_});unfold az;cases e:y.e.r.k with
      | vw a b=>rw[e]at m;cases m
      | ow=>rfl
      | io _=>rfl
     .show yaR _ d
   .rw[FS,N,FY,M,<-J];unfold ag;rw[Hs];rfl
  .rcases ycM i with rfl|i;show ymS;show ymC _ (FX.mp i).1
 .cases l
end
mutual
noncomputable def I.dok:I->Bool
 | .int _=>Qb|.str _=>Qb|.tup is=>I.doks is|_=>Qa
noncomputable def I.doks:!I->Bool
 | []=>Qb
 | i::is=>i.dok&&I.doks is
end
mutual
noncomputable def I.toD:I->D
 | .int i=>.int i|.str x=>.str x|.tup is=>.tup (I.toDs is)|_=>.int 0
noncomputable def I.toDs:!I->!D
 | []=>[]
 | i::is=>i.toD::I.toDs is
end
mutual
noncomputable def I.dep:I->Nat
 | .tup is=>I.deps is+1|_=>0
noncomputable def I.deps:!I->Nat
 | []=>0
 | i::is=>max i.dep (I.deps is)
end
mutual
theorem AH:∀(i:I),i.toD.depth=i.dep
 | .non=>rfl|.bl _=>rfl|.int _=>rfl|.str _=>rfl|.ls _=>rfl|.fd _ _=>rfl|.exn _ _ _=>rfl
 | .tup a=>by rw[I.toD,D.depth,I.dep,gZ a]
theorem gZ:∀(is:!I),aL (I.toDs is)=I.deps is
 | []=>rfl
 | i::is=>by rw[I.toDs,aL,I.deps,AH i,gZ is]
end
mutual
theorem sd:∀{a b:I},a.dok=Qb->b.dok=Qb->(a.toD=b.toD↔a=b)
 | .non,_,h,_=>by simp[I.dok]at h
 | .bl _,_,h,_=>by simp[I.dok]at h
 | .ls _,_,h,_=>by simp[I.dok]at h
 | .fd _ _,_,h,_=>by simp[I.dok]at h
 | .exn _ _ _,_,h,_=>by simp[I.dok]at h
 | .int x,b,_,h=>by cases b<;>simp[I.dok]at h<;>simp[I.toD]
 | .str x,b,_,h=>by cases b<;>simp[I.dok]at h<;>simp[I.toD]
 | .tup x,b,c,h=>by
  cases b with
  | tup y=>
   rw[I.dok]at h c;rw[I.toD,I.toD,D.tup.injEq,I.tup.injEq];show jk c h
  | non=>simp[I.dok]at h
  | bl _=>simp[I.dok]at h
  | ls _=>simp[I.dok]at h
  | fd _ _=>simp[I.dok]at h
  | exn _ _ _=>simp[I.dok]at h
  | int _=>simp[I.toD]
  | str _=>simp[I.toD]
theorem jk:∀{a b:!I},I.doks a=Qb->I.doks b=Qb->(I.toDs a=I.toDs b↔a=b)
 | [],b,_,_=>by cases b<;>simp[I.toDs]
 | x::d,b,c,h=>by
  cases b with
  | nil=>simp[I.toDs]
  | cons y e=>
   rw[I.doks,FO]at h c;rw[I.toDs,I.toDs,Hj.injEq,Hj.injEq,sd c.1 h.1,jk c.2 h.2]
end
section
section
variable {K:yF}{H:Hp}
mutual
theorem lI:∀{i:I} {v:V},i.dok=Qb->RpI K H i v->Rep K H i.toD v
 | .non,_,h,_=>by simp[I.dok]at h
 | .bl _,_,h,_=>by simp[I.dok]at h
 | .ls _,_,h,_=>by simp[I.dok]at h
 | .fd _ _,_,h,_=>by simp[I.dok]at h
 | .exn _ _ _,_,h,_=>by simp[I.dok]at h
 | .int _,_,_,r=>by rw[RpI]at r;rw[I.toD,Rep];show r
 | .str _,_,_,r=>by rw[RpI]at r;rw[I.toD,Rep];show r
 | .tup g,_,h,r=>by
  rw[RpI]at r;rw[I.dok]at h;have(a,d,e,f,c):=r;rw[I.toD,Rep];show{a,d,e,f,ig h c}
theorem ig:∀{is:!I} {vs:!V},I.doks is=Qb->md K H is vs->ve K H (I.toDs is) vs
 | [],_,_,r=>by rw[md]at r;rw[I.toDs,ve];show r
 | i::is,_,h,r=>by
  rw[md]at r;rw[I.doks,FO]at h;have(x,c,d,e,a):=r;rw[I.toDs,ve];show{x,c,d,lI h.1 e,ig h.2 a}
end
def ln:∀{is:!I},i.dok=Qb->I.doks is=Qb->(i.toD∈I.toDs is↔i∈is)
 | [],_,_=>by simp[I.toDs]
 | x::c,h,a=>by
  rw[I.doks,FO]at a;rw[I.toDs,Gg,Gg,sd h a.1,ln h a.2]
abbrev isI:T->↑Int
 | .im i=>(match i with|.int a=>P9 a|_=>P8)
 | _=>P8
abbrev isS:T->↑Str
 | .im i=>(match i with|.str a=>P9 a|_=>P8)
 | _=>P8
abbrev AV:T->Option !I
 | .im i=>(match i with|.tup a=>P9 a|_=>P8)
 | _=>P8
abbrev xZ:T->Option !I
 | .li a=>P9 a
 | _=>P8
def dL{t:T}{a:Int}(h:isI t*>a):t=.im (.int a):=by
 cases t with
 | im i=>cases i<;>cases h;rfl
 | _=>cases h
def rD{t:T}{a:Str}(h:isS t*>a):t=.im (.str a):=by
 cases t with
 | im i=>cases i<;>cases h;rfl
 | _=>cases h
def oU{t:T}{a:!I}(h:AV t*>a):t=.im (.tup a):=by
 cases t with
 | im i=>cases i<;>cases h;rfl
 | _=>cases h
def iZ{t:T}{a:!I}(h:xZ t*>a):t=.li a:=by
 cases t with
 | li i=>cases h;rfl
 | _=>cases h
abbrev i2(g:Int->Int->↑T) (x y:T):↑T:=match isI x with
 | some a=>(match isI y with
  | some b=>g a b
  | none=>P8)
 | none=>P8
def iD{g:Int->Int->↑T}{x y t:T}(h:i2 g x y*>t):∃a b,x=.im (.int a)/\y=.im (.int b)/\g a b*>t:=by
 unfold i2 at h;ext h a d;ext h b c;show{a,b,dL d,dL c,h}
def aT{d:Type}{c:Prop}[Decidable c]{t u : d}(h:(if c then P9 t else P8)*>u):c/\t=u:=by
 by_cases a:c;rw[if_pos a]at h;show{a,F9.inj h};rw[if_neg a]at h;cases h
abbrev Db(i:I) (y:T):↑T:=match i with
 | .int a=>(match isI y with|some b=>P9 (.im (.int (a+b)))|none=>P8)
 | .str a=>(match isS y with|some b=>if a.length+b.length<=sizeLine then P9 (.im (.str (a++b)))else P8|none=>P8)
 | .tup a=>(match AV y with|some b=>if a.length+b.length<=sizeLine then P9 (.im (.tup (a++b)))else P8|none=>P8)
 | _=>P8
private def bO(x y:T):↑T:=match x with
 | .im i=>Db i y
 | .li a=>(match xZ y with|some b=>if a.length+b.length<=sizeLine then P9 (.li (a++b))else P8|none=>P8)
 | _=>P8
def md.nil_iff(h:md K H is xs):xs=[]↔is=[]:=by
 have:=h.length;cases is<;>cases xs<;>first|(simp;done)|(cases this;done)
def vF:dD K (wm K) bO:=by
 intro H x y w v t Q r m e q;unfold bO at e;split at e
 .delta i;unfold Db at e;split at e
  .ext e b f;cases dL f;cases e;rw[aQ r,aQ m];show .inl (.inl {_,_,Xr,Xr,q _ H (.sc rfl)})
  .ext e b f;cases rD f;have(g,rfl):=aT e;rw[bc r,bc m];show .inl (.inr (.inl {_,_,Xr,Xr,g,q _ H (.sc rfl)}))
  .delta a;ext e b f;cases oU f;have(g,rfl):=aT e;have(p,o,rfl,h,c):=bQ r;have(k,j,rfl,l,d):=bQ m;by_cases u:a=[]
   .subst u;have:=c.nil_inv;subst this;show .inr (.inr {p,k,j,Xr,Xr,h,l,q _ H (.im ?_)});rw[RpI];show⟨k,j,Xr,l,d⟩
   .show .inl (.inr (.inr (.inr {p,k,o,j,Xr,Xr,h,l,λz=>u (c.nil_iff.mp z),by rw[c.length,d.length];show g,λz=>q _ H (.im ?_),λz p s=>q _ _ (.tup s (c.append d))})));have:=d.nil_iff.mp z;subst this;rw[Ge,RpI];show⟨p,o,Xr,h,c⟩
  .cases e
 .ext e b f;cases iZ f;have(g,rfl):=aT e;have(p,o,rfl,h,c):=bF r;have(k,j,rfl,l,d):=bF m;show .inr (.inl {p,k,o,j,Xr,Xr,h,l,by rw[c.length,d.length];show g,λp s=>q _ _ (.li s (c.append d))})
 .cases e
private def l0:T->T->↑T:=i2 λa b=>P9 (.im (.int (a-b)))
def vU:dD K (rI0 λi j=>.int (i-j)) l0:=by
 intro H x y g f t Q d c e q;unfold l0 at e;have(a,b,rfl,rfl,e):=iD e;cases e;rw[aQ d,aQ c];show{_,_,Xr,Xr,q _ H (.sc rfl)}
abbrev j2(i j:Int):Bool:=(decide (-(2^64)<i)&&decide (i<2^64))||(decide (-(2^64)<j)&&decide (j<2^64))
def yh{i j:Int}(h:j2 i j=Qb):Kv i j:=by
 unfold j2 at h;dsimp[Ia,FO,decide_eq_true_eq]at h;show h
abbrev DB(i:I) (b:Int):↑T:=match i with
 | .int a=>if j2 a b=Qb then P9 (.im (.int (a*b)))else P8
 | .str a=>if 1<=b/\b<=1000/\a.length<=1000 then P9 (.im (.str (oL (FU b.toNat (sL a)).flatten)))else P8
 | .tup a=>if a≠[]/\a.length<=1000/\0<=b/\b<=1000 then P9 (.im (.tup (FU b.toNat a).flatten))else P8
 | _=>P8
private def ki(x y:T):↑T:=match isI y with
 | some b=>(match x with
  | .im i=>DB i b
  | .li a=>if -(2^63)<=b/\b<2^63/\a.length*b.toNat<=sizeLine then P9 (.li (FU b.toNat a).flatten)else P8
  | _=>P8)
 | none=>P8
def md.reps{is:!I}{xs:!V}(h:md K H is xs):∀n:Nat,md K H (FU n is).flatten (FU n xs).flatten
 | 0=>.nil
 | n+1=>by
  rw[Gr,Gr,GG,GG];show h.append (h.reps n)
def vP:dD K (wr K) ki:=by
 intro H x y o m t Q i d e q;unfold ki at e;ext e b l;cases dL l;split at e
 .unfold DB at e;split at e
  .have(h,rfl):=aT e;rw[aQ i,aQ d];show .inl (.inl {_,_,Xr,Xr,yh h,q _ H (.sc rfl)})
  .have(h,rfl):=aT e;rw[bc i,aQ d];show .inl (.inr (.inl {_,_,Xr,Xr,h.1,h.2.1,h.2.2,q _ H (.sc rfl)}))
  .delta a;have(h,rfl):=aT e;have(p,f,rfl,g,c):=bQ i;rw[aQ d];show .inl (.inr (.inr (.inr {p,b,f,Xr,Xr,g,λz=>h.1 (c.nil_iff.mp z),by rw[c.length];show h.2.1,h.2.2.1,h.2.2.2,λz=>q _ H (.im ?_),λz p j=>q _ _ (.tup j (c.reps _))})));subst z;have k:(FU (1:Int).toNat a).flatten=a:=by simp
   rw[k,RpI];show⟨p,f,Xr,g,c⟩
  .cases e
 .have(h,rfl):=aT e;have(p,f,rfl,g,c):=bF i;rw[aQ d];show .inr {p,b,f,Xr,Xr,g,h.1,h.2.1,by rw[c.length];show h.2.2,λp j=>q _ _ (.li j (c.reps _))}
 .cases e
private def k6:T->T->↑T:=i2 λa b=>if 0<b/\b<2^64 then P9 (.im (.int (a / b)))else P8
def tD:dD K (rI pJ λi j=>.int (i / j)) k6:=by
 intro H x y g f t Q d c e q;unfold k6 at e;have(a,b,rfl,rfl,e):=iD e;have(h,rfl):=aT e;rw[aQ d,aQ c];show{_,_,Xr,Xr,h,q _ H (.sc rfl)}
private def jI:T->T->↑T:=i2 λa b=>if 0<b then P9 (.im (.int (a % b)))else P8
def vO:dD K (rI (λ_ j=>0<j) λi j=>.int (i % j)) jI:=by
 intro H x y g f t Q d c e q;unfold jI at e;have(a,b,rfl,rfl,e):=iD e;have(h,rfl):=aT e;rw[aQ d,aQ c];show{_,_,Xr,Xr,h,q _ H (.sc rfl)}
private def tu:T->T->↑T:=i2 λa b=>if 0<=b/\b<=1000000/\a.natAbs<2^64 then P9 (.im (.int (a^b.toNat)))else P8
def vT:dD K (rI Av λi j=>.int (i^j.toNat)) tu:=by
 intro H x y g f t Q d c e q;unfold tu at e;have(a,b,rfl,rfl,e):=iD e;have(h,rfl):=aT e;rw[aQ d,aQ c];show{_,_,Xr,Xr,h,q _ H (.sc rfl)}
private def sY:T->↑T
 | .im (.int a)=>P9 (.im (.int (-a)))
 | _=>P8
def vQ:re K (rU λi=>.int (-i)) sY:=by
 intro H x c t Q a e q;unfold sY at e;split at e;cases e;rw[aQ a];show{_,Xr,q _ H (.sc rfl)};cases e
private def bY(p:Int->Int->Bool):T->T->↑T:=i2 λa b=>P9 (.im (.bl (p a b)))
def jc:dD K (rI0 λi j=>.bl (p i j)) (bY p):=by
 intro H x y g f t Q d c e q;unfold bY at e;have(a,b,rfl,rfl,e):=iD e;cases e;rw[aQ d,aQ c];show{_,_,Xr,Xr,q _ H (.sc rfl)}
abbrev An(a b:I):Bool:=match a.sc with
 | some v=>(match b.sc with
  | some w=>wR v w
  | none=>Qa)
 | none=>Qa
abbrev ofV:V->I
 | .bl b=>.bl b
 | .int i=>.int i
 | .str x=>.str x
 | _=>.non
def zY(h:a.sc*>v):ofV v=a:=by cases a<;>cases h<;>rfl
abbrev eqI:I->I->↑Bool
 | .tup a,.tup b=>if I.doks a=Qb/\I.doks b=Qb/\I.deps a<=50 then P9 (decide (a=b))else P8
 | a,b=>if An a b=Qb then P9 (decide (a=b))else P8
abbrev eqL(a b:!I):↑Bool:=if I.doks a=Qb/\I.doks b=Qb/\I.deps a<=50 then P9 (decide (a=b))else P8
abbrev lsI:I->Option !I
 | .ls a=>P9 a
 | _=>P8
abbrev eqB:T->T->↑Bool
 | .im a,.im b=>eqI a b
 | .li a,.li b=>eqL a b
 | .im a,.li b=>(lsI a).bind λa=>eqL a b
 | .li a,.im b=>(lsI b).bind λb=>eqL a b
 | _,_=>P8
def qK{i:I}{is:!I}(e:lsI i*>is)(r:Rpx K H (.im i) v):∃p xs,v=.ref p/\SqL K H p xs/\md K H is xs:=by
 unfold lsI at e;ext e;cases e;have h:=dI r;rw[RpI]at h;have(a,o,xs,d,f,c):=h;show{a,xs,d,.inl (.inr ⟨o,f⟩),c}
private def eqT(x y:T):↑T:=(eqB x y).map λb=>.im (.bl b)
private def neT(x y:T):↑T:=(eqB x y).map λb=>.im (.bl (~~~b))
def AJ(h:eqI a b*>c):(∃x y,a=.tup x/\b=.tup y/\I.doks x=Qb/\I.doks y=Qb/\I.deps x<=50/\c=decide (x=y)) \/ ∃v w,a.sc*>v/\b.sc*>w/\wR v w=Qb/\c=decide (v=w):=by
 unfold eqI at h;split at h
 .delta x y;split at h;delta d;cases h;show .inl ⟨x,y,Xr,Xr,d.1,d.2.1,d.2.2,Xr⟩;cases h
 .ext h d;cases h;right;unfold An at d;ext d v f;ext d w e;show{v,w,f,e,d,?_};have:(a=b)↔(v=w):={λz=>F9.inj (f.symm.trans ((congrArg I.sc z).trans e)),λz=>by rw[<-zY f,<-zY e,z]};show decide_eq_decide.mpr this
def pT{a c:!I}{p q:Addr}{xs d:!V}{b:Bool}(e:eqL a c*>b)(k:SqL K H p xs)(l:md K H a xs)(g1:SqL K H q d)(m:md K H c d):∃j g xs d f i,V.ref p=.ref j/\V.ref q=.ref g/\SqL K H j xs/\SqL K H g d/\ve K H f xs/\ve K H i d/\aL f<=50/\(b=Qb↔f=i):=by
 unfold eqL at e;ext e h;cases e;show{p,q,xs,d,_,_,Xr,Xr,k,g1,ig h.1 l,ig h.2.1 m,by rw[gZ];show h.2.2,by rw[decide_eq_true_eq,jk h.1 h.2.1]}
def uC{x y:V}{A u:T}{b:Bool}{P:V->Prop}(j:Rpx K H A x)(h:Rpx K H u y)(e:eqB A u*>b) :
  (wR x y=Qb/\b=decide (x=y))\/(∃g k,Rep K H (.tup g) x/\Rep K H (.tup k) y/\aL g<=50/\(b=Qb↔g=k))\/(∃p q xs m g k,x=.ref p/\y=.ref q/\SqL K H p xs/\SqL K H q m/\ve K H g xs/\ve K H k m/\aL g<=50/\(b=Qb↔g=k)):=by
 unfold eqB at e;split at e
 .delta a c;rcases AJ e with⟨z,t,rfl,rfl,d,f,r,rfl⟩|⟨v,w,d,f,r,rfl⟩
  .show .inr (.inl {I.toDs z,I.toDs t,?_,?_,by rw[gZ];show r,?_})
   .have:=lI (i:=.tup z) (by rw[I.dok];show d) (dI j);rwa [I.toD]at this
   .have:=lI (i:=.tup t) (by rw[I.dok];show f) (dI h);rwa [I.toD]at this
   .rw[decide_eq_true_eq,jk d f]
  .rw[Am d (dI j),Am f (dI h)];show .inl ⟨r,Xr⟩
 .have(p,xs,rfl,d,f):=bF j;have(B,m,rfl,o,l):=bF h;show .inr (.inr (pT e (aB d) f (aB o) l))
 .have(a,s,e):=Iz.mp e;have(p,xs,rfl,d,f):=qK s j;have(B,m,rfl,o,l):=bF h;show .inr (.inr (pT e d f (aB o) l))
 .have(a,s,e):=Iz.mp e;have(p,xs,rfl,d,f):=bF j;have(B,m,rfl,o,l):=qK s h;show .inr (.inr (pT e (aB d) f o l))
 .cases e
def yE:dD K (Cc K) eqT:=by
 intro H x y o z t Q w u e q;unfold eqT at e;cases h:eqB o z with
 | none=>rw[h]at e;cases e
 | some b=>
  rw[h]at e;cases e;rcases uC (P:=λ_=>True) w u h with⟨a,rfl⟩|⟨f,j,a,k,i,d⟩|⟨p,s,m,r,f,j,a,k,i,d,B,v,l,A⟩;show .inl {a,q _ H (.sc rfl)}
  .show .inr (.inl {f,j,a,k,i,λc g=>?_});have:c=b:=by rw[GI,g,d]
   subst this;show q _ H (.sc rfl)
  .show .inr (.inr {p,s,m,r,f,j,a,k,i,d,B,v,l,λc g=>?_});have:c=b:=by rw[GI,g,A]
   subst this;show q _ H (.sc rfl)
def yH:dD K (Cg K) neT:=by
 intro H x y m z t Q w s e q;unfold neT at e;cases h:eqB m z with
 | none=>rw[h]at e;cases e
 | some b=>
  rw[h]at e;cases e;rcases uC (P:=λ_=>True) w s h with⟨a,rfl⟩|⟨d,g,a,i,f,j⟩|⟨p,r,l,o,d,g,a,i,f,j,A,v,k,B⟩;show .inl {a,q _ H (.sc rfl)}
  .show .inr (.inl {d,g,a,i,f,λc u=>?_});have:c =  ~~~b:=by cases b<;>cases c<;>simp_all
   subst this;show q _ H (.sc rfl)
  .show .inr (.inr {p,r,l,o,d,g,a,i,f,j,A,v,k,λc u=>?_});have:c =  ~~~b:=by cases b<;>cases c<;>simp_all
   subst this;show q _ H (.sc rfl)
abbrev occ(i j:Str):Bool:= ~~~(K0 j i 0 j.length 1).isEmpty
abbrev inI(i:I) (y:T):↑Bool:=match y with
 | .im j=>(match j with
  | .str b=>(match i with
   | .str a=>P9 (occ a b)
   | _=>P8)
  | .tup c=>if i.dok=Qb/\I.doks c=Qb/\I.deps c<=50 then P9 (decide (i∈c))else P8
  | _=>P8)
 | .li c=>if i.dok=Qb/\I.doks c=Qb/\I.deps c<=50 then P9 (decide (i∈c))else P8
 | _=>P8
abbrev inB(x y:T):↑Bool:=match x with
 | .im i=>inI i y
 | _=>P8
private def inT(x y:T):↑T:=(inB x y).map λb=>.im (.bl b)
private def qj(x y:T):↑T:=(inB x y).map λb=>.im (.bl (~~~b))
def uN{x y:V}{m l:T}{b:Bool}(f:Rpx K H m x)(a:Rpx K H l y)(e:inB m l*>b) :
  (∃i j,x=.str i/\y=.str j/\b=occ i j)\/(∃p xs d k,y=.ref p/\(SqL K H p xs\/SqT K H p xs)/\Rep K H d x/\ve K H k xs/\aL k<=50/\(b=Qb↔d∈k)):=by
 unfold inB at e;ext e;unfold inI at e;split at e
 .split at e
  .split at e;cases e;show .inl {_,_,bc f,bc a,Xr};cases e
  .have(h,rfl):=aT e;have(p,xs,rfl,c,g):=bQ a;show .inr {p,xs,_,_,Xr,.inr c,lI h.1 (dI f),ig h.2.1 g,by rw[gZ];show h.2.2,by rw[decide_eq_true_eq,ln h.1 h.2.1]}
  .cases e
 .have(h,rfl):=aT e;have(p,xs,rfl,c,g):=bF a;show .inr {p,xs,_,_,Xr,.inl (aB c),lI h.1 (dI f),ig h.2.1 g,by rw[gZ];show h.2.2,by rw[decide_eq_true_eq,ln h.1 h.2.1]}
 .cases e
def yG:dD K (Cd K) inT:=by
 intro H x y v u t Q r a e q;unfold inT at e;cases h:inB v u with
 | none=>rw[h]at e;cases e
 | some b=>
  rw[h]at e;cases e;rcases uN r a h with⟨i,j,rfl,rfl,rfl⟩|⟨p,l,d,z,o,s,g,m,w,k⟩;show .inl {i,j,Xr,Xr,q _ H (.sc rfl)}
  .show .inr (.inr {p,l,d,z,o,s,g,m,w,λc f=>?_});have:c=b:=by rw[GI,f,k];simp
   subst this;show q _ H (.sc rfl)
def vR:dD K (n9 K) qj:=by
 intro H x y s r t Q m a e q;unfold qj at e;cases h:inB s r with
 | none=>rw[h]at e;cases e
 | some b=>
  rw[h]at e;cases e;rcases uN m a h with⟨i,j,rfl,rfl,rfl⟩|⟨p,g,d,v,l,o,f,k,u,z⟩;show .inl {i,j,Xr,Xr,q _ H (.sc rfl)}
  .show .inr (.inr {p,g,d,v,l,o,f,k,u,λc w=>?_});have:c =  ~~~b:=by cases b<;>cases c<;>simp_all
   subst this;show q _ H (.sc rfl)
abbrev l1{a:Type} (g:T->↑a) (ts:!T):↑a:=match ts with
 | []=>P8
 | t::r=>(match r with
  | []=>g t
  | _::_=>P8)
def dn{a:Type}{g:T->↑a}{ts:!T}{u : a}(h:l1 g ts*>u):∃t,ts=[t]/\g t*>u:=by
 cases ts with
 | nil=>cases h
 | cons t r=>cases r with
  | nil=>show⟨t,Xr,h⟩
  | cons _ _=>cases h
abbrev l2{a:Type} (g:T->T->↑a) (ts:!T):↑a:=match ts with
 | []=>P8
 | t::r=>l1 (g t) r
def uV{a:Type}{g:T->T->↑a}{ts:!T}{u : a}(h:l2 g ts*>u):∃t s,ts=[t,s]/\g t s*>u:=by
 cases ts with
 | nil=>cases h
 | cons t r=>
  have(s,rfl,e):=dn (show l1 (g t) r*>u from h);show⟨t,s,Xr,e⟩
abbrev Dy(i:I):↑T:=match i with
 | .str x=>if x.length<=sizeLine then P9 (.im (.int x.length))else P8
 | .tup a=>P9 (.im (.int a.length))
 | .ls a=>P9 (.im (.int a.length))
 | _=>P8
abbrev Dx(t:T):↑T:=match t with
 | .im i=>Dy i
 | .li c=>P9 (.im (.int c.length))
 | .lst a=>P9 (.im (.int a.length))
 | .tup a=>P9 (.im (.int a.length))
 | _=>P8
private def cB:!T->↑T:=l1 Dx
def jg(h:Ki K H [t] vs):∃v,vs=[v]/\Rpx K H t v:=by
 have(v,r,rfl,c,a):=h;rw[Ki]at a;subst a;show⟨v,Xr,c⟩
def EG(h:Ki K H [t,u] vs):∃v w,vs=[v,w]/\Rpx K H t v/\Rpx K H u w:=by
 have(v,r,rfl,c,d):=h;have(w,rfl,a):=jg d;show⟨v,w,Xr,c,a⟩
def kK(h:Rpx K H (.tup ts) v):∃a xs F,v=.ref a/\SqT K H a xs/\Rps K H ts xs F:=by
 obtain⟨F,h⟩:=h;rw[Rp]at h;obtain⟨a,xs,d,e,c⟩:=h;show⟨a,xs,F,d,e,c⟩
def vK:gi K (wp K) cB:=by
 intro H vs i t Q r e q;unfold cB at e;have g:=dn e;clear e;have(x,rfl,e):=g;have(v,rfl,f):=jg r;unfold Dx at e;split at e
 .unfold Dy at e;split at e
  .have(h,rfl):=aT e;rw[bc f];show .inr {_,Xr,h,q _ H (.sc rfl)}
  .cases e;have(p,a,rfl,c,d):=bQ f;show .inl {p,a,Xr,.inr c,q _ H (.sc (by rw[d.length];rfl))}
  .cases e;have(p,a,rfl,c,d):=qK rfl f;show .inl {p,a,Xr,.inl c,q _ H (.sc (by rw[d.length];rfl))}
  .cases e
 .cases e;have(p,a,rfl,c,d):=bF f;show .inl {p,a,Xr,.inl (aB c),q _ H (.sc (by rw[d.length];rfl))}
 .cases e;have(p,a,F,rfl,c,d):=fX f;show .inl {p,a,Xr,.inl (aB c),q _ H (.sc (by rw[d.length];rfl))}
 .cases e;have(p,a,F,rfl,c,d):=kK f;show .inl {p,a,Xr,.inr c,q _ H (.sc (by rw[d.length];rfl))}
 .cases e
private def sV:!T->↑T:=l2 (i2 λa b=>P9 (.im (.int (if b<a then b else a))))
def vN:gi K (λxs H Q=>∃i j,xs=[.int i,.int j]/\Q (.int (if j<i then j else i)) H) sV:=by
 intro H vs g t Q r e q;unfold sV at e;have d:=uV e;clear e;have(x,y,rfl,e):=d;have(a,b,rfl,rfl,e):=iD e;cases e;have(v,w,rfl,f,c):=EG r;rw[aQ f,aQ c];show{_,_,Xr,q _ H (.sc rfl)}
private def u7:!T->↑T:=l2 (i2 λa b=>P9 (.im (.int (if b>a then b else a))))
def vM:gi K (λxs H Q=>∃i j,xs=[.int i,.int j]/\Q (.int (if j>i then j else i)) H) u7:=by
 intro H vs g t Q r e q;unfold u7 at e;have d:=uV e;clear e;have(x,y,rfl,e):=d;have(a,b,rfl,rfl,e):=iD e;cases e;have(v,w,rfl,f,c):=EG r;rw[aQ f,aQ c];show{_,_,Xr,q _ H (.sc rfl)}
abbrev Dt(t:T):↑T:=match t with
 | .im i=>(match i with
  | .int a=>P9 (.im (.int a))
  | .bl b=>P9 (.im (.int (if b then 1 else 0)))
  | _=>P8)
 | _=>P8
private def sK:!T->↑T:=l1 Dt
def vH:gi K (λxs H Q=>(∃i,xs=[.int i]/\Q (.int i) H) \/ ∃k,xs=[.bl k]/\Q (.int (if k then 1 else 0)) H) sK:=by
 intro H vs d t Q r e q;unfold sK at e;have c:=dn e;clear e;have(x,rfl,e):=c;have(v,rfl,a):=jg r;unfold Dt at e;ext e;split at e
 .cases e;rw[aQ a];show .inl {_,Xr,q _ H (.sc rfl)}
 .cases e;rw[gn a];show .inr {_,Xr,q _ H (.sc rfl)}
 .cases e
abbrev zu(g:!I->T) (t:T):↑T:=match t with
 | .im i=>(match i with
  | .tup a=>P9 (g a)
  | .ls a=>P9 (g a)
  | _=>P8)
 | .li a=>P9 (g a)
 | _=>P8
private def l3:!T->↑T:=l1 (zu λa=>.im (.tup a))
def vV:gi K (wv K) l3:=by
 intro H vs i t Q r e q;unfold l3 at e;have h:=dn e;clear e;have(x,rfl,e):=h;have(v,rfl,d):=jg r;unfold zu at e;split at e
 .split at e
  .cases e;have(p,a,rfl,c,f):=bQ d;show{p,a,Xr,.inr {c,q _ H (.im (dI d))}}
  .cases e;have(p,a,rfl,c,f):=j6 d;show{p,a,Xr,.inl {aB c,λl g=>q _ _ (.tup g f)}}
  .cases e
 .cases e;have(p,a,rfl,c,f):=bF d;show{p,a,Xr,.inl {aB c,λl g=>q _ _ (.tup g f)}}
 .cases e
private def uZ:!T->↑T:=l1 (zu λa=>.li a)
def vL:gi K (wq K) uZ:=by
 intro H vs i t Q r e q;unfold uZ at e;have h:=dn e;clear e;have(x,rfl,e):=h;have(v,rfl,g):=jg r;unfold zu at e;split at e
 .split at e
  .cases e;have(p,c,rfl,d,f):=bQ g;show{p,c,Xr,.inr d,λl a=>q _ _ (.li a f)}
  .cases e;have(p,c,rfl,d,f):=j6 g;show{p,c,Xr,.inl (aB d),λl a=>q _ _ (.li a f)}
  .cases e
 .cases e;have(p,c,rfl,d,f):=bF g;show{p,c,Xr,.inl (aB d),λl a=>q _ _ (.li a f)}
 .cases e
abbrev bls:!I->Option !Bool
 | []=>P9 []
 | .bl b::a=>(bls a).map (b :: ·)
 | _=>P8
def AC:∀{bs:!Bool},bls is*>bs->md K H is xs->xs=bs.map V.bl:=by
 induction is generalizing xs with
 | nil=>intro bs h r;cases h;show r.nil_inv
 | cons i is c=>
  intro bs h r;cases i with
  | bl b=>
   dsimp[bls]at h;cases e:bls is with
   | none=>rw[e]at h;cases h
   | some f=>
    rw[e]at h;cases h;have(x,g,rfl,a,d):=r.cons_inv;rw[RpI]at a;rw[a,c e d];rfl
  | _=>simp[bls]at h
abbrev j9:!T->↑T
 | [.li c]=>(bls c).map λa=>.im (.bl (a.all id))
 | _=>P8
def vG:gi K (Er K) j9:=by
 intro H vs j t Q r e q;unfold j9 at e;ext e g;cases h:bls g with
 | none=>rw[h]at e;cases e
 | some c=>
  rw[h]at e;cases e;have(v,rfl,d):=jg r;have(p,i,rfl,a,f):=bF d;have:=AC h f;subst this;show{p,c,Xr,aB a,q _ H (.sc rfl)}
abbrev pE:!I->Option !Str
 | []=>P9 []
 | .str b::a=>(pE a).map (b :: ·)
 | _=>P8
def zy:∀{bs:!Str},pE is*>bs->md K H is xs->xs=bs.map V.str:=by
 induction is generalizing xs with
 | nil=>intro bs h r;cases h;show r.nil_inv
 | cons i is c=>
  intro bs h r;cases i with
  | str b=>
   dsimp[pE]at h;cases e:pE is with
   | none=>rw[e]at h;cases h
   | some f=>
    rw[e]at h;cases h;have(x,g,rfl,a,d):=r.cons_inv;rw[RpI]at a;rw[a,c e d];rfl
  | _=>simp[pE]at h
abbrev dE:T->!T->↑T
 | .im (.str z),[.li c]=>match pE c with
  | some a=>if(a.map (·.length)).sum+a.length*z.length<=16777216 then P9 (.im (.str (Lj z a)))else P8
  | none=>P8
 | _,_=>P8
def tG:kP K "str" (Ah K) dE:=by
 intro H x vs j k t Q d r e q;unfold dE at e;ext e z l;ext e h a;ext e;cases e;have(v,rfl,f):=jg r;have(p,i,rfl,c,g):=bF f;have:=zy a g;subst this;rw[bc d];show{z,p,h,Xr,Xr,aB c,by assumption,q _ H (.sc rfl)}
end
end
section
variable {Γ:Gm}{H H':Hp}{X:!En}{e:En}{O:Rho}{Z:St}{E:!En}{v:V}{t:T}{K:yF}
def Sim.partN(S:Sim Γ H O Z E)(C:JX H H'){s:T}(Y:e∈E){i:↑Nat}{p:Option !Ac}(ho:e.r.k=.vw i p){P:V->Prop}(J:∀F,Rp Γ.K H e.r.t e.v F->∃w G,P w/\Rp Γ.K H' s w G/\∀a∈G,a∈F\/H a=P8):∃w,P w/\Sim Γ H' O Z ({P8,w,{.vw i P8,s}}::E):=by
 have(L,g,B):=S.sl;have m:e∈L.map (·.e):=by rw[B];show yaL _ Y
 have(h,A,rfl):=FT.mp m;have(w,G,N,U,y):=J h.F (g.rp h A);have c:∀a,H a=P8->a∉L.flatMap Hd.own:=λa d z=>by
  have(o,e,_):=(g.ad a z).1;rw[d]at e;cases e
 have u:GW Γ H' L:=by
  have:=g.step (hs:=[]) (L:=L) (H':=H') ∅ ∅ (C.offM _) ∅ (key:=P8) (v:=.non) (r:={.ow,.im .non}) (F:=[]) GH ∅ (iy (by rw[RpI])) (.inl {Xr,by simp}) (λj f=>by cases f);show this.drop rfl
 show{w,N,{{_,u.push (v:=w) (r:={.vw i P8,s}) (F:=G) U ?_ (.inl rfl),by rw[FS,B];rfl},S.al,S.len,λx l j f=>?_}}
 .have k:=u.kd h A;unfold vx at k|-;rw[ho]at k;cases i with
  | none=>show λa d=>(y a d).elim (k a) (c a)
  | some j=>
   have(x,x1,Q,x3,M,x5):=k;show{x,x1,Q,x3,λa d=>(y a d).elim (M a) (λz=>.inr (c a z)),λq hq=>by cases hq}
 .rcases ycM l with rfl|l;cases f;show S.hi x l j f
def wP:∀{ts:!T} {xs:!V} {F:!Addr},Rps K H ts xs F->∃hs:!Hd,hs.map (·.e)=aI xs ts/\hs.flatMap (·.F)=F/\∀h∈hs,Rp K H h.e.r.t h.e.v h.F/\h.e.r.k=.ow/\h.e.key=P8/\∀a∈h.F,a∈F
 | [],xs,F,r=>by
  have(rfl,rfl):=r.nil_inv;show{[],Xr,Xr,by simp}
 | t::ts,xs,F,r=>by
  have(y,u,q,s,rfl,o,j,rfl):=r.cons_inv;have(hs,m,p,i):=wP j;show{{{P8,y,{.ow,t}},q}::hs,by rw[FS,m];rfl,by rw[FW,p],λh f=>?_};rcases ycM f with rfl|f;show{o,Xr,Xr,λa l=>yaL _ l}
  .have(a,b,c,d):=i h f;show{a,b,c,λx g=>yaR _ (d x g)}
def Sim.split(S:Sim Γ H O Z ({P8,v,{.ow,.tup ts}}::E)):∃a xs,v=.ref a/\SqT Γ.K H a xs/\xs.length=ts.length/\Sim Γ H O Z (aI xs ts++E):=by
 have(L,g,h):=S.sl;rw[F8]at h;have(x,s,rfl,i,h2):=ax h;have w:=g.rp x ymS;rw[i,Rp]at w;have(a,xs,Y,hq,l):=w;have q:=g.kd x ymS;unfold vx at q;rw[i]at q;have M:x.own=x.F:=by unfold Hd.own;rw[i];rfl
 have(p,N,P,f):=wP l;have U:∀h∈p,h.e.r.k.isOw=Qb:=λh B=>by rw[(f h B).2.1];rfl
 have d:(p++s).flatMap Hd.own=(x::s).flatMap Hd.own:=by rw[F3,FW,gG U,P,M]
 show{a,xs,Y,hq,l.length,{{p++s,{?_,?_,λy c=>?_,λy c=>?_,?_,g.fr,g.iol},?_},S.al,S.len,λy c j o=>?_}};rw[d];show g.nd;rw[d];show g.ad
 .rcases yaM c with c|c;show(f y c).1;show g.rp y (ymC _ c)
 .rcases yaM c with c|c
  .unfold vx;rw[(f y c).2.1];show λb hb=>q b ((f y c).2.2.2 b hb)
  .have k:=g.kd y (ymC _ c);unfold vx at k|-;split at k;show k;show k;rw[d];show k
   .have(z,u,m,G,J,C):=k;rcases ycM u with rfl|u;rw[i]at m;cases m;show{z,yaR _ u,m,G,by rw[d];show J,C}
 .have A:=g.ks;rw[Gc,i]at A;rw[Hg,List.filterMap_eq_nil_iff.mpr λy c=>(f y c).2.2.1];show A
 .rw[FY,N,h2,F5]
 .rcases yaM c with c|c
  .have:∀{xs:!V} {ts:!T},y∈aI xs ts->y.key=P8:=by
    intro xs
    induction xs with
    | nil=>intro ts h;cases ts<;>cases h
    | cons x xs Q=>
     intro ts h;cases ts with
     | nil=>cases h
     | cons t ts=>
      rcases ycM h with rfl|h;rfl;show Q h
   rw[this c]at o;cases o
  .show S.hi y (ymC _ c) j o
abbrev partV(a:↑Nat):T->R
 | .im i=>{.ow,.im i}
 | t=>{.vw a P8,t}
abbrev parts:R->Option !R
 | ⟨_,.im (.tup d)⟩=>P9 (d.map λi=>{.ow,.im i})
 | ⟨.ow,.tup a⟩=>P9 (a.map λt=>{.ow,t})
 | ⟨.vw c _,.tup a⟩=>P9 (a.map (partV c))
 | _=>P8
def nc:∀{xs:!V} {ts:!T},aI xs ts=ens xs (ts.map λt=>{.ow,t})
 | [],ts=>by cases ts<;>rfl
 | x::xs,[]=>rfl
 | x::xs,t::ts=>by rw[aI,FS,ens,nc]
def Sim.imms:∀{is:!I} {xs:!V} {E:!En},Sim Γ H O Z E->md Γ.K H is xs->Sim Γ H O Z (ens xs (is.map λi=>{.ow,.im i})++E)
 | [],xs,E,S,r=>by obtain rfl:=r.nil_inv;show S
 | i::is,xs,E,S,r=>by
  have(x,d,rfl,a,c):=r.cons_inv;rw[FS,ens,F8];show(Sim.imms S c).imm a
def Sim.parts(S:Sim Γ H O Z (⟨P8,v,r⟩::E))(h:L2.parts r*>rs):∃a xs,v=.ref a/\SqT Γ.K H a xs/\xs.length=rs.length/\Sim Γ H O Z (ens xs rs++E):=by
 unfold L2.parts at h;split at h
 .delta k is;cases h;have(F,r):=S.rd ymS;have(a,xs,e,o,N):=bQ ⟨F,r⟩;show{a,xs,e,o,by rw[N.length,FM],(S.drop rfl).imms N}
 .delta f;cases h;have(a,xs,e,o,hl,S2):=S.split;rw[nc]at S2;show{a,xs,e,o,by rw[hl,FM],S2}
 .delta s p f;cases h;have(F,r):=S.rd ymS;have(a,xs,G,e,o,N):=kK ⟨F,r⟩;have(L,g,hL):=S.sl;rw[F8]at hL;have(x,u,rfl,Q,h2):=ax hL;have rp:=g.rp x ymS;rw[Q,Rp]at rp;have(a',l,ev,U,B):=rp;have S3:Sim Γ H O Z (ens l (f.map (partV s))++E):=by
   have go:∀(f:!T) (xs:!V) (G:!Addr),Rps Γ.K H f xs G->(∀a∈G,a∈x.F)->∃c,GW Γ H (c++x::u)/\c.map (·.e)=ens xs (f.map (partV s))/\∀h∈c,h.e.key=P8:=by
    intro f
    induction f with
    | nil=>intro xs G r _;have(rfl,rfl):=r.nil_inv;show{[],g,Xr,by simp}
    | cons t f ih=>
     intro xs G r P;have(y,r',F1,F2,rfl,r1,r2,rfl):=r.cons_inv;have(c,A,J,M):=ih r' F2 r2 λa d=>P a (yaR _ d);have C:=A.kd x (yaR _ ymS);unfold vx at C;rw[Q]at C;have key:∃h:Hd,GW Γ H (h::(c++x::u))/\h.e={P8,y,partV s t}:=by
      have vw:GW Γ H ({{P8,y,{.vw s P8,t}},F1}::(c++x::u)):=by
       show A.push (v:=y) (r:={.vw s P8,t}) (F:=F1) r1 ?_ (.inl rfl);unfold vx;cases s with
       | none=>show λa d=>C a (P a (yaL _ d))
       | some j=>
        have(z,z1,z2,z3,z4,z5):=C;show{z,z1,z2,z3,λa d=>z4 a (P a (yaL _ d)),λq o=>by cases o}
      cases t with
      | im i=>show{_,A.push (v:=y) (r:={.ow,.im i}) (F:=[]) (iy (bo r1).1) (λa d=>by cases d) (.inr rfl),Xr}
      | _=>show{_,vw,Xr}
     have(h,gh,eh):=key;show⟨h::c,gh,by rw[FS,eh,J];rfl,λz w=>?_⟩;rcases ycM w with rfl|w;rw[eh];show M z w
   have(c,A,J,M):=go f l x.F B λa d=>d;have g2:GW Γ H (c++u):=by
    have p:(c++x::u).Perm (x::(c++u)):=Gh;show(A.perm p).drop (by rw[Q])
   show{{_,g2,by rw[FY,J,h2,F5]},S.al,S.len,λy m j Y=>?_};rcases yaM m with m|m
   .rw[<-J]at m;have(z,w,rfl):=FT.mp m;rw[M z w]at Y;cases Y
   .show S.hi y (ymC _ m) j Y
  show{a',l,ev,U,by rw[B.length,FM],S3}
 .cases h
private def mGNil:MGs:={λa O=>match a with
 | []=>P9 O
 | _=>P8,[]}
private def aC(g:MG)(c:MGs):MGs:={λa O=>match a with
 | r::a=>if a.all (aw g.mu)=Qb then(match g.run r O with
  | some d=>c.run a d
  | none=>P8)else P8
 | []=>P8,g.mu++c.mu}
private def cc(a:MGs):MG:={λr O=>match parts r with
 | some c=>a.run c O
 | none=>P8,a.mu}
def wD:oI K AQ mGNil:=by unhygienic
 intro Γ H O Z E Q vs d f g a c S q;cases d with
 | nil=>
  cases a;have:vs=[]:=G3.mp c;subst this;show{Xr,q Z H (by rw[show mGNil.mu=[]from rfl,bW];show S)}
 | cons _ _=>cases a
def tU(l:j8 K g m)(u:oI K gs ms):oI K (uH g gs) (aC m ms):=by unhygienic
 intro Γ H O Z E Q vs c j i a d S q;cases c with
 | nil=>cases a
 | cons r c=>
  cases vs with
  | nil=>cases d
  | cons v vs=>
   dsimp[aC]at a q;ext a y;ext a h o;show{v,vs,Xr,?_};rw[ens,F8]at S;show l Γ H O Z _ _ v r h i o S λp w f=>?_;rw[aE,jA y]at f;show u Γ w h p _ _ vs c j i a (by exists d) f λx s k=>q x s (by rw[<-ae];show k)
def wE(h:oI K gs ms)(m:∀rs O d,ms.run rs O*>d->rs.length=n):j8 K (xT K n gs) (cc ms):=by
 intro Γ H O Z E Q v r d i c S q;dsimp[cc]at c q;ext c rs l;have(a,g,e,j,f,k):=S.parts l;rw[i]at j;show{a,g,e,j,by rw[f];show m _ _ _ c,h Γ H O Z _ _ g rs d i c f k q}
abbrev consL(mv:!Nat):!R->Rho->↑(!T×Rho)
 | [],O=>P9 ([],O)
 | ⟨.ow,t⟩::a,O=>match consL mv a O with
  | some (d,c)=>P9 (t::d,c)
  | none=>P8
 | ⟨.vw (P9 i) (P9 []),t⟩::a,O=>if(mv.contains i&&a.all (aw [i]))=Qb then(match O[i]? with
  | some (⇑_)=>(match consL mv a ((am [i] O).set i P8)with
   | some (d,c)=>P9 (t::d,c)
   | none=>P8)
  | _=>P8)else P8
 | _,_=>P8
def Sim.consL:∀{rs:!R} {vs:!V} {ts:!T} {O g:Rho} {A E:!En},Sim Γ H O Z (A++(ens vs rs++E))->vs.length=rs.length->L2.consL mv rs O*>(ts,g)->(∀e∈A,e.r.k=.ow/\e.key=P8)->vs.length=ts.length/\Sim Γ H g Z (A++(aI vs ts++ag mv E))
 | [],[],ts,O,g,A,E,S,_,h,f=>by
  cases h;show{Xr,?_};have:=S.weak mv;rw[aE]at this;have q:ag mv A=A:=G8.mpr λe c=>by unfold az;rw[(f e c).1];rfl
  rw[q]at this;show this
 | r::rs,v::vs,ts,O,g,A,E,S,x,h,f=>by
  rw[ens,F8]at S;have(k,t):=r;cases k with
  | ow=>
   dsimp[L2.consL]at h;ext h s B m;cases h;have(o,l):=Sim.consL (rs:=rs) (vs:=vs) (A:=A++[{P8,v,{.ow,t}}]) (E:=E) (by exists S) (by exists x) m (λe c=>by
    rcases yaM c with c|c;show f e c;rw[ysM c];show⟨Xr,Xr⟩)
   show{by simp[o],by rw[aI];simpa using l}
  | io n=>cases h
  | vw a b=>
   cases a with
   | none=>cases h
   | some i=>
    cases b with
    | none=>cases h
    | some p=>
     cases p with
     | cons _ _=>cases h
     | nil=>
      dsimp[L2.consL]at h;ext h u;rw[FO]at u;ext h L o;ext h s B m;cases h;have J:Sim Γ H O Z ({P8,v,{.vw (P9 i) (P9 []),t}}::(A++(ens vs rs++E))):=S.perm Gh;have l:=J.move o;have q:ag [i] A=A:=G8.mpr λe c=>by unfold az;rw[(f e c).1];rfl
      rw[aE,q,aE,jA u.2]at l;have(G,w):=Sim.consL (rs:=rs) (vs:=vs) (A:=A++[{P8,v,{.ow,t}}]) (E:=ag [i] E) (l.perm (by
       rw[F5];show(Gh).symm)) (by exists x) m (λe c=>by
       rcases yaM c with c|c;show f e c;rw[ysM c];show⟨Xr,Xr⟩)
      show{by simp[G],?_};rw[aI];have C:ag mv (ag [i] E)=ag mv E:=by
       rw[ae];unfold ag;congr 1;funext e;rw[jy];by_cases d:az mv e=Qb
       .rw[d,Iq];unfold az at d|-;split
        .delta j y;rw[y]at d;have:j≠i:=λz=>by subst z;simp at d;show d (by exists u.1)
         simp[this]
        .rfl
       .rw[Jm]at d;rw[d,Jz]
      rw[C]at w;exists w
 | [],_::_,_,_,_,_,_,_,h,_,_=>by cases h
 | _::_,[],_,_,_,_,_,_,h,_,_=>by cases h
abbrev ims:!T->Option !I
 | []=>P9 []
 | .im i::a=>(ims a).map (i :: ·)
 | _=>P8
def nM:∀{ts:!T} {is:!I},ims ts*>is->ts=is.map T.im
 | [],is,h=>by cases h;rfl
 | .im i::ts,is,h=>by
  dsimp[ims]at h;cases e:ims ts with
  | none=>rw[e]at h;cases h
  | some a=>rw[e]at h;cases h;rw[FS,<-nM e]
 | .tup _::_,_,h=>by cases h
 | .li _::_,_,h=>by cases h
 | .lst _::_,_,h=>by cases h
 | .di _::_,_,h=>by cases h
 | .dc _::_,_,h=>by cases h
 | .dq _::_,_,h=>by cases h
 | .ins _ _::_,_,h=>by cases h
abbrev mQ(ts:!T):T:=match ims ts with
 | some a=>.im (.tup a)
 | none=>.tup ts
abbrev bM(ts:!T):T:=match ims ts with
 | some a=>.li a
 | none=>.lst ts
private def bz(mv:!Nat)(a:MA):ME:={λO=>match a.run O with
 | some (c,f)=>if c.length<=1000 then(match consL mv c f with
  | some (d,g)=>P9 ({.ow,mQ d},g)
  | none=>P8)else P8
 | none=>P8,a.mu++mv}
private def bh(mv:!Nat)(a:MA):ME:={λO=>match a.run O with
 | some (c,f)=>if c.length<=1000 then(match consL mv c f with
  | some (d,g)=>P9 ({.ow,bM d},g)
  | none=>P8)else P8
 | none=>P8,a.mu++mv}
def w6(h:n<=1000):n<=sizeLine:=by rw[KG];omega
def wL(c:fo K ta a):aR K (ET ta) (bz mv a):=by
 intro Γ H O Z E Q r P L f S q;dsimp[bz]at f q;ext f x w z;ext f s;ext f M U B;cases f;show c Γ H O Z E _ x w L z S λvs Y k G=>{by rw[k];show w6 s,λp y=>?_};have(g,i):=Sim.consL (A:=[]) (by exists G) k B ∅;rw[G5,ae]at i;have(F,h,J,j,u):=i.use g;have d:=JX.laid (o:=.tup vs) y;show q _ _ (u _ (.ref p) (mQ M) F (d.offM _) (λa c=>let ⟨o,e,_⟩:=j a c;{o,d a o e}) J (λa c=>{.inl c,let ⟨o,e,m⟩:=j a c;{o,d a o e,m}}) ?_);unfold mQ;split
 .delta is l;rw[nM l]at h;have(N,C):=Rps.ims.mp h;subst C;show iy ?_;rw[RpI];show{p,vs,Xr,SqT.of aN,N.same d}
 .rw[Rp];show{p,vs,Xr,SqT.of aN,h.same d}
def wF(c:fo K ta a):aR K (EK ta) (bh mv a):=by
 intro Γ H O Z E Q r Y N f S q;dsimp[bh]at f q;ext f y x B;ext f u;ext f P O2 C;cases f;show c Γ H O Z E _ y x N B S λvs H1 l L=>{by rw[l];show w6 u,λp g=>?_};have(h,k):=Sim.consL (A:=[]) (by exists L) l C ∅;rw[G5,ae]at k;have(F,j,M,i,w):=k.use h;have d:=JX.laid (o:=.lst vs) g;have G:p∉F:=λz=>by have(o,e,_):=i p z;rw[g]at e;cases e
 show q _ _ (w _ (.ref p) (bM P) (p::F) (d.offM _) (λa c=>let ⟨o,e,_⟩:=i a c;{o,d a o e}) (Gi.mpr ⟨G,M⟩) (λa c=>?_) ?_)
 .rcases ycM c with rfl|c;show{.inr g,_,aN,Xr};show{.inl c,let ⟨o,e,m⟩:=i a c;{o,d a o e,m}}
 .unfold bM;split
  .delta is s;rw[nM s]at j;have(U,J):=Rps.ims.mp j;subst J;rw[Rp];show{p,vs,Xr,.inl aN,U.same d,Xr}
  .rw[Rp];show{p,vs,F,Xr,.inl aN,j.same d,Xr}
end
section
variable {Γ:Gm}{H H':Hp}{O:Rho}{Z:St}{E:!En}{v x y:V}{t:T}{K:yF}{Q:VK}
abbrev ixK:Kd->↑Ac->↑Kd
 | .ow,_=>P9 .ow
 | .io _,_=>P8
 | .vw (P9 r) (P9 p),P9 a=>P9 (.vw (P9 r) (P9 (p++[a])))
 | .vw c _,_=>P9 (.vw c P8)
abbrev ixP(k:Kd) (a:↑Ac):T->↑R
 | .im i=>↥i
 | t=>match ixK k a with
  | some c=>P9 ⟨c,t⟩
  | none=>P8
abbrev ixI(i:I) (n:Int):↑R:=match i with
 | .tup a=>(atI a n).map λi=>{.ow,.im i}
 | .ls a=>(atI a n).map λi=>{.ow,.im i}
 | .str z=>if z.length<=sizeLine then(atI (sL z) n).map λc=>{.ow,.im (.str {#[c]})}else P8
 | _=>P8
abbrev ixX(k:Kd) (t:T) (n:Int):↑R:=match t with
 | .im i=>ixI i n
 | .li c=>(atI c n).map λi=>{.ow,.im i}
 | .lst a=>(match ixN a.length n with
  | some j=>(a[j]?).bind (ixP k (P9 (.ix j)))
  | none=>P8)
 | .tup a=>(match ixN a.length n with
  | some j=>(a[j]?).bind (ixP k P8)
  | none=>P8)
 | _=>P8
private def ixR(r:R)(t:T):↑R:=match isI t with
 | some n=>ixX r.k r.t n
 | none=>P8
private def mIx(a b:ME):ME:={λO=>match a.run O with
 | some (c,e)=>match b.run e with
  | some (d,f)=>if aw b.mu c=Qb then(match ixR c d.t with
   | some r=>P9 (r,f)
   | none=>P8)else P8
  | none=>P8
 | none=>P8,a.mu++b.mu}
def kR(r:md K H is xs)(e:atI is n*>i):∃w,atI xs n*>w/\RpI K H i w:=by
 unfold atI at e|-;rw[r.length];cases h:ixN is.length n with
 | none=>rw[h]at e;cases e
 | some j=>rw[h]at e;show r.get e
def Sim.takeO{s:T}(S:Sim Γ H O Z ({P8,x,{.ow,t}}::E)){P:V->Prop}(l:∀F,Rp Γ.K H t x F->∃w A G B,P w/\Rp Γ.K H s w G/\F=A++G++B):∃w,P w/\Sim Γ H O Z ({P8,w,{.ow,s}}::E):=by
 have(F,j,h,f,g):=Sim.use (vs:=[x]) (ts:=[t]) S rfl;have(y,u,m,r,e,k,i,rfl):=j.cons_inv;cases e;have:=i.nil_inv.2;subst this;rw[Ge]at h f g;have(w,A,G,B,p,q,rfl):=l m k;have d:∀a∈G,a∈A++G++B:=λa c=>yaL _ (yaR _ c);show{w,p,g H w s G (td.refl _ _) (λa c=>let ⟨o,e,_⟩:=f a c;⟨o,e⟩) (FP.mp (FP.mp h).1).2.1 (λa c=>{.inl (d a c),f a (d a c)}) q}
def pM{a:Type}{xs:!a}{n:Int}{j m:Nat}{w : a}(h:ixN m n*>j)(d:xs.length=m)(c:xs[j]?*>w):atI xs n*>w:=by
 unfold atI;rw[d,h];show c
def Sim.ixL{k:Kd}{ts:!T}{s:T}{j:Nat}{n:Int}{r:R}(S:Sim Γ H O Z ({P8,x,{k,.lst ts}}::E))(hn:ixN ts.length n*>j)(hj:ts[j]?*>s)(L:L2.ixP k (P9 (.ix j)) s*>r) :
  ∃w,(∀Q:VK,Q w H->rIx Γ.K x (.int n) H Q)/\Sim Γ H O Z (⟨P8,w,r⟩::E):=by
 have l:∀F,Rp Γ.K H (.lst ts) x F->∃w A G B,(∀Q:VK,Q w H->rIx Γ.K x (.int n) H Q)/\Rp Γ.K H s w G/\F=A++G++B:=λF g=>by
  rw[Rp]at g;have(a,xs,F',rfl,f,u,rfl):=g;have(w,A,G,B,h4,h5,h6,_,_):=u.at hj;show{w,a::A,G,B,λQ q=>.inl {a,xs,n,w,Xr,Xr,aB f,pM hn u.length h4,q},h5,by rw[h6];simp}
 have d:∀J p,k=.vw J p->∃w,(∀Q:VK,Q w H->rIx Γ.K x (.int n) H Q)/\Sim Γ H O Z ({P8,w,{.vw J P8,s}}::E):=λJ p hk=>by
  have(w,h,Y):=S.part (e:={P8,x,{k,.lst ts}}) ymS hk (P:=λw=>∀Q:VK,Q w H->rIx Γ.K x (.int n) H Q) (s:=s) (λF g=>by
   have(w,A,G,B,h,f,u):=l F g;show{w,G,h,f,λa ha=>by rw[u];show yaL _ (yaR _ ha)})
  show{w,h,Y.swap.drop rfl}
 have N:∀z,ixK k (P9 (.ix j))*>z->∃w,(∀Q:VK,Q w H->rIx Γ.K x (.int n) H Q)/\Sim Γ H O Z ({P8,w,⟨z,s⟩}::E):=λz c=>by
  cases k with
  | ow=>
   cases c;show S.takeO l
  | io m=>cases c
  | vw J p=>
   cases J with
   | none=>
    cases c;show d P8 p rfl
   | some i=>
    cases p with
    | none=>cases c;show d (P9 i) P8 rfl
    | some p=>
     cases c;have(w,h,Y):=S.partP (e:={P8,x,{.vw (P9 i) (P9 p),.lst ts}}) ymS rfl (a:=.ix j) (s:=s) hj;show{w,λQ q=>?_,Y.swap.drop rfl};have(F,g):=S.rd ymS;have(a,xs,G,e1,f,u):=fX ⟨F,g⟩;have(a',U,e2,M,g2):=h;have C:x=.ref a:=e1;have X:x=.ref a':=e2;rw[C]at X;cases X;have e3:U=xs:=by
      rcases f with f|⟨o,f⟩;rw[f]at M;cases M;rfl;rw[f]at M;cases M
     subst e3;rw[C];show .inl {a,U,n,w,Xr,Xr,SqL.of M,pM hn u.length g2,q}
 cases s with
 | im i=>
  cases L;have(F,g):=S.rd ymS;have(w,A,G,B,h,f,_):=l F g;show{w,h,(S.drop rfl).imm (bo f).1}
 | _=>
  dsimp[L2.ixP]at L;split at L;delta z e;cases L;show N z e;cases L
def Sim.ixT{k:Kd}{ts:!T}{s:T}{j:Nat}{n:Int}{r:R}(S:Sim Γ H O Z ({P8,x,{k,.tup ts}}::E))(U:ixN ts.length n*>j)(L:ts[j]?*>s)(h:L2.ixP k P8 s*>r) :
  ∃w,(∀Q:VK,Q w H->rIx Γ.K x (.int n) H Q)/\Sim Γ H O Z (⟨P8,w,r⟩::E):=by
 have d:∀F,Rp Γ.K H (.tup ts) x F->∃w A G B,(∀Q:VK,Q w H->rIx Γ.K x (.int n) H Q)/\Rp Γ.K H s w G/\F=A++G++B:=λF g=>by
  rw[Rp]at g;have(a,M,rfl,u,z):=g;have(w,A,G,B,N,h5,X,_,_):=z.at L;show{w,A,G,B,λQ q=>.inr (.inl {a,M,n,w,Xr,Xr,u,pM U z.length N,q}),h5,X}
 have o:∀f,ixK k P8*>f->∃w,(∀Q:VK,Q w H->rIx Γ.K x (.int n) H Q)/\Sim Γ H O Z ({P8,w,⟨f,s⟩}::E):=λf c=>by
  cases k with
  | ow=>
   cases c;show S.takeO d
  | io m=>cases c
  | vw C p=>
   have Y:f=.vw C P8:=by cases C<;>cases p<;>cases c<;>rfl
   subst Y;have(w,l,J):=S.part (e:={P8,x,{.vw C p,.tup ts}}) ymS rfl (P:=λw=>∀Q:VK,Q w H->rIx Γ.K x (.int n) H Q) (s:=s) (λF g=>by
    have(w,A,G,B,l,u,z):=d F g;show{w,G,l,u,λa ha=>by rw[z];show yaL _ (yaR _ ha)})
   show{w,l,J.swap.drop rfl}
 cases s with
 | im i=>
  cases h;have(F,g):=S.rd ymS;have(w,A,G,B,l,u,_):=d F g;show{w,l,(S.drop rfl).imm (bo u).1}
 | _=>
  dsimp[L2.ixP]at h;split at h;delta f e;cases h;show o f e;cases h
def Sim.ixR(h:L2.ixR ra tb*>r)(S:Sim Γ H O Z (⟨P8,x,ra⟩::E))(B:Rpx Γ.K H tb y):∃w,(∀Q:VK,Q w H->rIx Γ.K x y H Q)/\Sim Γ H O Z (⟨P8,w,r⟩::E):=by
 have a:Rpx Γ.K H ra.t x:=S.rd (e:=⟨P8,x,ra⟩) ymS;unfold L2.ixR at h;ext h n J;cases dL J;have(L,G):=ra;replace a:Rpx Γ.K H G x:=a;rw[aQ B];unfold ixX at h;dsimp only at h;split at h
 .unfold ixI at h;split at h
  .delta m;cases h0:atI m n with
   | none=>rw[h0]at h;cases h
   | some i=>
    rw[h0]at h;cases h;have(p,f,l,o,k):=bQ a;have(w,d,g):=kR k h0;show{w,λQ q=>.inr (.inl ⟨p,f,n,w,l,Xr,o,d,q⟩),(S.drop rfl).imm g}
  .delta m;cases h0:atI m n with
   | none=>rw[h0]at h;cases h
   | some i=>
    rw[h0]at h;cases h;have(p,f,l,o,k):=j6 a;have(w,d,g):=kR k h0;show{w,λQ q=>.inl {p,f,n,w,l,Xr,aB o,d,q},(S.drop rfl).imm g}
  .delta z;ext h C;cases h0:atI (sL z) n with
   | none=>rw[h0]at h;cases h
   | some c=>
    rw[h0]at h;cases h;show{_,λQ q=>.inr (.inr {z,n,c,bc a,Xr,C,h0,q}),(S.drop rfl).imm (gX rfl)}
  .cases h
 .delta m;cases h0:atI m n with
  | none=>rw[h0]at h;cases h
  | some i=>
   rw[h0]at h;cases h;have(p,f,l,o,k):=bF a;have(w,d,g):=kR k h0;show{w,λQ q=>.inl {p,f,n,w,l,Xr,aB o,d,q},(S.drop rfl).imm g}
 .delta A;ext h j u;cases h0:A[j]? with
  | none=>rw[h0]at h;cases h
  | some s=>
   rw[h0]at h;show S.ixL u h0 h
 .delta A;ext h j u;cases h0:A[j]? with
  | none=>rw[h0]at h;cases h
  | some s=>
   rw[h0]at h;show S.ixT u h0 h
 .cases h
def Co(j:aR K ta a)(m:aR K tb b):aR K (tOp (rIx K) ta tb) (mIx a b):=by unhygienic
 intro Γ H O Z E Q r B e c S q;dsimp[mIx]at c;ext c A f l;ext c g C p;ext c z;ext c J s;cases c;show j Γ H O Z E _ A f e l S λx o h=>?_;show m Γ o f Z _ _ g _ e p h λy G d=>?_;rw[av (bt z),ae]at d;have i:=d.rd ymS;have(w,k,u):=Sim.ixR s (d.drop rfl) i;rw[<-e];show k Q (q w _ u)
structure MO where
 run:Rho->↑(↑Int×Rho)
 mu:!Nat
abbrev ui(K:yF)(c:TO)(m:MO):Prop:=∀(Γ:Gm) (H:Hp) (O:Rho) (Z:St) (E:!En) (Q:↑Int->Hp->Prop) (o:↑Int) (a:Rho),Γ.K=K->m.run O*>(o,a)->Sim Γ H O Z E->(∀H',Sim Γ H' a Z (ag m.mu E)->Q o H')->c Z H Q
private def mNoPart:MO:={λO=>P9 (P8,O),[]}
private def eN(a:ME):MO:={λO=>match a.run O with
 | some (⟨_,.im (.int n)⟩,c)=>P9 (P9 n,c)
 | _=>P8,a.mu}
def qH:ui K r6 mNoPart:=by unhygienic
 intro Γ H O Z E Q o d c a S q;cases a;show q H (by rw[show mNoPart.mu=[]from rfl,bW];show S)
def wJ(e:aR K ta a):ui K (r8 ta) (eN a):=by unhygienic
 intro Γ H O Z E Q o i h c S q;dsimp[eN]at c;ext c k n j f;cases c;show e Γ H O Z E _ _ _ h f S λx g d=>{n,aQ (d.rd ymS),q g (d.drop rfl)}
def md.cut(r:md K H is xs)(lo a:↑Int):md K H (cy is lo a) (kX xs lo a):=by
 unfold cy kX;rw[r.length];show(r.drop _).take _
def Rps.cut(r:Rps K H ts xs F)(lo a:↑Int):∃A G B,Rps K H (cy ts lo a) (kX xs lo a) G/\F=A++G++B:=by
 unfold cy kX;rw[r.length];have(A,e,f,d,rfl):=r.take (HT.sIx ts.length 0 lo);have(G,B,c,g,rfl):=d.take (HT.sIx ts.length ts.length a-HT.sIx ts.length 0 lo);show{A,G,B,c,by simp}
abbrev slI(i:I) (lo c:↑Int):↑R:=match i with
 | .tup a=>if HT.sIx a.length 0 lo=0/\HT.sIx a.length a.length c=a.length then P8 else ↥(.tup (cy a lo c))
 | .str z=>if z.length<=sizeLine then ↥(.str (oL (cy (sL z) lo c)))else P8
 | _=>P8
abbrev slX(k:Kd) (t:T) (lo a:↑Int):↑R:=match t with
 | .li d=>⇑(.li (cy d lo a))
 | .im i=>slI i lo a
 | .lst c=>(match k with
  | .vw e _=>P9 {.vw e P8,.lst (cy c lo a)}
  | _=>P8)
 | _=>P8
private def slR(r:R)(lo a:↑Int):↑R:=slX r.k r.t lo a
private def mSl(a:ME)(lo c:MO):ME:={λO=>match a.run O with
 | some (d,f)=>match lo.run f with
  | some (l,g)=>match c.run g with
   | some (h,e)=>if aw (lo.mu++c.mu) d=Qb then(match slR d l h with
    | some r=>P9 (r,e)
    | none=>P8)else P8
   | none=>P8
  | none=>P8
 | none=>P8,a.mu++(lo.mu++c.mu)}
def Cq{ta:TE}{tl th:TO}{a:ME}{lo hi:MO}(ha:aR K ta a)(hl:ui K tl lo)(hh:ui K th hi):aR K (tSl (rSl K) ta tl th) (mSl a lo hi):=by unhygienic
 intro Γ H O Z E Q r O' L f S q;dsimp[mSl]at f;ext f ra O1 e1;ext f l O2 e2;ext f h O3 M;ext f al;ext f r0 c;cases f;show ha Γ H O Z E _ ra O1 L e1 S λx H1 S1=>?_;show hl Γ H1 O1 Z _ _ l _ L e2 S1 λH2 S2=>?_;show hh Γ H2 O2 Z _ _ h _ L M S2 λU j=>?_;rw[ae,av (bt al),ae]at j;have k:=j.rd ymS;unfold slR slX at c;have(k0,t0):=ra;replace k:Rpx Γ.K U t0 x:=k;dsimp only at c;split at c
 .cases c;have(p,g,m,e,J):=bF k;show .inr (.inl {p,g,m,aB e,λp i=>q _ _ ((j.drop rfl).fresh (.li i (J.cut l h)))})
 .unfold slI at c;split at c
  .delta is;split at c;cases c
   .delta hw;cases c;have(p,g,m,e,J):=bQ k;rw[L]at e;show .inl {p,g,m,e,by rw[J.length];show hw,λp i=>q _ _ ((j.drop rfl).fresh (.tup i (J.cut l h)))}
  .ext c hz;cases c;show .inr (.inr {_,bc k,hz,q _ _ ((j.drop rfl).imm (gX rfl))})
  .cases c
 .delta ts;ext c ro p0;cases c;have(p,g,F,N,e,J):=fX k;have m:x=.ref p:=N;show .inr (.inl {p,g,m,aB e,λu i=>?_});have(w,hw,S4):=j.partN (H':=upd U u (.lst (kX g l h))) (JX.laid i) (s:=.lst (cy ts l h)) ymS rfl (P:=λw=>w=.ref u) (λF rp=>by
   have C:Rp Γ.K U (.lst ts) x F:=rp;rw[Rp]at C;have(a',xs',F',z,d,X,rfl):=C;rw[m]at z;cases z;have M:xs'=g:=by
    rcases e with e|⟨o,e⟩<;>rcases d with d|⟨o',d⟩<;>rw[e]at d<;>cases d<;>rfl
   subst M;have(A,G,B,g3,rfl):=X.cut l h;show{.ref u,u::G,Xr,?_,λb Y=>?_}
   .rw[Rp];show{u,_,G,Xr,.inl aN,g3.same (JX.laid i),Xr}
   .rcases ycM Y with rfl|Y;show .inr i;show .inl (ymC _ (yaL _ (yaR _ Y))))
  subst hw;show q _ _ (S4.swap.drop rfl)
 .cases c
private def wM:T->↑T
 | .im (.tup a)=>P9 (.im (.tup a.reverse))
 | _=>P8
def ze(w:aR K f a):aR K (xb K f) (mUn wM a):=by unhygienic
 intro Γ H O Z E Q r C i c S q;dsimp[mUn]at c;ext c j G s;ext c t e;cases c;show w Γ H O Z E _ j _ i s S λx J h=>?_;have z:=h.rd ymS;have(k,f):=j;unfold wM at e;ext e B m;cases e;have d:f=.im (.tup B):=m;subst d;have(p,l,u,g,A):=bQ z;rw[i]at g;show{p,l,u,g,λp o=>q _ _ ((h.drop rfl).fresh (.tup o A.reverse))}
abbrev fE(K:yF)(red:V->!V->Hp->VK->Prop)(f:T->!T->↑(T×I)):Prop:=∀(H:Hp) (w:V) (vs:!V) (s:T) (d:!T) (e:T) (i:I) (G F:!Addr) (Q:VK),Rp K H s w G->Rps K H d vs F->(G++F).Nodup->(∀a∈G++F,Mu H a)->f s d*>(e,i) ->
 (∀v H' c,td G H H'->(∀a∈G,∃o,H' a*>o)->c.Nodup->(∀a∈c,(a∈G++F\/H a=P8)/\Mu H' a)->Rp K H' e w c->RpI K H' i v->Q v H')->red w vs H Q
private def mutR(i:Nat)(mv:!Nat)(f:T->!T->↑(T×I))(r0:R)(rs:!R)(e:Rho):↑(R×Rho):=match r0 with
 | ⟨.vw (P9 j) (P9 p),s⟩=>if(decide (j=i) &&  ~~~mv.contains i)=Qb then(match consL mv rs e with
  | some (g,c)=>(match f s g with
   | some (d,a)=>(match c[i]? with
    | some (P9 ⟨k,t⟩)=>if k.isOw=Qb then P9 ({.ow,.im a},(am [i] c).set i (P9 {k,t.put p d}))else P8
    | _=>P8)
   | none=>P8)
  | none=>P8)else P8
 | _=>P8
def Sim.mutR(J : Γ.K=K)(N:fE K red f)(h:L2.mutR i mv f r0 rs O1*>(r,O'))(hl:vs.length=rs.length)(S:Sim Γ H O1 Z (ens vs rs++⟨P8,x,r0⟩::E))(q:∀v H',Sim Γ H' O' Z (⟨P8,v,r⟩::ag (mv++[i]) E)->Q v H'):red x vs H Q:=by
 unfold L2.mutR at h;ext h j p s;ext h z;rw[FO,decide_eq_true_eq,Gk]at z;have(rfl,o):=z;ext h ts O2 P;ext h w l U;ext h k t X;ext h ho;cases h;have(m,u):=Sim.consL (A:=[]) (by exists S) hl P ∅;rw[G5,av (show az mv {P8,x,{.vw (P9 j) (P9 p),s}}=Qb by unfold az;dsimp[Kd.root];rw[o];rfl)]at u;have(G,F,B,C,Y,M,h5):=u.mut m X ho;rw[J]at B C;show N H x vs s ts w l G F Q B C Y M U λv H' L a b c d e g=>q v H' ?_;rw[<-ae];rw[<-J]at e g;show(h5 H' w L a b c d e).imm g
private def iq(i:Nat)(mv:!Nat)(f:T->!T->↑(T×I))(o:ME)(a:MA):ME:={λO=>match o.run O with
 | some (c,d)=>match a.run d with
  | some (g,e)=>if aw a.mu c=Qb then L2.mutR i mv f c g e else P8
  | none=>P8
 | none=>P8,(o.mu++a.mu)++(mv++[i])}
def y8(s:fE K red f)(g:∀(H:Hp) (x:V) (k:T) ts r,Rpx K H k x->f k ts*>r->tyV K T0 x H)(ho:aR K to o)(C:fo K ta a):aR K (tBM K T0 red to ta) (iq i mv f o a):=by
 intro Γ H O Z E Q r L e c S q;dsimp[iq]at c q;ext c G A m;ext c p M u;ext c J;show ho Γ H O Z E _ G _ e m S λx j l=>?_;have d:=l.rd ymS;rw[e]at d;show{?_,?_}
 .unfold L2.mutR at c;ext c;ext c;ext c;ext c w;show g j x _ _ _ d w
 .show C Γ j A Z _ _ p _ e u l λvs N B h=>?_;rw[av (bt J),ae]at h;show Sim.mutR e s c B h λv H' z=>q v H' (by rw[<-ae];show z)
private def gC(i:Nat)(f:T->!T->↑(T×I))(o:ME):ME:={λO=>match o.run O with
 | some (c,a)=>L2.mutR i [] f c [] a
 | none=>P8,o.mu++[i]}
def wG(k:fE K red f)(d:∀(H:Hp) (x:V) (h:T) ts r,Rpx K H h x->f h ts*>r->tyV K T0 x H)(ho:aR K to o):aR K (Cv K T0 red to) (gC i f o):=by
 intro Γ H O Z E Q r u e a S q;dsimp[gC]at a q;ext a s w j;show ho Γ H O Z E _ s _ e j S λx l g=>?_;have c:=g.rd ymS;rw[e]at c;show{?_,?_}
 .unfold L2.mutR at a;ext a;ext a;ext a;ext a m;show d l x _ _ _ c m
 .show Sim.mutR (vs:=[]) (mv:=[]) e k a rfl g λv H' p=>q v H' (by rw[<-ae];show p)
def mR(h:Rp K H (.li is) w G)(f:∀a∈G,Mu H a):∃a xs,w=.ref a/\H a*>(.lst xs)/\md K H is xs/\G=[a]:=by
 rw[Rp]at h;have(a,xs,d,e,c,rfl):=h;show{a,xs,d,(f a ymS).lst e,c,Xr}
def Bd(h:Rp K H (.lst ts) w G)(d:∀a∈G,Mu H a):∃a xs F,w=.ref a/\H a*>(.lst xs)/\Rps K H ts xs F/\G=a::F:=by
 rw[Rp]at h;have(a,xs,F,e,f,c,rfl):=h;show{a,xs,F,e,(d a ymS).lst f,c,Xr}
def jW(f:H a*>(.lst xs))(h:md K H is' xs')(g:RpI K H i v)
  (q:∀v H' d,td [a] H H'->(∀b∈[a],∃o,H' b*>o)->d.Nodup->(∀b∈d,(b∈[a]++F\/H b=P8)/\Mu H' b)->Rp K H' (.li is') (.ref a) d->RpI K H' i v->Q v H'):Q v (upd H a (.lst xs')):=by
 have e:∀b∈[a],Mu H b:=λb c=>by rw[ysM c];show{_,f,Xr}
 show q v _ [a] td.upd (λb c=>by rw[ysM c];show{_,aN}) ∅ (λb c=>?_) ?_ (g.off td.upd e);rw[ysM c];show{.inl ∅,_,aN,Xr};rw[Rp];show{a,xs',Xr,.inl aN,h.off td.upd e,Xr}
def sf(k:H a*>(.lst xs))(g:(a::F').Nodup)(l:∀b∈F',Mu H b)(s:∀b∈F',b∈(a::G)++F)(u:Rps K H ts' xs' F')(p:RpI K H i v)
  (q:∀v H' d,td (a::G) H H'->(∀b∈a::G,∃o,H' b*>o)->d.Nodup->(∀b∈d,(b∈(a::G)++F\/H b=P8)/\Mu H' b)->Rp K H' (.lst ts') (.ref a) d->RpI K H' i v->Q v H') (r:∀b∈G,∃o,H b*>o):Q v (upd H a (.lst xs')):=by
 have j:∀b∈[a],Mu H b:=λb c=>by rw[ysM c];show{_,k,Xr}
 have f:∀b∈F',b≠a:=λb c z=>(Gi.mp g).1 (z▸c);show q v _ (a::F') (td.upd.mono λb c=>by rw[ysM c];show ymS) (λb c=>?_) g (λb c=>?_) ?_ (p.off td.upd j)
 .by_cases e:b=a;subst e;show{_,aN}
  .rcases ycM c with z|z;show absurd z e;have(o,h):=r b z;show{o,by rw[upd_ne e];show h}
 .rcases ycM c with rfl|c;show{.inl ∅,_,aN,Xr}
  .show{.inl (s b c),?_};have(o,h,m):=l b c;show{o,by rw[upd_ne (f b c)];show h,m}
 .rw[Rp];show{a,xs',F',Xr,.inl aN,u.off td.upd j (λb c z=>f b c (ysM z)),Xr}
abbrev ap1(s t:T):↑(T×I):=match s with
 | .li a=>(match t with
  | .im i=>if a.length<sizeLine then P9 (.li (a++[i]),.non)else P8
  | _=>if a.length<sizeLine then P9 (.lst (a.map .im++[t]),.non)else P8)
 | .lst c=>if c.length<sizeLine then P9 (.lst (c++[t]),.non)else P8
 | _=>P8
private def apT(s:T)(ts:!T):↑(T×I):=l1 (ap1 s) ts
def zp(h:Rps K H [t] vs F):∃v,vs=[v]/\Rp K H t v F:=by
 have(v,r,d,e,rfl,a,c,rfl):=h.cons_inv;have(rfl,rfl):=c.nil_inv;show{v,Xr,by rw[Ge];show a}
def cN:RpI K H .non .non:=by rw[RpI]
def pc:fE K n5 apT:=by
 intro H w vs s J B i G F Q g A r l e q;unfold apT at e;have u:=dn e;clear e;have(C,rfl,e):=u;have(y,rfl,m):=zp A;unfold ap1 at e;split at e
 .delta L;have(a,j,rfl,f,d,rfl):=mR g λa o=>l a (yaL _ o);split at e
  .have(h,e):=aT e;cases e;show{a,j,y,Xr,Xr,f,by rw[d.length];show h,jW f (d.append (.one (bo m).1)) cN q}
  .have(h,e):=aT e;cases e;show{a,j,y,Xr,Xr,f,by rw[d.length];show h,sf (G:=[]) (F:=F) (F':=F) f r (λb c=>l b (yaR _ c)) (λb c=>yaR _ c) ?_ cN q ∅};have:=Rps.append (Rps.ims.mpr ⟨d,Xr⟩) (Rps.cons m Rps.nil);exists this
 .have(h,e):=aT e;cases e;have(a,j,k,rfl,f,d,rfl):=Bd g λa o=>l a (yaL _ o);have p:∀b∈k++F,b∈(a::k)++F:=λb c=>(yaM c).elim (λz=>yaL _ (ymC _ z)) λz=>yaR _ z;show{a,j,y,Xr,Xr,f,by rw[d.length];show h,sf (G:=k) (F:=F) (F':=k++F) f (by exists r) (λb c=>l b (p b c)) p ?_ cN q (λb c=>d.dom b c)};have:=Rps.append d (Rps.cons m Rps.nil);exists this
 .cases e
def xk(h:Rpx K H (.li is) x):tyV K "list" x H:=by
 have(a,d,rfl,c,e):=bF h;show .inl {Xr,d,aB c}
def CB(h:Rpx K H (.lst is) x):tyV K "list" x H:=by
 have(a,d,F,rfl,c,e):=fX h;show .inl {Xr,d,aB c}
def ub(H:Hp)(x:V)(a:T)(ts:!T)(r:T×I)(h:Rpx K H a x)(e:apT a ts*>r):tyV K "list" x H:=by
 unfold apT at e;have(t,_,e):=dn e;unfold ap1 at e;split at e;show xk h;show CB h;cases e
abbrev AL(s t:T):↑(T×I):=match xZ s with
 | some c=>(match xZ t with
  | some a=>if c.length+a.length<=sizeLine then P9 (.li (c++a),.non)else P8
  | none=>(match AV t with
   | some a=>if c.length+a.length<=sizeLine then P9 (.li (c++a),.non)else P8
   | none=>P8))
 | none=>P8
private def nF(s:T)(ts:!T):↑(T×I):=l1 (AL s) ts
def pe:fE K (wo K) nF:=by
 intro H w vs s N J i G F Q g u M A e q;unfold nF at e;have r:=dn e;clear e;have(L,rfl,e):=r;have(y,rfl,l):=zp u;unfold AL at e;ext e P C;cases iZ C;have(a,o,rfl,d,f,rfl):=mR g λa B=>A a (yaL _ B);split at e
 .delta z m;cases iZ m;have(h,e):=aT e;cases e;rw[Rp]at l;have(b,j,rfl,k,c,rfl):=l;show .inl {a,b,o,j,Xr,Xr,d,k,by rw[f.length,c.length];show h,jW d (f.append c) cN q}
 .ext e z m;cases oU m;have(h,e):=aT e;cases e;have p:=(bo l).1;rw[RpI]at p;have(b,j,rfl,k,c):=p;show .inr {a,b,o,j,Xr,Xr,d,k,by rw[f.length,c.length];show h,jW d (f.append c) cN q}
def uc(H:Hp)(x:V)(a:T)(ts:!T)(r:T×I)(h:Rpx K H a x)(e:nF a ts*>r):tyV K "list" x H:=by
 unfold nF at e;have(t,_,e):=dn e;unfold AL at e;ext e d c;cases iZ c;show xk h
private def jN:T->!T->↑(T×I)
 | .li a,[]=>match a[a.length-1]? with
  | some i=>P9 (.li a.dropLast,i)
  | none=>P8
 | _,_=>P8
def md.dropLast(h:md K H is xs):md K H is.dropLast xs.dropLast:=by
 rw[IM,IM,h.length];show h.take _
def vS:fE K Ch jN:=by
 intro H w vs s z p i G F Q c o u k e q;unfold jN at e;ext e A;ext e j h;cases e;have(a,l,rfl,f,d,rfl):=mR c λa m=>k a (yaL _ m);have(rfl,rfl):=o.nil_inv;have(y,g,r):=d.get h;rw[<-d.length]at g;show{a,l,y,Xr,Xr,f,g,jW f d.dropLast r q}
def CC(H:Hp)(x:V)(a:T)(ts:!T)(r:T×I)(h:Rpx K H a x)(e:jN a ts*>r):tyV K "list" x H:=by
 unfold jN at e;split at e;show xk h;cases e
private def wS(s:T)(n:T)(v:T):↑T:=match s,n,v with
 | .li a,.im (.int n),.im i=>match ixN a.length n with
  | some j=>P9 (.li (a.set j i))
  | none=>P8
 | _,_,_=>P8
private def qb(j:Nat)(o i:ME):MG:={λr O=>match r with
 | ⟨.ow,g⟩=>match o.run O with
  | some (⟨.vw (P9 e) (P9 p),s⟩,d)=>match i.run d with
   | some (f,a)=>if(decide (e=j) &&  ~~~i.mu.contains j)=Qb then(match wS s f.t g with
    | some c=>(match a[j]? with
     | some (P9 ⟨k,t⟩)=>if k.isOw=Qb then P9 ((am [j] a).set j (P9 {k,t.put p c}))else P8
     | _=>P8)
    | none=>P8)else P8
   | none=>P8
  | _=>P8
 | _=>P8,(o.mu++i.mu)++[j]}
def md.set'(a:RpI K H i w)(n:Nat)(h:md K H is xs):md K H (is.set n i) (xs.set n w):=md.set a n h
def zg(ho:aR K to o)(J:aR K ti i):j8 K (Dp to ti Al) (qb j o i):=by
 intro Γ H O Z E Q v r O' w c S q;dsimp[qb]at c q;ext c B;ext c U p s O1 e1;ext c A O2 X;ext c u;rw[FO,decide_eq_true_eq,Gk]at u;have(rfl,f):=u;ext c s' d;ext c k t e4;ext c hw;cases c;show ho Γ H O Z _ _ _ _ w e1 S λx P S1=>?_;show J Γ P O1 Z _ _ _ _ w X S1 λy H2 h=>?_;have k1:az i.mu {P8,x,{.vw (P9 U) (P9 p),s}}=Qb:=by unfold az;dsimp[Kd.root];rw[f];rfl
 have k2:∀M:!Nat,az M {P8,v,{.ow,B}}=Qb:=λM=>rfl;rw[av k1,ae,av (k2 _)]at h;have ry:=h.rd ymS;have Y:=h.drop rfl;have(G,F,h1,h2,h3,h4,h5):=Sim.mut (vs:=[v]) (ts:=[B]) (Y.perm (List.Perm.swap _ _ _)) rfl e4 hw;generalize g:A.t=tri at d;unfold wS at d;ext d is n i0;ext d m hm;cases d;have(a,xs,rfl,l,C,rfl):=mR h1 λa ha=>h4 a (yaL _ ha);have(z,ez,L):=zp h2;cases ez;have(g4,rfl):=bo L;have e:∃F,Rp Γ.K H2 A.t y F:=ry;have N:y=.int n:=by rw[g]at e;show aQ e
 subst N;show{a,xs,n,m,Xr,Xr,l,by rw[C.length];show hm,?_};show jW (Q:=λ_ H'=>Q Z H') (F:=[]) (v:=.non) (i:=.non) l (C.set' g4 m) cN λv' H' G' a1 a2 a3 a4 a5 _=>q Z H' ?_;have:=h5 H' _ G' a1 a2 a3 a4 a5;rw[ae]at this;show this
end
section
variable {Γ:Gm}{H H':Hp}{O:Rho}{Z:St}{E:!En}{v x y:V}{t:T}{K:yF}{Q:VK}
def jz(h:∀j∈N,j∈M)(k:az M e=Qb):az N e=Qb:=by
 unfold az at k|-;split at k
 .delta j a;dsimp[Gk,GM,decide_eq_false_iff_not]at k|-;show λz=>k (h j z)
 .rfl
def cP(h:∀j∈N,j∈M)(E:!En):ag N (ag M E)=ag M E:=by
 unfold ag;rw[G8];intro e a;show jz h (FX.mp a).2
abbrev itW(c:MT) (b:MS):Nat->Rho->↑(Fl×Rho)
 | 0,_=>P8
 | n+1,O=>match c.run O with
  | some (Qb,d)=>(match b.run d with
   | some (.nx,a)=>itW c b n a
   | some (.ct,a)=>itW c b n a
   | some (.bk,a)=>P9 (.nx,a)
   | some (.rt t,a)=>P9 (.rt t,a)
   | none=>P8)
  | some (Qa,d)=>P9 (.nx,d)
  | none=>P8
def fw:∀{n:Nat} {O:Rho} {r:Fl×Rho},itW c b n O*>r->∀m,n<=m->itW c b m O*>r
 | 0,_,_,h,_,_=>by cases h
 | n+1,O,r,h,m,f=>by
  obtain⟨a,rfl⟩:∃a,m=a+1:={m-1,by omega};rw[itW]at h|-;split at h
  .delta g i;split at h;delta e d;show fw h a ⋯;delta e d;show fw h a ⋯;show h;show h;show h
  .show h
  .show h
abbrev xo(c:MT) (b:MS) (O:Rho):↑(Fl×Rho):=@dite _ (∃n,(itW c b n O).isSome=Qb) (Classical.propDecidable _) (λh=>itW c b (Mw h) O) (λ_=>P8)
private def eY(c:MT)(b:MS):MS:={xo c b,c.mu++b.mu}
def ue(h:itW c b n O*>r):(eY c b).run O*>r:=by unhygienic
 have d:∃n,(itW c b n O).isSome=Qb:={n,by rw[h];rfl};change xo c b O=_;unfold xo;rw[dif_pos d];have g:=Classical.choose_spec d;cases e:itW c b (Mw d) O with
 | none=>rw[e]at g;cases g
 | some i=>
  have a:=fw h (max n (Mw d)) (II _ _);have f:=fw e (max n (Mw d)) (Iy _ _);rw[a]at f;show f.symm
def xB(h:(eY c b).run O*>r):∃n,itW c b n O*>r:=by unhygienic
 have a:xo c b O*>r:=h;unfold xo at a;split at a;show{_,a};cases a
def tW(J:eW K tc c)(u:eV K tb b):eV K (xf tc tb) (eY c b):=by unhygienic
 intro Γ H O Z E D f B r U P S q;have(n,X):=xB P;have qe:(eY c b).mu=c.mu++b.mu:=rfl;rw[qe]at q;have A:ag c.mu (ag (c.mu++b.mu) E)=ag (c.mu++b.mu) E:=cP (λj w=>yaL _ w) E;have s:ag b.mu (ag (c.mu++b.mu) E)=ag (c.mu++b.mu) E:=cP (λj w=>yaR _ w) E;have d:=bV (M:=c.mu++b.mu) U;have N:=S.weak (c.mu++b.mu);generalize ag (c.mu++b.mu) E=E0 at q A s d N;show{λm Z H=>∃O,itW c b m O*>(f,B)/\Sim Γ H O Z E0,⟨n,O,X,N⟩,?_}
 .rintro m i G ⟨C,a,L⟩;cases m with
  | zero=>cases a
  | succ m=>
   rw[itW]at a;split at a
   .delta l z;show J Γ G C i E0 _ Qb l r z L λp h=>nP ?_;rw[A]at h;show{λo H'=>∃O,itW c b m O*>(f,B)/\Sim Γ H' O o E0,λo H' ⟨g,Y,e⟩=>{m,Jl m,g,Y,e},?_};split at a
    .delta g k;show u Γ p l i E0 _ .nx g r d k h λo H' e=>{g,a,by rw[s]at e;show e}
    .delta g k;show u Γ p l i E0 _ .ct g r d k h λo H' e=>{g,a,by rw[s]at e;show e}
    .delta g k;cases a;show u Γ p l i E0 _ .bk _ r d k h λo H' e=>q o H' (by rw[s]at e;show e)
    .delta t g k;cases a;show u Γ p l i E0 _ (.rt t) _ r d k h q
    .cases a
   .delta l z;cases a;show J Γ G C i E0 _ Qa _ r z L λp h=>nO (q i p (by rw[A]at h;show h))
   .cases a
structure MI where
 run:Rho->↑((!R×!R)×Rho)
 mu:!Nat
abbrev fF(Γ:Gm)(J:It)(vs:!V)(a:!R)(items:!R):Prop:=∀(H:Hp) (O:Rho) (Z:St) (E:!En),Sim Γ H O Z (ens vs a++E)->(∀i,items.length<=i->J.stop i H)/\∀i r,items[i]?*>r->J.go i H/\∀x H',J.yld i H x H'->Sim Γ H' O Z (⟨P8,x,r⟩::(ens vs a++E))
abbrev jn(K:yF)(g:TI)(m:MI):Prop:=∀(Γ:Gm) (H:Hp) (O:Rho) (Z:St) (E:!En) (f:It->Hp->Prop) (a:!R) (c:!R) (e:Rho),Γ.K=K->m.run O*>((a,c),e)->Sim Γ H O Z E->(∀d:Gm,d.K=Γ.K->(∀H O Z E,Sim d H O Z E->Sim Γ H O Z E)->∀J vs H',vs.length=a.length->Sim d H' e Z (ens vs a++ag m.mu E)->fF d J vs a c->f J H')->g Z H f
def dS:∀{A:!En},(∀e∈A,az M e=Qb)->ag M A=A
 | [],_=>rfl
 | e::A,h=>by rw[av (h e ymS),dS λx a=>h x (ymC _ a)]
def kZ:∀{vs:!V} {rs:!R},rs.all (aw M)=Qb->∀e∈ens vs rs,az M e=Qb
 | [],rs,_,e,h=>by cases rs<;>cases h
 | _::_,[],_,e,h=>by cases h
 | v::vs,r::rs,a,e,h=>by
  rw[GO,FO]at a;rcases ycM h with rfl|h;show a.1;show kZ a.2 e h
def oP:∀{vs:!V} {rs:!R},∀e∈ens vs rs,e.key=P8
 | [],rs,e,h=>by cases rs<;>cases h
 | _::_,[],e,h=>by cases h
 | v::vs,r::rs,e,h=>by
  rcases ycM h with rfl|h;rfl;show oP e h
abbrev qE(n:Int):R:={.ow,.im (.int n)}
abbrev wt:R:={.ow,.im .non}
abbrev on(lo:Int) (n:Nat):!R:=(Gn n).map λi:Nat=>qE (lo+(i:Int))
def xx{lo:Int}{n:Nat}:fF Γ (Itr lo n) [.non] [wt] (on lo n):=λH O Z E S=>by
 show{λi f=>(show n<=i by simpa[on]using f),λi r a=>?_};unfold on at a;rw[F4]at a;cases e:(Gn n)[i]? with
 | none=>rw[e]at a;cases a
 | some m=>
  rw[e]at a;cases a;have(c,d):=FL.mp e;simp at c d;subst d;show{c,λx H' y=>?_};have(rfl,rfl):=y;show S.imm (gX rfl)
abbrev ii2(x y:T):↑(Int×Int):=match isI x with
 | some i=>(match isI y with
  | some j=>P9 (i,j)
  | none=>P8)
 | none=>P8
private def dF(a:MA):MI:={λO=>match a.run O with
 | some (d,c)=>(match l1 isI (d.map (·.t))with
  | some j=>if -(2^62)<=j/\j<2^62 then P9 (([wt],on 0 j.toNat),c)else P8
  | none=>P8)
 | none=>P8,a.mu}
def wK(s:fo K ta a):jn K (zT ta) (dF a):=by unhygienic
 intro Γ H O Z E B k d A z c S q;dsimp[dF]at c;ext c G C l;ext c j p;have(f,e):=aT c;cases e;have(t,u,o):=dn p;cases dL o;show s Γ H O Z E _ _ _ z l S λvs m r g=>?_;have h:=g.rds r;rw[u]at h;have(w,rfl,i):=jg h;show{j,by rw[aQ i],f.1,f.2,q Γ rfl (λ_ _ _ _ S=>S) _ [.non] m rfl ?_ xx};show g.drops.imm cN
abbrev iE:R->Option !R
 | ⟨_,.li a⟩=>P9 (a.map λi=>{.ow,.im i})
 | ⟨.vw c _,.lst d⟩=>P9 (d.map (partV c))
 | ⟨_,.im (.ls a)⟩=>P9 (a.map λi=>{.ow,.im i})
 | _=>P8
abbrev lh:R->Option !R
 | ⟨_,.im (.tup a)⟩=>P9 (a.map λi=>{.ow,.im i})
 | _=>P8
abbrev u4(a:ME):MI:={λO=>match a.run O with
 | some (r,c)=>(match iE r with
  | some d=>P9 (([r],d),c)
  | none=>P8)
 | none=>P8,a.mu}
abbrev A8(a:ME):MI:={λO=>match a.run O with
 | some (r,c)=>(match lh r with
  | some d=>P9 (([r],d),c)
  | none=>P8)
 | none=>P8,a.mu}
def Rd.det(h:Rd H a (.lst xs))(g:Rd H a (.lst ys)):xs=ys:=by
 rcases h with h|⟨o,h⟩<;>rcases g with g|⟨c,g⟩<;>rw[h]at g<;>cases g<;>rfl
def ar{c d:Type}{f : c->d}{l:!c}{i:Nat}{b : d}(h:(l.map f)[i]?*>b):∃a,l[i]?*>a/\f a=b:=by
 rw[F4]at h;cases e:l[i]? with
 | none=>rw[e]at h;cases h
 | some a=>rw[e]at h;show{a,Xr,F9.inj h}
def Sim.partV(S:Sim Γ H O Z E)(c:e∈E)(ho:e.r.k=.vw ro p)(f:∀F,Rp Γ.K H e.r.t e.v F->∃G,Rp Γ.K H s w G/\∀a∈G,a∈F):Sim Γ H O Z ({P8,w,L2.partV ro s}::E):=by
 cases s with
 | im i=>
  have(F,r):=S.rd c;have(G,g,_):=f F r;show S.imm (bo g).1
 | _=>
  have(d,l,h):=S.part c ho (P:=λd=>d=w) (s:=_) (λF r=>let ⟨G,g,j⟩:=f F r;⟨w,G,Xr,g,j⟩);subst l;show h
def CZ{a:Addr}{g:R}{items:!R}(c:iE g*>items):fF Γ (Itl Γ.K a) [.ref a] [g] items:=λH O Z E S=>by
 replace S:Sim Γ H O Z ({P8,.ref a,g}::E):=S;have z:Rpx Γ.K H g.t (.ref a):=S.rd (e:={P8,.ref a,g}) ymS;unfold iE at c;split at c
 .cases c;have(J,f,m,d,l):=bF z;cases m;show{λi c=>{f,aB d,by rw[l.length];simpa using c},λi r q=>?_};have(j,o,rfl):=ar q;have(w,k,h):=l.get o;show{{f,w,aB d,k},λx H' y=>?_};obtain⟨rfl,y⟩:=y;have:=y f (aB d);rw[k]at this;cases this;show S.imm h
 .delta N p L;cases c;have(J,f,F,m,d,l):=fX z;cases m;show{λi c=>{f,aB d,by rw[l.length];simpa using c},λi r q=>?_};have(j,o,rfl):=ar q;have(w,A,G,B,k,h,_):=l.at o;show{{f,w,aB d,k},λx H' y=>?_};obtain⟨rfl,y⟩:=y;have:=y f (aB d);rw[k]at this;cases this;show S.partV (e:={P8,.ref a,{.vw N p,.lst L}}) ymS rfl λF rp=>?_;have s:Rp Γ.K _ (.lst L) (.ref a) F:=rp;rw[Rp]at s;have(a'',X,F',m,k1,Y,rfl):=s;cases m;have:=k1.det d;subst this;have(w',A',M,B',u,C,U,_):=Y.at o;rw[k]at u;cases u;show{M,C,λb P=>by rw[U];show ymC _ (yaL _ (yaR _ P))}
 .cases c;have(J,f,m,d,l):=j6 z;cases m;show{λi c=>{f,aB d,by rw[l.length];simpa using c},λi r q=>?_};have(j,o,rfl):=ar q;have(w,k,h):=l.get o;show{{f,w,aB d,k},λx H' y=>?_};obtain⟨rfl,y⟩:=y;have:=y f (aB d);rw[k]at this;cases this;show S.imm h
 .cases c
def oi(u:aR K ta a):jn K (rA K ta) (u4 a):=by
 intro Γ H O Z E A l j z p h S q;dsimp[u4]at h;ext h d B s;ext h C g;cases h;show u Γ H O Z E _ _ _ p s S λx i m=>?_;have k:Rpx Γ.K i d.t x:=m.rd (e:=⟨P8,x,d⟩) ymS;have r:∃a c,x=.ref a/\SqL K i a c:=by
  unfold iE at g;split at g;have(a,c,e,f,o):=bF k;show{a,c,e,aB f};have(a,c,F,e,f,o):=fX k;show{a,c,e,aB f};have(a,c,e,f,o):=j6 k;show{a,c,e,aB f};cases g
 have(b,c,rfl,w):=r;show{b,Xr,⟨c,w⟩,q Γ rfl (λ_ _ _ _ S=>S) _ [.ref b] i rfl m (by rw[<-p];show CZ g)}
def C0{a:Addr}{c:R}{items:!R}(d:lh c*>items):fF Γ (Itt Γ.K a) [.ref a] [c] items:=λH O Z E S=>by
 replace S:Sim Γ H O Z ({P8,.ref a,c}::E):=S;have o:Rpx Γ.K H c.t (.ref a):=S.rd (e:={P8,.ref a,c}) ymS;unfold lh at d;ext d;cases d;have(s,g,p,h,k):=bQ o;cases p;show{λi d=>{g,h,by rw[k.length];simpa using d},λi r q=>?_};have(j,m,rfl):=ar q;have(w,l,f):=k.get m;show{⟨g,w,h,l⟩,λx H' y=>?_};obtain⟨rfl,y⟩:=y;have:=y g h;rw[l]at this;cases this;show S.imm f
def y4(r:aR K ta a):jn K (xX K ta) (A8 a):=by
 intro Γ H O Z E z k i w j g S q;dsimp[A8]at g;ext g d A p;ext g B f;cases g;show r Γ H O Z E _ _ _ j p S λx h m=>?_;have s:Rpx Γ.K h d.t x:=m.rd (e:=⟨P8,x,d⟩) ymS;have o:∃a c,x=.ref a/\SqT K h a c:=by
  unfold lh at f;split at f;have(a,c,e,l,C):=bQ s;rw[j]at l;show⟨a,c,e,l⟩;cases f
 have(b,c,rfl,u):=o;show{b,Xr,⟨c,u⟩,q Γ rfl (λ_ _ _ _ S=>S) _ [.ref b] h rfl m (by rw[<-j];show C0 f)}
abbrev mItS(a:ME):MI:={λO=>match a.run O with
 | some (⟨_,.im (.str z)⟩,d)=>P9 (([wt],(sL z).map λc=>{.ow,.im (.str {#[c]})}),d)
 | _=>P8,a.mu}
abbrev sT(a:MA):MI:={λO=>match a.run O with
 | some ([⟨k,.li c⟩],d)=>P9 (([{k,.li c}],c.reverse.map λi=>{.ow,.im i}),d)
 | _=>P8,a.mu}
def y6{B:TA}{a:MA}(ha:fo K B a):jn K (AT K B) (sT a):=by
 intro Γ H O Z E Rr X o M hK c S q;dsimp[sT]at c;ext c k L O1 Y;cases c;show ha Γ H O Z E _ _ _ hK Y S λvs z A l=>?_;obtain⟨w,rfl⟩:∃w,vs=[w]:=by
  cases vs with
  | nil=>cases A
  | cons w r=>cases r with
   | nil=>show⟨w,Xr⟩
   | cons _ _=>cases A
 have l:Sim Γ z M Z ({P8,w,{k,.li L}}::ag a.mu E):=l;have r1:=l.rd ymS;have(h,g,ex,g1,C):=bF r1;have s:w=.ref h:=ex;subst s;show{h,g,Xr,aB g1,q Γ rfl (λ_ _ _ _ S=>S) _ [.ref h] z rfl l λH2 O2 Z2 U f=>?_};replace f:Sim Γ H2 O2 Z2 ({P8,.ref h,{k,.li L}}::U):=f;have(a2,d,e2,J,G):=bF (f.rd ymS);cases e2;have p:g.length=d.length:=by rw[C.length,G.length]
 show{λi P=>?_,λi r c=>?_}
 .change g.length<=i;rw[C.length];exists P
 .have(j,N,rfl):=ar c;have(w',e,m):=G.reverse.get N;have u:i<d.length:=by
   have:=(FL.mp e).1;exists this
  have hv:d[g.length-1-i]?*>w':=by
   rw[p,<-HR u];show e
  show{{by omega,d,aB J,p.symm},λx H' y=>?_};obtain⟨rfl,y⟩:=y;have:=y d (aB J) p.symm;rw[hv]at this;cases this;show f.imm m
def Kj.back{Γ c:Gm}{d:Rho}{E:!En}{D:Km}{f:Fl}(bk:∀H O Z E,Sim c H O Z E->Sim Γ H O Z E)(q:Kj Γ d E D f):Kj c d E D f:=by
 cases f with
 | nx=>show λa H' S=>q a H' (bk _ _ _ _ S)
 | bk=>show λa H' S=>q a H' (bk _ _ _ _ S)
 | ct=>show λa H' S=>q a H' (bk _ _ _ _ S)
 | rt t=>show λv a H' S=>q v a H' (bk _ _ _ _ S)
abbrev fH(g:R->Rho->↑Rho) (b:Rho->↑(Fl×Rho)):!R->Rho->↑(Fl×Rho)
 | [],O=>P9 (.nx,O)
 | r::c,O=>match g r O with
  | some d=>(match b d with
   | some (.nx,a)=>fH g b c a
   | some (.ct,a)=>fH g b c a
   | some (.bk,a)=>P9 (.nx,a)
   | some (.rt t,a)=>P9 (.rt t,a)
   | none=>P8)
  | none=>P8
private def eJ(it:MI)(g:MG)(b:MS):MS:={λO=>match it.run O with
 | some ((c,a),d)=>if(c.all (aw (g.mu++b.mu))&&a.all (aw (g.mu++b.mu)))=Qb then fH g.run b.run a d else P8
 | none=>P8,it.mu++(g.mu++b.mu)}
def yZ(hi:jn K wi it)(hg:j8 K g mg)(U:eV K tb b):eV K (EI wi g tb) (eJ it mg b):=by
 intro Γ H O Z E D f O' o hE G S q;dsimp[eJ]at G q;ext G c a O1 e1;ext G al;rw[FO]at al;show hi Γ H O Z E _ c a O1 o e1 S λΓ Y bk J vs H1 hlv S1 wk=>?_;replace o:=Y.trans o;replace q:=Kj.back bk q;rw[<-ae]at q;have C:=bV (M:=it.mu) hE;generalize ag it.mu E=E1 at q S1 C;have ks:∀e∈ens vs c,az (mg.mu++b.mu) e=Qb:=kZ al.1;have kg:ag mg.mu (ens vs c++ag (mg.mu++b.mu) E1)=ens vs c++ag (mg.mu++b.mu) E1:=by
  rw[aE,dS (λe k=>jz (λj u=>yaL _ u) (ks e k)),cP (λj u=>yaL _ u)]
 have N:ag b.mu (ens vs c++ag (mg.mu++b.mu) E1)=ens vs c++ag (mg.mu++b.mu) E1:=by
  rw[aE,dS (λe k=>jz (λj u=>yaR _ u) (ks e k)),cP (λj u=>yaR _ u)]
 have S2:=S1.weak (mg.mu++b.mu);rw[aE,dS ks]at S2;have B:=bV (M:=mg.mu++b.mu) C;generalize ag (mg.mu++b.mu) E1=E2 at q kg N S2 B;have h:∀e∈ens vs c++E2,e.key=P8:=λe k=>by
  rcases yaM k with k|k;show oP e k;show B e k
 show{λi m Z H=>m=a.length-i/\i<=a.length/\∃O,fH mg.run b.run (a.drop i) O*>(f,O')/\Sim Γ H O Z (ens vs c++E2),{a.length,by simp,GA _,O1,by simpa using G,S2},?_};rintro i m X H2 ⟨rfl,hil,O2,d,S3⟩;have(w1,w2):=wk H2 O2 X E2 S3;by_cases r:i<a.length
 .have hx:a[i]?=P9 a[i]:=by simp[r]
  have(w3,w4):=w2 i _ hx;rw[GR r,fH]at d;show .inr {w3,λz H'=>∃O,fH mg.run b.run (a.drop (i+1)) O*>(f,O')/\Sim Γ H' O z (ens vs c++E2),λz H' ⟨p,h3,S4⟩=>{a.length-(i+1),by omega,Xr,r,p,h3,S4},λx H3 y=>?_};have S4:=w4 x H3 y;ext d p e3;show hg Γ H3 O2 X _ _ x _ p o e3 S4 λP L A=>?_;rw[kg]at A;split at d
  .delta w s;show U Γ L p P _ _ .nx w o h s A λz H' l=>{w,d,by rw[N]at l;show l}
  .delta w s;show U Γ L p P _ _ .ct w o h s A λz H' l=>{w,d,by rw[N]at l;show l}
  .delta w s;cases d;show U Γ L p P _ _ .bk _ o h s A λz H' l=>q z H' (by rw[N]at l;show l.drops)
  .delta t w s;cases d;show U Γ L p P _ _ (.rt t) _ o h s A q
  .cases d
 .have e:i=a.length:=by omega
  subst e;rw[HS,fH]at d;cases d;show .inl {w1 _ (FV _),q X H2 S3.drops}
end
abbrev jT(π:Nat->Nat):Kd->Kd
 | .vw (P9 j) p=>.vw (P9 (π j)) p
 | k=>k
abbrev jd(π:Nat->Nat) (r:R):R:={jT π r.k,r.t}
abbrev bP(π:Nat->Nat) (e:En):En:={e.key.map π,e.v,jd π e.r}
section
variable {Γ:Gm}{H H':Hp}{O:Rho}{Z:St}{E X:!En}{v x y:V}{t:T}{K:yF}{Q:VK}{π:Nat->Nat}
def rR(k:Kd):(jT π k).isOw=k.isOw:=by
 cases k with
 | vw a b=>cases a<;>rfl
 | _=>rfl
def mZ(k:Kd):(jT π k).root=k.root.map π:=by
 cases k with
 | vw a b=>cases a<;>rfl
 | _=>rfl
def p9.ren(S:p9 Γ H X)(u:∀e∈X,∀f∈X,∀a b,e.key*>a->f.key*>b->π a=π b->a=b):p9 Γ H (X.map (bP π)):=by
 have(L,g,rfl):=S;have c:∀L:!Hd,(L.map λh:Hd=>({bP π h.e,h.F}:Hd)).flatMap Hd.own=L.flatMap Hd.own:=by
  intro L
  induction L with
  | nil=>rfl
  | cons h L o=>
   rw[FS,FW,FW,o];congr 1;unfold Hd.own;change(if(jT π h.e.r.k).isOw=Qb then h.F else [])=_;rw[rR]
 show{L.map λh=>{bP π h.e,h.F},{by rw[c];show g.nd,by rw[c];show g.ad,λh z=>?_,λh z=>?_,?_,g.fr,g.iol},by rw[GJ,GJ];rfl}
 .have(l,w,rfl):=FT.mp z;show g.rp l w
 .have(l,w,rfl):=FT.mp z;have k:=g.kd l w;unfold vx at k|-;change match jT π l.e.r.k with
   | .ow=>_|.io k=>_|.vw P8 _=>_|.vw (P9 j) p=>_
  cases ek:l.e.r.k with
  | ow=>rw[ek]at k;show k
  | io n=>rw[ek]at k;show k
  | vw a p=>
   rw[ek]at k;cases a with
   | none=>rw[c];show k
   | some j=>
    have(x,N,M,U,B,x5):=k;show{{bP π x.e,x.F},Gd N,by change x.e.key.map π=_;rw[M];rfl,by change(jT π x.e.r.k).isOw=Qb;rw[rR];show U,λa J=>by rw[c];show B a J,x5}
 .rw[HJ];have e:(λh:Hd=>h.e.key)∘(λh:Hd=>({bP π h.e,h.F}:Hd))=λh=>h.e.key.map π:=rfl;rw[e];have:∀d:!Hd,(∀h∈d,h∈L)->(d.filterMap λh=>h.e.key).Nodup->(d.filterMap λh=>h.e.key.map π).Nodup:=by
   intro d
   induction d with
   | nil=>intro _ _;show GH
   | cons h d o=>
    intro q i;rw[Gc]at i|-;cases ek:h.e.key with
    | none=>rw[ek]at i;show o (λx s=>q x (ymC _ s)) i
    | some a=>
     rw[ek]at i;have(Y,P):=Gi.mp i;show Gi.mpr {λG=>?_,o (λx s=>q x (ymC _ s)) P};have(y,A,m):=Gp.mp G;cases eb:y.e.key with
     | none=>rw[eb]at m;cases m
     | some b=>
      rw[eb]at m;have C : π b=π a:=F9.inj m;have:=u y.e (Gd (q y (ymC _ A))) h.e (Gd (q h ymS)) b a eb ek C;subst this;show Y (Gp.mpr ⟨y,A,eb⟩)
  show this L (λ_ h=>h) g.ks
def p9.filt(S:p9 Γ H X)(p:En->Bool)(d:∀e∈X,p e=Qb->∀j,e.r.k.root*>j->∀f∈X,f.key*>j->p f=Qb):p9 Γ H (X.filter p):=by
 have(L,g,rfl):=S;show{L.filter λh=>p h.e,g.sub Gx λh c j i x a m q=>?_,by rw[Hs];rfl};have(l,o):=FX.mp c;show FX.mpr {a,d h.e (Gd l) o j i x.e (Gd a) m}
def ents_iff:e∈aA 0 Z O ↔ ∃i,e.key*>i/\O[i]?*>(P9 e.r)/\Z[i]?*>(P9 e.v):=by
 constructor
 .intro h;have(i,c,d,a):=cZ h;show{i,by rw[c,Gq],d,a}
 .rintro⟨i,c,d,a⟩;have:=(bD (k:=0) a d).mem_iff.mpr ymS;have f:e={P9 (0+i),e.v,e.r}:=by cases e;dsimp[En.mk.injEq,and_self,and_true,Gq];show c
  rw[f];show this
def nE:∀{k:Nat} {Z:! ↑V} {O:Rho},(aA k Z O).Pairwise λa b=>∃i j,a.key*>i/\b.key*>j/\i<j
 | _,[],_=>List.Pairwise.nil
 | _,x::_,[]=>by cases x<;>show List.Pairwise.nil
 | k,x::Z,y::O=>by
  have c:=nE (k:=k+1) (Z:=Z) (O:=O);cases x with
  | none=>simpa[aA]using c
  | some v=>
   cases y with
   | none=>simpa[aA]using c
   | some r=>
    dsimp[aA];show List.Pairwise.cons (λb e=>?_) c;have(i,d,_,_):=cZ e;show{k,k+1+i,Xr,d,by lia}
def ents_nodup:(aA k Z O).Nodup:=by
 show List.Pairwise.imp ?_ nE;rintro a b ⟨i,j,d,c,e⟩ rfl;rw[d]at c;cases c;lia
abbrev bU(fr:! ↑Nat) (j:Nat):Bool:=match fr[j]? with
 | some (P9 i)=>i==j
 | _=>Qa
abbrev piF(fr:! ↑Nat) (j:Nat):Nat:=if bU fr j=Qb then j else fr.length+j
abbrev psF(fr:! ↑Nat) (k:Nat):Nat:=if k<fr.length then k else k-fr.length
abbrev kh(π:Nat->Nat):Nat->! ↑Nat->Rho->Rho
 | _,[],_=>[]
 | k,o::a,r::O=>(if o*>k then r.map (jd π)else P8)::kh π (k+1) a O
 | k,o::a,[]=>P8::kh π (k+1) a []
abbrev inR(fr:! ↑Nat) (O:Rho):Rho:=kh (piF fr) 0 fr O
abbrev ir(d : Nat->Nat) (c a:!Nat):Nat->! ↑Nat->Rho->Rho->Rho
 | k,o::f,g::e,r::O=>(if o*>k then(cA c g).map (jd d)else cA a r)::ir d c a (k+1) f e O
 | _,[],_,O=>O.map (cA a)
 | _,_::_,[],O=>O.map (cA a)
 | _,_::_,_::_,[]=>[]
abbrev tgF(fr:! ↑Nat):!Nat:=(Gn fr.length).filter λi=> ~~~bU fr i
abbrev muF(fr:! ↑Nat) (a:!Nat):!Nat:=a.filter (bU fr)
abbrev du(fr:! ↑Nat) (a:!Nat) (c O:Rho):Rho:=ir (psF fr) (tgF fr) (muF fr a) 0 fr c O
def capB_iff:bU fr j=Qb↔fr[j]?*>(P9 j):=by
 unfold bU;split;delta i h;rw[h];simp
 .delta h;constructor;intro z;cases z;intro z;show absurd z (h j)
def k9:∀{k:Nat} {fr:! ↑Nat} {O:Rho} {i:Nat} {r':R},(kh π k fr O)[i]?*>(P9 r')↔fr[i]?*>(P9 (k+i))/\∃r,O[i]?*>(P9 r)/\r'=jd π r
 | k,[],O,i,r'=>by simp[kh]
 | k,o::fr,[],0,r'=>by simp[kh]
 | k,o::fr,[],i+1,r'=>by
  rw[kh,Gy,k9 (k:=k+1) (fr:=fr) (O:=[]) (i:=i)];simp
 | k,o::fr,r::O,0,r'=>by
  rw[kh,G4,G4,G4];by_cases h:o*>k
  .subst h;rw[if_pos rfl];cases r with
   | none=>simp
   | some r=>simp[eq_comm]
  .rw[if_neg h];constructor;intro z;cases z;rintro⟨a,_⟩;show absurd (by exists a) h
 | k,o::fr,r::O,i+1,r'=>by
  rw[kh,Gy,Gy,Gy,k9 (k:=k+1) (fr:=fr) (O:=O) (i:=i),show k+1+i=k+(i+1) by lia]
def iW:∀{k:Nat} {fr:! ↑Nat} {O:Rho},(kh π k fr O).length=fr.length
 | k,[],O=>rfl
 | k,o::fr,[]=>by rw[kh,FR,iW,FR]
 | k,o::fr,r::O=>by rw[kh,FR,iW,FR]
def inR_get:(inR fr O)[i]?*>(P9 r')↔bU fr i=Qb/\∃r,O[i]?*>(P9 r)/\r'=jd (piF fr) r:=by
 unfold inR;rw[k9,Gq,capB_iff]
def iX(h:bU fr i=Qb):(aZ fr Z)[i]?*>(Z.getD i P8):=by
 unfold aZ;rw[F4,capB_iff.mp h];rfl
def getD_some:Z.getD i P8*>v↔Z[i]?*>(P9 v):=by
 rw[Gb];cases h:Z[i]? with
 | none=>simp
 | some o=>simp
def dQ(h:bU fr j=Qb):piF fr j=j:=by unfold piF;rw[if_pos h]
def cI(h:bU fr j=Qa):piF fr j=fr.length+j:=by unfold piF;rw[if_neg (by rw[h];simp)]
def bK(h:bU fr j=Qb):j<fr.length:=(FL.mp (capB_iff.mp h)).1
def yy(h:piF fr a=piF fr b):a=b:=by
 cases ha:bU fr a<;>cases hb:bU fr b;rw[cI ha,cI hb]at h;lia;rw[cI ha,dQ hb]at h;have:=bK hb;lia;rw[dQ ha,cI hb]at h;have:=bK ha;lia;rw[dQ ha,dQ hb]at h;show h
def vW(a:Nat):psF fr (piF fr a)=a:=by
 cases ha:bU fr a;rw[cI ha];unfold psF;rw[if_neg (by lia)];lia;rw[dQ ha];unfold psF;rw[if_pos (bK ha)]
def ol(e:En):bP (psF fr) (bP (piF fr) e)=e:=by
 obtain⟨c,v,⟨k,t⟩⟩:=e;have d:(c.map (piF fr)).map (psF fr)=c:=by cases c<;>simp[vW]
 have f:jT (psF fr) (jT (piF fr) k)=k:=by
  cases k with
  | vw a p=>cases a<;>simp[jT,vW]
  | _=>rfl
 change({(c.map (piF fr)).map (psF fr),v,{jT (psF fr) (jT (piF fr) k),t}}:En)=_;rw[d,f]
abbrev fq(fr:! ↑Nat) (e:En):Bool:=match e.key with
 | some j=>bU fr j
 | none=>Qa
def jG{d o:Type}{f : d->o}{l:!d}(h:l.Nodup)(c:∀a∈l,∀b∈l,f a=f b->a=b):(l.map f).Nodup:=by
 induction l with
 | nil=>show GH
 | cons a l k=>
  have(m,p):=Gi.mp h;rw[FS];show Gi.mpr {λi=>?_,k p λx j y q=>c x (ymC _ j) y (ymC _ q)};have(b,g,e):=FT.mp i;have:=c b (ymC _ g) a ymS e;subst this;show m g
def inn_perm{fr:! ↑Nat}:((aA 0 Z O).map (bP (piF fr))).Perm (aA 0 (aZ fr Z) (inR fr O)++((aA 0 Z O).filter λe=> ~~~fq fr e).map (bP (piF fr))):=by
 have A:∀a∈aA 0 Z O,∀b∈aA 0 Z O,bP (piF fr) a=bP (piF fr) b->a=b:=λa _ b _ h=>by
  have:=congrArg (bP (psF fr)) h;rwa [ol,ol]at this
 have l:=jG (ents_nodup (k:=0) (Z:=Z) (O:=O)) A;have C:(((aA 0 Z O).filter λe=> ~~~fq fr e).map (bP (piF fr))).Nodup:=l.sublist (Gx.map _);show(Ij l (FP.mpr {ents_nodup,C,?_})).mpr λe=>?_
 .rintro a N b P rfl;have(i,s,B,w):=ents_iff.mp N;have(c,_):=inR_get.mp B;have(f,g,rfl):=FT.mp P;have(u,d):=FX.mp g;have(j,m,J,G):=ents_iff.mp u;have S:bU fr j=Qa:=by unfold fq at d;rw[m]at d;exists d
  have o:(f.key.map (piF fr))*>i:=s;rw[m]at o;have q:piF fr j=i:=by exists o
  rw[cI S]at q;have:=bK c
  lia
 .rw[IG];constructor
  .intro p;have(f,g,rfl):=FT.mp p;have(j,m,J,G):=ents_iff.mp g;cases c:bU fr j;show .inr (FT.mpr {f,FX.mpr {g,by unfold fq;rw[m];simp[c]},Xr})
   .left;show ents_iff.mpr {j,?_,inR_get.mpr {c,_,J,Xr},?_}
    .change f.key.map (piF fr)=_;rw[m];simp[dQ c]
    .rw[iX c,getD_some.mpr G];rfl
  .rintro(p|p)
   .have(i,s,B,w):=ents_iff.mp p;have(c,r,M,L):=inR_get.mp B;rw[iX c]at w;have z:=getD_some.mp (F9.inj w);show FT.mpr {{P9 i,e.v,r},ents_iff.mpr ⟨i,Xr,M,z⟩,?_};cases e;simp only at s L;simp[bP,dQ c,s,L]
   .have(f,g,rfl):=FT.mp p;show Gd (FX.mp g).1
abbrev fO(fr:! ↑Nat) (Z:St) (O:Rho) (E:!En):!En:=(E++(aA 0 Z O).filter λe=> ~~~fq fr e).map (bP (piF fr))
abbrev eI(fr:! ↑Nat) (n:Nat):Bool:=decide (n<=fr.length)&&(Gn fr.length).all λi=> ~~~bU fr i||decide (i<n)
def nJ(h:eI fr n=Qb)(a:bU fr j=Qb):j<n:=by
 unfold eI at h;rw[FO]at h;have:=Go.mp h.2 j (GP.mpr (bK a));rw[a]at this;exists this
def Sim.inn(S:Sim Γ H O Z E)(o:eI fr O.length=Qb):Sim Γ H (inR fr O) (aZ fr Z) (fO fr Z O E):=by
 show{?_,λi r h=>?_,by rw[cb];unfold inR;rw[iW],λe k j l=>?_}
 .have:=S.sl.ren (π:=piF fr) λe _ f _ a b _ _ h=>yy h;rw[FY]at this;show this.perm ?_;unfold fO;rw[FY,F5];show(inn_perm.append_left _).trans (List.perm_append_comm.append_left _)
 .have(d,s,p,_):=inR_get.mp h;have(v,m):=S.al i s p;show{v,by rw[iX d,getD_some.mpr m]}
 .unfold inR;rw[iW];unfold fO at k;have(f,g,rfl):=FT.mp k;have c:f.key.map (piF fr)*>j:=l;cases hk:f.key with
  | none=>rw[hk]at c;cases c
  | some i=>
   rw[hk]at c;have q:piF fr i=j:=by exists c
   have d:bU fr i=Qa:=by
    rcases yaM g with z|z
    .cases d:bU fr i with
     | false=>rfl
     | true=>
      have:=nJ o d;have:=S.hi f z i hk
      lia
    .have:=(FX.mp z).2;unfold fq at this;rw[hk]at this;exists this
   rw[cI d]at q
   lia
def mT:∀{k:Nat} {fr:! ↑Nat} {a O:Rho} {i:Nat},i < O.length->O.length<=fr.length->fr.length=a.length->(ir ψ tg mu k fr a O)[i]?*>(if fr[i]?*>(P9 (k+i))then(cA tg (a.getD i P8)).map (jd ψ)else cA mu (O.getD i P8))
 | k,fr,a,[],i,h,_,_=>by cases h
 | k,[],a,r::O,i,_,h,_=>by simp at h
 | k,o::fr,[],r::O,i,_,_,h=>by cases h
 | k,o::fr,e::a,r::O,0,h,d,c=>by
  rw[ir,G4,G4];simp
 | k,o::fr,e::a,r::O,i+1,h,d,c=>by
  rw[ir,Gy,mT (k:=k+1) (by exists h) (by exists d) (by exists c),Gy,show k+1+i=k+(i+1) by lia];simp
def jK:∀{k:Nat} {fr:! ↑Nat} {a O:Rho},(ir ψ tg mu k fr a O).length=O.length
 | k,[],a,O=>by cases a<;>simp[ir]
 | k,o::fr,[],O=>by simp[ir]
 | k,o::fr,c::a,[]=>by simp[ir]
 | k,o::fr,c::a,r::O=>by rw[ir,FR,jK,FR]
def jj:i∈tgF fr↔i<fr.length/\bU fr i=Qa:=by
 unfold tgF;rw[FX,GP];simp
def killO_iff:cA M o*>r↔o*>r/\gm M r=Qb:=by
 cases o with
 | none=>simp[cA]
 | some x=>
  dsimp[cA];split
  .delta h;constructor;intro z;cases z;show⟨Xr,h⟩;rintro⟨z,_⟩;rw[z]
  .delta h;constructor;intro z;cases z;rintro⟨z,a⟩;cases z;show absurd a h
def uT(a:∀j∈mu,j<fr.length)(e:En):az mu (bP (piF fr) e)=az (muF fr mu) e:=by
 unfold az;change(match (jT (piF fr) e.r.k).root with|some j=> ~~~mu.contains j|none=>Qb)=_;rw[mZ];cases e.r.k.root with
 | none=>rfl
 | some j=>
  change(~~~mu.contains (piF fr j)) =  ~~~(muF fr mu).contains j;congr 1;rw[GI];dsimp[GM,decide_eq_true_eq,muF,FX];cases hc:bU fr j
  .rw[cI hc];constructor;intro z;have:=a _ z;lia;rintro⟨_,z⟩;cases z
  .rw[dQ hc];simp
def x8(e:En):az (tgF fr) (bP (piF fr) e)=Qb:=by
 unfold az;change(match (jT (piF fr) e.r.k).root with|some j=> ~~~(tgF fr).contains j|none=>Qb)=_;rw[mZ];cases e.r.k.root with
 | none=>rfl
 | some j=>
  change(~~~(tgF fr).contains (piF fr j))=Qb;dsimp[GM,Gk,decide_eq_false_iff_not,jj];rintro⟨c,a⟩;cases hc:bU fr j;rw[cI hc]at c;lia;rw[dQ hc,hc]at a;cases a
def Sim.outt{fr:! ↑Nat}{B:!Nat}{Y:Rho}{Z2:St}(S:Sim Γ H' Y Z2 (ag B (fO fr Z O E)))(hf:eI fr O.length=Qb)(hmu:∀j∈B,j<fr.length)(hl : Y.length=fr.length)(kp:Kp fr (aZ fr Z) Z2)
  (al:∀(i:Nat) r,O[i]?*>(P9 r)->∃v,Z[i]?*>(P9 v)) (len:Z.length=O.length) (hi:∀e∈E,∀j,e.key*>j->O.length<=j):Sim Γ H' (du fr B Y O) Z (ag (muF fr B) E):=by
 have hn : O.length<=fr.length:=by unfold eI at hf;rw[FO,decide_eq_true_eq]at hf;show hf.1
 have val:∀{i:Nat} {w:V},bU fr i=Qb->Z2[i]?*>(P9 w)->Z[i]?*>(P9 w):=λ{i w} d h=>by
  rw[kp.2 i i (capB_iff.mp d),iX d]at h;show getD_some.mp (F9.inj h)
 have eE:ag B (fO fr Z O E)=(ag (muF fr B) (E++(aA 0 Z O).filter λe=> ~~~fq fr e)).map (bP (piF fr)):=by
  unfold fO ag;rw[Hs];congr 1;apply List.filter_congr;intro e _;show uT hmu e
 have s1:=(S.sl.kill (tgF fr));rw[aE,eE]at s1;have e1:ag (tgF fr) ((ag (muF fr B) (E++(aA 0 Z O).filter λe=> ~~~fq fr e)).map (bP (piF fr)))=(ag (muF fr B) (E++(aA 0 Z O).filter λe=> ~~~fq fr e)).map (bP (piF fr)):=by
  unfold ag;rw[G8];intro e C;have(f,_,rfl):=FT.mp C;show x8 f
 rw[e1]at s1
 let p:En->Bool:=λe=>match e.key with
  | some k=> ~~~(tgF fr).contains k
  | none=>Qb
 have kout:∀f∈E++(aA 0 Z O).filter λe=> ~~~fq fr e,∀j,f.key*>j->bU fr j=Qa:=λf q j P=>by
  rcases yaM q with z|z
  .cases d:bU fr j with
   | false=>rfl
   | true=>have:=nJ hf d;have:=hi f z j P;lia
  .have:=(FX.mp z).2;unfold fq at this;rw[P]at this;exists this
 have pO:∀e∈(ag (muF fr B) (E++(aA 0 Z O).filter λe=> ~~~fq fr e)).map (bP (piF fr)),p e=Qb:=λe C=>by
  have(f,q,rfl):=FT.mp C;have hf'':=(FX.mp q).1;change(match f.key.map (piF fr)with|some k=> ~~~(tgF fr).contains k|none=>Qb)=Qb;cases L:f.key with
  | none=>rfl
  | some j=>
   have:=kout f hf'' j L;dsimp[G6,GM,Gk,decide_eq_false_iff_not,jj];rw[cI this]
   lia
 have s2:=s1.filt p λe C _ j P f q L=>by
  change(match f.key with|some k=> ~~~(tgF fr).contains k|none=>Qb)=Qb;rw[L];have hm:e∈ag (tgF fr) (ag B (fO fr Z O E)++aA 0 Z2 Y):=by rw[aE,eE,e1];show C
  by_cases u:j∈tgF fr;show absurd P (lp (M:=tgF fr) (i:=j) u e hm);simp[u]
 rw[Jb,G8.mpr pO]at s2;have s3:=s2.ren (π:=psF fr) (λe C f q a b ha hb s=>by
  have key:∀e∈(ag (muF fr B) (E++(aA 0 Z O).filter λe=> ~~~fq fr e)).map (bP (piF fr))++(ag (tgF fr) (aA 0 Z2 Y)).filter p,∀a,e.key*>a->(∃j,a=fr.length+j/\bU fr j=Qa)\/bU fr a=Qb:=λe C a ha=>by
   rcases yaM C with z|z
   .left;have(g,hg,rfl):=FT.mp z;have hg':=(FX.mp hg).1;have ha':g.key.map (piF fr)*>a:=ha;cases L:g.key with
    | none=>rw[L]at ha';cases (ha')
    | some j=>
     have d:=kout g hg' j L;rw[L]at ha';have:piF fr j=a:=by exists ha'
     show{j,by rw[<-this,cI d],d}
   .right;have(z1,z2):=FX.mp z;have(i,c,l,A):=ents_iff.mp (FX.mp z1).1;rw[ha]at c;cases (c);have G:(match e.key with|some k=> ~~~(tgF fr).contains k|none=>Qb)=Qb:=z2;rw[ha]at G;have m:a<fr.length:=by
     have:=(FL.mp l).1
     lia
    dsimp[GM,Gk,decide_eq_false_iff_not,jj]at G;cases d:bU fr a with
    | true=>rfl
    | false=>show absurd ⟨m,d⟩ G
  rcases key e C a ha with⟨j,rfl,P⟩|P<;>rcases key f q b hb with⟨j',rfl,u⟩|u;unfold psF at s;rw[if_neg (by lia),if_neg (by lia)]at s;lia
  .unfold psF at s;rw[if_neg (by lia),if_pos (bK u)]at s;have:j=b:=by lia
   subst this;rw[P]at u;cases (u)
  .unfold psF at s;rw[if_pos (bK P),if_neg (by lia)]at s;have:j'=a:=by lia
   subst this;rw[u]at P;cases (P)
  .unfold psF at s;rw[if_pos (bK P),if_pos (bK u)]at s;show s)
 rw[FY,GJ]at s3;have e2:(ag (muF fr B) (E++(aA 0 Z O).filter λe=> ~~~fq fr e)).map (bP (psF fr)∘bP (piF fr))=ag (muF fr B) (E++(aA 0 Z O).filter λe=> ~~~fq fr e):=by
  conv=>rhs;rw[<-List.map_id (ag (muF fr B) (E++(aA 0 Z O).filter λe=> ~~~fq fr e))]
  apply List.map_congr_left;intro e _;show ol e
 rw[e2,aE,F5]at s3;have olen:(du fr B Y O).length=O.length:=by unfold du;show jK
 have J:∀{i:Nat} {r:R},(du fr B Y O)[i]?*>(P9 r)↔i < O.length/\((bU fr i=Qb/\∃N,Y[i]?*>(P9 N)/\gm (tgF fr) N=Qb/\r=jd (psF fr) N)\/(bU fr i=Qa/\O[i]?*>(P9 r)/\gm (muF fr B) r=Qb)):=λ{i r}=>by
  by_cases m:i < O.length
  .unfold du;rw[mT m hn hl.symm,Gq];cases d:bU fr i
   .rw[if_neg (λz=>by rw[capB_iff.mpr z]at d;cases (d))];rw[F9.injEq,killO_iff];have : O.getD i P8*>r↔O[i]?*>(P9 r):=by
     rw[Gb];cases O[i]?<;>simp
    rw[this];simp[m]
   .rw[if_pos (capB_iff.mp d)];rw[F9.injEq,IE];constructor
    .rintro⟨N,c,l⟩;have(A,h4):=killO_iff.mp c;show{m,.inl {Xr,N,?_,h4,l.symm}};rw[Gb]at A;cases h5 : Y[i]? with
     | none=>rw[h5]at A;cases (A)
     | some o=>rw[h5]at A;have:o*>N:=A;rw[this]
    .rintro⟨_,⟨_,N,c,l,A⟩|⟨z,_⟩⟩;show{N,killO_iff.mpr {by rw[Gb,c];rfl,l},A.symm};cases (z)
  .constructor
   .intro z;have:=(FL.mp z).1;rw[olen]at this;show absurd this m
   .rintro⟨z,_⟩;show absurd z m
 show{s3.perm (List.Perm.append_left _ ?_),λi r h=>?_,by rw[olen];show len,λe C j P=>by rw[olen];show hi e (FX.mp C).1 j P}
 .have ndA:(ag (muF fr B) ((aA 0 Z O).filter λe=> ~~~fq fr e)).Nodup:=ents_nodup.sublist (Gx.trans Gx);have inB:∀e∈(ag (tgF fr) (aA 0 Z2 Y)).filter p,∃i,e.key*>i/\bU fr i=Qb/\Y[i]?*>(P9 e.r)/\Z2[i]?*>(P9 e.v)/\gm (tgF fr) e.r=Qb:=λe C=>by
   have(z1,z2):=FX.mp C;have(z3,z4):=FX.mp z1;have(i,c,l,A):=ents_iff.mp z3;have G:(match e.key with|some k=> ~~~(tgF fr).contains k|none=>Qb)=Qb:=z2;rw[c]at G;have m:i<fr.length:=by
    have:=(FL.mp l).1
    lia
   dsimp[GM,Gk,decide_eq_false_iff_not,jj]at G;show{i,c,?_,l,A,z4};cases d:bU fr i with
   | true=>rfl
   | false=>show absurd ⟨m,d⟩ G
  have ndB:(((ag (tgF fr) (aA 0 Z2 Y)).filter p).map (bP (psF fr))).Nodup:=by
   show jG (ents_nodup.sublist (Gx.trans Gx)) λa ha b hb h=>?_;have(i,c,l,A,h4,_):=inB a ha;have(j,U,g2,g3,g4,_):=inB b hb;have L:a.key.map (psF fr)=b.key.map (psF fr):=congrArg En.key h;rw[c,U]at L;have hk':psF fr i=psF fr j:=by exists L
   unfold psF at hk';rw[if_pos (bK l),if_pos (bK g2)]at hk';subst hk';rw[A]at g3;rw[h4]at g4;cases (a);cases (b);simp only at c U g3 g4;have e1:=F9.inj (F9.inj g3);have e2:=F9.inj (F9.inj g4);simp[c,U,e1,e2]
  show(Ij (FP.mpr {ndA,ndB,?_}) ents_nodup).mpr λe=>?_
  .rintro a ha b hb rfl;have(f,q,hfe):=FT.mp hb;have(i,c,l,_):=inB f q;have L:f.key.map (psF fr)=a.key:=congrArg En.key hfe;rw[c]at L;have hk':a.key*>i:=by rw[<-L];simp[psF,bK l]
   have(y1,y2):=FX.mp (FX.mp ha).1;unfold fq at y2;rw[hk']at y2;simp[l]at y2
  .rw[IG,ents_iff];constructor
   .rintro(C|C)
    .have(z1,z2):=FX.mp C;have(z3,z4):=FX.mp z1;have(i,c,l,A):=ents_iff.mp z3;unfold fq at z4;rw[c]at z4;show{i,c,J.mpr {(FL.mp l).1,.inr {by simpa using z4,l,z2}},A}
    .have(f,q,rfl):=FT.mp C;have(i,c,l,A,h4,h5):=inB f q;show{i,?_,J.mpr {nJ hf l,.inl ⟨l,f.r,A,h5,Xr⟩},val l h4};change f.key.map (psF fr)*>i;rw[c];simp[psF,bK l]
   .rintro⟨i,c,l,A⟩;obtain⟨m,⟨d,N,U,g2,g3⟩|⟨d,U,g2⟩⟩:=J.mp l
    .right;have(w,hw):=S.al i N U;have hw':=val d hw;rw[A]at hw';have ew:e.v=w:=F9.inj (F9.inj hw');show FT.mpr {{P9 i,w,N},FX.mpr {FX.mpr {ents_iff.mpr ⟨i,Xr,U,hw⟩,g2},?_},?_}
     .change(~~~(tgF fr).contains i)=Qb;dsimp[GM,Gk,decide_eq_false_iff_not,jj];rintro⟨_,z⟩;rw[d]at z;cases (z)
     .cases (e);simp only at c g3 ew;simp[bP,c,g3,ew,psF,bK d]
    .left;show FX.mpr {FX.mpr {ents_iff.mpr ⟨i,c,U,A⟩,?_},g2};unfold fq;rw[c];simp[d]
 .obtain⟨m,⟨d,N,U,g2,g3⟩|⟨d,U,g2⟩⟩:=J.mp h
  .have(w,hw):=S.al i N U;show{w,val d hw}
  .show al i r U
end
section
variable {Γ:Gm}{H H':Hp}{O:Rho}{Z:St}{E X:!En}{v x y:V}{t:T}{K:yF}{Q:VK}
def Sim.mkL(S:Sim Γ H O Z (aI vs ts++E))(j:vs.length=ts.length)(h:H p=P8):Sim Γ (upd H p (.lst vs)) O Z ({P8,.ref p,{.ow,bM ts}}::E):=by
 have(F,g,q,f,l):=S.use j;have d:=JX.laid (o:=.lst vs) h;have s:p∉F:=λz=>by have(o,e,_):=f p z;rw[h]at e;cases e
 show l _ (.ref p) (bM ts) (p::F) (d.offM _) (λa c=>let ⟨o,e,_⟩:=f a c;{o,d a o e}) (Gi.mpr ⟨s,q⟩) (λa c=>?_) ?_
 .rcases ycM c with rfl|c;show{.inr h,_,aN,Xr};show{.inl c,let ⟨o,e,m⟩:=f a c;{o,d a o e,m}}
 .unfold bM;split
  .delta u k;rw[nM k]at g;have(r,i):=Rps.ims.mp g;subst i;rw[Rp];show{p,vs,Xr,.inl aN,r.same d,Xr}
  .rw[Rp];show{p,vs,F,Xr,.inl aN,g.same d,Xr}
def m9:∀{vs:!V} {ts:!T},vs.length=ts.length->aI (vs++[v]) (ts++[t])=aI vs ts++[{P8,v,{.ow,t}}]
 | [],[],_=>rfl
 | a::vs,b::ts,h=>by
  rw[F8,F8,aI,aI,m9 (by exists h),F8]
 | [],_::_,h=>by cases h
 | _::_,[],h=>by cases h
def fK:∀{vs:!V} {ts:!T},ag M (aI vs ts)=aI vs ts
 | [],ts=>by cases ts<;>rfl
 | a::vs,[]=>rfl
 | a::vs,b::ts=>by rw[aI,av rfl,fK]
abbrev bp(fr:! ↑Nat) (M:!Nat) (g:MG) (c:MT) (e:ME):!R->Rho->!T->↑(!T×Rho)
 | [],O,a=>P9 (a,O)
 | r::f,O,a=>match g.run (jd (piF fr) r) (inR fr O)with
  | some i=>(match c.run i with
   | some (Qb,d)=>(match e.run d with
    | some (⟨.ow,t⟩,h)=>bp fr M g c e f (du fr M h O) (a++[t])
    | _=>P8)
   | some (Qa,d)=>bp fr M g c e f (du fr M d O) a
   | none=>P8)
  | none=>P8
def ie:fO fr Z O (e::E)=bP (piF fr) e::fO fr Z O E:=rfl
def lu:(du fr M Oi O).length=O.length:=jK
def mf(hK : Γ.K=K)(wk:fF Γ J vs srcs items)(hgk:dB fr g)(hg:j8 K g mg)(hc:eW K tc c)(he:aR K te e)(hM:M=mg.mu++(c.mu++e.mu))
  (hmu:∀j∈M,j<fr.length) (ks:∀e∈ens vs srcs,az (muF fr M) e=Qb) {E2:!En} (kE:ag (muF fr M) E2=E2) {k:!T} {Y:Rho} {acc0:!V} {ts0:!T} (hl0:acc0.length=ts0.length) (hz:acc0.length+items.length<sizeLine)
  (hf:eI fr O.length=Qb) (S:Sim Γ H O Z (ens vs srcs++(aI acc0 ts0++E2))) (hr:bp fr M mg c e items O ts0*>(k,Y))
  (q:∀a H',a.length=k.length->a.length<=acc0.length+items.length->Y.length=O.length->Sim Γ H' Y Z (ens vs srcs++(aI a k++E2))->N a H'):ug J (aZ fr Z) g tc te acc0 H N:=by
 have kE2:∀a f,ag (muF fr M) (ens vs srcs++(aI a f++E2))=ens vs srcs++(aI a f++E2):=λa f=>by rw[aE,dS ks,aE,fK,kE]
 show{λi m a H=>m=items.length-i/\i<=items.length/\a.length<=acc0.length+i/\∃h f,bp fr M mg c e (items.drop i) h f*>(k,Y)/\a.length=f.length/\h.length=O.length/\Sim Γ H h Z (ens vs srcs++(aI a f++E2)),{items.length,by simp,GA _,by omega,O,ts0,by simpa using hr,hl0,Xr,S},?_};rintro i m a H1 ⟨rfl,hil,hal,h,f,o,hl,hO,p⟩;show{by omega,?_};have(w1,w2):=wk H1 h Z _ p;by_cases s:i<items.length
 .have hx:items[i]?=P9 items[i]:=by simp[s]
  have(w3,w4):=w2 i _ hx;rw[GR s,bp]at o;show .inr {w3,λd H'=>d.length<=acc0.length+(i+1)/\∃h f,bp fr M mg c e (items.drop (i+1)) h f*>(k,Y)/\d.length=f.length/\h.length=O.length/\Sim Γ H' h Z (ens vs srcs++(aI d f++E2)),λd H' ⟨ha,r,ts3,h3,hl3,hO3,S3⟩=>{items.length-(i+1),by omega,Xr,s,ha,r,ts3,h3,hl3,hO3,S3},λx H2 y=>?_};have S2:=w4 x H2 y;have u:eI fr h.length=Qb:=by rw[hO];show hf
  have S3:=S2.inn u;rw[ie]at S3;ext o O2 e2;show hgk x (aZ fr Z) H2 (λG H3=>Kp fr (aZ fr Z) G->_) _ (λG H3 z U=>z U) ?_;show hg Γ H2 (inR fr h) (aZ fr Z) _ _ x _ O2 hK e2 S3 λG H3 S4 U=>?_;split at o
  .delta r e3;show hc Γ H3 O2 G _ _ Qb r hK e3 S4 λH4 S5=>nP ?_;ext o t O4 e4;show he Γ H4 r G _ _ _ O4 hK e4 S5 λw H5 l=>?_;rw[ae,ae]at l;rw[<-hM]at l;have S7:Sim Γ H5 O4 G (ag M (fO fr Z h ({P8,w,{.ow,t}}::(ens vs srcs++(aI a f++E2))))):=by
    rw[ie,av (show az M (bP (piF fr) {P8,w,{.ow,t}})=Qb from rfl)];show l
   have L : O4.length=fr.length:=by rw[<-l.len,U.1,cb]
   have S8:=S7.outt u hmu L U p.al p.len (λe' P j hj=>by
    rcases ycM P with rfl|P;cases hj;show p.hi e' P j hj)
   rw[av (show az (muF fr M) {P8,w,{.ow,t}}=Qb from rfl),kE2]at S8;show{by simp;omega,_,_,o,by simp[hl],by rw[lu,hO],?_};rw[m9 hl,F5];show S8.perm ?_;have pp:∀(A B C:!En) (x:En),(x::(A++(B++C))).Perm (A++(B++(x::C))):=λA B C x=>by
    rw[<-F5,<-F5];show Gh.symm
   show pp _ _ _ _
  .delta r e3;show hc Γ H3 O2 G _ _ Qa r hK e3 S4 λH4 S5=>nO ?_;have l:=S5.weak e.mu;rw[ae,ae]at l;rw[<-hM]at l;have L : r.length=fr.length:=by rw[<-l.len,U.1,cb]
   have S8:=l.outt u hmu L U p.al p.len p.hi;rw[kE2]at S8;show{by omega,_,_,o,hl,by rw[lu,hO],S8}
  .cases o
 .have ei:i=items.length:=by omega
  subst ei;rw[HS,bp]at o;cases o;show .inl {w1 _ (FV _),q a H1 hl hal hO p}
abbrev eM(M:!Nat) (n:Nat):Bool:=M.all λj=>decide (j<n)
def ll(h:eM M n=Qb):∀j∈M,j<n:=λj a=>by
 have:=Go.mp h j a;exists this
private def bj(fr:! ↑Nat)(it:MI)(g:MG)(c:MT)(e:ME):ME:={λO=>match it.run O with
 | some ((d,a),f)=>if(eI fr f.length&&eM (g.mu++(c.mu++e.mu)) fr.length&&d.all (aw (muF fr (g.mu++(c.mu++e.mu))))&&decide (a.length<sizeLine))=Qb then(match bp fr (g.mu++(c.mu++e.mu)) g c e a f []with
  | some (h,i)=>P9 ({.ow,bM h},i)
  | none=>P8)else P8
 | none=>P8,it.mu++muF fr (g.mu++(c.mu++e.mu))}
def pw(z:jn K wi it)(l:dB fr g)(hg:j8 K g mg)(hc:eW K tc c)(he:aR K te e):aR K (w9 wi fr g tc te) (bj fr it mg c e):=by
 intro Γ H O Z E Q r O' i h S q;dsimp[bj]at h q;ext h a f A G;ext h s;dsimp[FO,decide_eq_true_eq]at s;obtain⟨⟨⟨b1,Y⟩,b3⟩,b5⟩:=s;ext h ts O2 L;cases h;show z Γ H O Z E _ a f A i G S λΓ m C J vs H1 B o wk=>?_;replace i:=m.trans i;replace q:=λv H' S=>q v H' (C _ _ _ _ S);rw[<-ae]at q;generalize ag it.mu E=E1 at q o;have p:∀e'∈ens vs a,az (muF fr (mg.mu++(c.mu++e.mu))) e'=Qb:=kZ b3;have k:=o.weak (muF fr (mg.mu++(c.mu++e.mu)));rw[aE,dS p]at k;have u:=cP (M:=muF fr (mg.mu++(c.mu++e.mu))) (N:=muF fr (mg.mu++(c.mu++e.mu))) (λj w=>w) E1;generalize ag (muF fr (mg.mu++(c.mu++e.mu))) E1=E2 at q k u;show mf (acc0:=[]) (ts0:=[]) i wk l hg hc he rfl (ll Y) p u rfl (by exists b5) b1 k L λacc H' hl _ _ P d U=>?_;show q _ _ (P.drops.mkL hl U)
abbrev bZ(fr f:! ↑Nat) (g:MG) (i:MI) (j:MG) (c:MT) (e:ME):!R->Rho->!T->↑(!T×Rho)
 | [],O,h=>P9 (h,O)
 | r::o,O,h=>match g.run (jd (piF fr) r) (inR fr O)with
  | some m=>(match i.run m with
   | some ((d,a),k)=>if(eI f k.length&&(decide (d.length=1)&&d.all (aw (muF f (j.mu++(c.mu++e.mu)))))&&decide (h.length+a.length<sizeLine))=Qb then(match bp f (j.mu++(c.mu++e.mu)) j c e a k h with
    | some (p,l)=>bZ fr f g i j c e o (du fr (g.mu++(i.mu++muF f (j.mu++(c.mu++e.mu)))) l O) p
    | none=>P8)else P8
   | none=>P8)
  | none=>P8
private def jE(fr a:! ↑Nat)(it:MI)(g:MG)(d:MI)(i:MG)(c:MT)(e:ME):ME:={λO=>match it.run O with
 | some ((f,h),k)=>if(eI fr k.length&&eM (g.mu++(d.mu++muF a (i.mu++(c.mu++e.mu)))) fr.length&&eM (i.mu++(c.mu++e.mu)) a.length&&(decide (f.length=1)&&f.all (aw (muF fr (g.mu++(d.mu++muF a (i.mu++(c.mu++e.mu))))))))=Qb then(match bZ fr a g d i c e h k []with
  | some (j,l)=>if j.length<sizeLine then P9 ({.ow,bM j},l)else P8
  | none=>P8)else P8
 | none=>P8,it.mu++muF fr (g.mu++(d.mu++muF a (i.mu++(c.mu++e.mu))))}
def gq:∀{items:!R} {O:Rho} {a ts:!T} {d:Rho},bp fr M g c e items O a*>(ts,d)->a.length<=ts.length
 | [],O,a,ts,d,h=>by cases h;show FV _
 | r::f,O,a,ts,d,h=>by
  rw[bp]at h;ext h;split at h
  .split at h;have:=gq h;simp at this;omega;cases h
  .show gq h
  .cases h
def iS:∀{items:!R} {O:Rho} {a ts:!T} {d:Rho},bZ fr fr2 g it2 g2 c e items O a*>(ts,d)->a.length<=ts.length
 | [],O,a,ts,d,h=>by cases h;show FV _
 | r::i,O,a,ts,d,h=>by
  rw[bZ]at h;ext h;ext h;ext h;ext h f;show Gj (gq f) (iS h)
def t8:∀{vs:!V} {ts:!T},(aI vs ts).map (bP (piF fr))=aI vs ts:=by
 intro vs
 induction vs with
 | nil=>intro ts;cases ts<;>rfl
 | cons a vs c=>
  intro ts;cases ts with
  | nil=>rfl
  | cons b ts=>rw[aI,FS,c];rfl
def t7:∀{vs:!V} {ts:!T} {c:En},c∈aI vs ts->c.key=P8:=by
 intro vs
 induction vs with
 | nil=>intro ts c h;cases ts<;>cases h
 | cons a vs d=>
  intro ts c h;cases ts with
  | nil=>cases h
  | cons b ts=>
   rcases ycM h with rfl|h;rfl;show d h
def o7(M:!Nat)(fr:! ↑Nat)(Z:St)(O:Rho)(e:En)(vs:!V)(ts:!T)(E:!En):(aI vs ts++ag M (bP (piF fr) e::fO fr Z O E)).Perm (ag M (fO fr Z O (e::(aI vs ts++E)))):=by
 have c:fO fr Z O (e::(aI vs ts++E))=bP (piF fr) e::(aI vs ts++fO fr Z O E):=by
  rw[ie];congr 1;unfold fO;rw[F5,FY,t8]
 have a:ag M (aI vs ts++(bP (piF fr) e::fO fr Z O E))=aI vs ts++ag M (bP (piF fr) e::fO fr Z O E):=by rw[aE,fK]
 rw[c,<-a];show List.Perm.filter _ Gh
def tQ(hi:jn K wi it)(hgk:dB fr g)(hg:j8 K g mg)(hi2:jn K wi2 it2)(hgk2:dB fr2 g2)(hg2:j8 K g2 mg2)(hc:eW K tc c)(he:aR K te e):aR K (xa wi fr g wi2 fr2 g2 tc te) (jE fr fr2 it mg it2 mg2 c e):=by
 intro Γ H O Z E Q r O' Y U S q;dsimp[jE]at U q;ext U srcs a O1 e1;ext U hb;dsimp[FO,decide_eq_true_eq]at hb;obtain⟨⟨⟨b1,b2⟩,b3⟩,b5,b4⟩:=hb;have(f,rfl):=G9.mp b5;rw[GO,HN,Ir]at b4;ext U tsF OF e2;ext U hz;cases U;show hi Γ H O Z E _ [f] a O1 Y e1 S λΓ hK2 bk J vs H1 hlv S1 wk=>?_;replace Y:=hK2.trans Y;replace q:=λv H' S=>q v H' (bk _ _ _ _ S);have(v,rfl):=G9.mp hlv;replace S1:Sim Γ H1 O1 Z (⟨P8,v,f⟩::ag it.mu E):=S1;rw[<-ae]at q;generalize G:mg2.mu++(c.mu++e.mu)=M2 at *;generalize hM:mg.mu++(it2.mu++muF fr2 M2)=M at *;generalize ag it.mu E=E1 at q S1;have ks:az (muF fr M) ⟨P8,v,f⟩=Qb:=b4;have S2:=S1.weak (muF fr M);rw[av ks]at S2;have kE:=cP (M:=muF fr M) (N:=muF fr M) (λj A=>A) E1;generalize ag (muF fr M) E1=E2 at q S2 kE;have kE2:∀h s,ag (muF fr M) (⟨P8,v,f⟩::(aI h s++E2))=⟨P8,v,f⟩::(aI h s++E2):=λh s=>by rw[av ks,aE,fK,kE]
 show{λi m h H=>m=a.length-i/\i<=a.length/\∃l s,bZ fr fr2 mg it2 mg2 c e (a.drop i) l s*>(tsF,O')/\h.length=s.length/\l.length=O1.length/\Sim Γ H l Z (⟨P8,v,f⟩::(aI h s++E2)),{a.length,by simp,GA _,O1,[],by simpa using e2,Xr,Xr,S2},?_};rintro i m h H2 ⟨rfl,hil,l,s,u,hl,hO,C⟩;have:=iS u;show{by omega,?_};have(w1,w2):=wk H2 l Z _ C;by_cases L:i<a.length
 .have hx:a[i]?=P9 a[i]:=by simp[L]
  have(w3,w4):=w2 i _ hx;rw[GR L,bZ]at u;show .inr {w3,λp H'=>∃l s,bZ fr fr2 mg it2 mg2 c e (a.drop (i+1)) l s*>(tsF,O')/\p.length=s.length/\l.length=O1.length/\Sim Γ H' l Z (⟨P8,v,f⟩::(aI p s++E2)),λp H' ⟨O3,P,h3,hl3,hO3,C⟩=>{a.length-(i+1),by omega,Xr,L,O3,P,h3,hl3,hO3,C},λx H3 y=>?_};have S4:Sim Γ H3 l Z ({P8,x,a[i]}::⟨P8,v,f⟩::(aI h s++E2)):=w4 x H3 y;have hf1:eI fr l.length=Qb:=by rw[hO];show b1
  have S5:=S4.inn hf1;rw[ie]at S5;ext u O3 e3;show hgk x (aZ fr Z) H3 (λZ2 H4=>Kp fr (aZ fr Z) Z2->_) _ (λZ2 H4 z kp=>z kp) ?_;show hg Γ H3 (inR fr l) (aZ fr Z) _ _ x _ O3 Y e3 S5 λZ2 H4 S6 kp=>?_;ext u srcs2 w O4 e4;ext u B;rw[G]at B;dsimp[FO,decide_eq_true_eq]at B;obtain⟨⟨c1,c4,c2⟩,c3⟩:=B;have(o,rfl):=G9.mp c4;rw[GO,HN,Ir]at c2;ext u P O5 e5;rw[G]at e5 u;show hi2 Γ H4 O3 Z2 _ _ [o] w O4 Y e4 S6 λΓ2 hK3 bk2 J2 vs2 H5 hlv2 S7 wk2=>?_;have(v2,rfl):=G9.mp hlv2;rw[show ens [v2] [o]=[⟨P8,v2,o⟩]from rfl,List.singleton_append]at S7;rw[ae]at S7;have ks2:az (muF fr2 M2) ⟨P8,v2,o⟩=Qb:=c2;have S8:=S7.weak (muF fr2 M2);rw[av ks2,ae]at S8;have S9:=S8.perm (List.Perm.cons _ (o7 _ _ _ _ _ _ _ _).symm);have kE9:=cP (M:=mg.mu++it2.mu++muF fr2 M2) (N:=muF fr2 M2) (λj A=>yaR _ A) (bP (piF fr) ⟨P8,v,f⟩::fO fr Z l E2);show mf (H:=H5) (O:=O4) (Z:=Z2) (E2:=ag (mg.mu++it2.mu++muF fr2 M2) (bP (piF fr) ⟨P8,v,f⟩::fO fr Z l E2)) (acc0:=h) (ts0:=s) (hK3.trans Y) wk2 hgk2 hg2 hc he G.symm (ll b3) (λe' k=>by rcases ysM k with rfl;show ks2) kE9 hl (by rw[hl];show c3) c1 S9 e5 λp H6 hl' _ hO5 S10=>?_;show{_,P,u,hl',by rw[lu,hO],?_};have S11:=bk2 _ _ _ _ (S10.drop rfl);have em:mg.mu++it2.mu++muF fr2 M2=M:=by rw[<-hM,F5]
  rw[em]at S11;have S12:=S11.perm (o7 _ _ _ _ _ _ _ _);have hl5 : O5.length=fr.length:=by rw[<-S12.len,kp.1,cb]
  have S13:=S12.outt hf1 (ll b2) hl5 kp C.al C.len (λe' k j A=>by
   rcases ycM k with rfl|k;cases A
   .rcases yaM k with k|k;rw[t7 k]at A;cases A;show C.hi e' (ymC _ (yaR _ k)) j A)
  rw[kE2]at S13;rw[hM];show S13
 .have ei:i=a.length:=by omega
  subst ei;rw[HS,bZ]at u;cases u;show .inl {w1 _ (FV _),λd hd=>q _ _ ((C.drop rfl).mkL hl hd)}
end
section
variable {Γ:Gm}{H H':Hp}{L:!Hd}{O:Rho}{Z:St}{E X:!En}{v w x y:V}{t s:T}{K:yF}{Q:VK}
def GW.stepN(G:GW Γ H (hs++L))(ho:∀h∈hs,h.e.r.k.isOw=Qb)(hr:∀g∈L,∀h∈hs,∀j,h.e.key*>j->g.e.r.k.root≠P9 j)
  (f:td (hs.flatMap (·.F)) H H') (dom:∀a∈hs.flatMap (·.F),∃o,H' a*>o) (nd:(ns.flatMap (·.F)).Nodup) (M:∀a∈ns.flatMap (·.F),(a∈hs.flatMap (·.F)\/H a=P8)/\Mu H' a) (hp:∀n∈ns,Rp Γ.K H' n.e.r.t n.e.v n.F)
  (hk:∀n∈ns,(n.e.r.k=.ow/\∀a∈n.F,H a=P8 \/ ∃h∈hs,h.e.r.k=.ow/\a∈h.F) \/ ∃k,n.e.r.k=.io k/\Γ.iov[k]?*>n.e.v) (C:((ns++L).filterMap λh=>h.e.key).Nodup):GW Γ H' (ns++L):=by
 have P:∀n∈ns,n.e.r.k.isOw=Qb:=λn hn=>by rcases hk n hn with⟨e,_⟩|⟨k,e,_⟩<;>rw[e]<;>rfl
 have S:=gG ho;have en:=gG P;have N:=G.nd;rw[F3,S]at N;have U:=(FP.mp N).2.1;have dj:=(FP.mp N).2.2;have B:∀a∈L.flatMap Hd.own,Mu H a/\(Γ.H0 a=P8\/a ∈ Γ.io):=λa c=>G.ad a (by rw[F3];show yaR _ c);have u:∀a∈hs.flatMap (·.F),Mu H a/\(Γ.H0 a=P8\/a ∈ Γ.io):=λa c=>G.ad a (by rw[F3,S];show yaL _ c);have ap:=G.apart hr ho;have J:∀g∈L,∀a∈g.F,a∉hs.flatMap (·.F):=λg i a c l=>by
  have(h,hh,A):=GL.mp l;show ap g i a c h hh A
 show{?_,λa c=>?_,λx d=>?_,λx d=>?_,C,λb o e n=>?_,λa c=>?_}
 .rw[F3,en];show FP.mpr {nd,U,λa c b hb=>?_};rintro rfl;rcases(M a c).1 with z|z;show dj a z a hb rfl
  .have(o,e,_):=(B a hb).1;rw[z]at e;cases e
 .rw[F3,en]at c;rcases yaM c with c|c
  .show{(M a c).2,?_};rcases(M a c).1 with z|z;show(u a z).2;show .inl (G.new0 z)
  .obtain⟨⟨o,e,m⟩,z⟩:=B a c;show{{o,f a o e λl=>dj a l a c rfl,m},z}
 .rcases yaM d with d|d;show hp x d;show(G.rp x (yaR _ d)).off f (λa c=>(u a c).1) (J x d)
 .rcases yaM d with d|d
  .unfold vx;rcases hk x d with⟨e,eh⟩|⟨k,e,ek⟩
   .dsimp[e];intro a c;rcases eh a c with z|⟨h,hh,he,A⟩;show G.new0 z
    .have q:=G.kd h (yaL _ hh);unfold vx at q;rw[he]at q;show q a A
   .dsimp[e];show ek
  .have k:=G.kd x (yaR _ d);have st:∀a∈x.F,a∉(hs++L).flatMap Hd.own->a∉(ns++L).flatMap Hd.own:=λa c n z=>by
    rw[F3,en]at z;rcases yaM z with z|z
    .rcases(M a z).1 with w|w;show n (by rw[F3,S];show yaL _ w)
     .have(o,e):=(G.rp x (yaR _ d)).dom a c;rw[w]at e;cases e
    .show n (by rw[F3];show yaR _ z)
   unfold vx at k|-;split at k;show k;show k;show λa c=>st a c (k a c)
   .delta j p e;have(g,h1,h2,Y,h4,h5):=k;rcases yaM h1 with i|i;show absurd (by rw[e];rfl) (hr x d g i j h2)
    .show{g,yaR _ i,h2,Y,λa c=>(h4 a c).imp id (st a c),λq hq=>{(h5 q hq).1,?_}};show nr f (F:=g.F) (J g i) (G.muF (yaR _ i) Y) (λa c=>c) (G.ndF (yaR _ i) Y) (G.rp g (yaR _ i)) (h5 q hq).1 (h5 q hq).2
 .show f b o (G.fr b o e n) λl=>?_;rcases(u b l).2 with z|z;rw[z]at e;cases e;show n z
 .have(o,e):=G.iol a c;by_cases l:a∈hs.flatMap (·.F);show dom a l;show{o,f a o e l}
def GW.uniq(g:GW Γ H L){x z:Hd}{i:Nat}(d:x∈L)(hz:z∈L)(f:x.e.key*>i)(c:z.e.key*>i):x=z:=by
 have a:=g.ks;by_cases q:x=z;show q
 .exfalso;have(A,B,rfl):=HK d;rw[Hg,Gc,f]at a;rcases yaM hz with hz|hz;show(FP.mp a).2.2 i (Gp.mpr ⟨z,hz,c⟩) i ymS rfl
  .rcases ycM hz with hz|hz;show q hz.symm;show(Gi.mp (FP.mp a).2.1).1 (Gp.mpr ⟨z,hz,c⟩)
def Sim.place{i:Nat}{p:!Ac}{r:R}{v0:V}(S:Sim Γ H O Z E)(A:({P8,w,{.vw (P9 i) (P9 p),s}}:En)∈E)(h : O[i]?*>(P9 r))(k:Z[i]?*>(P9 v0)):r.t.sub p*>s/\atP Γ.K H v0 p w:=by
 have(v1,a,j):=S.slot h;rw[k]at a;cases a;have(L,g,e):=S.sl;have m:({P8,w,{.vw (P9 i) (P9 p),s}}:En)∈L.map (·.e):=by rw[e];show yaL _ A
 have(y,B,o):=FT.mp m;have c:=g.kd y B;unfold vx at c;rw[o]at c;have(x,u,q,J,G,C):=c;have d:({P9 i,v0,r}:En)∈L.map (·.e):=by rw[e];show j
 have(z,l,f):=FT.mp d;have:=g.uniq u l q (by rw[f]);subst this;have:=C p rfl;rw[f]at this;show this
def p9.dropsN:∀{A X:!En},p9 Γ H (A++X)->(∀e∈A,e.key=P8)->p9 Γ H X
 | [],_,S,_=>S
 | a::A,X,S,h=>p9.dropsN (p9.drop S (h a ymS)) λe c=>h e (ymC _ c)
def ku:∀{vs:!V} {rs:!R} {m:Nat} {r:R} {x:V},rs[m]?*>r->vs[m]?*>x->(⟨P8,x,r⟩:En)∈ens vs rs
 | [],_,m,_,_,_,h=>by simp at h
 | _::_,[],m,_,_,h,_=>by simp at h
 | v::vs,d::rs,0,r,x,a,c=>by simp at a c;subst a c;show ymS
 | v::vs,d::rs,m+1,r,x,a,c=>ymC _ (ku (by exists a) (by exists c))
def nD:∀{vs:!V} {rs:!R} {e:En},e∈ens vs rs->e.key=P8
 | [],rs,e,h=>by cases rs<;>cases h
 | _::_,[],e,h=>by cases h
 | v::vs,r::rs,e,h=>by
  rcases ycM h with rfl|h;rfl;show nD h
def Sim.io{vs:!V}{rs:!R}{k i:Nat}{p:!Ac}{M:Kd}{t0:T}(S:Sim Γ H O Z (ens vs rs++E))(hk:rs[k]?*>{.vw (P9 i) (P9 p),s})(hw:vs[k]?*>w)(hal:∀m r,m≠k->rs[m]?*>r->aw [i] r=Qb)(h : O[i]?*>(P9 ⟨M,t0⟩))(ho:M.isOw=Qb) :
  ∃G,Rp Γ.K H s w G/\G.Nodup/\(∀a∈G,Mu H a)/\(∀m r x,m≠k->rs[m]?*>r->vs[m]?*>x->∃F,Rp Γ.K H r.t x F/\∀a∈F,a∉G) /\
  ∀H' J v t F Y,td G H H'->(∀a∈G,∃o,H' a*>o)->(F++Y).Nodup->(∀a∈F,H a=P8/\Mu H' a)->(∀a∈Y,(a∈G\/H a=P8)/\Mu H' a)->Rp Γ.K H' J w Y->Rp Γ.K H' t v F->Sim Γ H' ((am [i] O).set i (P9 {M,t0.put p J})) Z ({P8,v,{.ow,t}}::ag [i] E):=by
 have hil:i < O.length:=(FL.mp h).1;have(v0,hv0,h1,h2,h3):=S.out h ho;have pl:=S.place (yaL _ (ku hk hw)) h hv0;have(L,g,eL):=h1;have(x,L',rfl,ex,N):=ax eL;have hox:x.e.r.k.isOw=Qb:=by rw[ex];show ho
 have nx:=g.ndF ymS hox;have mx:=g.muF ymS hox;have hsub:x.e.r.t.sub p*>s:=by rw[ex];show pl.1
 have(w',A,G,B,z1,z2,z3,z4):=(g.rp x ymS).atP mx nx hsub;have ew:w'=w:=by rw[ex]at z1;show iR z1 pl.2
 subst ew;have U:∀a∈G,a∈x.F:=λa c=>by rw[z3];show yaL _ (yaR _ c)
 have ndx:=nx;rw[z3]at ndx;have ndA:=FP.mp ndx;have ndG:=FP.mp ndA.1;have keyL:∀g∈L',g.e.key≠P9 i:=λy P=>h3 y.e (by rw[<-N];show Gd P);have f:∀g∈L',g.e.r.k.root≠P9 i:=λy P=>h2 y.e (by rw[<-N];show Gd P);have ap:=GW.apart (hs:=[x]) (L:=L') g (λy P z u j hj=>by rw[ysM u,ex]at hj;cases hj;show f y P) (λz u=>by rw[ysM u];show hox);show{G,z2,ndG.2.1,λa c=>mx a (U a c),λm r y C hr P=>?_,λH' J v t F Y off dom nd hF hG rp' rpt=>?_}
 .have hmem:(⟨P8,y,r⟩:En)∈ag [i] (ens vs rs++E):=FX.mpr {yaL _ (ku hr P),hal m r C hr};have hmem2:(⟨P8,y,r⟩:En)∈L'.map (·.e):=by rw[N];show yaL _ hmem
  have(z,u,ez):=FT.mp hmem2;have rz:=g.rp z (ymC _ u);rw[ez]at rz;show{z.F,rz,λa c hg=>ap z u a c x ymS (U a hg)}
 .have apAB:∀a,(a∈A\/a∈B)->a∉G:=λa c C=>by
   rcases c with q|q;show ndG.2.2 a q a C rfl;show ndA.2.2 a (yaR _ C) a q rfl
  have l:∀a,(a∈A\/a∈B)->a∈x.F:=λa c=>by
   rw[z3];rcases c with q|q;show yaL _ (yaL _ q);show yaR _ q
  have rp2:=z4 H' J Y off rp';have nFG:=FP.mp nd;have d:∀a,(a∈A\/a∈B)->H a≠P8:=λa c z=>by have(o,e1,_):=mx a (l a c);rw[z]at e1;cases e1
  have nG':∀a,(a∈A\/a∈B)->a∉Y:=λa c hg=>by
   rcases(hG a hg).1 with z|z;show apAB a c z;show d a c z
  have ndR:(A++Y++B).Nodup:=by
   show FP.mpr {FP.mpr {ndG.1,nFG.2.1,λa c b hb e=>nG' a (.inl c) (e▸hb)},ndA.2.1,λa c b hb e=>?_};subst e;rcases yaM c with z|z;show ndA.2.2 a (yaL _ z) a hb rfl;show nG' a (.inr hb) z
  have memR:∀a∈A++Y++B,(a∈x.F\/H a=P8)/\Mu H' a:=λa c=>by
   have old:a∈A\/a∈B->(a∈x.F\/H a=P8)/\Mu H' a:=λq=>by
    have(o,e1,m1):=mx a (l a q);show{.inl (l a q),o,off a o e1 (apAB a q),m1}
   rcases yaM c with z|z
   .rcases yaM z with z|z;show old (.inl z);show{(hG a z).1.imp (U a) id,(hG a z).2}
   .show old (.inr z)
  have st:=GW.stepN (hs:=[x]) (L:=L') (H':=H') (ns:=[{{P8,v,{.ow,t}},F},{{P9 i,v0,{M,t0.put p J}},A++Y++B}]) g (λz u=>by rw[ysM u];show hox) (λy P z u j hj=>by rw[ysM u,ex]at hj;cases hj;show f y P)
   (by simpa using off.mono U) (λa c=>by
    have ha':a∈x.F:=by exists c
    by_cases hg:a∈G;show dom a hg;have(o,e1,_):=mx a ha';show{o,off a o e1 hg})
   (by
    dsimp[FW,Hk,Ge];show FP.mpr {nFG.1,ndR,λa c b hb e=>?_};subst e;rcases yaM hb with z|z
    .rcases yaM z with z|z;show d a (.inl z) (hF a c).1;show nFG.2.2 a c a z rfl
    .show d a (.inr z) (hF a c).1)
   (λa c=>by
    dsimp[FW,Hk,Ge]at c|-;rcases yaM c with z|z;show{.inr (hF a z).1,(hF a z).2};show memR a z)
   (λn hn=>by
    rcases ycM hn with rfl|hn;show rpt;rw[ysM hn];rw[ex]at rp2;show rp2)
   (λn hn=>by
    rcases ycM hn with rfl|hn;show .inl {Xr,λa c=>.inl (hF a c).1}
    .rw[ysM hn];have kx:=g.kd x ymS;unfold vx at kx;rw[ex]at kx;cases M with
     | ow=>show .inl {Xr,λa c=>(memR a c).1.elim (λz=>.inr {x,ymS,by rw[ex],z}) .inl}
     | io n=>show .inr ⟨n,Xr,kx⟩
     | vw a b=>cases ho)
   (by
    have ks:=g.ks;rw[Gc,ex]at ks;show ks)
  have S2:=S.kill [i];have SL:p9 Γ H' ({P8,v,{.ow,t}}::{P9 i,v0,{M,t0.put p J}}::(ag [i] (ens vs rs++E)++aA 0 Z ((am [i] O).set i P8))):={_,st,by rw[FY,N];rfl};have SL2:p9 Γ H' ({P8,v,{.ow,t}}::{P9 i,v0,{M,t0.put p J}}::(ag [i] E++aA 0 Z ((am [i] O).set i P8))):=by
   rw[aE,F5]at SL;have pp:({P8,v,{.ow,t}}::{P9 i,v0,{M,t0.put p J}}::(ag [i] (ens vs rs)++(ag [i] E++aA 0 Z ((am [i] O).set i P8)))).Perm (ag [i] (ens vs rs)++({P8,v,{.ow,t}}::{P9 i,v0,{M,t0.put p J}}::(ag [i] E++aA 0 Z ((am [i] O).set i P8)))):=by
    show List.Perm.trans ?_ (Gh.symm);show List.Perm.cons _ ?_;show Gh.symm
   show(SL.perm pp).dropsN λe he=>nD (FX.mp he).1
  show S2.back (E':={P8,v,{.ow,t}}::ag [i] E) (SL2.perm ?_) (by simp[aJ]) rfl (λm r' C=>?_) (λe he j hj=>?_)
  .have pq:=(gt (k:=0) (Z:=Z) (O:=am [i] O) (v:=v0) (r:={M,t0.put p J}) (by rw[S.len];show hil) (by rw[aJ];show hil)).append_left (ag [i] E);rw[Gq]at pq;have eZ:Z.set i (P9 v0)=Z:=by
    apply Hh;intro m;by_cases C:m=i;subst C;rw[hv0];simp[S.len,hil];rw[F6 (K3 C)]
   rw[eZ]at pq;rw[F8];show List.Perm.cons _ ((Gh.symm).trans pq.symm)
  .by_cases e:m=i;subst e;show⟨v0,hv0⟩;rw[F6 (K3 e)]at C;show S2.al m r' C
  .rcases ycM he with rfl|he;cases hj;rw[aE];show yaR _ he
abbrev spP(K:yF)(run:!T->↑T):Sp:=λvs H Q _=>∃a t,Ki K H a vs/\run a*>t/\∀v H',New K H H' t v->Q v H'
abbrev spI(K:yF)(k:Nat)(run:!T->↑(T×T)):Sp:=λvs H Q _=>∃c s w G t e,vs.length=c.length/\vs[k]?*>w/\c[k]?*>s/\Rp K H s w G/\G.Nodup/\(∀a∈G,Mu H a)/\(∀(m:Nat) x u,m≠k->vs[m]?*>x->c[m]?*>u->∃F,Rp K H u x F/\∀a∈F,a∉G)/\run c*>(t,e) /\
 ∀v H' F d,td G H H'->(∀a∈G,∃o,H' a*>o)->(F++d).Nodup->(∀a∈F,H a=P8/\Mu H' a)->(∀a∈d,(a∈G\/H a=P8)/\Mu H' a)->Rp K H' e w d->Rp K H' t v F->Q v H'
def tN{run:!T->↑T}{c:TA}{a:MA}(g:fo K c a):aR K (lK (spP K run) [] E0 c) (mB run a):=by
 have e:lK (spP K run) [] E0 c=tCB (λvs H Q=>spP K run vs H Q E0) c:=by
  funext Z H Q;change(c Z H λvs d=>spP K run (vs++[]) d Q E0)=_;dsimp[Ge];rfl
 rw[e];show wy (λH vs f t Q r e q=>⟨f,t,r,e,q⟩) g
private def aP(k j:Nat)(run:!T->↑(T×T))(a:MA):ME:={λO=>match a.run O with
 | some (c,e)=>(match c[k]? with
  | some ⟨.vw (P9 i) (P9 p),_⟩=>if(decide (i=j)&&(Gn c.length).all λm=>decide (m=k)||aw [j] (c.getD m ⟨.ow,.im .non⟩))=Qb then(match run (c.map (·.t))with
   | some (t,f)=>(match e[j]? with
    | some (P9 ⟨d,g⟩)=>if d.isOw=Qb then P9 ({.ow,t},(am [j] e).set j (P9 {d,g.put p f}))else P8
    | _=>P8)
   | none=>P8)else P8
  | _=>P8)
 | none=>P8,a.mu++[j]}
def tM{k j:Nat}{run:!T->↑(T×T)}{A:TA}{a:MA}(ha:fo K A a):aR K (lK (spI K k run) [] E0 A) (aP k j run a):=by
 intro Γ H O Z E Q r O' g c S q;change A Z H λvs M=>spI K k run (vs++[]) M Q E0;dsimp[Ge];dsimp[aP]at c q;ext c d O1 e1;ext c i p s l;ext c Y;rw[FO,decide_eq_true_eq]at Y;have(rfl,z):=Y;ext c t C e3;ext c kd t0 e4;ext c ho;cases c;show ha Γ H O Z E _ d O1 g e1 S λvs M U S1=>?_;have B:k<d.length:=(FL.mp l).1;obtain⟨w,hw⟩:∃w,vs[k]?*>w:={vs[k],by simp[U,B]};have f:∀m r,m≠k->d[m]?*>r->aw [i] r=Qb:=λm r o c=>by
  have h:=(FL.mp c).1;have:=Go.mp z m (GP.mpr h);rw[Gb,c]at this;simpa[o]using this
 have(G,P,g2,g3,g4,g5):=S1.io l hw f e4 ho;rw[g]at P;show{d.map (·.t),s,w,G,t,C,by rw[FM,U],hw,by rw[F4,l];rfl,P,g2,g3,λm x u o hx e=>?_,e3,λv H' F G' a1 a2 a3 a4 a5 J N=>q v H' ?_}
 .rw[F4]at e;cases c:d[m]? with
  | none=>rw[c]at e;cases e
  | some r=>
   rw[c]at e;cases e;have:=g4 m r x o c hx;rw[g]at this;show this
 .rw[<-g]at J N;have:=g5 H' C v t F G' a1 a2 a3 a4 a5 J N;rw[ae]at this;show this
abbrev roR:T->R
 | .im i=>{.ow,.im i}
 | t=>{.vw P8 P8,t}
abbrev cS(ts:!T) (n:Nat):Rho:=(ts.map λt=>P9 (roR t))++FU (n-ts.length) P8
def iB:∀(k n m:Nat),aA k (FU n P8) (FU m P8)=[]
 | _,0,_=>rfl
 | _,n+1,0=>rfl
 | k,n+1,m+1=>by dsimp[Gr,aA];show iB (k+1) n m
def rW{H0:Hp}{io:!Addr}{iov:!V}(n m:Nat):∀{ts:!T} {vs:!V} {k:Nat},Ki K H ts vs->∃L:!Hd,L.map (·.e)=aA k (vs.map P9++FU n P8) ((ts.map λt=>P9 (roR t))++FU m P8)/\L.flatMap Hd.own=[]/\(∀h∈L,Rp K H h.e.r.t h.e.v h.F)/\(∀h∈L,(h.e.r.k=.ow/\h.F=[])\/h.e.r.k=.vw P8 P8)
 | [],vs,k,r=>by
  rw[Ki]at r;subst r;show{[],by simp[iB],Xr,by simp,by simp}
 | t::ts,vs,k,r=>by
  obtain⟨v,vr,rfl,⟨F,f⟩,l⟩:=r;have(L,p,q,j,o):=rW (H0:=H0) (io:=io) (iov:=iov) n m (k:=k+1) l;have d:∃c,Rp K H (roR t).t v c/\(((roR t).k=.ow/\c=[])\/(roR t).k=.vw P8 P8):=by
   cases t with
   | im i=>show{[],iy (bo f).1,.inl ⟨Xr,Xr⟩}
   | _=>show{F,f,.inr rfl}
  have(c,u,g):=d;show{{{P9 k,v,roR t},c}::L,by simp[aA,p],?_,λh a=>?_,λh a=>?_}
  .rw[FW,q,Ge];unfold Hd.own;rcases g with⟨e,rfl⟩|e;simp;rw[show({{P9 k,v,roR t},c}:Hd).e.r.k=(roR t).k from rfl,e];rfl
  .rcases ycM a with rfl|a;show u;show j h a
  .rcases ycM a with rfl|a
   .rcases g with⟨e,rfl⟩|e;show .inl ⟨e,Xr⟩;show .inr e
   .show o h a
def Ki.length:∀{ts:!T} {vs:!V},Ki K H ts vs->vs.length=ts.length
 | [],vs,r=>by rw[Ki]at r;subst r;rfl
 | t::ts,vs,r=>by have(v,vr,rfl,_,a):=r;rw[FR,FR,Ki.length a]
def pB{ts:!T}{vs:!V}{n m:Nat}(a:vs.length=ts.length)(i:Nat)(r:R)(h:((ts.map λt=>P9 (roR t))++FU m P8)[i]?*>(P9 r)):∃v,(vs.map P9++FU n P8)[i]?*>(P9 v):=by
 have c:i<ts.length:=by
  by_cases e:i<ts.length;show e
  .rw[Hv (by simp;omega),Iv]at h;split at h<;>cases h
 show{vs[i],?_};rw[GQ (by simp;omega),F4];simp[a,c]
def rn:((aA k Z O).filterMap λe=>e.key).Nodup:=by
 have:=nE (k:=k) (Z:=Z) (O:=O);show List.Pairwise.filterMap (R:=λa b=>∃i j,a.key*>i/\b.key*>j/\i<j) (λe:En=>e.key) (λa h ⟨i,j,f,g,l⟩ b d m c=>?_) this;rw[f]at d;rw[g]at c;cases d;cases c;omega
def zx{ts:!T}{vs:!V}{N:!Str}(r:Ki K H ts vs):Sim {K,H,[],[]} H (cS ts N.length) (bR N vs) []:=by
 have(L,c,a,f,j):=rW (H0:=H) (io:=[]) (iov:=[]) (N.length-vs.length) (N.length-ts.length) (k:=0) r;show{{L,{by rw[a];show GH,by rw[a];simp,f,λh d=>?_,?_,λb o e _=>e,by simp},by rw[c];rfl},λi l h=>pB r.length i l h,?_,by simp}
 .unfold vx;rcases j h d with⟨e,g⟩|e;rw[e,g];simp;rw[e,a];simp
 .have:(L.filterMap λh=>h.e.key)=(L.map (·.e)).filterMap λe=>e.key:=by rw[HJ];rfl
  rw[this,c];show rn
 .simp[bR,cS,r.length]
abbrev ce(m:MS) (n:Nat) (ts:!T):↑T:=match m.run (cS ts n)with
 | some (.rt t,_)=>P9 t
 | some (.nx,_)=>P9 (.im .non)
 | _=>P8
def zS(S:Sim {K,H0,[],[]} H' O Z [{P8,v,{.ow,t}}]):New K H0 H' t v:=by
 have(L,g,e):=S.sl;have(x,l,rfl,c,_):=ax e;have j:=g.rp x ymS;rw[c]at j;have d:=g.kd x ymS;unfold vx at d;rw[c]at d;have f:x.e.r.k.isOw=Qb:=by rw[c];rfl
 show{λb o h=>g.fr b o h ∅,x.F,j,g.ndF ymS f,λa i=>{d a i,g.muF ymS f a i}}
def Def.mp{P:KP}{W:K2}{u:Str->↑KA}{i:Heap}{k:Nat}{name:Str}{st:Stmt}{N l:!Str}(d:Def K u name st l)(S:p6 N l (aj st)){m:MS}
  (j:∀(f:Addr) (c:KA) (A:Li) (a:!Env) (s:KC) (H:Hp) (E:XK),Ka k (A.deeper (MB name (aj st) s.heap.objs.size f c))->C8 (lU CX0 P W K u i N name (aj st) f c A a s H E).nox (bC st) m)
  {run:!T->↑T} (g:∀ts,run ts=if ts.length=l.length then ce m N.length ts else P8):Has P W K u i (k+1) name l (spP K run):=by
 show d.has S (λvs H Q E h=>?_) (λf c A a s H vs Q E J h=>?_)
 .have(ts,t,r,e,_):=h;rw[g]at e;split at e;delta U;rw[r.length,U];cases e
 .have(ts,t,r,e,q):=h;rw[g]at e;ext e;have(M,Y,B):=j f c A a s H E J;show{M,Y,?_};have C:=zx (N:=N) r;unfold ce at e;split at e
  .delta t0 o p;cases e;show B {K,H,[],[]} H _ _ [] _ _ o rfl ∅ p C λv G H' z=>q v H' (zS z)
  .delta o p;cases e;show B {K,H,[],[]} H _ _ [] _ .nx o rfl ∅ p C λG H' z=>q .non H' (zS (z.imm cN))
  .cases e
abbrev fR(k:Nat) (ts:!T) (n:Nat):Rho:=(cS ts n).set k (P9 {.io 0,ts.getD k (.im .non)})
abbrev jf(m:MS) (k n:Nat) (ts:!T):↑(T×T):=match m.run (fR k ts n)with
 | some (.rt t,a)=>(match a[k]? with
  | some (P9 ⟨.io 0,c⟩)=>P9 (t,c)
  | _=>P8)
 | some (.nx,a)=>(match a[k]? with
  | some (P9 ⟨.io 0,c⟩)=>P9 (.im .non,c)
  | _=>P8)
 | _=>P8
def pA{G:!Addr}(n m:Nat):∀{ts:!T} {vs:!V} {k:Nat},vs.length=ts.length->(∀(i:Nat) x u,vs[i]?*>x->ts[i]?*>u->∃F,Rp K H u x F/\∀a∈F,a∉G)->∃L:!Hd,L.map (·.e)=aA k (vs.map P9++FU n P8) ((ts.map λt=>P9 (roR t))++FU m P8)/\L.flatMap Hd.own=[]/\(∀h∈L,Rp K H h.e.r.t h.e.v h.F/\∀a∈h.F,a∉G)/\(∀h∈L,(h.e.r.k=.ow/\h.F=[])\/h.e.r.k=.vw P8 P8)
 | [],[],k,_,_=>{[],by simp[iB],Xr,by simp,by simp}
 | t::ts,v::vs,k,C,r=>by
  have(F,l,g):=r 0 v t rfl rfl;have(L,J,M,B,q):=pA (G:=G) n m (ts:=ts) (vs:=vs) (k:=k+1) (by exists C) (λi x u p z=>r (i+1) x u (by exists p) (by exists z));have f:∃d,Rp K H (roR t).t v d/\(∀a∈d,a∉G)/\(((roR t).k=.ow/\d=[])\/(roR t).k=.vw P8 P8):=by
   cases t with
   | im i=>show{[],iy (bo l).1,by simp,.inl ⟨Xr,Xr⟩}
   | _=>show{F,l,g,.inr rfl}
  have(d,A,j,o):=f;show{{{P9 k,v,roR t},d}::L,by simp[aA,J],?_,λh c=>?_,λh c=>?_}
  .rw[FW,M,Ge];unfold Hd.own;rcases o with⟨e,rfl⟩|e;simp;rw[show({{P9 k,v,roR t},d}:Hd).e.r.k=(roR t).k from rfl,e];rfl
  .rcases ycM c with rfl|c;show⟨A,j⟩;show B h c
  .rcases ycM c with rfl|c
   .rcases o with⟨e,rfl⟩|e;show .inl ⟨e,Xr⟩;show .inr e
   .show q h c
 | [],_::_,_,h,_=>by cases h
 | _::_,[],_,h,_=>by cases h
def zw{ts:!T}{vs:!V}{N:!Str}{k:Nat}{G:!Addr}(l:vs.length=ts.length)(hw:vs[k]?*>w)(hs:ts[k]?*>s)(rp:Rp K H s w G)(nd:G.Nodup)(mu:∀a∈G,Mu H a)(ro:∀(m:Nat) x u,m≠k->vs[m]?*>x->ts[m]?*>u->∃F,Rp K H u x F/\∀a∈F,a∉G):Sim {K,H,G,[w]} H (fR k ts N.length) (bR N vs) []:=by
 have f:k<ts.length:=(FL.mp hs).1;have J:(vs.set k .non).length=(ts.set k (.im .non)).length:=by simp[l]
 have(L,P,h2,h3,h4):=pA (K:=K) (H:=H) (G:=G) (N.length-vs.length) (N.length-ts.length) (ts:=ts.set k (.im .non)) (vs:=vs.set k .non) (k:=0) J (λm x u B C=>by
  by_cases e:m=k
  .subst e;simp[l,f]at B C;subst B C;show{[],iy cN,by simp}
  .rw[F6 (K3 e)]at B C;show ro m x u e B C)
 have eZ:(vs.set k .non).map P9++FU (N.length-vs.length) P8=(bR N vs).set k (P9 .non):=by
  unfold bR;rw[IU _ _ (by simp[l,f]),JN]
 have eO:((ts.set k (.im .non)).map λt=>P9 (roR t))++FU (N.length-ts.length) P8=(cS ts N.length).set k (↥(.non)):=by
  unfold cS;rw[IU _ _ (by simp[f]),JN];rfl
 rw[eZ,eO]at P;have z:k<(cS ts N.length).length:=by simp[cS];omega
 have p:k<(bR N vs).length:=by simp[bR,l];omega
 have S:=gt (k:=0) (Z:=bR N vs) (O:=cS ts N.length) (v:=.non) (r:={.ow,.im .non}) p z;rw[Gq,<-P]at S;have(L2,pL,Y):=mW S L rfl;have(x,j,rfl,ex,e3):=ax Y;have g:∀h∈j,h∈L:=λh c=>pL.mem_iff.mpr (ymC _ c);have q:j.flatMap Hd.own=[]:=by
  rw[IA];intro h c;rw[IA]at h2;show h2 h (g h c)
 have d:(({{P9 k,w,{.io 0,s}},G}:Hd)::j).flatMap Hd.own=G:=by rw[FW,q,Ge];rfl
 have ht:ts.getD k (.im .non)=s:=by rw[Gb,hs];rfl
 have M:(bR N vs).set k (P9 w)=bR N vs:=by
  apply Hh;intro m;by_cases hm:m=k
  .subst hm;rw[GC p];unfold bR;rw[GQ (by simp[l,f]),F4,hw];rfl
  .rw[F6 (K3 hm)]
 have U:=gt (k:=0) (Z:=bR N vs) (O:=cS ts N.length) (v:=w) (r:={.io 0,s}) p z;rw[Gq,M]at U;have gw:GW {K,H,G,[w]} H ({{P9 k,w,{.io 0,s}},G}::j):=by
  show{by rw[d];show nd,λa A=>by rw[d]at A;show{mu a A,.inr A},λh c=>?_,λh c=>?_,?_,λb o e _=>e,λa A=>let ⟨o,e,_⟩:=mu a A;⟨o,e⟩}
  .rcases ycM c with rfl|c;show rp;show(h3 h (g h c)).1
  .rcases ycM c with rfl|c;rfl
   .unfold vx;rcases h4 h (g h c)with⟨e,eF⟩|e;rw[e,eF];simp;rw[e,d];show(h3 h (g h c)).2
  .have e5:(({{P9 k,w,{.io 0,s}},G}:Hd)::j).filterMap (λh=>h.e.key)=(x::j).filterMap λh=>h.e.key:=by rw[Gc,Gc,ex]
   rw[e5];have e6:((x::j).filterMap λh=>h.e.key)=((x::j).map (·.e)).filterMap λe=>e.key:=by rw[HJ];rfl
   rw[e6,Y];have:=(S.filterMap (λe:En=>e.key)).nodup_iff.mp (by rw[P];show rn);show this
 show{p9.perm {_,gw,Xr} ?_,λi r' h=>?_,?_,by simp}
 .rw[FS,e3,G5];unfold fR;rw[ht];show U.symm
 .unfold fR at h;rw[ht]at h;by_cases e:i=k
  .subst e;show{w,?_};unfold bR;rw[GQ (by simp[l,f]),F4,hw];rfl
  .rw[F6 (K3 e)]at h;show pB l i r' h
 .simp[bR,fR,cS,l]
def zR{H0:Hp}{G:!Addr}{m:V}{k:Nat}{q:T}(S:Sim {K,H0,G,[m]} H' O Z [{P8,v,{.ow,t}}])(h : O[k]?*>(P9 {.io 0,q})):∃F p,td G H0 H'/\(∀a∈G,∃o,H' a*>o)/\(F++p).Nodup/\(∀a∈F,H0 a=P8/\Mu H' a)/\(∀a∈p,(a∈G\/H0 a=P8)/\Mu H' a)/\Rp K H' q m p/\Rp K H' t v F:=by
 have(w,hw,P):=S.slot h;have(L,g,e):=S.sl;rw[F8]at e P;have(x,L',rfl,A,e2):=ax e;have B:({P9 k,w,{.io 0,q}}:En)∈L'.map (·.e):=by
  rw[e2];rcases ycM P with z|z;cases z;show z
 have(y,l,u):=FT.mp B;have i:=g.rp x ymS;rw[A]at i;have f:=g.rp y (ymC _ l);rw[u]at f;have M:=g.kd x ymS;unfold vx at M;rw[A]at M;have N:=g.kd y (ymC _ l);unfold vx at N;rw[u]at N;have Y:m=w:=by exists N
 subst Y;have j:x.e.r.k.isOw=Qb:=by rw[A];rfl
 have c:y.e.r.k.isOw=Qb:=by rw[u];rfl
 show{x.F,y.F,λb o C n=>g.fr b o C n,g.iol,?_,λa d=>{M a d,g.muF ymS j a d},λa d=>?_,f,i}
 .have J:=g.nd;rw[FW]at J;have nx:x.own=x.F:=by unfold Hd.own;rw[if_pos j]
  rw[nx]at J;have U:=FP.mp J;show FP.mpr {U.1,g.ndF (ymC _ l) c,λa d b C=>U.2.2 a d b (GL.mpr {y,l,i9 c C})}
 .have:=g.ad a (GL.mpr {y,ymC _ l,i9 c d});show⟨this.2.symm,this.1⟩
def Def.mi{P:KP}{W:K2}{J:Str->↑KA}{i:Heap}{k:Nat}{name:Str}{st:Stmt}{N o:!Str}{j:Nat}(d:Def K J name st o)(S:p6 N o (aj st)){m:MS}
  (l:∀(f:Addr) (c:KA) (A:Li) (a:!Env) (s:KC) (H:Hp) (E:XK),Ka k (A.deeper (MB name (aj st) s.heap.objs.size f c))->C8 (lU CX0 P W K J i N name (aj st) f c A a s H E).nox (bC st) m)
  {run:!T->↑(T×T)} (g:∀ts,run ts=if ts.length=o.length then jf m j N.length ts else P8):Has P W K J i (k+1) name o (spI K j run):=by
 show d.has S (λvs H Q E h=>?_) (λf c A a s H vs Q E hr h=>?_)
 .obtain⟨ts,s0,w,G,t,s',U,_,_,_,_,_,_,e,_⟩:=h;rw[g]at e;split at e;delta h2;rw[U,h2];cases e
 .obtain⟨ts,s0,w,G,t,s',U,hw,hs,rp,nd,mu,ro,e,q⟩:=h;rw[g]at e;ext e;have(tS,p1,p2):=l f c A a s H E hr;show{tS,p1,?_};have S0:=zw (N:=N) U hw hs rp nd mu ro;unfold jf at e;split at e
  .delta t0 p z;ext e s1 B;cases e;show p2 {K,H,G,[w]} H _ _ [] _ _ p rfl ∅ z S0 λv Z' H' Y=>?_;have(F,r,C,a2,a3,a4,a5,u,M):=zR Y B;show q v H' F r C a2 a3 a4 a5 u M
  .delta p z;ext e s1 B;cases e;show p2 {K,H,G,[w]} H _ _ [] _ .nx p rfl ∅ z S0 λZ' H' Y=>?_;have(F,r,C,a2,a3,a4,a5,u,M):=zR (Y.imm cN) B;show q .non H' F r C a2 a3 a4 a5 u M
  .cases e
end
structure CK{ι : Type}(C:ι->Cx)(P:KP)(W:K2)(K:yF)(mg:Str->↑KA)(base:Heap)(k:Nat):Prop where
 prog:∀i,(C i).prog=P
 w:∀i,(C i).w=W
 kk:∀i,(C i).K=K
 mg:∀i,(C i).mg=mg
 base:∀i,(C i).base=base
 calm:∀i,(C i).calm=Qb
 room:∀i,Ka k (C i).A
section
variable {ι : Type}{C:ι->Cx}{P:KP}{W:K2}{K:yF}{mg:Str->↑KA}{base:Heap}{k:Nat}
noncomputable abbrev ke(C:ι->Cx) (scope:Mj) (N':!Str):ι×Bk->Cx:=λp=>cxB (C p.1) scope N' p.2
def CK.blk(a:CK C P W K mg base k)  : CK (ke C scope N') P W K mg base k:=
 {λp=>a.prog p.1,λp=>a.w p.1,λp=>a.kk p.1,λp=>a.mg p.1,λp=>a.base p.1,λp=>a.calm p.1,λp=>a.room p.1}
structure QE(C:ι->Cx)(K:yF)(e:Expr)(m:ME):Prop where
 ex:∃te,(∀i,PE (C i) e te)/\aR K te m
structure QT(C:ι->Cx)(K:yF)(e:Expr)(m:MT):Prop where
 ex:∃te,(∀i,PT (C i) e te)/\eW K te m
structure QW(C:ι->Cx)(K:yF)(e:Expr)(m:MT):Prop where
 ex:∃te,(∀i,PW (C i) e te)/\eW K te m
structure QTs(C:ι->Cx)(K:yF)(e:!Expr)(m:MT):Prop where
 ex:∃te,(∀i,PTs (C i) e te)/\eW K te m
structure QA(C:ι->Cx)(K:yF)(es:!Expr)(m:MA):Prop where
 ex:∃ta,(∀i,PA (C i) es ta)/\aY es=Qb/\fo K ta m
structure QS(C:ι->Cx)(K:yF)(st:Stmt)(m:MS):Prop where
 ex:∃ts,(∀i,PS (C i) st ts)/\eV K ts m
structure QSs(C:ι->Cx)(K:yF)(st:!Stmt)(m:MS):Prop where
 ex:∃ts,(∀i,PSs (C i) st ts)/\eV K ts m
structure QG(C:ι->Cx)(K:yF)(fr:Option ! ↑Nat)(e:Expr)(m:MG):Prop where
 ex:∃g,(∀i,PG (C i) e g)/\j8 K g m/\∀f,fr*>f->dB f g
structure QGs(C:ι->Cx)(K:yF)(fr:Option ! ↑Nat)(n:Nat)(es:!Expr)(m:MGs):Prop where
 ex:∃g,(∀i,PGs (C i) es g)/\oI K g m/\(∀f,fr*>f->kO f g)/\(∀rs O O',m.run rs O*>O'->rs.length=n)
structure QI(C:ι->Cx)(K:yF)(tg e:Expr)(m:MI):Prop where
 ex:∃wi,(∀i,PI (C i) tg e wi)/\jn K wi m
structure QO(C:ι->Cx)(K:yF)(e:↑Expr)(m:MO):Prop where
 ex:∃t,(∀i,PO (C i) e t)/\ui K t m
section
variable {a b c e o:Expr}{es:!Expr}{ma mb mc m:ME}{ms:MA}{pos:Pos}{mt mt':MT}
def bi:QE C K (.Constant (.int i) j pos) (mC (.int i)):={_,λ_=>vy,pv rfl}
def yP:QE C K (.Constant (.bool x) j pos) (mC (.bl x)):={_,λ_=>DY,pv rfl}
def rO:QE C K (.Constant .none j pos) (mC .non):={_,λ_=>BM,pv rfl}
def dH:QE C K (.Constant (.str x) j pos) (mC (.str x)):={_,λ_=>qx,pv rfl}
def aF(n:Nat)(f:∀i,(C i).N[n]?*>x:=by intro _;rfl)(h:∀i,Vis (C i).env.scope x:=by first|show λ_=>Pg rfl|show λ_=>Of (Pg rfl)|show λ_=>Of (Of rfl))(g:(x==("__debug__" : Str))=Qa:=by decide)(d:(x==("__classdict__" : Str))=Qa:=by decide):QE C K (.Name x pos) (ah n):={_,λi=>vB (f i) (h i) g d,zi}
def bE(d:CK C P W K mg base k)(h:JY mg x v)(hs:i0.sc*>v)(f:∀i,Gl (C i) x:=by intro _;rfl)(g:(x==("__debug__" : Str))=Qa:=by decide):QE C K (.Name x pos) (mC i0):=
 {_,λi=>pb (by rw[d.mg i];show h) (f i) g,pv hs}
def yR(g:CK C P W K mg base k){x:Str}{a:Addr}{xs:!V}{is:!I}(h:JY mg x (.ref a))(p:Ke K a xs)(l:∀H,md K H is xs)(s:∀i,Gl (C i) x:=by intro _;rfl)(j:(x==("__debug__" : Str))=Qa:=by decide):QE C K (.Name x pos) (mC (.tup is)):=by unhygienic
 show{_,λi=>pb (by rw[g.mg i];show h) (s i) j,?_};intro u H O Z E Q r t f d S q;cases d;show q _ H ?_;rw[show(mC (.tup is)).mu=[]from rfl,bW];show S.imm ?_;rw[RpI];show{a,xs,Xr,by rw[f];show p.sq,by rw[f];show l H}
def au:QA C K [] mNil:={_,λ_=>nT,Xr,y9}
def ay(f:QE C K e m)(g:QA C K es ms)(hs:bH e=Qa:=by rfl):QA C K (e::es) (ac m ms):=by
 have(h,a,b):=f;have(j,c,n,d):=g;show{_,λi=>de (a i) (c i) hs,by rw[aY,hs,n];rfl,wA b d}
def tK{d:Operator}{red:yF->R2}{f:T->T->↑T}(g:CK C P W K mg base k)(ho:∀X:Cx,OpR X (Lo d) (red X.K))(q:dD K (red K) f)(j:QE C K a ma)(s:QE C K b mb):QE C K (.BinOp a d b pos) (mOp f ma mb):=by
 have(u,p,r):=j;have(t,h,l):=s;show{_,λi=>D5 (r:=red K) (by have:=ho (C i);rw[g.kk i]at this;show this) (p i) (h i),qI q r l}
def Ea(g:CK C P W K mg base k)(d:QE C K a ma)(f:QE C K b mb):QE C K (.BinOp a .Add b pos) (mOp bO ma mb):=tK g (red:=wm) (λ_=>yk) vF d f
def Ep(f:CK C P W K mg base k)(d:QE C K a ma)(g:QE C K b mb):QE C K (.BinOp a .Sub b pos) (mOp l0 ma mb):=tK f (red:=λ_=>rI0 λi j=>.int (i-j)) (λ_=>Bs) vU d g
def Eh(g:CK C P W K mg base k)(d:QE C K a ma)(f:QE C K b mb):QE C K (.BinOp a .Mult b pos) (mOp ki ma mb):=tK g (red:=wr) (λ_=>ym) vP d f
def B6(f:CK C P W K mg base k)(d:QE C K a ma)(g:QE C K b mb):QE C K (.BinOp a .FloorDiv b pos) (mOp k6 ma mb):=tK f (red:=λ_=>rI pJ λi j=>.int (i / j)) (λ_=>tf) tD d g
def Eg(f:CK C P W K mg base k)(d:QE C K a ma)(g:QE C K b mb):QE C K (.BinOp a .Mod b pos) (mOp jI ma mb):=tK f (red:=λ_=>rI (λ_ j=>0<j) λi j=>.int (i % j)) (λ_=>Bn) vO d g
def Em(f:CK C P W K mg base k)(d:QE C K a ma)(g:QE C K b mb):QE C K (.BinOp a .Pow b pos) (mOp tu ma mb):=tK f (red:=λ_=>rI Av λi j=>.int (i^j.toNat)) (λ_=>Br) vT d g
def Ej(d:QE C K a ma):QE C K (.UnaryOp .USub a pos) (mUn sY ma):=by
 have(f,p,r):=d;show{_,λi=>Ab xl (p i),qJ vQ r}
def Ek(d:QE C K a ma):QE C K (.UnaryOp .Not a pos) (mO ma):=by
 have(f,p,r):=d;show{_,λi=>BN (p i),wI r}
abbrev eK(g:OD)(f:T->T->↑T):Prop:=∃d:yF->R2,(∀X:Cx,X.A.units+64<LF->OpR X (K7 g) (d X.K))/\∀K,dD K (d K) f
def Df:eK .Lt (bY λi j=>decide (i<j)):={λ_=>_,λ_ _=>DG,λ_=>jc}
def jp:eK .LtE (bY λi j=>decide (i<=j)):={λ_=>_,λ_ _=>DF,λ_=>jc}
def AE:eK .Gt (bY λi j=>decide (j<i)):={λ_=>_,λ_ _=>DE,λ_=>jc}
def AD:eK .GtE (bY λi j=>decide (j<=i)):={λ_=>_,λ_ _=>DD,λ_=>jc}
def pQ:eK .Eq eqT:={Cc,λ_ d=>Bh d,λ_=>yE}
def pR:eK .NotEq neT:={Cg,λ_ d=>Bq d,λ_=>yH}
def su:eK .In inT:={Cd,λ_ d=>Bl d,λ_=>yG}
def zQ:eK .NotIn qj:={n9,λ_ d=>tm d,λ_=>vR}
abbrev zV:T->Bool
 | .im .non=>Qb
 | _=>Qa
abbrev isB(t u:T):↑Bool:=match u with
 | .im j=>(match j with|.non=>P9 (zV t)|.bl b=>(match t with|.im i=>(match i with|.bl a=>P9 (decide (a=b))|_=>P8)|_=>P8)|_=>P8)
 | _=>P8
def uQ:∀{t:T},Rpx K H t x->zV t=decide (x=.non)
 | .im i,r=>by
  have h:=dI r;cases i<;>rw[RpI]at h;rw[h];rfl;rw[h];rfl;rw[h];rfl;rw[h];rfl;have(a,d,rfl,_):=h;rfl;have(a,o,d,rfl,_):=h;rfl;have(a,o,d,rfl,_):=h;rfl;have(_,_,rfl,_):=h;rfl
 | .tup f,r=>by have(a,d,F,rfl,_):=kK r;rfl
 | .li f,r=>by have(a,d,rfl,_):=bF r;rfl
 | .lst f,r=>by have(a,d,F,rfl,_):=fX r;rfl
 | .di f,r=>by obtain⟨F,r⟩:=r;rw[Rp]at r;obtain⟨a,d,rfl,_⟩:=r;rfl
 | .dc f,r=>by obtain⟨F,r⟩:=r;rw[Rp]at r;obtain⟨a,d,g,rfl,_⟩:=r;rfl
 | .dq f,r=>by obtain⟨F,r⟩:=r;rw[Rp]at r;obtain⟨a,d,rfl,_⟩:=r;rfl
 | .ins C f,r=>by obtain⟨F,r⟩:=r;rw[Rp]at r;obtain⟨_,a,j,d,g,_,rfl,_⟩:=r;rfl
private def isT(x y:T):↑T:=(isB x y).map λb=>.im (.bl b)
def AU{H:Hp}{x y:V}{g d:T}{b:Bool}(h:Rpx K H g x)(f:Rpx K H d y)(e:isB g d*>b):(∃i j,x=.bl i/\y=.bl j/\b=decide (i=j))\/(y=.non/\b=decide (x=.non)):=by
 unfold isB at e;split at e;split at e;(cases e;show .inr {wQ f,uQ h});(split at e;(split at e;(cases e;show .inl {_,_,gn h,gn f,Xr});cases e);cases e);cases e;cases e
def De:eK .Is isT:=by
 show{λ_ x y H Q=>Ev Qa x y H Q\/(y=.non/\Q (.bl (decide (x=.non))) H),λX _=>op_isB.or Bm,λK H x y l g t Q f d e q=>?_};unfold isT at e;cases h:isB l g with
 | none=>rw[h]at e;cases e
 | some b=>
  rw[h]at e;cases e;rcases AU f d h with⟨i,j,rfl,rfl,rfl⟩|⟨rfl,rfl⟩;show .inl {i,j,Xr,Xr,q _ H (.sc rfl)};show .inr {Xr,q _ H (.sc rfl)}
def mX(g:CK C P W K mg base k)(j:eK op f)(s:QE C K a ma)(v:QE C K b mb)(h:L7 op b=Qa):QE C K (.Compare a [op] [b] pos) (mOp f ma mb):=by
 have(d,l,u):=j;have(x,p,r):=s;have(w,q,t):=v;show{_,λi=>yr (r:=d K) (by have:=l (C i) (g.room i).units;rw[g.kk i]at this;show this) (p i) (q i) h,qI (u K) r t}
def bB(g:CK C P W K mg base k)(j:eK op f)(s:QE C K a ma)(v:QE C K b mb)(h:L7 op b=Qa):QT C K (.Compare a [op] [b] pos) (ak (mOp f ma mb)):=by
 have(d,l,u):=j;have(x,p,r):=s;have(w,q,t):=v;show{_,λi=>yL (r:=d K) (by have:=l (C i) (g.room i).units;rw[g.kk i]at this;show this) (p i) (q i) h,lH (qI (u K) r t)}
private def dr(f p:T->T->↑T)(a b c:ME):ME:={λO=>match a.run O with
 | some (h,l)=>match b.run l with
  | some (d,g)=>if(aw b.mu h&&aw c.mu d)=Qb then(match f h.t d.t with
   | some (.im (.bl Qb))=>(match c.run g with
    | some (j,i)=>(match p d.t j.t with
     | some t=>P9 ({.ow,t},i)
     | none=>P8)
    | none=>P8)
   | some (.im (.bl Qa))=>P9 ({.ow,.im (.bl Qa)},g)
   | _=>P8)else P8
  | none=>P8
 | none=>P8,a.mu++(b.mu++c.mu)}
def tP(N:dD K red f)(J:dD K red' f')(ha:aR K ta ma)(hb:aR K tb mb)(hc:aR K tc mc):aR K (w8 red red' ta tb tc) (dr f f' ma mb mc):=by
 intro l H O Z E Q r O' g d S q;dsimp[dr]at d q;ext d L M e1;ext d i O2 e2;ext d G;rw[FO]at G;show ha l H O Z E _ L M g e1 S λx H1 S1=>?_;show hb l H1 M Z _ _ i _ g e2 S1 λy Y h=>?_;rw[av (bt G.1),ae]at h;have B:=h.rd (ymC _ ymS);have p:=h.rd ymS;rw[g]at B p;split at d
 .delta s;show N Y x y L.t i.t _ _ B p s λz u n=>{Qb,?_,nP ?_};have(_,F,A,_):=n;show gn ⟨F,A⟩
  .ext d X O3 e4;ext d t e5;cases d;have sm:=n.1;have S3:=(h.swap.drop rfl).same sm;show hc l u O2 Z _ _ X _ g e4 S3 λw H4 j=>?_;rw[av (bt G.2),ae]at j;have U:=j.rd (ymC _ ymS);have r4:=j.rd ymS;rw[g]at U r4;show J H4 y w i.t X.t t Q U r4 e5 λv H5 n2=>q v H5 ?_;rw[<-g]at n2;rw[<-F5];show((j.drop rfl).drop rfl).fresh n2
 .delta s;cases d;show N Y x y L.t i.t _ _ B p s λz u n=>{Qa,?_,nO (q _ u ?_)};have(_,F,A,_):=n;show gn ⟨F,A⟩
  .rw[<-F5,<-ae];show((((h.drop rfl).drop rfl).same n.1).weak _).imm (gX rfl)
 .cases d
def fB(g:CK C P W K mg base k)(x:eK op f)(t:eK op' f')(z:QE C K a ma)(B:QE C K b mb)(l:QE C K c mc)(w:lastMarks [op,op'] [b,c]=Qa:=by unhygienic rfl):QT C K (.Compare a [op,op'] [b,c] pos) (ak (dr f f' ma mb mc)):=by
 have(u,y,A):=x;have(d,j,s):=t;have(H,p,r):=z;have(J,E,v):=B;have(G,q,h):=l;show{_,λi=>wa (r:=u K) (r':=d K) (by have:=y (C i) (g.room i).units;rw[g.kk i]at this;show this) (by have:=j (C i) (g.room i).units;rw[g.kk i]at this;show this) (p i) (E i) (q i) w,lH (tP (A K) (s K) r v h)}
def gL(g:QE C K e m)(f:∀i d,NN e (C i).env d=(do let v <-d;Mb e.pos;LO [v] (OV v)):=by intro _ _;rfl):QT C K e (ak m):=by
 have(h,p,r):=g;show{_,λi=>B3 (p i) (f i),Cr r}
def Cb(g:CK C P W K mg base k)(h:QE C K e m)(f:∀i d,NN e (C i).env d=(do let v <-d;Mb e.pos;LO [v] (OV v)):=by intro _ _;rfl):QT C K e (sU m):=by
 have(j,p,r):=h;show{_,λi=>FF (g.kk i) (p i) (f i),zh r}
def dv(d:QT C K a mt):QT C K (.UnaryOp .Not a pos) (fA mt):=by
 have(f,p,r):=d;show{_,λi=>B2 (p i),za r}
def kJ(d:QT C K a mt):QW C K (.BoolOp .And [a] pos) mt:=by
 have(f,p,r):=d;show{_,λi=>yO (p i),r}
def iJ(d:QT C K a mt):QW C K (.BoolOp .Or [a] pos) mt:=by
 have(f,p,r):=d;show{_,λi=>B5 (p i),r}
def nZ{rest:!Expr}(d:QT C K a mt)(h:QW C K (.BoolOp .And (b::rest) pos) mt'):QW C K (.BoolOp .And (a::b::rest) pos) (lm mt mt'):=by
 have(l,p,r):=d;have(j,g,f):=h;show{_,λi=>B4 (p i) (g i),yX r f}
def j5{rest:!Expr}(d:QT C K a mt)(h:QW C K (.BoolOp .Or (b::rest) pos) mt'):QW C K (.BoolOp .Or (a::b::rest) pos) (mOr mt mt'):=by
 have(l,p,r):=d;have(j,g,f):=h;show{_,λi=>D9 (p i) (g i),Cp r f}
def QW.t(h:QW C K e mt):QT C K e mt:=by
 have(d,p,r):=h;show{_,λi=>(p i).pt,r}
def wd(h:QE C K a m):QE C K (.BoolOp op [a] pos) m:=by
 have(d,p,r):=h;show{_,λi=>BO (p i),r}
def Ad{rest:!Expr}(d:QE C K a ma)(h:QE C K (.BoolOp .And (b::rest) pos) mb):QE C K (.BoolOp .And (a::b::rest) pos) (i5 ma mb):=by
 have(l,p,r):=d;have(j,g,f):=h;show{_,λi=>BJ (p i) (g i),wz r f}
def El{rest:!Expr}(d:QE C K a ma)(h:QE C K (.BoolOp .Or (b::rest) pos) mb):QE C K (.BoolOp .Or (a::b::rest) pos) (qa ma mb):=by
 have(l,p,r):=d;have(j,g,f):=h;show{_,λi=>D6 (p i) (g i),zb r f}
def wc(f:QT C K c mt)(j:QE C K a ma)(q:QE C K b mb):QE C K (.IfExp c a b pos) (lV mt ma mb):=by
 have(s,d,g):=f;have(u,p,r):=j;have(t,h,l):=q;show{_,λi=>vv (d i) (p i) (h i),y0 g r l}
def Ef(mv:!Nat)(h:QA C K es ms):QE C K (.List es pos) (bh mv ms):=by
 have(d,p,_,r):=h;show{_,λi=>BL (p i),wF r}
def lC(mv:!Nat)(h:QA C K es ms):QE C K (.Tuple es x1 pos) (bz mv ms):=by
 have(d,p,_,r):=h;show{_,λi=>vA (p i),wL r}
def gJ(d:CK C P W K mg base k)(f:QE C K a ma)(j:QE C K b mb)(hs:qZ b:=by show λ_ _=>rfl):QE C K (.Subscript a b pos) (mIx ma mb):=by
 have(q,p,r):=f;have(l,g,h):=j;show{_,λi=>D4 (Fw (d.kk i)) (p i) (g i) hs,Co r h}
def kF:QO C K P8 mNoPart:={_,λ_=>yC,qH}
def kG(h:QE C K e m):QO C K (P9 e) (eN m):=by
 have(d,p,r):=h;show{_,λi=>nW (p i),wJ r}
def yS{lo g:↑Expr}{j h:MO}{l:Pos}(s:CK C P W K mg base k)(u:QE C K a ma)(t:QO C K lo j)(q:QO C K g h):QE C K (.Subscript a (.Slice lo g P8 l) pos) (mSl ma j h):=by
 have(x,p,r):=u;have(y,w,v):=t;have(z,f,d):=q;show{_,λi=>vz (r:=rSl K) (by have:=FD (X:=C i);rw[s.kk i]at this;show this) (p i) (w i) (f i),Cq r v d}
def Eo(f:CK C P W K mg base k)(d:QE C K a ma):QE C K (.Subscript a (.Slice P8 P8 (P9 (.UnaryOp .USub (.Constant (.int 1) j p1) p2)) p3) pos) (mUn wM ma):=by
 have(g,p,r):=d;show{_,λi=>FC (f.kk i) (p i),ze r}
def dh{x:Str}{p:Pos}{j:Nat}{s:!Str}{run:!T->↑T}(d:CK C P W K mg base k)(h:Has P W K mg base j x s (spP K run))(l:QA C K (e::es) ms)(g:j<=k:=by first|decide|omega)(t:∀i,Gl (C i) x:=by intro _;rfl)(f:(x==("__debug__" : Str))=Qa:=by decide):QE C K (.Call (.Name x p) (e::es) [] pos) (mB run ms):=by
 have(u,q,n,r):=l;show{_,λi=>qw (by rw[d.prog i,d.w i,d.kk i,d.mg i,d.base i];show h) ((d.room i).mono g) (t i) (q i) n f,tN r}
def Eb(l:Nat){x:Str}{p:Pos}{j g:Nat}{u:!Str}{run:!T->↑(T×T)}(d:CK C P W K mg base k)(h:Has P W K mg base j x u (spI K g run))(t:QA C K (e::es) ms)(s:j<=k:=by first|decide|omega)(v:∀i,Gl (C i) x:=by intro _;rfl)(f:(x==("__debug__" : Str))=Qa:=by decide):QE C K (.Call (.Name x p) (e::es) [] pos) (aP g l run ms):=by
 have(y,q,n,r):=t;show{_,λi=>qw (by rw[d.prog i,d.w i,d.kk i,d.mg i,d.base i];show h) ((d.room i).mono s) (v i) (q i) n f,tM r}
abbrev oG(x:Str)(f:!T->↑T):Prop:=∃(id:String) (d:yF->!V->Hp->VK->Prop),Lr x*>(.builtin id)/\(∀X:Cx,X.calm=Qb->HE X (.builtin id) (d X.K))/\∀K,gi K (d K) f
abbrev sr(x:Str)(f:!T->↑T):Prop:=∃(id:String) (d:yF->!V->Hp->VK->Prop),Lr x*>(.type id)/\(∀X:Cx,X.calm=Qb->HE X (.type id) (d X.K))/\∀K,gi K (d K) f
def eR(g:CK C P W K mg base k)(y:oG x f)(l:mg x=P8)(u:QA C K (e::es) ms)(v:∀i,Gl (C i) x:=by intro _;rfl)(t:x≠("__name__" : Str):=by decide)(d:(x==("__debug__" : Str))=Qa:=by decide):QE C K (.Call (.Name x p) (e::es) [] pos) (mB f ms):=by
 have(id,h,s,w,j):=y;have(z,q,n,r):=u;show{_,λi=>jM (r:=h K) (by have:=w (C i) (g.calm i);rw[g.kk i]at this;show this) (v i) (by rw[g.mg i];show l) s (q i) n t d,wy (j K) r}
def we(g:CK C P W K mg base k)(y:sr x f)(l:mg x=P8)(u:QA C K (e::es) ms)(v:∀i,Gl (C i) x:=by intro _;rfl)(t:x≠("__name__" : Str):=by decide)(d:(x==("__debug__" : Str))=Qa:=by decide):QE C K (.Call (.Name x p) (e::es) [] pos) (mB f ms):=by
 have(id,h,s,w,j):=y;have(z,q,n,r):=u;show{_,λi=>qv (r:=h K) (by have:=w (C i) (g.calm i);rw[g.kk i]at this;show this) (v i) (by rw[g.mg i];show l) s (q i) n t d,wy (j K) r}
def b_len:oG "len" cB:={_,wp,PySem.boot_len,λ_ _=>sy,λ_=>vK}
def b_min:oG "min" sV:={_,λ_=>_,JS,λ_ h=>sB h,λ_=>vN}
def b_max:oG "max" u7:={_,λ_=>_,JT,λ_ h=>sA h,λ_=>vM}
def b_all:oG "all" j9:={_,Er,JU,λ_ h=>uq h,λ_=>vG}
def b_int:sr "int" sK:={_,λ_=>_,IN,λ_ _=>sv,λ_=>vH}
def b_tuple:sr "tuple" l3:={_,wv,Hl,λ_ _=>lT,λ_=>vV}
def b_list:sr "list" uZ:={_,wq,Ho,λ_ _=>ny,λ_=>vL}
abbrev jm(g:String)(name:Str)(f:T->!T->↑T):Prop:=∃(id:String) (d:yF->V->!V->Hp->VK->Prop),Mt g/\Slot g name id/\Od (.builtin id)=pure (.type "method_descriptor")/\(∀X:Cx,MtR X id (d X.K))/\(∀K,kP K g (d K) f)/\∀K (H:Hp) (x:V) (h:T) i t,Rpx K H h x->f h i*>t->tyV K g x H
abbrev oH(g:String)(name:Str)(f:T->!T->↑(T×I)):Prop:=∃(id:String) (d:yF->V->!V->Hp->VK->Prop),Mt g/\Slot g name id/\Od (.builtin id)=pure (.type "method_descriptor")/\(∀X:Cx,MtR X id (d X.K))/\(∀K,fE K (d K) f)/\∀K (H:Hp) (x:V) (h:T) i r,Rpx K H h x->f h i*>r->tyV K g x H
def lB(l:CK C P W K mg base k)(p:jm T0 name f)(ho:QE C K o mo)(u:QA C K (e::es) ms)(h:decide ((e::es).length<30)=Qb:=by rfl)
  (g:∀i,LR o name (C i).env (eval o (C i).env)=eval o (C i).env:=by intro _;rfl) (d:(apos.endLine==pos.line)=Qb:=by rfl):QE C K (.Call (.Attribute o name apos) (e::es) [] pos) (mM f mo ms):=by
 have(id,j,w,z,s,v,A,t):=p;have(B,q,r):=ho;have(E,x,n,y):=u;show{_,λi=>Dd (r:=j K) (l.kk i) w z s (by have:=v (C i);rw[l.kk i]at this;show this) (q i) (x i) n h (g i) d,EF (A K) (t K) r y}
def Ei(l:Nat)(mv:!Nat)(p:CK C P W K mg base k)(s:oH T0 name f)(ho:QE C K o mo)(v:QA C K (e::es) ms)(h:decide ((e::es).length<30)=Qb:=by rfl)
  (g:∀i,LR o name (C i).env (eval o (C i).env)=eval o (C i).env:=by intro _;rfl) (d:(apos.endLine==pos.line)=Qb:=by rfl):QE C K (.Call (.Attribute o name apos) (e::es) [] pos) (iq l mv f mo ms):=by
 have(id,j,x,A,t,w,B,u):=s;have(E,q,r):=ho;have(G,y,n,z):=v;show{_,λi=>Dd (r:=j K) (p.kk i) x A t (by have:=w (C i);rw[p.kk i]at this;show this) (q i) (y i) n h (g i) d,y8 (B K) (u K) r z}
def jO(l:Nat)(j:CK C P W K mg base k)(p:oH T0 name f)(ho:QE C K o mo)
  (g:∀i,LR o name (C i).env (eval o (C i).env)=eval o (C i).env:=by intro _;rfl) (d:(apos.endLine==pos.line)=Qb:=by rfl):QE C K (.Call (.Attribute o name apos) [] [] pos) (gC l f mo):=by
 have(id,h,v,w,s,u,x,t):=p;have(y,q,r):=ho;show{_,λi=>Fm (r:=h K) (j.kk i) v w s (by have:=u (C i);rw[j.kk i]at this;show this) (q i) (g i) d,wG (x K) (t K) r}
def Ba:jm "str" "join" dE:={_,Ah,PySem.F.plainAttrs_str,PySem.F.slot_str_join,PySem.F.type_str_join,λ_=>yf,λ_=>tG,λK H x d f t r e=>by
 unfold dE at e;split at e;rw[bc r];rfl;cases e}
def u5:oH "list" "append" apT:={_,λ_=>n5,PySem.F.plainAttrs_list,PySem.F.slot_list_append,PySem.F.type_list_append,λ_=>sW,λ_=>pc,λK=>ub}
def u6:oH "list" "extend" nF:={_,wo,PySem.F.plainAttrs_list,PySem.F.slot_list_extend,PySem.F.type_list_extend,λ_=>ye,λ_=>pe,λK=>uc}
def mP:oH "list" "pop" jN:={_,λ_=>Ch,PySem.F.plainAttrs_list,PySem.F.slot_list_pop,PySem.F.type_list_pop,λ_=>Bc,λ_=>vS,λK=>CC}
end
end
section
variable {ι : Type}{C:ι->Cx}{P:KP}{W:K2}{K:yF}{mg:Str->↑KA}{base:Heap}{k:Nat}
section
variable {a b c e o tg iter:Expr}{es:!Expr}{ma mb mc m mo mi:ME}{ms:MA}{pos:Pos}{mt mt':MT}{s1 s2:MS}{g g':MG}{gs:MGs}{it it2:MI}{fr:Option ! ↑Nat}
def bu(n:Nat)(l:∀i,(C i).N.Nodup)(r:∀i,(C i).N[n]?*>x:=by intro _;rfl)(p:∀i,Loc (C i).env.scope x:=by first|show λ_=>Pg rfl|show λ_=>Of rfl)(q:∀i,(C i).fn x=Qb\/(C i).env.scope.names.lookup x*>.local:=by first|show λ_=>.inl rfl|show λ_=>.inr rfl)
  (d:∀f,fr*>f->f[n]?*>P8:=by first|(intro f h;cases h;done)|(intro f h;cases h;rfl)):QG C K fr (.Name x pos) (ai n):=
 {_,λi=>yw (l i) (r i) (p i) (q i),lG,λf j=>xV (d f j)}
def eS:QGs C K fr 0 [] mGNil:=by unhygienic show{_,λ_=>yx,wD,λ_ _=>AR,λd O f h=>by cases d<;>first|rfl|cases h}
def aV(q:QG C K fr e g)(t:QGs C K fr n es gs)(hs:∀i,(LC (e::es) (C i).env).map (·.2)=L9 e (C i).env::(LC es (C i).env).map (·.2):=by intro _;rfl):QGs C K fr (n+1) (e::es) (aC g gs):=by unhygienic
 have(z,v,s,w):=q;have(y,l,p,u,l2):=t;show{_,λi=>vD (v i) (l i) (hs i),tU s p,λf d=>xU (w f d) (u f d),λj O x h=>?_};cases j with
 | nil=>cases h
 | cons r j=>
  dsimp[aC]at h;ext h;split at h;rw[FR,l2 _ _ _ h];cases h
def gK(j:CK C P W K mg base k)(h:QGs C K fr n es gs)(t:∀i,(LC es (C i).env).length=n:=by intro _;rfl)(d:∀i,(LC es (C i).env).findIdx? (·.1)=P8:=by intro _;rfl):QG C K fr (.Tuple es k0 pos) (cc gs):=by
 have(g,p,r,q,l):=h;show{_,λi=>tgK (j.kk i) (j.calm i) (p i) (t i) (d i),wE r l,λf s=>AS (q f s)}
def B7(j:Nat)(ho:QE C K o mo)(u:QE C K e mi)
  (t:∀i v,L9 (.Subscript o e pos) (C i).env v=(do
   let d <-LO [v] (eval o (C i).env)
   let l <-LO [v,d] (eval e (C i).env)
   Mb pos
   LO [v,d,l] (Nv d l v)
   Pv [v,d,l] []):=by intro _ _;rfl):QG C K P8 (.Subscript o e pos) (qb j mo mi):=by
 have(w,p,r):=ho;have(x,q,s):=u;show{_,λi=>BP (p i) (q i) wT (t i),zg r s,λf h=>by cases h}
def bA:QSs C K [] mNext:={_,λ_=>yJ,wH}
def aS{st:Stmt}(d:QS C K st s1):QSs C K [st] s1:=by
 have(t,p,r):=d;show{_,λi=>yK (p i),r}
def aD{st:Stmt}{rest:!Stmt}(f:QS C K st s1)(j:QSs C K rest s2):QSs C K (st::rest) (aq s1 s2):=by
 have(t,p,r):=f;have(u,h,d):=j;show{_,λi=>vZ (p i) (h i),zf r d}
def cv(f:QT C K c mt)(q:QSs C K b1 s1)(s:QSs C K b2 s2):QS C K (.If c b1 b2 pos) (mIf mt s1 s2):=by
 have(v,d,h):=f;have(t,p,r):=q;have(u,j,l):=s;show{_,λi=>D7 (d i) (p i) (j i),y3 h r l}
def cj(h:QE C K e m):QS C K (.Return (P9 e) pos) (aX m):=by
 have(t,p,r):=h;show{_,λi=>BZ (p i),zd r}
def kH(h:QE C K e m)(hs:∀i,Nl e P8 pos.line (C i).env=pure Qa:=by intro _;rfl):QS C K (.Expr e pos) (cC m):=by
 have(t,p,r):=h;show{_,λi=>yI (p i) (hs i),wB r}
def qC(h:QE C K e m)(q:QG C K P8 tg g)(hs:∀i,Nf [tg] e pos.line (C i).env=pure Qa:=by intro _;rfl)(d:∀i,Ng [tg] e (C i).env=pure P8:=by intro _;rfl)
  (l:∀i,(LC [tg] (C i).env).map (·.2)=[L9 tg (C i).env]:=by intro _;rfl):QS C K (.Assign [tg] e pos) (aU m g):=by
 have(t,p,r):=h;have(u,f,j,_):=q;show{_,λi=>BW (p i) (f i) (hs i) (d i) (l i),oh r j}
def jP(n:Nat)(h:∀i,(C i).N.Nodup)(f:QE C K e m)(l:∀i,(C i).N[n]?*>x:=by intro _;rfl)(d:∀i,Loc (C i).env.scope x:=by first|show λ_=>Pg rfl|show λ_=>Of rfl)(hs:∀i,Nl e (P9 (.Name x pos')) pos.line (C i).env=pure Qa:=by intro _;rfl)(j:∀i,(C i).fn x=Qb\/(C i).env.scope.names.lookup x*>.local:=by first|show λ_=>.inl rfl|show λ_=>.inr rfl) :
  QS C K (.Assign [.Name x pos'] e pos) (aU m (ai n)):=by
 have(t,p,r):=f;show{_,λi=>B1 (h i) (l i) (d i) (p i) (hs i) (j i),oh r lG}
abbrev yd(i j:Nat) (a:MA):MS:={λO=>match a.run O with
 | some ([h,d],f)=>if(gF f i&&aw [i] h&&aw [i] d&&gF f j&&aw [j] d)=Qb then P9 (.nx,(am [j] ((am [i] f).set i (P9 h))).set j (P9 d))else P8
 | _=>P8,a.mu++[i,j]}
def sZ(h:gF O j=Qb)(f:∀n,r.k ≠ .io n):gF ((am [i] O).set i (P9 r)) j=Qb:=by
 unfold gF at h|-;by_cases e:j=i
 .subst e;have d:j < O.length:=by
   cases q : O[j]? with
   | none=>rw[q]at h;cases h
   | some o=>show(FL.mp q).1
  rw[GC (by rw[aJ];show d)];have(k,t):=r;cases k with
  | io n=>show absurd rfl (f n)
  | _=>rfl
 .rw[F6 (K3 e)];unfold am;rw[F4];cases q : O[j]? with
  | none=>rw[q]at h;cases h
  | some o=>
   rw[q]at h;cases o with
   | none=>rfl
   | some x=>
    change(match P9 (cA [i] (P9 x))with|some (P9 ⟨.io _,_⟩)=>Qa|some _=>Qb|none=>Qa)=Qb;cases hk:cA [i] (P9 x)with
    | none=>rfl
    | some y=>
     have(l,_):=killO_iff.mp hk;cases l;show h
abbrev lq(r:R):Bool:=match r.k with
 | .io _=>Qa
 | _=>Qb
def zc{i j:Nat}{M:TA}{a:MA}(ha:fo K M a)(hio:∀O rs y,a.run O*>(rs,y)->True):eV K (EO i j M) (yd i j {λO=>match a.run O with
  | some (rs,l)=>if rs.all lq=Qb then P9 (rs,l)else P8
  | none=>P8,a.mu}):=by
 intro B H O Z E D f y hK hE h S q;dsimp[yd]at h q;ext h x N l p;ext p rs O2 U;ext p d;cases p;ext h L;cases h;dsimp[FO]at L;obtain⟨⟨⟨⟨Y,X⟩,b3⟩,Q⟩,b5⟩:=L;show ha B H O Z E _ _ _ hK U S λvs G t u=>?_;obtain⟨v,w,rfl⟩:∃v w,vs=[v,w]:=by
  cases vs with
  | nil=>cases t
  | cons v r=>cases r with
   | nil=>cases t
   | cons w r=>cases r with
    | nil=>show⟨v,w,Xr⟩
    | cons _ _=>cases t
 have u:Sim B G l Z (⟨P8,v,x⟩::⟨P8,w,N⟩::ag a.mu E):=u;show{v,w,Xr,q _ G ?_};have A:=u.put Y (iA X);rw[av (bt b3)]at A;have s:∀n,x.k ≠ .io n:=λn z=>by
  have:=Go.mp d x ymS;unfold lq at this;rw[z]at this;cases this
 have J:=A.put (sZ Q s) (iA b5);rw[ae,ae]at J;have:a.mu++([i]++[j])=a.mu++[i,j]:=rfl;rw[<-F5]at this;show J
private def rH(i j:Nat)(a:MA):MS:=yd i j {λO=>match a.run O with
  | some (d,f)=>if d.all lq=Qb then P9 (d,f)else P8
  | none=>P8,a.mu}
def Ca(i j:Nat){x y:Str}{h d pt:Pos}{kt k2 pt2}(s:CK C P W K mg base k)(l:∀i,(C i).N.Nodup)(u:QA C K [a,b] ms)(v:∀n,(C n).N[i]?*>x:=by intro _;rfl)(t:∀n,(C n).N[j]?*>y:=by intro _;rfl)(f:i≠j:=by decide)
  (q:∀n,(C n).env.scope.names.lookup x*>.local:=by intro _;rfl) (w:∀n,(C n).env.scope.names.lookup y*>.local:=by intro _;rfl)
  (z:∀n,Ng [.Tuple [.Name x h,.Name y d] kt pt] (.Tuple [a,b] k2 pt2) (C n).env=pure (P9 [x,y]):=by intro _;rfl)
  (hs:∀n,Nf [.Tuple [.Name x h,.Name y d] kt pt] (.Tuple [a,b] k2 pt2) pos.line (C n).env=pure Qa:=by intro _;rfl) :
  QS C K (.Assign [.Tuple [.Name x h,.Name y d] kt pt] (.Tuple [a,b] k2 pt2) pos) (rH i j ms):=by unhygienic
 have(A,p,_,r):=u;show{_,λn=>BY (s.calm n) (l n) (v n) (t n) f (q n) (w n) (p n) (z n) (hs n),zc r (λ_ _ _ _=>trivial)}
def wj(j:∀i,Mo (KO (C i).prog (C i).w) (C i).A (C i).env (C i).xe)(d:QT C K c mt)(l:QSs C K body s1):QS C K (.While c body [] pos) (eY mt s1):=by
 have(q,p,r):=d;have(s,h,f):=l;show{_,λi=>vY (j i) (p i) (h i),tW r f}
def qD(h:CK C P W K mg base k)(v:∀i,Mo (KO (C i).prog (C i).w) (C i).A (C i).env (C i).xe)(l:QI C K tg iter it)(u:QG C K P8 tg g)(j:QSs C K body s1)(hs:∀i x,K8 iter (C i).env x=pure x:=by intro _ _;rfl):QS C K (.For tg iter body [] pos) (eJ it g s1):=by
 have(z,p,r):=l;have(d,f,t,_):=u;have(y,q,s):=j;show{_,λi=>BX (v i) (h.calm i) (p i) (f i) (q i) (hs i),yZ r t s}
def tL(d:CK C P W K mg base k)(T:Bi mg)(f:QA C K [a] ms)(h:∀i,Gl (C i) "range" :=by intro _;rfl)(hs:bH a=Qa:=by rfl):QI C K tg (.Call (.Name "range" p) [a] [] pos) (dF ms):=by
 have(j,q,_,r):=f;show{_,λi=>tq (h i) (by rw[d.mg i];show T.b_range) (q i) (by rw[bf hs];rfl),wK r}
def B8(d:CK C P W K mg base k)(T:Bi mg)(f:QA C K [a] ms)(h:∀i,Gl (C i) "reversed" :=by intro _;rfl)(hs:bH a=Qa:=by rfl):QI C K tg (.Call (.Name "reversed" p) [a] [] pos) (sT ms):=by
 have(j,q,_,r):=f;show{_,λi=>irK (d.kk i) (h i) (by rw[d.mg i];show T.b_reversed) (q i) (bf hs),y6 r}
def PI.or(f:PI X tg iter w1)(i:PI X tg iter w2):PI X tg iter (λZ H R=>w1 Z H R\/w2 Z H R):=by
 intro d s Z H R I h;rcases h with h|h;show f d s Z H R I h;show i d s Z H R I h
abbrev gy:R->Option !R
 | ⟨_,.li d⟩=>P9 (d.map λi=>{.ow,.im i})
 | ⟨.vw f _,.lst h⟩=>P9 (h.map (partV f))
 | ⟨_,.im (.tup d)⟩=>P9 (d.map λi=>{.ow,.im i})
 | ⟨_,.im (.str z)⟩=>P9 ((sL z).map λc=>{.ow,.im (.str {#[c]})})
 | ⟨_,.im (.ls d)⟩=>P9 (d.map λi=>{.ow,.im i})
 | _=>P8
private def mIt(a:ME):MI:={λO=>match a.run O with
 | some (r,d)=>(match gy r with
  | some f=>P9 (([r],f),d)
  | none=>P8)
 | none=>P8,a.mu}
def zG:fF Γ (Its z) [v] [src] ((sL z).map λc=>{.ow,.im (.str {#[c]})}):=λH O Z E S=>by
 show{λi j=>?_,λi r l=>?_}
 .change z.cps.size<=i;simpa[sL]using j
 .have(c,h,rfl):=ar l;have d:z.cps[i]?*>c:=by simpa[sL]using h
  show{?_,λx q y=>?_}
  .change i<z.cps.size;show(Array.getElem?_eq_some_iff.mp d).1
  .have(rfl,p,f,rfl):=y;rw[d]at f;cases f;show S.imm (gX rfl)
def Cn(i:aR K ta m):jn K (λZ H R=>rA K ta Z H R\/(xX K ta Z H R\/Dq ta Z H R)) (mIt m):=by unhygienic
 intro h H O Z E s w d p l t S q;dsimp[mIt]at t;ext t r A j;ext t B f;cases t;unfold gy at f;split at f
 .delta v G;show .inl (oi i h H O Z E s _ d p l (by dsimp[u4,j,iE];cases f;rfl) S q)
 .show .inl (oi i h H O Z E s _ d p l (by dsimp[u4,j,iE];cases f;rfl) S q)
 .show .inr (.inl (y4 i h H O Z E s _ d p l (by dsimp[A8,j,lh];cases f;rfl) S q))
 .delta v z;cases f;right;right;show i h H O Z E _ _ _ l j S λx y u=>?_;show{z,bc (u.rd ymS),q h rfl (λ_ _ _ _ S=>S) _ [x] y rfl u zG}
 .show .inl (oi i h H O Z E s _ d p l (by dsimp[u4,j,iE];cases f;rfl) S q)
 .cases f
def lD(d:CK C P W K mg base k)(f:QE C K iter m):QI C K tg iter (mIt m):=by
 have(h,q,r):=f;show{_,λi=>PI.or (ilK (d.kk i) (q i)) (PI.or (itK (d.kk i) (q i)) (yB (q i))),Cn r}
private def mYes:MT:={λO=>P9 (Qb,O),[]}
def zj:eW K EU mYes:=by unhygienic
 intro i H O Z E Q b h f d S q;cases d;show q H (by rw[show mYes.mu=[]from rfl,bW];show S)
def kI:QTs C K [] mYes:={_,λ_=>yM,zj}
def rQ(h:QT C K c mt):QTs C K [c] mt:=by
 have(t,p,r):=h;show{_,λi=>yN (p i),r}
section
variable {elt tg2 iter2:Expr}{ifs:!Expr}{scope:Mj}
def cR(l:CK C P W K mg base k)(q:∀i,Blk (C i).env.scope scope (C i).N N' f)(r:QI C K tg iter it)(A:QG (ke C scope N') K (P9 f) tg g)(z:QTs (ke C scope N') K ifs mt)(v:QE (ke C scope N') K elt m)(hs:∀i x,K8 iter (C i).env x=pure x:=by intro _ _;rfl) :
  QE C K (.ListComp elt [{tg,iter,ifs,0}] scope pos) (bj f it g mt m):=by
 have(G,t,y):=r;have(H,u,s,d):=A;have(B,h,p):=z;have(E,j,w):=v;show{_,λi=>yt (l.calm i) (q i) (t i) (λb=>u (i,b)) (d f rfl) (λb=>h (i,b)) (λb=>j (i,b)) (hs i),pw y (d f rfl) s p w}
def iI(n:Nat)(s:CK C P W K mg base k)(q:∀i,(C i).N.Nodup)(u:∀i,Blk (C i).env.scope scope (C i).N N' f)(v:QI C K tg iter it)(H:QG (ke C scope N') K (P9 f) tg g)(j:QTs (ke C scope N') K ifs mt)(A:QE (ke C scope N') K elt m)(G:∀i,(C i).N[n]?*>x:=by intro _;rfl)(r:∀i,(C i).env.scope.names.lookup x*>.local:=by intro _;rfl)
  (d:∀i,Nl (.ListComp elt [{tg,iter,ifs,0}] scope pos) (P9 (.Name x pos')) spos.line (C i).env=pure Qb:=by intro _;rfl) (hs:∀i x,K8 iter (C i).env x=pure x:=by intro _ _;rfl) :
  QS C K (.Assign [.Name x pos'] (.ListComp elt [{tg,iter,ifs,0}] scope pos) spos) (aU (bj f it g mt m) (ai n)):=by
 have(M,y,E):=v;have(O,z,w,h):=H;have(J,l,t):=j;have(L,p,B):=A;show{_,λi=>qB (s.calm i) (q i) (G i) (r i) (u i) (y i) (λb=>z (i,b)) (h f rfl) (λb=>l (i,b)) (λb=>p (i,b)) (d i) (hs i),oh (pw E (h f rfl) w t B) lG}
def yQ(t:CK C P W K mg base k)(w:∀i,Blk (C i).env.scope scope (C i).N N' f)(h:qP f f2=Qb)(y:QI C K tg iter it)(A:QG (ke C scope N') K (P9 f) tg g)(j:QI (ke C scope N') K tg2 iter2 it2)(l:QG (ke C scope N') K (P9 f2) tg2 g')(S:QTs (ke C scope N') K ifs mt)(J:QE (ke C scope N') K elt m)(hs:∀i x,K8 iter (C i).env x=pure x:=by intro _ _;rfl)(p:∀i b x,K8 iter2 (cxB (C i) scope N' b).env x=pure x:=by intro _ _ _;rfl) :
  QE C K (.ListComp elt [{tg,iter,[],0},{tg2,iter2,ifs,0}] scope pos) (jE f f2 it g it2 g' mt m):=by
 have(Z,E,O):=y;have(gg,H,B,q):=A;have(z,U,L):=j;have(u,G,Q,d):=l;have(X,r,v):=S;have(Y,s,M):=J;show{_,λi=>vt (t.calm i) (w i) h (E i) (λb=>H (i,b)) (q f rfl) (λb=>U (i,b)) (λb=>G (i,b)) (d f2 rfl) (λb=>r (i,b)) (λb=>s (i,b)) (hs i) (p i),tQ O (q f rfl) B L (d f2 rfl) Q v M}
end
end
structure DI(k:Nat)(name:Str)(st:Stmt) where
 f:Addr
 cdv:KA
 A:Li
 outer:!Env
 s:KC
 H:Hp
 E:XK
 hr:Ka k (A.deeper (MB name (aj st) s.heap.objs.size f cdv))
noncomputable abbrev dC(P:KP) (W:K2) (K:yF) (mg:Str->↑KA) (base:Heap) (k:Nat) (N:!Str) (name:Str) (st:Stmt):DI k name st->Cx:=λd=>(lU CX0 P W K mg base N name (aj st) d.f d.cdv d.A d.outer d.s d.H d.E).nox
def af{N:!Str}{name:Str}{st:Stmt}:CK (dC P W K mg base k N name st) P W K mg base k:=
 {λ_=>rfl,λ_=>rfl,λ_=>rfl,λ_=>rfl,λ_=>rfl,λ_=>rfl,λd=>d.hr}
def Def.qp{name:Str}{st:Stmt}{N e:!Str}(d:Def K mg name st e)(S:p6 N e (aj st)){m:MS}(h:QSs (dC P W K mg base k N name st) K (bC st) m)
  {run:!T->↑T} (c:∀ts,run ts=if ts.length=e.length then ce m N.length ts else P8):Has P W K mg base (k+1) name e (spP K run):=by
 have(t,p,r):=h;show d.mp S (λf g A a s H E i=>{t,p ⟨f,g,A,a,s,H,E,i⟩,r}) c
def Def.qi{name:Str}{st:Stmt}{N e:!Str}{j:Nat}(d:Def K mg name st e)(S:p6 N e (aj st)){m:MS}(h:QSs (dC P W K mg base k N name st) K (bC st) m)
  {run:!T->↑(T×T)} (c:∀ts,run ts=if ts.length=e.length then jf m j N.length ts else P8):Has P W K mg base (k+1) name e (spI K j run):=by
 have(t,p,r):=h;show d.mi S (λf g A a s H E i=>{t,p ⟨f,g,A,a,s,H,E,i⟩,r}) c
end
section
variable {Γ:Gm}{H H':Hp}{L:!Hd}{O:Rho}{Z:St}{E X:!En}{v w x y:V}{t s:T}{K:yF}{Q:VK}
def Sim.ioT{vs:!V}{rs:!R}{k:Nat}(S:Sim Γ H O Z (ens vs rs++E))(hl:vs.length=rs.length)(hk:rs[k]?=⇑s)(hw:vs[k]?*>w) :
  ∃G,Rp Γ.K H s w G/\G.Nodup/\(∀a∈G,Mu H a)/\(∀m r x,m≠k->rs[m]?*>r->vs[m]?*>x->∃F,Rp Γ.K H r.t x F/\∀a∈F,a∉G) /\
  ∀H' v t F,td G H H'->(∀a∈G,∃o,H' a*>o)->F.Nodup->(∀a∈F,H a=P8/\Mu H' a)->Rp Γ.K H' t v F->Sim Γ H' O Z ({P8,v,{.ow,t}}::E):=by
 have N:∀{vs:!V} {rs:!R} {k:Nat},vs.length=rs.length->rs[k]?*>({.ow,s}:R)->vs[k]?*>w->∃A,(ens vs rs).Perm ({P8,w,{.ow,s}}::A)/\(∀e∈A,e.key=P8)/\∀m r x,m≠k->rs[m]?*>r->vs[m]?*>x->(⟨P8,x,r⟩:En)∈A:=by
  intro vs
  induction vs with
  | nil=>intro rs k _ _ h;simp at h
  | cons a vs ih=>
   intro rs k hl h1 h2;cases rs with
   | nil=>simp at h1
   | cons b rs=>
    cases k with
    | zero=>
     simp at h1 h2;subst h1 h2;show{ens vs rs,List.Perm.refl _,λe i=>nD i,λm r x Y l c=>?_};cases m with
     | zero=>show absurd rfl Y
     | succ m=>show ku (by exists l) (by exists c)
    | succ k=>
     have(A,p,q,g):=ih (rs:=rs) (k:=k) (by exists hl) (by exists h1) (by exists h2);show{⟨P8,a,b⟩::A,(List.Perm.cons _ p).trans (List.Perm.swap _ _ _),λe i=>?_,λm r x Y l c=>?_}
     .rcases ycM i with rfl|i;rfl;show q e i
     .cases m with
      | zero=>simp at l c;subst l c;show ymS
      | succ m=>show ymC _ (g m r x ⋯ (by exists l) (by exists c))
 have(A,p,hA,hin):=N hl hk hw;have S1:=S.perm (p.append_right E);rw[F8]at S1;have(Lx,g,eL):=S1.sl;rw[F8]at eL;have(z,L',rfl,U,J):=ax eL;have f:z.e.r.k.isOw=Qb:=by rw[U];rfl
 have rz:=g.rp z ymS;rw[U]at rz;have ap:=GW.apart (hs:=[z]) (L:=L') g (λy hy x c j d=>by rw[ysM c,U]at d;cases d) (λx c=>by rw[ysM c];show f);show{z.F,rz,g.ndF ymS f,g.muF ymS f,λm r x Y l c=>?_,λH' v t F off dom nd hF rp=>?_}
 .have M:(⟨P8,x,r⟩:En)∈L'.map (·.e):=by rw[J];show yaL _ (yaL _ (hin m r x Y l c))
  have(u,hu,eu):=FT.mp M;have ru:=g.rp u (ymC _ hu);rw[eu]at ru;show{u.F,ru,λa B hg=>ap u hu a B z ymS hg}
 .have st:=GW.step (hs:=[z]) (L:=L') (H':=H') g (λx c=>by rw[ysM c];show f) (λy hy x c j d=>by rw[ysM c,U]at d;cases d) (by exists off) (λa B=>dom a (by exists B)) (key:=P8) (v:=v) (r:={.ow,t}) (F:=F) nd (λa B=>{.inr (hF a B).1,(hF a B).2}) rp (.inl {Xr,λx c=>by rw[ysM c,U]}) (λj d=>by cases d);have SL:p9 Γ H' ({P8,v,{.ow,t}}::((A++E)++aA 0 Z O)):={_,st,by rw[FS,J]};show{?_,S.al,S.len,λe i j d=>?_}
  .rw[F5]at SL;have pp:({P8,v,{.ow,t}}::(A++(E++aA 0 Z O))).Perm (A++({P8,v,{.ow,t}}::(E++aA 0 Z O))):=Gh.symm;show(SL.perm pp).dropsN hA
  .rcases ycM i with rfl|i;cases d;show S.hi e (yaR _ i) j d
private def jD(k:Nat)(run:!T->↑(T×T))(a:MA):ME:={λO=>match a.run O with
 | some (c,d)=>(match c[k]? with
  | ⇑_=>(match run (c.map (·.t))with
   | some (t,_)=>P9 ({.ow,t},d)
   | none=>P8)
  | _=>P8)
 | none=>P8,a.mu}
def tO{k:Nat}{run:!T->↑(T×T)}{i:TA}{a:MA}(ha:fo K i a):aR K (lK (spI K k run) [] E0 i) (jD k run a):=by
 intro Γ H O Z E Q r B f c S q;change i Z H λvs l=>spI K k run (vs++[]) l Q E0;dsimp[Ge];dsimp[jD]at c q;ext c e O1 U;ext c s g;ext c t J e3;cases c;show ha Γ H O Z E _ e B f U S λvs l h S1=>?_;have j:k<e.length:=(FL.mp g).1;obtain⟨w,z⟩:∃w,vs[k]?*>w:={vs[k],by simp[h,j]};have(G,p,g2,M,g4,g5):=S1.ioT h g z;rw[f]at p;show{e.map (·.t),s,w,G,t,J,by rw[FM,h],z,by rw[F4,g];rfl,p,g2,M,λm x u hm A d=>?_,e3,λv H' F G' Y a2 a3 a4 a5 N o=>q v H' ?_}
 .rw[F4]at d;cases c:e[m]? with
  | none=>rw[c]at d;cases d
  | some r=>
   rw[c]at d;cases d;have:=g4 m r x hm c A;rw[f]at this;show this
 .rw[<-f]at N o;show g5 H' v t F Y a2 (FP.mp a3).1 a4 o
private def iG(j:Nat)(o:ME)(lo e:ME):MG:={λr O=>match r with
 | ⟨.ow,.li g⟩=>match o.run O with
  | some (⟨.vw (P9 l) (P9 p),.li d⟩,h)=>match lo.run h with
   | some (⟨_,.im (.int a)⟩,i)=>match e.run i with
    | some (⟨_,.im (.int c)⟩,f)=>if(decide (l=j) &&  ~~~(lo.mu++e.mu).contains j&&decide (0<=a/\a<=c/\c<=d.length/\d.length+g.length<=sizeLine))=Qb then(match f[j]? with
     | some (P9 ⟨k,t⟩)=>if k.isOw=Qb then P9 ((am [j] f).set j (P9 {k,t.put p (.li (d.take a.toNat++g++d.drop c.toNat))}))else P8
     | _=>P8)else P8
    | _=>P8
   | _=>P8
  | _=>P8
 | _=>P8,(o.mu++(lo.mu++e.mu))++[j]}
def tV{Y tl th:TE}{o lo h:ME}{j:Nat}(ho:aR K Y o)(hl:aR K tl lo)(hh:aR K th h):j8 K (uI Y (r8 tl) (r8 th)) (iG j o lo h):=by
 intro Γ H O Z E Q v r O' A d S q;dsimp[iG]at d q;ext d ys;ext d j' p xs O1 e1;ext d k1 a O2 e2;ext d k2 c O3 e3;ext d hc;rw[FO,FO,decide_eq_true_eq,Gk,decide_eq_true_eq]at hc;obtain⟨⟨rfl,u⟩,e⟩:=hc;ext d k t e4;ext d hw;cases d;show ho Γ H O Z _ _ _ _ A e1 S λx H1 S1=>?_;show hl Γ H1 O1 Z _ _ _ _ A e2 S1 λya H2 S2=>?_;show{a,aQ (S2.rd ymS),?_};show hh Γ H2 O2 Z _ _ _ _ A e3 (S2.drop rfl) λyc H3 S3=>?_;show{c,aQ (S3.rd ymS),?_};have S4:=S3.drop rfl;have g:az (lo.mu++h.mu) {P8,x,{.vw (P9 j') (P9 p),.li xs}}=Qb:=by unfold az;dsimp[Kd.root];rw[u];rfl
 have N:∀M:!Nat,az M {P8,v,{.ow,.li ys}}=Qb:=λM=>rfl;rw[ae,av g,ae,av (N _)]at S4;have(G,F,h1,h2,h3,h4,h5):=Sim.mut (vs:=[v]) (ts:=[.li ys]) (S4.perm (List.Perm.swap _ _ _)) rfl e4 hw;have(p0,U,rfl,g1,f,rfl):=mR h1 λa m=>h4 a (yaL _ m);have(z,ez,g3):=zp h2;cases ez;have(B,J,rfl,g4,g5,rfl):=mR g3 λa m=>h4 a (yaR _ m);have l:p0≠B:=λz=>by
  have:=h3;rw[z]at this;simp at this
 show{p0,B,U,J,a,c,Xr,Xr,Xr,Xr,g1,g4,l,e.1,e.2.1,by rw[f.length];show e.2.2.1,by rw[f.length,g5.length];show e.2.2.2,?_};show jW (Q:=λ_ H'=>Q Z H') (F:=[B]) (v:=.non) (i:=.non) g1 (((f.take _).append g5).append (f.drop _)) cN λv' H' G' a1 a2 a3 a4 a5 _=>q Z H' ?_;have:=h5 H' _ G' a1 a2 a3 a4 a5;rw[ae]at this;show this
abbrev da(k:Nat):!I->!R
 | []=>[]
 | i::a=>{.ow,.im (.tup [.int k,i])}::da (k+1) a
def fu:∀{is:!I} {k i:Nat},(da k is)[i]?=(is[i]?).map λx=>{.ow,.im (.tup [.int ((k+i:Nat):Int),x])}
 | [],k,i=>by simp[da]
 | x::is,k,0=>by simp[da]
 | x::is,k,i+1=>by
  rw[da,Gy,Gy,fu,show k+1+i=k+(i+1) by omega]
def jv:∀{is:!I} {k:Nat},(da k is).length=is.length
 | [],_=>rfl
 | _::is,k=>by rw[da,FR,jv,FR]
private def mN(a:MA):MI:={λO=>match a.run O with
 | some ([⟨k,.im (.tup c)⟩],d)=>P9 (([{k,.im (.tup c)}],da 0 c),d)
 | _=>P8,a.mu}
abbrev bw:MS:={λ_=>P8,[]}
def mY{t:TS}:eV K t bw:=by
 intro Γ H O Z E D f d c e a S q;cases a
end
section
variable {ι : Type}{C:ι->Cx}{P:KP}{W:K2}{K:yF}{mg:Str->↑KA}{base:Heap}{k:Nat}
section
variable {a b c e o tg iter:Expr}{es:!Expr}{ma mb mc m mo mi ml mh:ME}{ms:MA}{pos:Pos}{mt mt':MT}{s1 s2:MS}{g g':MG}{gs:MGs}{it it2:MI}{fr:Option ! ↑Nat}
def Ec{x:Str}{p:Pos}{j l:Nat}{u:!Str}{run:!T->↑(T×T)}(d:CK C P W K mg base k)(h:Has P W K mg base j x u (spI K l run))(t:QA C K (e::es) ms)(s:j<=k:=by first|decide|omega)(v:∀i,Gl (C i) x:=by intro _;rfl)(f:(x==("__debug__" : Str))=Qa:=by decide):QE C K (.Call (.Name x p) (e::es) [] pos) (jD l run ms):=by
 have(y,q,n,r):=t;show{_,λi=>qw (by rw[d.prog i,d.w i,d.kk i,d.mg i,d.base i];show h) ((d.room i).mono s) (v i) (q i) n f,tO r}
def br{st:Stmt}:QS C K st bw:={_,λ_=>vX,mY}
end
end
section
variable {Γ:Gm}{H H':Hp}{O:Rho}{Z:St}{E:!En}{v w x y:V}{t s:T}{K:yF}{Q:VK}
private def aa(n:Nat)(a:MA):MA:={λO=>match a.run O with
 | some (d,c)=>(match c[n]? with
  | some (P9 r)=>(match O[n]? with
   | some (P9 _)=>P9 (rdR n r::d,c)
   | _=>P8)
  | _=>P8)
 | none=>P8,a.mu}
def tR(j:fo K ta ms):fo K (rZ (Cy n) ta) (aa n ms):=by unhygienic
 intro Γ H O Z E Q A u l c S q;dsimp[aa]at c;ext c d B m;ext c r p;ext c G f;cases c;have(v,e,_):=S.var f;show{v,e,?_};show j Γ H O Z E _ d _ l m S λvs i h g=>q (v::vs) i (by rw[FR,FR,h]) ?_;have(z,a,o):=g.var p;rw[e]at a;cases a;show o
def CY:fF Γ (Ite Γ.K a) [.ref a] [{k,.im (.tup is)}] (da 0 is):=λH O Z E S=>by
 replace S:Sim Γ H O Z ({P8,.ref a,{k,.im (.tup is)}}::E):=S;have q:Rpx Γ.K H (.im (.tup is)) (.ref a):=S.rd (e:={P8,.ref a,{k,.im (.tup is)}}) ymS;have(B,f,z,g,l):=bQ q;cases z;show{λi h=>{f,g,by rw[l.length];rw[jv]at h;show h},λi r c=>?_};rw[fu]at c;cases e:is[i]? with
 | none=>rw[e]at c;cases c
 | some j=>
  rw[e]at c;cases c;have(w,m,d):=l.get e;show{⟨f,w,g,m⟩,λx H' y=>?_};have(p,A,u,rfl,rfl,o):=y;have:=o f g;rw[m]at this;cases this;rw[Gq];show S.fresh (New.tup u (.cons (by rw[RpI]) (.cons d (by rw[md]))))
def wC(p:fo K ta a):jn K (uM K ta) (mN a):=by unhygienic
 intro Γ H O Z E B u d m l h S q;dsimp[mN]at h;ext h k g G z;cases h;show p Γ H O Z E _ _ _ l z S λvs f i c=>?_;cases vs with
 | nil=>cases i
 | cons v vs=>
  cases vs with
  | cons _ _=>cases i
  | nil=>
   have c:Sim Γ f m Z ({P8,v,{k,.im (.tup g)}}::ag a.mu E):=c;have r:Rpx Γ.K f (.im (.tup g)) v:=c.rd (e:={P8,v,{k,.im (.tup g)}}) ymS;have(j,o,rfl,A,J):=bQ r;subst l;show{j,o,Xr,A,q Γ rfl (λ_ _ _ _ S=>S) _ [.ref j] f rfl c CY}
end
section
variable {ι : Type}{C:ι->Cx}{P:KP}{W:K2}{K:yF}{mg:Str->↑KA}{base:Heap}{k:Nat}
section
variable {a b c e o tg iter:Expr}{es:!Expr}{ma mb mc m mo mi ml mh:ME}{ms:MA}{pos:Pos}{mt mt':MT}{s1 s2:MS}{g g':MG}{gs:MGs}{it it2:MI}{fr:Option ! ↑Nat}
def ao(n:Nat)(r:QA C K es ms)(h:∀i,(C i).N[n]?*>x:=by intro _;rfl)(l:∀i,Vis (C i).env.scope x:=by first|show λ_=>Pg rfl|show λ_=>Of (Pg rfl)|show λ_=>Of (Of rfl))(j:(x==("__debug__" : Str))=Qa:=by decide)(f:(x==("__classdict__" : Str))=Qa:=by decide):QA C K (.Name x p::es) (aa n ms):=by
 have(s,c,q,d):=r;show{_,λi=>de (vB (h i) (l i) j f) (c i) rfl,by rw[aY,q];rfl,tR d}
def wf(j:Nat){lo d:Expr}{q:Pos}(ho:QE C K o mo)(x:QE C K lo ml)(w:QE C K d mh)
  (y:∀i v,L9 (.Subscript o (.Slice (P9 lo) (P9 d) P8 q) pos) (C i).env v=(do
   let l <-LO [v] (eval o (C i).env)
   let t <-LO [v,l] (eval (.Slice (P9 lo) (P9 d) P8 q) (C i).env)
   Mb pos
   LO [v,l,t] (Nv l t v)
   Pv [t,v,l] []):=by intro _ _;rfl):QG C K P8 (.Subscript o (.Slice (P9 lo) (P9 d) P8 q) pos) (iG j mo ml mh):=by
 have(B,p,r):=ho;have(E,A,z):=x;have(G,u,s):=w;show{_,λi=>vC (p i) (nW (A i)) (nW (u i)) (y i),tV r z s,λf h=>by cases h}
def rP(d:CK C P W K mg base k)(T:Bi mg)(f:QA C K [a] ms)(h:∀i,Gl (C i) "enumerate" :=by intro _;rfl)(hs:bH a=Qa:=by rfl):QI C K (.Tuple elts k0 pt) (.Call (.Name "enumerate" p) [a] [] pos) (mN ms):=by
 have(j,q,_,r):=f;show{_,λi=>ieK (d.kk i) (h i) (by rw[d.mg i];show T.b_enumerate) (q i) (bf hs),wC r}
def jQ{st:!Stmt}:QSs C K st bw:={λ_ _ _=>False,λ_ _ _ _ _ _ _ h=>h.elim,mY}
end
end
section
variable {ι : Type}{C:ι->Cx}{P:KP}{W:K2}{K:yF}{mg:Str->↑KA}{base:Heap}{k:Nat}
section
variable {Γ:Gm}{H:Hp}{O:Rho}{Z:St}{E:!En}
abbrev fgt(i:Nat) (O:Rho):Rho:=(am [i] O).set i P8
def Sim.fgt(S:Sim Γ H O Z E)(i:Nat):Sim Γ H (L2.fgt i O) Z (ag [i] E):=by
 have a:=S.kill [i];unfold L2.fgt;cases h:(am [i] O)[i]? with
 | none=>rw[List.set_eq_of_length_le (by exists h)];show a
 | some o=>
  cases o with
  | none=>
   have:(am [i] O).set i P8=am [i] O:=by
    apply Hh;intro j;by_cases e:i=j
    .subst e;have z:=(FL.mp h).1;rw[GC z,h]
    .rw[F6 e]
   rw[this];show a
  | some r=>
   have(v,A):=a.al i r h;have p:=bD (k:=0) A h;have SL:p9 Γ H ({P9 (0+i),v,r}::(ag [i] E++aA 0 Z ((am [i] O).set i P8))):=a.sl.perm ((List.Perm.append_left _ p).trans Gh);have(L,g,e):=SL;have(x,s,rfl,u,q):=ax e;have l:∀y∈ag [i] E++aA 0 Z (am [i] O),y.r.k.root≠P9 i:=by
    rw[ft,<-aE];show lp ∅
   show{{s,g.dropK λy f j c w=>?_,q},λm B d=>?_,by rw[HG];show a.len,λy f j c=>by rw[HG];show a.hi y f j c}
   .rw[u]at c;have:j=i:=by exists c.symm
    subst this;have:y.e∈s.map (·.e):=FT.mpr ⟨y,f,Xr⟩;rw[q]at this;have t:=(List.Perm.append_left (ag [j] E) p).trans Gh;show l y.e (t.mem_iff.mpr (ymC _ this)) w
   .by_cases e:i=m
    .subst e;rw[GC (FL.mp h).1]at d;cases d
    .rw[F6 e]at d;show a.al m B d
abbrev fgts:!Nat->Rho->Rho
 | [],O=>O
 | i::a,O=>fgts a (fgt i O)
def Sim.fgts:∀{ks:!Nat} {O:Rho} {E:!En},Sim Γ H O Z E->Sim Γ H (L2.fgts ks O) Z (ag ks E)
 | [],O,E,S=>by rw[bW];show S
 | i::ks,O,E,S=>by
  have:=Sim.fgts (ks:=ks) (S.fgt i);rw[ae]at this;show this
private def dX(ks:!Nat)(s:MS):MS:={λO=>match s.run O with
 | some (.nx,a)=>P9 (.nx,fgts ks a)
 | some (.ct,a)=>P9 (.ct,fgts ks a)
 | some (.rt t,a)=>P9 (.rt t,a)
 | some (.bk,a)=>P9 (.bk,a)
 | none=>P8,s.mu++ks}
def yY(h:eV K ts s):eV K ts (dX ks s):=by
 intro Γ H O Z E D f m d e c S q;dsimp[dX]at c q;split at c
 .delta g a;cases c;show h Γ H O Z E D _ _ d e a S λl j i=>q l j (by rw[<-ae];show i.fgts)
 .delta g a;cases c;show h Γ H O Z E D _ _ d e a S λl j i=>q l j (by rw[<-ae];show i.fgts)
 .delta t g a;cases c;show h Γ H O Z E D _ _ d e a S q.weak
 .delta g a;cases c;show h Γ H O Z E D _ _ d e a S q.weak
 .cases c
def nY(ks:!Nat){st:!Stmt}{s:MS}(h:QSs C K st s):QSs C K st (dX ks s):=by
 have(t,p,r):=h;show{t,p,yY r}
end
abbrev scs:!I->Option !V
 | []=>P9 []
 | i::a=>match i.sc,scs a with
  | some v,P9 vs=>P9 (v::vs)
  | _,_=>P8
def pz:∀{is:!I} {xs:!V},scs is*>xs->∀H,md K H is xs
 | [],xs,h,H=>by cases h;rw[md]
 | i::is,xs,h,H=>by
  rw[scs]at h;ext h v vs a c;cases h;show .cons (gX a) (pz c H)
def ph(c:CK C P W K mg base k)(h:∃a,JY mg x (.ref a)/\Ke K a xs)(hs:scs is*>xs:=by rfl)(f:∀i,Gl (C i) x:=by intro _;rfl)(d:(x==("__debug__" : Str))=Qa:=by decide):QE C K (.Name x pos) (mC (.tup is)):=by
 have(a,e,g):=h;show yR c e g (pz hs) f d
end
structure W1{α:Type}(o:↑α)(Q : α->Prop):Prop where
 ex:∃x,o*>x/\Q x
structure W2{α β:Type}(o:↑(α × β))(Q : α->β->Prop):Prop where
 ex:∃x y,o*>(x,y)/\Q x y
structure WE(m:ME)(O:Rho)(Q:R->Rho->Prop):Prop where
 ex:∃x y,m.run O*>(x,y)/\Q x y
structure WT(m:MT)(O:Rho)(Q:Bool->Rho->Prop):Prop where
 ex:∃x y,m.run O*>(x,y)/\Q x y
structure WA(m:MA)(O:Rho)(Q:!R->Rho->Prop):Prop where
 ex:∃x y,m.run O*>(x,y)/\Q x y
structure WS(m:MS)(O:Rho)(Q:Fl->Rho->Prop):Prop where
 ex:∃x y,m.run O*>(x,y)/\Q x y
structure WG(m:MG)(r:R)(O:Rho)(Q:Rho->Prop):Prop where
 ex:∃x,m.run r O*>x/\Q x
structure WGs(m:MGs)(rs:!R)(O:Rho)(Q:Rho->Prop):Prop where
 ex:∃x,m.run rs O*>x/\Q x
structure WI(m:MI)(O:Rho)(Q:!R->!R->Rho->Prop):Prop where
 ex:∃r rs O',m.run O*>((r,rs),O')/\Q r rs O'
structure WO(m:MO)(O:Rho)(Q:↑Int->Rho->Prop):Prop where
 ex:∃x y,m.run O*>(x,y)/\Q x y
structure Gu(b:Bool)(P:Prop):Prop where
 ex:b=Qb/\P
structure IsB(t:T)(Q:Bool->Prop):Prop where
 ex:∃b,t=.im (.bl b)/\Q b
structure IsN(t:T)(Q:Int->Prop):Prop where
 ex:∃n,t=.im (.int n)/\Q n
structure AtV(n:Nat)(O:Rho)(Q:R->Prop):Prop where
 ex:∃r,O[n]?*>(P9 r)/\Q r
structure AtC(k j:Nat)(rs:!R)(O:Rho)(Q:!Ac->Kd->T->Prop):Prop where
 ex:∃p t1 kd t0,rs[k]?*>{.vw (P9 j) (P9 p),t1}/\((Gn rs.length).all λm=>decide (m=k)||aw [j] (rs.getD m ⟨.ow,.im .non⟩))=Qb/\O[j]?*>(P9 ⟨kd,t0⟩)/\kd.isOw=Qb/\Q p kd t0
structure AtT(k:Nat)(rs:!R)(P:Prop):Prop where
 ex:∃t1,rs[k]?=⇑t1/\P
structure AtM(l:Nat)(O:Rho)(Q:Kd->T->Prop):Prop where
 ex:∃k t,O[l]?*>(P9 ⟨k,t⟩)/\k.isOw=Qb/\Q k t
structure AtS(j:Nat)(r:R)(Q:!Ac->T->Prop):Prop where
 ex:∃p s,r={.vw (P9 j) (P9 p),s}/\Q p s
structure Two(rs:!R)(Q:R->R->Prop):Prop where
 ex:∃r1 r2,rs=[r1,r2]/\Q r1 r2
structure Three(rs:!R)(Q:R->R->R->Prop):Prop where
 ex:∃r1 r2 r3,rs=[r1,r2,r3]/\Q r1 r2 r3
structure Ku(rs:!R)(Q:Int->Prop):Prop where
 ex:∃n,rs.map (·.t)=[.im (.int n)]/\Q n
structure Int2(rs:!R)(Q:Int->Int->Prop):Prop where
 ex:∃m n,rs.map (·.t)=[.im (.int m),.im (.int n)]/\Q m n
def Fu(q:Q b):IsB (.im (.bl b)) Q:=⟨b,Xr,q⟩
def Fv(q:Q n):IsN (.im (.int n)) Q:=⟨n,Xr,q⟩
def pN(h : O[n]?*>(P9 r))(q:Q r):AtV n O Q:=⟨r,h,q⟩
def Az(d:rs[k]?*>{.vw (P9 j) (P9 p),t1})(e:((Gn rs.length).all λm=>decide (m=k)||aw [j] (rs.getD m ⟨.ow,.im .non⟩))=Qb)(c : O[j]?*>(P9 ⟨kd,t0⟩))(a:kd.isOw=Qb)(q:Q p kd t0):AtC k j rs O Q:=⟨p,t1,kd,t0,d,e,c,a,q⟩
def Fk{P:Prop}(h:rs[k]?=⇑t1)(q:P):AtT k rs P:=⟨t1,h,q⟩
def Fi(h : O[l]?*>(P9 ⟨k,t⟩))(ho:k.isOw=Qb)(q:Q k t):AtM l O Q:=⟨k,t,h,ho,q⟩
def Fj(q:Q p s):AtS j {.vw (P9 j) (P9 p),s} Q:=⟨p,s,Xr,q⟩
def CA(q:Q r1 r2):Two [r1,r2] Q:=⟨r1,r2,Xr,q⟩
def rB(h:rs.map (·.t)=[.im (.int n)])(q:Q n):Ku rs Q:=⟨n,h,q⟩
section
variable {α β:Type}{O:Rho}{a b c m:ME}{ms:MA}{ct ct':MT}{s1 s2:MS}{g:MG}{gs:MGs}{it:MI}{QE':R->Rho->Prop}{QT':Bool->Rho->Prop}{QA':!R->Rho->Prop}{Q:Fl->Rho->Prop}{QG':Rho->Prop}{P:Prop}{o:↑α}{x : α}{Q1 : α->Prop}
def W2.mono{o:↑(α × β)}{Q1 d : α->β->Prop}(h:W2 o Q1)(k:∀x y,Q1 x y->d x y):W2 o d:=by have(x,y,e,q):=h;show{x,y,e,k x y q}
def w1(h:o*>x)(q:Q1 x):W1 o Q1:=⟨x,h,q⟩
def W1.mono(h:W1 o Q1)(k:∀x,Q1 x->Q2 x):W1 o Q2:=by have(x,e,q):=h;show{x,e,k x q}
def gu{b:Bool}(h:b=Qb)(p:P):Gu b P:=⟨h,p⟩
def WS.mono(h:WS s1 O Q)(k:∀f O,Q f O->Q2 f O):WS s1 O Q2:=by have(x,y,e,q):=h;show{x,y,e,k x y q}
def WG.mono{r:R}{Q1 d:Rho->Prop}(h:WG g r O Q1)(k:∀O,Q1 O->d O):WG g r O d:=by have(x,e,q):=h;show{x,e,k x q}
def WA.mono{Q1 d:!R->Rho->Prop}(h:WA ms O Q1)(k:∀rs O,Q1 rs O->d rs O):WA ms O d:=by have(x,y,e,q):=h;show{x,y,e,k x y q}
def WT.mono{Q1 d:Bool->Rho->Prop}(h:WT ct O Q1)(k:∀b O,Q1 b O->d b O):WT ct O d:=by have(x,y,e,q):=h;show{x,y,e,k x y q}
def WE.mono(h:WE m O QE')(k:∀f O,QE' f O->Q2 f O):WE m O Q2:=by have(x,y,e,q):=h;show{x,y,e,k x y q}
def w_C(q:QE' {.ow,.im i} O):WE (mC i) O QE':=by unhygienic show{_,_,Xr,q}
def j7(h : O[n]?*>(P9 r))(q:QE' (rdR n r) O):WE (ah n) O QE':={rdR n r,O,by dsimp[ah,h],q}
def qW(h:WE a O λe j=>WE b j λi d=>Gu (aw b.mu e) (W1 (f e.t i.t) λt=>QE' {.ow,t} d)):WE (mOp f a b) O QE':=by
 obtain⟨e,j,s,i,d,l,r,t,p,q⟩:=h;show{{.ow,t},d,by dsimp[mOp,s,l,r,if_true,p],q}
def FJ(h:WE a O λe d=>W1 (f e.t) λt=>QE' {.ow,t} d):WE (mUn f a) O QE':=by
 have(e,d,j,t,i,q):=h;show{{.ow,t},d,by dsimp[mUn,j,i],q}
def w_B(h:WA ms O λrs d=>W1 (f (rs.map (·.t))) λt=>QE' {.ow,t} d):WE (mB f ms) O QE':=by
 have(j,d,i,t,e,q):=h;show{{.ow,t},d,by dsimp[mB,i,e],q}
def w_M(h:WE a O λe i=>WA ms i λrs d=>Gu (aw ms.mu e) (W1 (f e.t (rs.map (·.t))) λt=>QE' {.ow,t} d)):WE (mM f a ms) O QE':=by
 obtain⟨e,i,r,s,d,l,j,t,p,q⟩:=h;show{{.ow,t},d,by dsimp[mM,r,l,j,if_true,p],q}
def zB(h:WE a O λl p=>WE b p λd e=>Gu (aw b.mu l&&aw c.mu d) (W1 (f l.t d.t) λt=>IsB t λi=>(i=Qb->WE c e λs j=>W1 (f' d.t s.t) λt=>QE' {.ow,t} j)/\(i=Qa->QE' {.ow,.im (.bl Qa)} e))):WE (dr f f' a b c) O QE':=by
 obtain⟨l,p,r,d,e,u,w,_,v,i,rfl,z,A⟩:=h;cases i with
 | true=>
  have(s,j,y,t,B,q):=z rfl;show{{.ow,t},j,by dsimp[dr,r,u,w,if_true,v,y,B],q}
 | false=>show{{.ow,.im (.bl Qa)},e,by dsimp[dr,r,u,w,if_true,v],A rfl}
def EY(h:WT ct O λd f=>(d=Qb->WE a f QE')/\(d=Qa->WE b f QE')):WE (lV ct a b) O QE':=by
 have(d,f,j,r,l):=h;cases d with
 | true=>have(p,i,e,q):=r rfl;show{p,i,by dsimp[lV,j,e],q}
 | false=>have(p,i,e,q):=l rfl;show{p,i,by dsimp[lV,j,e],q}
def CI(h:WE a O λe i=>WE b i λf d=>Gu (aw b.mu e) (W1 (ixR e f.t) λr=>QE' r d)):WE (mIx a b) O QE':=by
 obtain⟨e,i,s,f,d,j,p,r,l,q⟩:=h;show{r,d,by dsimp[mIx,s,j,p,if_true,l],q}
def zM(q:QO' P8 O):WO mNoPart O QO':=by unhygienic show{_,_,Xr,q}
def zN(h:WE a O λr d=>IsN r.t λn=>QO' (P9 n) d):WO (eN a) O QO':=by
 obtain⟨⟨k,t⟩,d,f,n,e,q⟩:=h;cases e;show{P9 n,d,by dsimp[eN,f],q}
def FH{lo e:MO}(h:WE a O λf i=>WO lo i λl j=>WO e j λu d=>Gu (aw (lo.mu++e.mu) f) (W1 (slR f l u) λr=>QE' r d)):WE (mSl a lo e) O QE':=by
 obtain⟨f,i,w,l,j,s,u,d,t,v,r,p,q⟩:=h;show{r,d,by dsimp[mSl,w,s,t,v,if_true,p],q}
def CD(h:WE a O λr f=>IsB r.t λd=>(d=Qb->WE b f QE')/\(d=Qa->QE' {.ow,.im (.bl Qa)} f)):WE (i5 a b) O QE':=by
 obtain⟨⟨k,t⟩,f,i,d,l,u,j⟩:=h;cases l;cases d with
 | true=>have(p,s,e,q):=u rfl;show{p,s,by dsimp[i5,i,e],q}
 | false=>show{_,_,by dsimp[i5,i],j rfl}
def E5(h:WE a O λr f=>IsB r.t λd=>(d=Qb->QE' {.ow,.im (.bl Qb)} f)/\(d=Qa->WE b f QE')):WE (qa a b) O QE':=by
 obtain⟨⟨k,t⟩,f,i,d,l,u,j⟩:=h;cases l;cases d with
 | false=>have(p,s,e,q):=j rfl;show{p,s,by dsimp[qa,i,e],q}
 | true=>show{_,_,by dsimp[qa,i],u rfl}
def CQ(h:WE a O λr e=>IsB r.t λd=>QE' {.ow,.im (.bl (~~~d))} e):WE (mO a) O QE':=by
 obtain⟨⟨k,t⟩,e,i,d,f,q⟩:=h;cases f;show{_,_,by dsimp[mO,i],q}
def xu(h:WA ms O λrs e=>Gu (decide (rs.length<=1000)) (W2 (consL mv rs e) λts d=>QE' {.ow,bM ts} d)):WE (bh mv ms) O QE':=by
 have(rs,e,j,f,ts,d,i,q):=h;show{{.ow,bM ts},d,by dsimp[bh,j,if_pos (of_decide_eq_true f),i],q}
def xv(h:WA ms O λrs e=>Gu (decide (rs.length<=1000)) (W2 (consL mv rs e) λts d=>QE' {.ow,mQ ts} d)):WE (bz mv ms) O QE':=by
 have(rs,e,j,f,ts,d,i,q):=h;show{{.ow,mQ ts},d,by dsimp[bz,j,if_pos (of_decide_eq_true f),i],q}
def oy{k j:Nat}{run:!T->↑(T×T)}(h:WA ms O λrs d=>AtC k j rs d λp i f=>W2 (run (rs.map (·.t))) λt e=>QE' {.ow,t} ((am [j] d).set j (P9 {i,f.put p e}))):WE (aP k j run ms) O QE':=by
 obtain⟨rs,d,r,p,y,i,f,u,w,v,s,t,e,l,q⟩:=h;show{{.ow,t},(am [j] d).set j (P9 {i,f.put p e}),?_,q};dsimp[aP,r];dsimp[u];rw[if_pos (by rw[FO];show⟨Xr,w⟩)];dsimp[l,v,s,if_true]
def zA{k:Nat}{run:!T->↑(T×T)}(h:WA ms O λrs d=>AtT k rs (W2 (run (rs.map (·.t))) λt _=>QE' {.ow,t} d)):WE (jD k run ms) O QE':=by
 have(rs,d,i,l,f,t,j,e,q):=h;show{{.ow,t},d,by dsimp[jD,i,f,e],q}
def EZ(h:WE a O λd e=>WA ms e λrs i=>Gu (aw ms.mu d) (W2 (mutR l mv f d rs i) QE')):WE (iq l mv f a ms) O QE':=by
 obtain⟨d,e,u,rs,i,s,j,p,r,t,q⟩:=h;show{p,r,by dsimp[iq,u,s,j,if_true,t],q}
def CN(h:WE a O λe d=>W2 (mutR l [] f e [] d) QE'):WE (gC l f a) O QE':=by
 have(e,d,r,p,j,i,q):=h;show{p,j,by dsimp[gC,r,i],q}
def CO(r:mv.contains l=Qa)(h:W2 (consL mv rs O) λts i=>AtM l i λk t=>W2 (f s ts) λj d=>QQ {.ow,.im d} ((am [l] i).set l (P9 {k,t.put p j}))):W2 (mutR l mv f {.vw (P9 l) (P9 p),s} rs O) QQ:=by
 obtain⟨ts,i,u,k,t,w,v,j,d,e,q⟩:=h;show{_,_,?_,q};unfold mutR;dsimp[decide_true,r,u,e,w,v,JC,HU,if_true]
def lP(q:QA' [] O):WA mNil O QA':=by unhygienic show{_,_,Xr,q}
def oA(h:WE m O λr e=>WA ms e λrs d=>Gu (aw ms.mu r) (QA' (r::rs) d)):WA (ac m ms) O QA':=by
 have(p,e,l,f,d,j,i,q):=h;show⟨p::f,d,by dsimp[ac,l,j,i,if_true],q⟩
def eH(e : O[n]?*>(P9 r0))(h:WA ms O λrs d=>AtV n d λr=>QA' (rdR n r::rs) d):WA (aa n ms) O QA':=by
 have(rs,d,f,r,i,q):=h;show{rdR n r::rs,d,by dsimp[aa,f,i,e],q}
def zO(h:WE a O λr e=>IsB r.t λd=>QT' d e):WT (ak a) O QT':=by
 obtain⟨⟨k,t⟩,e,i,d,f,q⟩:=h;cases f;show{d,e,by dsimp[ak,i],q}
def C6(h:WE a O λr e=>W1 (tru r.t) λd=>QT' d e):WT (sU a) O QT':=by
 have(r,e,f,d,i,q):=h;show{d,e,by dsimp[sU,f,i],q}
def xE(h:WT ct O λe d=>QT' (~~~e) d):WT (fA ct) O QT':=by
 have(r,d,f,q):=h;show{_,_,by dsimp[fA,f],q}
def C5(h:WT ct O λd f=>(d=Qb->WT ct' f QT')/\(d=Qa->QT' Qa f)):WT (lm ct ct') O QT':=by
 have(d,f,i,r,j):=h;cases d with
 | true=>have(p,l,e,q):=r rfl;show{p,l,by dsimp[lm,i,e],q}
 | false=>show{_,_,by dsimp[lm,i],j rfl}
def Fd(h:WT ct O λd f=>(d=Qb->QT' Qb f)/\(d=Qa->WT ct' f QT')):WT (mOr ct ct') O QT':=by
 have(d,f,i,r,j):=h;cases d with
 | false=>have(p,l,e,q):=j rfl;show{p,l,by dsimp[mOr,i,e],q}
 | true=>show{_,_,by dsimp[mOr,i],r rfl}
def lS(q:QT' Qb O):WT mYes O QT':=by unhygienic show{_,_,Xr,q}
def zI(h:(gF O i&&aw [i] r)=Qb)(q:QG' ((am [i] O).set i (P9 r))):WG (ai i) r O QG':={(am [i] O).set i (P9 r),by dsimp[ai,h,if_true],q}
def zJ(q:QG' O):WGs mGNil [] O QG':=by unhygienic show{_,Xr,q}
def xA(f:rs.all (aw g.mu)=Qb)(h:WG g r O λd=>WGs gs rs d QG'):WGs (aC g gs) (r::rs) O QG':=by
 have(d,e,j,i,q):=h;show{j,by dsimp[aC,f,if_true,e,i],q}
def C3(d:parts r*>rs)(h:WGs gs rs O QG'):WG (cc gs) r O QG':=by
 have(f,e,q):=h;show{f,by dsimp[cc,d,e],q}
def C2(h:WE a O λl i=>WE b i λe d=>AtS j l λp s=>Gu (~~~b.mu.contains j) (AtM j d λk t=>W1 (wS s e.t tv) λf=>QG' ((am [j] d).set j (P9 {k,t.put p f})))):WG (qb j a b) {.ow,tv} O QG':=by
 obtain⟨l,i,v,e,d,y,p,s,rfl,r,k,t,z,w,f,u,q⟩:=h;show{_,?_,q};dsimp[qb,v,y,r,decide_true,HU,if_true,u,z,w]
def xz(h:WE a O λl e=>WE b e λs f=>WE c f λy d=>∃p xs k t i n,l={.vw (P9 j) (P9 p),.li xs}/\s.t=.im (.int i)/\y.t=.im (.int n)/\(b.mu++c.mu).contains j=Qa/\(0<=i/\i<=n/\n<=xs.length/\xs.length+ys.length<=sizeLine)/\d[j]?*>(P9 ⟨k,t⟩)/\k.isOw=Qb/\QG' ((am [j] d).set j (P9 {k,t.put p (.li (xs.take i.toNat++ys++xs.drop n.toNat))}))):WG (iG j a b c) {.ow,.li ys} O QG':=by
 obtain⟨l,e,w,⟨_,_⟩,f,A,⟨_,_⟩,d,B,p,xs,k,t,i,n,rfl,rfl,rfl,r,v,u,z,q⟩:=h;show{_,?_,q};dsimp[iG,w,A,B,r,decide_true,JC,Iq];rw[if_pos (decide_eq_true v)];dsimp[u,z,if_true]
def CP(q:Q .nx O):WS mNext O Q:=by unhygienic show{_,_,Xr,q}
@[irreducible] def AM(b:MS)(Q:Fl->Rho->Prop):Fl->Rho->Prop
 | .nx,O=>WS b O Q
 | .rt t,O=>Q (.rt t) O
 | .bk,O=>Q .bk O
 | .ct,O=>Q .ct O
def E8(h:WS s1 O (AM s2 Q)):WS (aq s1 s2) O Q:=by unhygienic
 have(f,d,i,q):=h;cases f with
 | nx=>have q:WS s2 d Q:=q;have(p,j,e,q):=q;show{p,j,by dsimp[aq,i,e],q}
 | rt t=>show{.rt t,d,by dsimp[aq,i],q}
 | bk=>show{.bk,d,by dsimp[aq,i],q}
 | ct=>show{.ct,d,by dsimp[aq,i],q}
def aK(h:WT ct O λd f=>(d=Qb->WS s1 f Q)/\(d=Qa->WS s2 f Q)):WS (mIf ct s1 s2) O Q:=by
 have(d,f,j,r,l):=h;cases d with
 | true=>have(p,i,e,q):=r rfl;show{p,i,by dsimp[mIf,j,e],q}
 | false=>have(p,i,e,q):=l rfl;show{p,i,by dsimp[mIf,j,e],q}
def CF(h:WE m O λ_ d=>Q .nx d):WS (cC m) O Q:=by
 have(r,d,e,q):=h;show{.nx,d,by dsimp[cC,e],q}
def EW(h:WE m O λr e=>WG g r e λd=>Q .nx d):WS (aU m g) O Q:=by
 have(r,e,f,d,i,q):=h;show{.nx,d,by dsimp[aU,f,i],q}
def E7(h:WE m O λr e=>W2 (tX r e) λt d=>Q (.rt t) d):WS (aX m) O Q:=by
 have(r,e,f,t,d,i,q):=h;show{.rt t,d,by dsimp[aX,f,i],q}
def E6(h:WA ms O λrs e=>Two rs λf d=>Gu (lq f&&lq d) (Gu (gF e i&&aw [i] f&&aw [i] d&&gF e j&&aw [j] d) (Q .nx ((am [j] ((am [i] e).set i (P9 f))).set j (P9 d))))):WS (rH i j ms) O Q:=by
 have(rs,e,r,f,d,rfl,l,p,q):=h;show{.nx,(am [j] ((am [i] e).set i (P9 f))).set j (P9 d),?_,q};rw[FO]at l;dsimp[rH,yd,r,GO,HN,l.1,l.2,Ir,HU,if_true,p]
@[irreducible] def Dk(ks:!Nat)(Q:Fl->Rho->Prop):Fl->Rho->Prop
 | .nx,O=>Q .nx (fgts ks O)
 | .ct,O=>Q .ct (fgts ks O)
 | .rt t,O=>Q (.rt t) O
 | .bk,O=>Q .bk O
def EX(h:WS s1 O (Dk ks Q)):WS (dX ks s1) O Q:=by unhygienic
 have(f,e,d,q):=h;cases f with
 | nx=>show{_,_,by dsimp[dX,d],q}
 | ct=>show{_,_,by dsimp[dX,d],q}
 | rt t=>show{_,_,by dsimp[dX,d],q}
 | bk=>show{_,_,by dsimp[dX,d],q}
abbrev uE(Inv:Nat->Rho->Prop)(i:Nat)(Q:Fl->Rho->Prop):Fl->Rho->Prop
 | .nx,O=>Inv (i+1) O
 | .ct,O=>Inv (i+1) O
 | .bk,O=>Q .nx O
 | .rt t,O=>Q (.rt t) O
def rq{items:!R}(Inv:Nat->Rho->Prop)(hs:∀i r O,items[i]?*>r->Inv i O->WG g r O λp=>WS s1 p (uE Inv i Q))(s:∀O,Inv items.length O->Q .nx O):∀(l:!R) (i:Nat) (O:Rho),items.drop i=l->i<=items.length->Inv i O->W2 (fH g.run s1.run l O) Q
 | [],i,O,d,v,h=>by
  have:i=items.length:=by have:=congrArg HV d;simp at this;omega
  subst this;show{_,_,Xr,s O h}
 | r::l,i,O,d,v,h=>by
  have u:items[i]?*>r:=by rw[<-IJ,d];rfl
  have j:=(FL.mp u).1;have e:items.drop (i+1)=l:=by rw[<-IV,d];rfl
  have(p,w,f,y,z,q):=hs i r O u h;have k:=rq Inv hs s l (i+1) y e j;dsimp[fH,w,z];cases f with
  | nx=>show k q
  | ct=>show k q
  | bk=>show{_,_,Xr,q}
  | rt t=>show{_,_,Xr,q}
def so(h:WI it O λf items d=>Gu (f.all (aw (g.mu++s1.mu))&&items.all (aw (g.mu++s1.mu))) (∃Inv:Nat->Rho->Prop,Inv 0 d/\(∀i r O,items[i]?*>r->Inv i O->WG g r O λd=>WS s1 d (uE Inv i Q))/\∀O,Inv items.length O->Q .nx O)):WS (eJ it g s1) O Q:=by
 have(f,items,d,l,v,Inv,t,j,u):=h;have(p,s,e,q):=rq (Q:=Q) Inv j u items 0 d rfl (GA _) t;show{p,s,by dsimp[eJ,l];rw[if_pos v];show e,q}
def kr{M:!Nat}{items:!R}(h:∀r∈items,r.k=.ow):items.all (aw M)=Qb:=Go.mpr λr d=>by unfold aw gm;rw[h r d];rfl
def CH{i:Nat}(h:WA ms O λrs d=>∃n:Int,rs.map (·.t)=[.im (.int n)]/\-(2^62)<=n/\n<2^62/\(∃Inv:Nat->Rho->Prop,Inv 0 d/\(∀(j:Nat) O,(j:Int)<n->Inv j O->WG (ai i) (qE j) O λd=>WS s1 d (uE Inv j Q))/\∀O,Inv n.toNat O->Q .nx O)):WS (eJ (dF ms) (ai i) s1) O Q:=by
 obtain⟨rs,d,u,n,z,s,v,Inv,w,q,y⟩:=h;show so {[wt],on 0 n.toNat,d,by dsimp[dF,u,z,l1,isI];rw[if_pos ⟨s,v⟩],?_,Inv,w,λj r O f e=>?_,λO e=>y O (by simpa[on]using e)}
 .rw[FO];show{Xr,kr λr f=>by have(x,_,rfl):=FT.mp f;rfl}
 .have(x,p,rfl):=ar f;have(A,l):=FL.mp p;simp at A l;subst l;have:=q j O ⋯ e;rw[JO];show this
def CG(h:WE m O λr d=>∃is:!I,gy r*>(is.map λi=>{.ow,.im i})/\aw (g.mu++s1.mu) r=Qb/\(∃Inv:Nat->Rho->Prop,Inv 0 d/\(∀j x O,is[j]?*>x->Inv j O->WG g {.ow,.im x} O λd=>WS s1 d (uE Inv j Q))/\∀O,Inv is.length O->Q .nx O)):WS (eJ (mIt m) g s1) O Q:=by
 obtain⟨r,d,q,is,u,v,Inv,s,p,t⟩:=h;show so {[r],is.map (λi=>{.ow,.im i}),d,by dsimp[mIt,q,u],?_,Inv,s,λj r O f e=>?_,λO e=>t O (by exists e)}
 .rw[FO];show{by rw[GO,HN,v];rfl,kr λr f=>by have(x,_,rfl):=FT.mp f;rfl}
 .have(x,l,rfl):=ar f;show p j x O l e
def zE(Inv:Nat->Rho->Prop)(n:Nat)(A:Inv n O) (hs:∀n O,Inv n O->WT ct O λr l=>(r=Qa->Q .nx l)/\(r=Qb->WS s1 l λf d=>match f with
  | .nx=>∃m,m<n/\Inv m d
  | .ct=>∃m,m<n/\Inv m d
  | .bk=>Q .nx d
  | .rt t=>Q (.rt t) d)):WS (eY ct s1) O Q:=by
 have v:∀n O,Inv n O->W2 (itW ct s1 (n+1) O) Q:=by
  intro n
  induction n using Nat.strongRecOn with
  | _ n w=>
   intro O y;have(r,l,j,B,z):=hs n O y;cases r with
   | false=>show{.nx,l,by dsimp[itW,j],B rfl}
   | true=>
    have(f,d,s,q):=z rfl;cases f with
    | nx=>
     have(m,u,h):=q;have(p,i,e,q):=w m u d h;show{p,i,by dsimp[itW,j,s];show fw e _ ⋯,q}
    | ct=>
     have(m,u,h):=q;have(p,i,e,q):=w m u d h;show{p,i,by dsimp[itW,j,s];show fw e _ ⋯,q}
    | bk=>show{.nx,d,by dsimp[itW,j,s],q}
    | rt t=>show{.rt t,d,by dsimp[itW,j,s],q}
 have(p,i,e,q):=v n O A;show{p,i,ue e,q}
def iT{fr:! ↑Nat}{M:!Nat}{items:!R}{QC:!T->Rho->Prop}(Inv:Nat->!T->Rho->Prop)
  (hs:∀i r d O,items[i]?*>r->Inv i d O->WG g (jd (piF fr) r) (inR fr O) λw=>WT ct w λj s=>(j=Qb->WE m s λr v=>∃t,r={.ow,t}/\Inv (i+1) (d++[t]) (du fr M v O))/\(j=Qa->Inv (i+1) d (du fr M s O)))
  (u:∀d O,Inv items.length d O->QC d O):∀(l:!R) (i:Nat) (d:!T) (O:Rho),items.drop i=l->i<=items.length->Inv i d O->W2 (bp fr M g ct m l O d) QC
 | [],i,d,O,h,B,p=>by
  have:i=items.length:=by have:=congrArg HV h;simp at this;omega
  subst this;show{_,_,Xr,u d O p}
 | r::l,i,d,O,h,B,p=>by
  have A:items[i]?*>r:=by rw[<-IJ,h];rfl
  have f:=(FL.mp A).1;have e:items.drop (i+1)=l:=by rw[<-IV,h];rfl
  have(w,y,j,s,z,E,G):=hs i r d O A p;cases j with
  | true=>
   have(J,v,H,t,rfl,q):=E rfl;dsimp[bp,y,z,H];show iT Inv hs u l (i+1) _ _ e f q
  | false=>
   dsimp[bp,y,z];show iT Inv hs u l (i+1) _ _ e f (G rfl)
def lM{fr:! ↑Nat} (h:WI it O λj items f=>Gu (eI fr f.length&&eM (g.mu++(ct.mu++m.mu)) fr.length&&j.all (aw (muF fr (g.mu++(ct.mu++m.mu))))) (items.length<sizeLine/\∃Inv:Nat->!T->Rho->Prop,Inv 0 [] f /\
  (∀i r d O,items[i]?*>r->Inv i d O->WG g (jd (piF fr) r) (inR fr O) λf=>WT ct f λp l=>(p=Qb->WE m l λr u=>∃t,r={.ow,t}/\Inv (i+1) (d++[t]) (du fr (g.mu++(ct.mu++m.mu)) u O))/\(p=Qa->Inv (i+1) d (du fr (g.mu++(ct.mu++m.mu)) l O))) /\
  ∀d O,Inv items.length d O->QE' {.ow,bM d} O)):WE (bj fr it g ct m) O QE':=by
 obtain⟨j,items,f,w,B,v,Inv,y,s,z⟩:=h;have(A,l,e,q):=iT (QC:=λd O=>QE' {.ow,bM d} O) Inv s z items 0 [] f rfl (GA _) y;show{{.ow,bM A},l,?_,q};dsimp[bj,w];rw[if_pos (by rw[FO];show{B,decide_eq_true v})];dsimp[e]
def zL(h:WA ms O λrs d=>∃n:Int,rs.map (·.t)=[.im (.int n)]/\(-(2^62)<=n/\n<2^62)/\QI' [wt] (on 0 n.toNat) d):WI (dF ms) O QI':=by
 have(rs,d,e,n,i,f,q):=h;show{_,_,_,by dsimp[dF,e,i,l1,isI];rw[if_pos f],q}
def oB(h:WE m O λr d=>W1 (gy r) λrs=>QI' [r] rs d):WI (mIt m) O QI':=by
 have(r,d,e,rs,f,q):=h;show{[r],rs,d,by dsimp[mIt,e,f],q}
def zK(h:WA ms O λrs d=>∃k is,rs=[{k,.im (.tup is)}]/\QI' [{k,.im (.tup is)}] (da 0 is) d):WI (mN ms) O QI':=by
 have(rs,d,e,k,is,rfl,q):=h;show{_,_,_,by dsimp[mN,e],q}
end
section
variable {α β:Type}{O:Rho}{QT1:T->Prop}{QR:R->Prop}{QI1:T->I->Prop}{m:MS}{n k:Nat}{ts:!T}
@[irreducible] def fP(R:T->Prop):Fl->Rho->Prop
 | .rt t,_=>R t
 | .nx,_=>R (.im .non)
 | _,_=>False
@[irreducible] def fI(k:Nat)(R:T->T->Prop):Fl->Rho->Prop
 | .rt t,O=>∃s',O[k]?*>(P9 {.io 0,s'})/\R t s'
 | .nx,O=>∃s',O[k]?*>(P9 {.io 0,s'})/\R (.im .non) s'
 | _,_=>False
def zr{run:!T->↑T}{l:Nat}(a:run ts=if ts.length=l then ce m n ts else P8)(c:ts.length=l)(h:WS m (cS ts n) (fP QT1)):W1 (run ts) QT1:=by unhygienic
 rw[a,if_pos c];have(f,O,e,q):=h;cases f with
 | nx=>show{_,by dsimp[ce,e],q}
 | rt t=>show{_,by dsimp[ce,e],q}
 | bk=>cases q
 | ct=>cases q
def rT{run:!T->↑(T×T)}{l:Nat}{d:T->T->Prop}(c:run ts=if ts.length=l then jf m k n ts else P8)(i:ts.length=l)(h:WS m (fR k ts n) (fI k d)):W2 (run ts) d:=by unhygienic
 rw[c,if_pos i];have(f,O,e,q):=h;cases f with
 | nx=>have q:∃a,O[k]?*>(P9 {.io 0,a})/\d (.im .non) a:=q;obtain⟨a,g,q⟩:=q;show{_,_,by dsimp[jf,e,g],q}
 | rt t=>have q:∃a,O[k]?*>(P9 {.io 0,a})/\d t a:=q;obtain⟨a,g,q⟩:=q;show{_,_,by dsimp[jf,e,g],q}
 | bk=>cases q
 | ct=>cases q
variable {a b:Int}{s z:Str}{is js:!I}{i j:I}
def Bt(q:QT1 (.im (.int (a+b)))):W1 (bO (.im (.int a)) (.im (.int b))) QT1:=by unhygienic show{_,Xr,q}
def gH(h:s.length+z.length<=sizeLine)(q:QT1 (.im (.str (s++z)))):W1 (bO (.im (.str s)) (.im (.str z))) QT1:=by unhygienic show{_,if_pos h,q}
def qr(h:is.length+js.length<=sizeLine)(q:QT1 (.li (is++js))):W1 (bO (.li is) (.li js)) QT1:=by unhygienic show{_,if_pos h,q}
def DW(q:QT1 (.im (.int (a-b)))):W1 (l0 (.im (.int a)) (.im (.int b))) QT1:=by unhygienic show{_,Xr,q}
def Fy(c : -(2^64)<a)(d:a<2^64):j2 a b=Qb:=by unfold j2;dsimp[c,d,decide_true,HU,JK]
def Fz(c : -(2^64)<b)(d:b<2^64):j2 a b=Qb:=by unfold j2;dsimp[c,d,decide_true,HU,Bool.or_true]
def z7(h:j2 a b=Qb)(q:QT1 (.im (.int (a*b)))):W1 (ki (.im (.int a)) (.im (.int b))) QT1:=by unhygienic show{_,if_pos h,q}
def Bv(h:0<b/\b<2^64)(q:QT1 (.im (.int (a / b)))):W1 (k6 (.im (.int a)) (.im (.int b))) QT1:=by unhygienic show{_,if_pos h,q}
def z6(h:0<b)(q:QT1 (.im (.int (a % b)))):W1 (jI (.im (.int a)) (.im (.int b))) QT1:=by unhygienic show{_,if_pos h,q}
def z8(h:0<=b/\b<=1000000/\a.natAbs<2^64)(q:QT1 (.im (.int (a^b.toNat)))):W1 (tu (.im (.int a)) (.im (.int b))) QT1:=by unhygienic show{_,if_pos h,q}
def DT(q:QT1 (.im (.int (-a)))):W1 (sY (.im (.int a))) QT1:=by unhygienic show{_,Xr,q}
def DJ(q:QT1 (.im (.bl (p a b)))):W1 (bY p (.im (.int a)) (.im (.int b))) QT1:=by unhygienic show{_,Xr,q}
def DK(q:QT1 (.im (.bl (decide (a=b))))):W1 (eqT (.im (.int a)) (.im (.int b))) QT1:=by unhygienic show{_,Xr,by simpa using q}
def DR(q:QT1 (.im (.bl (~~~decide (a=b))))):W1 (neT (.im (.int a)) (.im (.int b))) QT1:=by unhygienic show{_,Xr,by simpa using q}
def DL(q:QT1 (.im (.bl (decide (s=z))))):W1 (eqT (.im (.str s)) (.im (.str z))) QT1:=by unhygienic show{_,Xr,by simpa using q}
def DS(q:QT1 (.im (.bl (~~~decide (s=z))))):W1 (neT (.im (.str s)) (.im (.str z))) QT1:=by unhygienic show{_,Xr,by simpa using q}
def DM(q:QT1 (.im (.bl (occ s z)))):W1 (inT (.im (.str s)) (.im (.str z))) QT1:=by unhygienic show{_,Xr,q}
def Ds(h:i.dok=Qb/\I.doks is=Qb/\I.deps is<=50):inB (.im i) (.im (.tup is))*>(decide (i∈is)):=by cases i<;>show if_pos h
def o9(h:i.dok=Qb/\I.doks is=Qb/\I.deps is<=50)(q:QT1 (.im (.bl (decide (i∈is))))):W1 (inT (.im i) (.im (.tup is))) QT1:={_,by unfold inT;rw[Ds h];rfl,q}
def zU(h:i.dok=Qb/\I.doks is=Qb/\I.deps is<=50):inB (.im i) (.li is)*>(decide (i∈is)):=by cases i<;>show if_pos h
def zZ(h:i.dok=Qb/\I.doks is=Qb/\I.deps is<=50)(q:QT1 (.im (.bl (decide (i∈is))))):W1 (inT (.im i) (.li is)) QT1:={_,by unfold inT;rw[zU h];rfl,q}
def vn(h:i.dok=Qb/\I.doks is=Qb/\I.deps is<=50)(q:QT1 (.im (.bl (~~~decide (i∈is))))):W1 (qj (.im i) (.li is)) QT1:={_,by unfold qj;rw[zU h];rfl,q}
def nS(h:s.length<=sizeLine)(q:QT1 (.im (.int s.length))):W1 (cB [.im (.str s)]) QT1:=by unhygienic show{_,if_pos h,q}
def BA(q:QT1 (.im (.int is.length))):W1 (cB [.im (.tup is)]) QT1:=by unhygienic show{_,Xr,q}
def Bz(q:QT1 (.im (.int is.length))):W1 (cB [.li is]) QT1:=by unhygienic show{_,Xr,q}
def DQ(q:QT1 (.im (.int (if b<a then b else a)))):W1 (sV [.im (.int a),.im (.int b)]) QT1:=by unhygienic show{_,Xr,q}
def DP(q:QT1 (.im (.int (if b>a then b else a)))):W1 (u7 [.im (.int a),.im (.int b)]) QT1:=by unhygienic show{_,Xr,q}
def Bx(q:QT1 (.im (.int (if c then 1 else 0)))):W1 (sK [.im (.bl c)]) QT1:=by unhygienic show{_,Xr,q}
def BH(q:QT1 (.im (.tup is))):W1 (l3 [.li is]) QT1:=by unhygienic show{_,Xr,q}
def BB(q:QT1 (.li is)):W1 (uZ [.li is]) QT1:=by unhygienic show{_,Xr,q}
def DU(q:QT1 (.im (.tup is.reverse))):W1 (wM (.im (.tup is))) QT1:=by unhygienic show{_,Xr,q}
def jo{xs:!α}{x : α}{n:Nat}{i:Int}(c:i=n)(h:xs[n]?*>x):atI xs i*>x:=by
 subst c;have:=(FL.mp h).1;unfold atI ixN;rw[if_pos ⋯,if_pos ⋯];exists h
def ul{xs:!α}{i:Int}(c:0<=i)(d:i<xs.length):∃x,atI xs i*>x/\xs[i.toNat]?*>x:=by
 have:i.toNat<xs.length:=by omega
 show{xs[i.toNat],jo (n:=i.toNat) ⋯ (GX this),GX this}
def DO(h:atI is a*>x)(q:QR {.ow,.im x}):W1 (ixR {kd,.im (.tup is)} (.im (.int a))) QR:={_,by dsimp[ixR,isI,ixX,ixI,h,G6],q}
def lw(h:atI is a*>x)(q:QR {.ow,.im x}):W1 (ixR {kd,.li is} (.im (.int a))) QR:={_,by dsimp[ixR,isI,ixX,ixI,h,G6],q}
def vk{e:Kd}(c:0<=a)(d:a<is.length)(q:∀x,is[a.toNat]?*>x->QR {.ow,.im x}):W1 (ixR {e,.li is} (.im (.int a))) QR:=by
 have(x,h,f):=ul c d;show lw h (q x f)
def qu{e:Kd}(hz:s.length<=sizeLine)(d:0<=a)(f:a<(sL s).length)(q:∀c,(sL s)[a.toNat]?*>c->QR {.ow,.im (.str {#[c]})}):W1 (ixR {e,.im (.str s)} (.im (.int a))) QR:=by
 have(x,h,g):=ul d f;show{_,by dsimp[ixR,isI,ixX,ixI,if_pos hz,h,G6],q x g}
def vo(c:a=n)(h:n<is.length)(q:QT1 (.li (is.set n i))):W1 (wS (.li is) (.im (.int a)) (.im i)) QT1:=by
 subst c;show{_,?_,q};unfold wS;have:ixN is.length (n:Int)*>n:=by unfold ixN;rw[if_pos ⋯,if_pos ⋯];simp
 dsimp[this]
def cH(h:is.length<sizeLine)(q:QI1 (.li (is++[i])) .non):W2 (apT (.li is) [.im i]) QI1:=by unhygienic show{_,_,if_pos h,q}
def vh(h:is.length+js.length<=sizeLine)(q:QI1 (.li (is++js)) .non):W2 (nF (.li is) [.li js]) QI1:=by unhygienic show{_,_,if_pos h,q}
def Bu(h:is.length+js.length<=sizeLine)(q:QI1 (.li (is++js)) .non):W2 (nF (.li is) [.im (.tup js)]) QI1:=by unhygienic show{_,_,if_pos h,q}
def mU(q:QI1 (.li is) i):W2 (jN (.li (is++[i])) []) QI1:={_,_,by simp[jN],q}
def DV{d:Kd}{lo c:↑Int}(q:QR {.ow,.li (cy is lo c)}):W1 (slR {d,.li is} lo c) QR:={_,by dsimp[slR,slX,slI,slX],q}
def rL{d:Kd}{lo c:↑Int}(h:¬(HT.sIx is.length 0 lo=0/\HT.sIx is.length is.length c=is.length))(q:QR {.ow,.im (.tup (cy is lo c))}):W1 (slR {d,.im (.tup is)} lo c) QR:={_,by dsimp[slR,slX,slI,slX];rw[if_neg h],q}
def Aa{d:Kd}{lo c:↑Int}(h:s.length<=sizeLine)(q:QR {.ow,.im (.str (oL (cy (sL s) lo c)))}):W1 (slR {d,.im (.str s)} lo c) QR:={_,by dsimp[slR,slX,slI,slX];rw[if_pos h],q}
def BE(q:Q2 t O):W2 (tX {.ow,t} O) Q2:=by unhygienic show{_,_,Xr,q}
def BF(h : O[n]?*>(⇑t'))(q:Q2 t ((am [n] O).set n P8)):W2 (tX {.vw (P9 n) (P9 []),t} O) Q2:={_,_,by dsimp[tX,h],q}
def AF(q:Q2 [] O):W2 (consL mv [] O) Q2:={_,_,Xr,q}
def Dh(h:W2 (consL mv rs O) λts c=>Q2 (t::ts) c):W2 (consL mv ({.ow,t}::rs) O) Q2:=by
 have(ts,c,e,q):=h;show⟨t::ts,c,by dsimp[consL,e],q⟩
def ja:bM (is.map T.im)=.li is:=by
 have:ims (is.map T.im)*>is:=by induction is with
  | nil=>rfl
  | cons i is c=>dsimp[FS,ims,c,G6]
 unfold bM;rw[this]
end
def dsp{p:Prop}[Decidable p]{A B:Prop}(a:p->A)(c:¬p->B):(decide p=Qb->A)/\(decide p=Qa->B):={λh=>a (of_decide_eq_true h),λh=>c (of_decide_eq_false h)}
def Fq{p:Prop}[Decidable p]{A B:Prop}(a:¬p->A)(c:p->B):((~~~decide p)=Qb->A)/\((~~~decide p)=Qa->B):={λh=>a (by exists h),λh=>c (by exists h)}
def bsp{A B:Prop}(a:b=Qb->A)(c:b=Qa->B):(b=Qb->A)/\(b=Qa->B):=⟨a,c⟩
def spT{A B:Prop}(h:A):(Qb=Qb->A)/\(Qb=Qa->B):={λ_=>h,λz=>absurd z (by decide)}
def spF{A B:Prop}(h:B):(Qa=Qb->A)/\(Qa=Qa->B):={λz=>absurd z (by decide),λ_=>h}
section
variable {O:Rho}{m:ME}{ms:MA}{g:MG}{ct:MT}{QE':R->Rho->Prop}
def sk{i:Nat}{fr:! ↑Nat} (h:WA ms O λrs c=>∃n:Int,rs.map (·.t)=[.im (.int n)]/\(-(2^62)<=n/\n<16000000)/\Gu (eI fr c.length&&eM ([i]++([]++m.mu)) fr.length) (∃Inv:Nat->!T->Rho->Prop,Inv 0 [] c /\
  (∀(j:Nat) a O,(j:Int)<n->Inv j a O->WG (ai i) (qE j) (inR fr O) λc=>WE m c λr p=>∃t,r={.ow,t}/\Inv (j+1) (a++[t]) (du fr ([i]++([]++m.mu)) p O)) /\
  ∀a O,Inv n.toNat a O->QE' {.ow,bM a} O)):WE (bj fr (dF ms) (ai i) mYes m) O QE':=by unhygienic
 obtain⟨rs,c,u,n,y,s,e,Inv,v,o,w⟩:=h;show lM (zL {rs,c,u,n,y,{s.1,by omega},?_,?_,Inv,v,λj r a O B d=>?_,λa O d=>w a O (by simpa[on]using d)})
 .rw[FO]at e|-;rw[FO];show{⟨e.1,e.2⟩,Xr}
 .rw[KG];simp[on];omega
 .have(x,l,rfl):=ar B;have(A,f):=FL.mp l;simp at A f;subst f;have:=o j a O ⋯ d;rw[JO];show WG.mono this λc q=>lS {λ_=>q,λz=>by cases z}
def sj{fr:! ↑Nat}{l:ME} (h:WE l O λr c=>∃is:!I,gy r*>(is.map λi=>{.ow,.im i})/\is.length<sizeLine/\Gu (eI fr c.length&&eM (g.mu++(ct.mu++m.mu)) fr.length&&aw (muF fr (g.mu++(ct.mu++m.mu))) r) (∃Inv:Nat->!T->Rho->Prop,Inv 0 [] c /\
  (∀(j:Nat) x a O,is[j]?*>x->Inv j a O->WG g {.ow,.im x} (inR fr O) λc=>WT ct c λf e=>(f=Qb->WE m e λr q=>∃t,r={.ow,t}/\Inv (j+1) (a++[t]) (du fr (g.mu++(ct.mu++m.mu)) q O))/\(f=Qa->Inv (j+1) a (du fr (g.mu++(ct.mu++m.mu)) e O))) /\
  ∀a O,Inv is.length a O->QE' {.ow,bM a} O)):WE (bj fr (mIt l) g ct m) O QE':=by
 obtain⟨r,c,u,is,y,s,A,Inv,v,p,w⟩:=h;show lM (oB {r,c,u,_,y,(by rw[GO,HN,Ir];show A),by simpa using s,Inv,v,λj r a O z d=>?_,λa O d=>w a O (by exists d)});have(x,o,rfl):=ar z;show p j x a O o d
end
def ib{a:Type}{f : a->I}{l:!a}:bM (l.map λx=>T.im (f x))=.li (l.map f):=by
 have:=ja (is:=l.map f);rwa [GJ]at this
section
variable {S α:Type}{O:Rho}{m:ME}{ms:MA}{g:MG}{ct:MT}{s1:MS}{QE':R->Rho->Prop}{Q:Fl->Rho->Prop}{fr:! ↑Nat}{i:Nat}
def xq(st:S->Rho)(emb : α->I)(P:Nat->S->!α->Prop) (h:WA ms O λrs c=>Ku rs λn=>(-(2^62)<=n/\n<16000000)/\(eI fr c.length&&eM ([i]++([]++m.mu)) fr.length)=Qb/\∃f,c=st f/\P 0 f [] /\
  (∀(j:Nat) s l,(j:Int)<n->P j s l->WG (ai i) (qE j) (inR fr (st s)) λc=>WE m c λr t=>∃x d,r={.ow,.im (emb x)}/\du fr ([i]++([]++m.mu)) t (st s)=st d/\P (j+1) d (l++[x])) /\
  ∀s l,P n.toNat s l->QE' {.ow,.li (l.map emb)} (st s)):WE (bj fr (dF ms) (ai i) mYes m) O QE':=by
 obtain⟨rs,c,y,n,E,w,G,f,rfl,A,v,B⟩:=h;show sk {rs,_,y,n,E,w,G,λj a O=>∃s l,a=l.map (λx=>T.im (emb x))/\O=st s/\P j s l,{f,[],Xr,Xr,A},?_,?_}
 .rintro j a O u ⟨s,l,rfl,rfl,p⟩;show(v j s l u p).mono λc q=>q.mono λr t ⟨x,d,e,z,o⟩=>{_,e,d,l++[x],by simp,z,o}
 .rintro a O ⟨s,l,rfl,rfl,p⟩;rw[ib];show B s l p
def bS(st:S->Rho)(emb : α->I)(P:Nat->S->!α->Prop){u:ME} (h:WE u O λr c=>∃is:!I,gy r*>(is.map λi=>{.ow,.im i})/\is.length<sizeLine/\(eI fr c.length&&eM (g.mu++([]++m.mu)) fr.length&&aw (muF fr (g.mu++([]++m.mu))) r)=Qb/\∃f,c=st f/\P 0 f [] /\
  (∀(j:Nat) x s l,is[j]?*>x->P j s l->WG g {.ow,.im x} (inR fr (st s)) λc=>WE m c λr t=>∃x d,r={.ow,.im (emb x)}/\du fr (g.mu++([]++m.mu)) t (st s)=st d/\P (j+1) d (l++[x])) /\
  ∀s l,P is.length s l->QE' {.ow,.li (l.map emb)} (st s)):WE (bj fr (mIt u) g mYes m) O QE':=by unhygienic
 obtain⟨r,c,A,is,H,y,J,f,rfl,E,w,G⟩:=h;show sj {r,_,A,is,H,y,J,λj a O=>∃s l,a=l.map (λx=>T.im (emb x))/\O=st s/\P j s l,{f,[],Xr,Xr,E},?_,?_}
 .rintro j x a O v ⟨s,l,rfl,rfl,p⟩;show(w j x s l v p).mono λc q=>lS {λ_=>q.mono λr t ⟨x,d,e,B,o⟩=>{_,e,d,l++[x],by simp,B,o},λz=>by cases z}
 .rintro a O ⟨s,l,rfl,rfl,p⟩;rw[ib];show G s l p
def xp(st:S->Rho)(emb : α->I)(P:Nat->S->!α->Prop){z:ME} (h:WE z O λr f=>∃is:!I,gy r*>(is.map λi=>{.ow,.im i})/\is.length<sizeLine/\(eI fr f.length&&eM (g.mu++(ct.mu++m.mu)) fr.length&&aw (muF fr (g.mu++(ct.mu++m.mu))) r)=Qb/\∃o,f=st o/\P 0 o [] /\
  (∀(j:Nat) x s l,is[j]?*>x->P j s l->WG g {.ow,.im x} (inR fr (st s)) λf=>WT ct f λv p=>(v=Qb->WE m p λr y=>∃x a,r={.ow,.im (emb x)}/\du fr (g.mu++(ct.mu++m.mu)) y (st s)=st a/\P (j+1) a (l++[x]))/\(v=Qa->∃a,du fr (g.mu++(ct.mu++m.mu)) p (st s)=st a/\P (j+1) a l)) /\
  ∀s l,P is.length s l->QE' {.ow,.li (l.map emb)} (st s)):WE (bj fr (mIt z) g ct m) O QE':=by
 obtain⟨r,f,B,is,E,H,U,o,rfl,M,G,N⟩:=h;show sj {r,_,B,is,E,H,U,λj d O=>∃s l,d=l.map (λx=>T.im (emb x))/\O=st s/\P j s l,{o,[],Xr,Xr,M},?_,?_}
 .rintro j x d O A ⟨s,l,rfl,rfl,w⟩;show(G j x s l A w).mono λf q=>q.mono λv p ⟨J,L⟩=>{λt=>(J t).mono λr y ⟨x,a,e,u,c⟩=>{_,e,a,l++[x],by simp,u,c},λt=>?_};have(a,u,c):=L t;show⟨a,l,Xr,u,c⟩
 .rintro d O ⟨s,l,rfl,rfl,w⟩;rw[ib];show N s l w
@[irreducible] def fFs(st:S->Rho)(P:S->Prop)(Q:Fl->Rho->Prop):Fl->Rho->Prop
 | .nx,O=>∃s,O=st s/\P s
 | .ct,O=>∃s,O=st s/\P s
 | .bk,O=>Q .nx O
 | .rt t,O=>Q (.rt t) O
def nH{st:S->Rho}{P:Nat->S->Prop}{j:Nat}{f:Fl}{O:Rho}(h:fFs st (P (j+1)) Q f O):uE (λj O=>∃s,O=st s/\P j s) j Q f O:=by unhygienic cases f<;>show h
def oz(st:S->Rho)(P:Nat->S->Prop) (h:WA ms O λrs a=>Ku rs λn=>(-(2^62)<=n/\n<2^62)/\∃c,a=st c/\P 0 c /\
  (∀(j:Nat) s,(j:Int)<n->P j s->WG (ai i) (qE j) (st s) λa=>WS s1 a (fFs st (P (j+1)) Q))/\∀s,P n.toNat s->Q .nx (st s)):WS (eJ (dF ms) (ai i) s1) O Q:=by
 obtain⟨rs,a,p,n,u,e,c,rfl,r,o,t⟩:=h;show CH {rs,_,p,n,u,e.1,e.2,λj O=>∃s,O=st s/\P j s,⟨c,Xr,r⟩,?_,?_}
 .rintro j O l ⟨s,rfl,d⟩;show(o j s l d).mono λa q=>q.mono λf v q=>nH q
 .rintro O ⟨s,rfl,d⟩;show t s d
def eU(st:S->Rho)(P:Nat->S->Prop) (h:WE m O λr a=>∃is:!I,gy r*>(is.map λi=>{.ow,.im i})/\aw (g.mu++s1.mu) r=Qb/\∃c,a=st c/\P 0 c /\
  (∀(j:Nat) x s,is[j]?*>x->P j s->WG g {.ow,.im x} (st s) λa=>WS s1 a (fFs st (P (j+1)) Q))/\∀s,P is.length s->Q .nx (st s)):WS (eJ (mIt m) g s1) O Q:=by
 obtain⟨r,a,o,is,u,v,c,rfl,p,l,t⟩:=h;show CG {r,_,o,is,u,v,λj O=>∃s,O=st s/\P j s,⟨c,Xr,p⟩,?_,?_}
 .rintro j x O e ⟨s,rfl,d⟩;show(l j x s e d).mono λa q=>q.mono λf w q=>nH q
 .rintro O ⟨s,rfl,d⟩;show t s d
def lN(st:S->Rho)(P:S->Prop)(c : S->Nat)(h:S)(r : O=st h)(w:P h)(hs:∀s,P s->WT ct (st s) λo l=>(o=Qb->WS s1 l (fFs st (λa=>c a < c s/\P a) Q))/\(o=Qa->Q .nx l)):WS (eY ct s1) O Q:=by unhygienic
 subst r;show zE (λn O=>∃s,O=st s/\P s/\c s=n) (c h) ⟨h,Xr,w,Xr⟩ ?_;rintro n O ⟨s,rfl,x,rfl⟩;show(hs s x).mono λo l ⟨y,v⟩=>{v,λu=>(y u).mono λf p q=>?_};cases f with
 | nx=>have q:∃a,p=st a/\c a < c s/\P a:=q;have(a,e,j,d):=q;show{c a,j,a,e,d,Xr}
 | ct=>have q:∃a,p=st a/\c a < c s/\P a:=q;have(a,e,j,d):=q;show{c a,j,a,e,d,Xr}
 | bk=>show q
 | rt t=>show q
end
section
variable {S α:Type}{O:Rho}{m:ME}{ms:MA}{QE':R->Rho->Prop}{fr:! ↑Nat}{i:Nat}
def u8(a:∀x i,emb x ≠ .im i):∀{l:!α},l≠[]->bM (l.map emb)=.lst (l.map emb)
 | [],h=>absurd rfl h
 | x::l,_=>by
  unfold bM;have:ims ((x::l).map emb)=P8:=by
   rw[FS];cases h:emb x with
   | im i=>show absurd h (a x i)
   | _=>rfl
  rw[this]
def xr(st:S->Rho)(emb : α->T)(p:∀x i,emb x ≠ .im i)(P:Nat->S->!α->Prop) (h:WA ms O λrs c=>Ku rs λn=>(1<=n/\n<16000000)/\(eI fr c.length&&eM ([i]++([]++m.mu)) fr.length)=Qb/\∃g,c=st g/\P 0 g [] /\
  (∀(j:Nat) s l,(j:Int)<n->P j s l->WG (ai i) (qE j) (inR fr (st s)) λc=>WE m c λr u=>∃x f,r={.ow,emb x}/\du fr ([i]++([]++m.mu)) u (st s)=st f/\P (j+1) f (l++[x])) /\
  ∀s l,P n.toNat s l->l.length=n.toNat->QE' {.ow,.lst (l.map emb)} (st s)):WE (bj fr (dF ms) (ai i) mYes m) O QE':=by
 obtain⟨rs,c,A,n,H,y,J,g,rfl,E,w,G⟩:=h;show sk {rs,_,A,n,H,{by omega,y.2},J,λj a O=>∃s l,a=l.map emb/\l.length=j/\O=st s/\P j s l,{g,[],Xr,Xr,Xr,E},?_,?_}
 .rintro j a O v ⟨s,l,rfl,d,rfl,t⟩;show(w j s l v t).mono λc q=>q.mono λr u ⟨x,f,e,B,o⟩=>{_,e,f,l++[x],by simp,by simp[d],B,o}
 .rintro a O ⟨s,l,rfl,d,rfl,t⟩;rw[u8 p (by intro z;rw[z]at d;simp at d;omega)];show G s l t d
end
section
variable {O:Rho}{b:MS}{Q:Fl->Rho->Prop}{t s':T}{k:Nat}{ks:!Nat}
def Dl{R:T->T->Prop}(h : O[k]?*>(P9 {.io 0,s'}))(q:R t s'):fI k R (.rt t) O:=by unhygienic show⟨s',h,q⟩
def Do{R:T->Prop}(q:R t):fP R (.rt t) O:=by unhygienic show q
def Dn{R:T->Prop}(q:R (.im .non)):fP R .nx O:=by unhygienic show q
def xR(h:WS b O Q):AM b Q .nx O:=by unhygienic show h
def xS(h:Q (.rt t) O):AM b Q (.rt t) O:=by unhygienic show h
def xP(h:Q .nx (fgts ks O)):Dk ks Q .nx O:=by unhygienic show h
variable {S:Type}{st:S->Rho}{P:S->Prop}
def AN(h:∃s,O=st s/\P s):fFs st P Q .nx O:=by unhygienic show h
end
section
variable {M:!Nat}{O:Rho}{t s:T}{n i:Nat}{p:Option !Ac}{k:Nat}{x:I}
def AY:am M []=[]:=rfl
def Dv:am M (⇑t::O)=⇑t::am M O:=rfl
def Du:am M (P9 {.io n,t}::O)=P9 {.io n,t}::am M O:=rfl
def x0:am M (P8::O)=P8::am M O:=rfl
def Dw:am M (P9 {.vw P8 p,t}::O)=P9 {.vw P8 p,t}::am M O:=rfl
def nX:T.put t [] s=s:=by cases t<;>rfl
def yV:qE j={.ow,.im (.int j)}:=rfl
def Ci:rdR i {.ow,.im x}={.ow,.im x}:=rfl
def Ck:rdR i {.vw a p,t}={.vw a p,t}:=rfl
def Cj:rdR i {.ow,.li l}={.vw (P9 i) (P9 []),.li l}:=rfl
def yW:rdR i {.ow,.lst l}={.vw (P9 i) (P9 []),.lst l}:=rfl
def uF:fgts [] O=O:=rfl
def sH:fgts (i::ks) O=fgts ks ((am [i] O).set i P8):=rfl
def p7{run:!T->↑T}{l:Nat}{m:MS}{ts:!T}{a:T->Prop}(O:Rho)(c:run ts=if ts.length=l then ce m n ts else P8)(e:ts.length=l)(d:cS ts n=O)(h:WS m O (fP a)):W1 (run ts) a:=zr c e (d▸h)
def Kc{run:!T->↑(T×T)}{l:Nat}{m:MS}{ts:!T}{c:T->T->Prop}(O:Rho)(a:run ts=if ts.length=l then jf m k n ts else P8)(e:ts.length=l)(d:fR k ts n=O)(h:WS m O (fI k c)):W2 (run ts) c:=rT a e (d▸h)
end
end L2
namespace L2
open PySem PySem.Spec PyProof.Rows
section
variable {O:Rho}{g g2:MG}{ct:MT}{m:ME}{it it2:MI}{QE':R->Rho->Prop}{fr fr2:! ↑Nat}
def me{items:!R}{QC:!T->Rho->Prop}(Inv:Nat->!T->Rho->Prop)
  (hs:∀i r a O,items[i]?*>r->Inv i a O->WG g (jd (piF fr) r) (inR fr O) λp=>WI it2 p λc items2 h=>Gu (eI fr2 h.length&&(decide (c.length=1)&&c.all (aw (muF fr2 (g2.mu++(ct.mu++m.mu)))))) (a.length+items2.length<sizeLine/\W2 (bp fr2 (g2.mu++(ct.mu++m.mu)) g2 ct m items2 h a) λts o=>Inv (i+1) ts (du fr (g.mu++(it2.mu++muF fr2 (g2.mu++(ct.mu++m.mu)))) o O)))
  (s:∀a O,Inv items.length a O->QC a O):∀(l:!R) (i:Nat) (a:!T) (O:Rho),items.drop i=l->i<=items.length->Inv i a O->W2 (bZ fr fr2 g it2 g2 ct m l O a) QC
 | [],i,a,O,d,u,f=>by
  have:i=items.length:=by have:=congrArg HV d;simp at this;omega
  subst this;show{_,_,Xr,s a O f}
 | r::l,i,a,O,d,u,f=>by
  have t:items[i]?*>r:=by rw[<-IJ,d];rfl
  have j:=(FL.mp t).1;have e:items.drop (i+1)=l:=by rw[<-IV,d];rfl
  obtain⟨p,w,c,items2,h,x,z,v,ts,o,y,q⟩:=hs i r a O t f;dsimp[bZ,w,x];rw[if_pos (by rw[FO];show{z,decide_eq_true v})];dsimp[y];show me Inv hs s l (i+1) _ _ e j q
def zC(h:WI it O λd items f=>Gu (eI fr f.length&&eM (g.mu++(it2.mu++muF fr2 (g2.mu++(ct.mu++m.mu)))) fr.length&&eM (g2.mu++(ct.mu++m.mu)) fr2.length&&(decide (d.length=1)&&d.all (aw (muF fr (g.mu++(it2.mu++muF fr2 (g2.mu++(ct.mu++m.mu)))))))) (∃Inv:Nat->!T->Rho->Prop,Inv 0 [] f /\
  (∀i r a O,items[i]?*>r->Inv i a O->WG g (jd (piF fr) r) (inR fr O) λf=>WI it2 f λc items2 j=>Gu (eI fr2 j.length&&(decide (c.length=1)&&c.all (aw (muF fr2 (g2.mu++(ct.mu++m.mu)))))) (a.length+items2.length<sizeLine/\W2 (bp fr2 (g2.mu++(ct.mu++m.mu)) g2 ct m items2 j a) λts o=>Inv (i+1) ts (du fr (g.mu++(it2.mu++muF fr2 (g2.mu++(ct.mu++m.mu)))) o O))) /\
  ∀a O,Inv items.length a O->a.length<sizeLine/\QE' {.ow,bM a} O)):WE (jE fr fr2 it g it2 g2 ct m) O QE':=by
 have(d,items,f,s,v,Inv,t,l,u):=h;have(ts,j,e,p,q):=me (QC:=λa O=>a.length<sizeLine/\QE' {.ow,bM a} O) Inv l u items 0 [] f rfl (GA _) t;show{{.ow,bM ts},j,?_,q};dsimp[jE,s];rw[if_pos v];dsimp[e];rw[if_pos p]
def sE{items:!I}{M:!Nat}{QC:!T->Rho->Prop}(st:Rho)(f:∀x,WG g (jd (piF fr2) {.ow,.im x}) (inR fr2 st) λj=>WE m j λr h=>r={.ow,.im x}/\du fr2 M h st=st)(c:!T)(q:QC (c++items.map T.im) st):W2 (bp fr2 M g mYes m (items.map λi=>{.ow,.im i}) st c) QC:=by
 show iT (items:=items.map λi=>{.ow,.im i}) (λi a O=>O=st/\a=c++(items.take i).map T.im) (λi r a O p d=>?_) (λa O d=>?_) _ 0 c st rfl (GA _) {Xr,by simp}
 .have(rfl,rfl):=d;have(x,l,rfl):=ar p;show(f x).mono λj w=>lS {λ_=>w.mono λr h ⟨e,o⟩=>{_,e,o,?_},λz=>by cases z};rw[JD,l];simp
 .have(rfl,rfl):=d;simp at *;show q
end
abbrev less(K:yF) (a:Addr):yF:=K.filter λp=> ~~~(p.1==a)
def i4:∀{K:yF} {a b:Addr},b≠a->(less K a).lookup b=K.lookup b
 | [],_,_,_=>rfl
 | (c,o)::K,a,b,h=>by
  have d:=i4 (K:=K) h;by_cases e:c=a
  .subst e;have:less ((c,o)::K) c=less K c:=by simp[less]
   rw[this,d];change _=match b==c with|true=>P9 o|false=>HW b K
   rw[beq_eq_false_iff_ne.mpr h]
  .have:less ((c,o)::K) a=(c,o)::less K a:=by simp[less,e]
   rw[this];change(match b==c with|true=>P9 o|false=>HW b (less K a))=match b==c with|true=>P9 o|false=>HW b K
   rw[d]
def jC:∀{K:yF} {a:Addr},(less K a).lookup a=P8
 | [],_=>rfl
 | (c,o)::K,a=>by
  have d:=jC (K:=K) (a:=a);by_cases e:c=a
  .subst e;have:less ((c,o)::K) c=less K c:=by simp[less]
   rw[this,d]
  .have:less ((c,o)::K) a=(c,o)::less K a:=by simp[less,e]
   rw[this];change(match a==c with|true=>P9 o|false=>HW a (less K a))=P8;rw[beq_eq_false_iff_ne.mpr (K3 e)];show d
def x9{K:yF}{a:Addr}{h:Heap}(X:K.In h):(less K a).In h:=λb o e=>by
 by_cases q:b=a;subst q;rw[jC]at e;cases e;rw[i4 q]at e;show X b o e
abbrev Lst(o:Obj):Prop:=∃vs:Array KA,o={cls:=.type "list",data:=.seq vs}
abbrev Kq(K:yF)(a:Addr):Prop:=∀o,K.lookup a*>o->Lst o
def Kq.get{K:yF}{a b:Addr}{o:Obj}(h:Kq K a)(e:K.lookup b*>o)(n:¬ Lst o):(less K a).lookup b*>o:=by
 rw[i4 (a:=a) λq:b=a=>n (h o (by rw[<-q];show e))];show e
abbrev p8(K:yF)(mg:Str->↑KA)(name:Str)(st:Stmt)(c:!Str):Prop:=
 ∃(f:Addr) (d:LS),mg name*>(.ref f)/\Fun K name name st f d/\(∀a:!KA,a.length=c.length->OZ d {a,[]}=pure (c.zip a))
def p8.to{K:yF}{mg:Str->↑KA}{name:Str}{st:Stmt}{a:!Str}(d:p8 K mg name st a):Def K mg name st a:=by
 have(f,g,e,h,c):=d;show{f,g,e,h,.all c}
def p8.less{K:yF}{mg:Str->↑KA}{name:Str}{st:Stmt}{p:!Str}{a:Addr}(d:p8 K mg name st p)(h:Kq K a):p8 (less K a) mg name st p:=by
 have(f,y,v,F,t):=d;obtain⟨oc,r,kV,m,s,u,j,A,l,e,x,g⟩:=F.ex;have i:=h.get x (by rintro⟨vs,z⟩;cases z);show{f,y,v,{{oc,r,kV,m,s,u,j,A,l,e,i,?_},?_},t}
 .unfold Hw at g|-;cases j with
  | ref c=>
   dsimp only at g|-;cases q:HW c K with
   | none=>rw[q]at g;cases g
   | some o=>
    by_cases w:c=a
    .subst w;have(vs,rfl):=h o q;rw[q]at g;cases g
    .rw[i4 w];show g
  | _=>cases g
 .unfold GY;dsimp only;rw[i]
def p8.mk'{K:yF}{h:Heap}{mg:Str->↑KA}{name:Str}{st:Stmt}{o:!Str}(X:K.In h)(G:h.Ns K4 mg){f:Addr}{oc:KA}{q i:↑Addr}{m:Array ↑KA}{kV e g d j:KA}
  (a:Hn K K4 name*>(P9 (.ref f))) (l:K.lookup f*>{oc,q,.func (GV name name (dJ st) (bC st) (aj st) .none kV e g i d j),m}) (c:Hw K d name=Qb) (k:GY K (.ref f)=Qb)
  (r:∀(kV e g:KA) (i:↑Addr) (d j:KA) (p:!KA),p.length=o.length->OZ (GV name name (dJ st) (bC st) (aj st) .none kV e g i d j) {p,[]}=pure (o.zip p)):p8 K mg name st o:=
 {f,_,I9 X G a,AO l c k,r kV e g i d j}
def Ke.less{K:yF}{a b:Addr}{xs:!V}(t:Ke K b xs)(h:Kq K a):Ke (less K a) b xs:=by
 have(o,c,n,f,d,e):=t;show{o,c,n,h.get f (by rintro⟨vs,z⟩;subst z;show absurd (show LI "list" = LI "tuple" from d.1) ∅),d,e}
def GTup.less{K:yF}{a:Addr}{mg:Str->↑KA}{x:Str}{xs:!V}(t:∃b,JY mg x (.ref b)/\Ke K b xs)(h:Kq K a):∃b,JY mg x (.ref b)/\Ke (L2.less K a) b xs:=by
 have(b,c,d):=t;show{b,c,d.less h}
def GTup.mk'{K:yF}{h:Heap}{mg:Str->↑KA}(X:K.In h)(G:h.Ns K4 mg){x:Str}{a:Addr}{it:Array KA}{n:Nat}{sl:Array ↑KA}{xs:!V}(t:Hn K K4 x*>(P9 (.ref a)))(e:K.lookup a*>{.type "tuple",P8,.seq it n,sl})(c:it.size<=sizeLine)(d:Vals xs it.toList) :
  ∃b,JY mg x (.ref b)/\Ke K b xs:={a,{_,I9 X G t,Xr},{_,_,_,e,⟨Xr,Xr⟩,Xr,c,d}}
def JY.mk'{K:yF}{h:Heap}{mg:Str->↑KA}(X:K.In h)(G:h.Ns K4 mg){x:Str}{u:KA}{v:V}(g:Hn K K4 x*>(P9 u))(r:RelV v u):JY mg x v:={_,I9 X G g,r}
def walkP{l:PySem.W.OpenLaw}{k:Nat}{q:KP}{loose:!Str}{XP:(Str->↑KA)->Heap->Prop}{YP:K2->Heap->Prop}{d:DefRec}{K:Py->yF}{x:Str}{st:Stmt}{run:!T->↑T}{A:(Str->↑KA)->yF->Prop}
  (hn:l.most=P9 63) (r:d.params.defaults=[]) (Z:Ka k NW)
  (S:∀(w:K2) (h:Heap),YP w h->(K w.params).In h)
  (hA:∀(w:K2) (mg:Str->↑KA) (h:Heap),(K w.params).In h->h.Ns K4 mg->A mg (K w.params))
  (hL:∀(mg:Str->↑KA) (K:yF) (a:Addr),A mg K->Kq K a->A mg (less K a))
  (X:∀(mg:Str->↑KA) (K:yF),A mg K->Def K mg d.name st [x])
  (hb:∀(kV m N:KA) (an:↑Addr) (y ct:KA) (s:KC) (v:KA),NU s (GV d.name d.name (dJ st) (bC st) (aj st) .none kV m N an y ct) {[v],[]} [(x,v)])
  (F:∀(w:K2) (mg:Str->↑KA) (K:yF) (base:Heap),A mg K->Has l.prog w K mg base k d.name [x] (spP K run))
  (t:∀ns:!Int,ns.length<=63->run [.li (ns.map .int)]*>(.im (.bl Qb))) :
  PySem.W.WalkO q loose XP YP l.row.toRowW d [] (λf vs=>PySem.call f vs):=by
 show Att.attach_call hn r λw O L mg mb fa o N cd m a vs ns G Y ho Q hcd p c j i hg=>?_;have u:=S w _ Y;have U:=hA w mg _ u G.T.g;have la:Kq (K w.params) a:=λo e=>by
  have J:=u a o e;rw[c]at J;cases J;show{_,Xr}
 have M:=hL mg _ a U la;have(fd,E,hF):=uX p (X mg _ M) hb λbase _ _=>F w mg (less (K w.params) a) base M;show uW (x9 u) G.T.g G.T.b G.T.builtins G.T.nolimit hg c j (Gj i (by decide)) Z hF E (λH hO B=>?_) (λ_ _ _ z=>z);rcases B with B|⟨o,its,n,e,_⟩
 .show{[.li (ns.map .int)],_,?_,t ns i,?_}
  .show{_,_,Xr,{[a],?_},Xr};show{a,_,Xr,B,md.ints ns,Xr}
  .intro v H' z;have(_,F,z,_):=z;rw[Rp]at z;show z.1
 .rw[jC]at e;cases e
abbrev vs(x:String) (t:Tok):KA:=.str (K9 x) t
abbrev vi(n:Int):KA:=.int n 0
abbrev vr(a:Addr):KA:=.ref a
abbrev eO(p:Py) (x:String) (t:Tok) (v:KA):Ov:={PyData.keyHash p (K9 x),.str (K9 x) t,v}
abbrev oC(vs:!KA):Obj:={cls:=.type "code",data:=.fields vs.toArray}
abbrev oT(vs:!KA):Obj:={cls:=.type "tuple",data:=.seq vs.toArray}
abbrev oD(a:!Ov) (n:Nat):Obj:={cls:=.type "dict",data:=.dict a.toArray n}
abbrev oF(x:String) (st:Stmt) (a:KA) (c:Addr):Obj:={cls:=.type "function",data:=.func (GV (K9 x) (K9 x) (dJ st) (bC st) (aj st) .none .none .none a P8 (.ref c) .none)}
abbrev oc(x:String) (t l n r:Nat) (v:↑(Nat×Nat)) (d e:Nat):Obj:=oC [vs x t,vs x (t+1),vs "/claim/cut.py" (t+2),vi l,vi n,vi 0,vi 0,vi 3,vr r,.bool Qb,vi 181,vr (r+1),.none,(match v with|some p=>vr p.1|none=>.none),(match v with|some p=>vr p.2|none=>.none),vr d,vi e,vi l,vs "/claim/cut.py" (e+1)]
def p8.mkO{K:yF}{h:Heap}{mg:Str->↑KA}{x:String}{st:Stmt}{i:!Str}(X:K.In h)(G:h.Ns K4 mg)(f:Addr)(d:KA)(c:Addr)
  (o:∀(kV j d:KA) (m:↑Addr) (e q:KA) (g:!KA),g.length=i.length->OZ (GV (K9 x) (K9 x) (dJ st) (bC st) (aj st) .none kV j d m e q) {g,[]}=pure (i.zip g))
  (a:Hn K K4 (K9 x)*>(P9 (.ref f)):=by rfl') (l:K.lookup f*>(oF x st d c):=by rfl') (p:Hw K (.ref c) (K9 x)=Qb:=by rfl'):p8 K mg (K9 x) st i:=
 p8.mk' X G a l p (by unfold GY;dsimp only;rw[l];rfl) o
def bN{K:yF}{h:Heap}{mg:Str->↑KA}(X:K.In h)(G:h.Ns K4 mg){n:Str}(e:Hn K K4 n*>P8:=by rfl'):mg n=P8:=PySem.W.mg_none_of X G e
def GTup.mkO{K:yF}{h:Heap}{mg:Str->↑KA}(X:K.In h)(G:h.Ns K4 mg){x:Str}{xs:!V}(a:Addr)(c:!KA)(t:Hn K K4 x*>(P9 (.ref a)))(f:K.lookup a*>(oT c))(d:c.toArray.size<=sizeLine)(e:Vals xs c) :
  ∃b,JY mg x (.ref b)/\Ke K b xs:=GTup.mk' X G t f d e
section
variable {α A B C D E F:Type}{f g:A->B->C->D->E->F->!KA->α}
def Kh{α:Type}{n:Nat}{l:!α}(h:l.length=n+1):∃a r,l=a::r/\r.length=n:=by
 cases l with
 | nil=>cases h
 | cons a r=>show{a,r,Xr,He.inj h}
def by1(h:∀a j i c l d a0,f a j i c l d [a0]=g a j i c l d [a0]):∀a j i c l d (m:!KA),m.length=1->f a j i c l d m=g a j i c l d m:=λa j i c l d m e=>by
 have(a0,p,rfl,o):=Kh e;obtain rfl:=G3.mp o;show h a j i c l d a0
def by2(h:∀a j i c l d a0 m,f a j i c l d [a0,m]=g a j i c l d [a0,m]):∀a j i c l d (o:!KA),o.length=2->f a j i c l d o=g a j i c l d o:=λa j i c l d o e=>by
 have(a0,r,rfl,p):=Kh e;have(m,s,rfl,q):=Kh p;obtain rfl:=G3.mp q;show h a j i c l d a0 m
def by3(h:∀d c j i l a a0 o m,f d c j i l a [a0,o,m]=g d c j i l a [a0,o,m]):∀d c j i l a (p:!KA),p.length=3->f d c j i l a p=g d c j i l a p:=λd c j i l a p e=>by
 have(a0,t,rfl,q):=Kh e;have(o,v,rfl,r):=Kh q;have(m,u,rfl,s):=Kh r;obtain rfl:=G3.mp s;show h d c j i l a a0 o m
def by4(h:∀d c j i l a a0 p o m,f d c j i l a [a0,p,o,m]=g d c j i l a [a0,p,o,m]):∀d c j i l a (q:!KA),q.length=4->f d c j i l a q=g d c j i l a q:=λd c j i l a q e=>by
 have(a0,w,rfl,r):=Kh e;have(p,y,rfl,s):=Kh r;have(o,x,rfl,t):=Kh s;have(m,v,rfl,u):=Kh t;obtain rfl:=G3.mp u;show h d c j i l a a0 p o m
end
end L2
namespace L2
open PySem
noncomputable section
abbrev gD:MS:=(aq (mIf (mOr (fA (ak (dr (bY λi j=>decide (i<=j)) (bY λi j=>decide (i<=j)) (mC (.int 1)) (mB cB (aa 0 mNil)) (mC (.int 8))))) (ak (mOp inT (ah 0) (mC (.tup [.str "min",.str "max",.str "rest",.str "less",.str "if"]))))) (aX (mC (.bl Qa))) mNext)
  (aX (mB j9 (ac (bj [P8,P8] (mIt (ah 0)) (ai 1) mYes (mOp inT (ah 1) (mC (.str "abcdefghijklmnopqrstuvwxyz")))) mNil))))
abbrev dk(ts:!T):↑T:=if ts.length=1 then ce gD 1 ts else P8
abbrev cg:MS:=(aq (mIf (ak (mOp eqT (mIx (ah 0) (mC (.int 0))) (mC (.str "op")))) (aX (mSl (ah 0) (eN (mC (.int 2))) mNoPart)) mNext)
  (aq (mIf (ak (mOp eqT (mIx (ah 0) (mC (.int 0))) (mC (.str "if")))) (aX (mSl (ah 0) (eN (mC (.int 1))) mNoPart)) mNext)
  (aX (bz [] mNil))))
abbrev dw(ts:!T):↑T:=if ts.length=1 then ce cg 1 ts else P8
abbrev dO:MS:=(aq (aU (bh [] mNil) (ai 1))
  (aq (aU (bh [0] (aa 0 mNil)) (ai 2))
  (aq (eY (sU (ah 2))
  (dX [3] (aq (aU (gC 2 jN (ah 2)) (ai 3))
  (aq (cC (iq 1 [3] apT (ah 1) (aa 3 mNil)))
  (cC (iq 2 [] nF (ah 2) (ac (mUn wM (mB dw (aa 3 mNil))) mNil)))))))
  (aX (ah 1)))))
abbrev cK(ts:!T):↑T:=if ts.length=1 then ce dO 4 ts else P8
abbrev ia:MS:=(aX (mB l3 (ac (bj [P8,P8] (mIt (mB cK (aa 0 mNil))) (ai 1) (ak (mOp eqT (mIx (ah 1) (mC (.int 0))) (mC (.str "at")))) (bz [] (ac (mIx (ah 1) (mC (.int 1))) (ac (mIx (ah 1) (mC (.int 2))) mNil)))) mNil)))
abbrev jS(ts:!T):↑T:=if ts.length=1 then ce ia 1 ts else P8
abbrev dY:MS:=(aq (mIf (fA (ak (dr (bY λi j=>decide (i<=j)) (bY λi j=>decide (i<=j)) (mC (.int 1)) (ah 0) (mC (.int 3))))) bw mNext)
  (aq (mIf (fA (ak (dr (bY λi j=>decide (i<=j)) (bY λi j=>decide (i<=j)) (mC (.int 2)) (ah 1) (mC (.int 1000000000))))) bw mNext)
  (mIf (fA (ak (dr (bY λi j=>decide (i<=j)) (bY λi j=>decide (i<=j)) (mC (.int 1)) (mB cB (aa 2 mNil)) (mC (.int 6))))) bw mNext)))
abbrev eB(ts:!T):↑T:=if ts.length=3 then ce dY 3 ts else P8
abbrev e7:MS:=(eJ (mIt (mB cK (aa 1 mNil))) (ai 4)
  (dX [4] (aq (mIf (lm (ak (mOp eqT (mIx (ah 4) (mC (.int 0))) (mC (.str "num")))) (fA (ak (dr (bY λi j=>decide (i<=j)) (bY λi j=>decide (i<=j)) (mC (.int 0)) (mIx (ah 4) (mC (.int 1))) (mC (.int 1000000000)))))) bw mNext)
  (aq (mIf (lm (ak (mOp eqT (mIx (ah 4) (mC (.int 0))) (mC (.str "at")))) (ak (mOp qj (mIx (ah 4) (mC (.int 1))) (ah 2)))) bw mNext)
  (mIf (lm (ak (mOp eqT (mIx (ah 4) (mC (.int 0))) (mC (.str "at")))) (ak (mOp neT (mB cB (ac (mIx (ah 4) (mC (.int 2))) mNil)) (ah 3)))) bw mNext)))))
abbrev fg(ts:!T):↑T:=if ts.length=4 then ce e7 5 ts else P8
abbrev cE:MS:=(aq (aU (bh [] mNil) (ai 2))
  (aq (eJ (mIt (mB jS (aa 1 mNil))) (cc (aC (ai 3) (aC (ai 4) mGNil)))
  (dX [3,4,5] (aq (aU (bz [0,3,4] (aa 0 (aa 3 (aa 4 mNil)))) (ai 5))
  (mIf (ak (mOp qj (ah 5) (ah 2))) (cC (iq 2 [5] apT (ah 2) (aa 5 mNil))) mNext))))
  (aX (ah 2))))
abbrev eA(ts:!T):↑T:=if ts.length=2 then ce cE 6 ts else P8
abbrev dP:MS:=(aX (mB l3 (ac (jE [P8,P8,P8,P8] [P9 0,P9 1,P9 2,P8] (mIt (mIx (ah 0) (mC (.int 2)))) (cc (aC (ai 1) (aC (ai 2) mGNil))) (mIt (mB eA (aa 1 (aa 2 mNil)))) (ai 3) mYes (ah 3)) mNil)))
abbrev fW(ts:!T):↑T:=if ts.length=1 then ce dP 1 ts else P8
abbrev dZ:MS:=(aq (aU (ah 0) (cc (aC (ai 1) (aC (ai 2) (aC (ai 3) mGNil)))))
  (aq (cC (mB eB (aa 1 (aa 2 (aa 3 mNil)))))
  (aq (aU (bj [P8,P8,P8,P8,P8,P8,P8,P8] (mIt (ah 3)) (cc (aC (ai 6) (aC (ai 7) mGNil))) mYes (ah 6)) (ai 4))
  (aq (eJ (mN (aa 3 mNil)) (cc (aC (ai 5) (aC (cc (aC (ai 6) (aC (ai 7) mGNil))) mGNil)))
  (dX [5,6,7] (aq (mIf (mOr (fA (ak (mB dk (aa 6 mNil)))) (ak (mOp inT (ah 6) (mSl (ah 4) mNoPart (eN (ah 5)))))) bw mNext)
  (cC (mB fg (aa 6 (aa 7 (aa 4 (aa 1 mNil)))))))))
  (aq (mIf (ak (mOp (bY λi j=>decide (j<i)) (mB cB (ac (mB fW (aa 0 mNil)) mNil)) (mC (.int 16)))) bw mNext)
  (aX (mC (.bl Qb))))))))
abbrev eC(ts:!T):↑T:=if ts.length=1 then ce dZ 8 ts else P8
abbrev i6:MS:=(aq (aU (mOp bO (mOp ki (mC (.int 7901)) (ah 1)) (mC (.int 24697))) (ai 2))
  (aq (mIf (ak (mOp (bY λi j=>decide (i<j)) (ah 1) (mB cB (aa 0 mNil)))) (aU (mIx (ah 0) (ah 1)) (ai 2)) (mIf (ak (mOp (bY λi j=>decide (j<i)) (mB cB (aa 0 mNil)) (mC (.int 0)))) (aU (mOp bO (mOp ki (mOp jI (mIx (ah 0) (mOp jI (ah 1) (mB cB (aa 0 mNil)))) (mC (.int 2147483629))) (mC (.int 31))) (mOp ki (mC (.int 7901)) (ah 1))) (ai 2)) mNext))
  (aq (aU (mC (.int 0)) (ai 3))
  (aq (mIf (ak (mOp (bY λi j=>decide (j<=i)) (ah 2) (mOp tu (mC (.int 10)) (mC (.int 18))))) (aU (ah 2) (ai 3)) mNext)
  (aX (bh [3] (aa 3 (ac (mOp bO (mOp jI (mOp tu (mOp bO (mOp ki (mOp jI (ah 2) (mC (.int 2147483629))) (mC (.int 48271))) (mOp ki (mC (.int 40692)) (ah 1))) (mC (.int 5))) (mC (.int 2147483629))) (mC (.int 1))) mNil))))))))
abbrev lE(ts:!T):↑T:=if ts.length=2 then ce i6 4 ts else P8
abbrev i8:MS:=(aq (mIf (ak (mOp (bY λi j=>decide (j<i)) (mIx (ah 0) (mC (.int 0))) (mC (.int 0)))) (aq (aU (mOp jI (mIx (ah 0) (mC (.int 0))) (ah 1)) (ai 2))
  (aq (aU (mOp k6 (mIx (ah 0) (mC (.int 0))) (ah 1)) (qb 0 (ah 0) (mC (.int 0))))
  (aX (ah 2)))) mNext)
  (aq (aU (mOp jI (mOp ki (mIx (ah 0) (mC (.int 1))) (mC (.int 48271))) (mC (.int 2147483647))) (ai 3))
  (aq (aU (mOp bO (mOp jI (mOp bO (mOp ki (ah 3) (mC (.int 40692))) (mC (.int 30103))) (mC (.int 2147483399))) (mC (.int 1))) (qb 0 (ah 0) (mC (.int 1))))
  (aX (mOp jI (mOp k6 (mOp bO (mOp ki (ah 3) (mC (.int 2147483647))) (mIx (ah 0) (mC (.int 1)))) (mC (.int 8191))) (ah 1))))))
abbrev aM(ts:!T):↑(T×T):=if ts.length=2 then jf i8 0 4 ts else P8
abbrev hU:MS:=(aq (aU (mB uZ (aa 1 mNil)) (ai 2))
  (aq (eY (ak (mOp (bY λi j=>decide (j<i)) (mB cB (aa 2 mNil)) (mC (.int 1))))
  (dX [3,4] (aq (aU (aP 0 0 aM (aa 0 (ac (mOp l0 (mB cB (aa 2 mNil)) (mC (.int 1))) mNil))) (ai 3))
  (dX [3,4] (mIf (lm (ak (mOp (bY λi j=>decide (j<i)) (mB cB (aa 2 mNil)) (mC (.int 2)))) (ak (mOp eqT (aP 0 0 aM (aa 0 (ac (mC (.int 5)) mNil))) (mC (.int 0))))) (aq (aU (mB sV (aa 3 (ac (mOp l0 (mB cB (aa 2 mNil)) (mC (.int 3))) mNil))) (ai 3))
  (aU (bh [] (ac (bz [] (ac (mC (.str "if")) (ac (mIx (ah 2) (ah 3)) (ac (mIx (ah 2) (mOp bO (ah 3) (mC (.int 1)))) (ac (mIx (ah 2) (mOp bO (ah 3) (mC (.int 2)))) mNil))))) mNil)) (iG 2 (ah 2) (ah 3) (mOp bO (ah 3) (mC (.int 3)))))) (aq (aU (mIx (bh [] (ac (mC (.str "+")) (ac (mC (.str "-")) (ac (mC (.str "*")) (ac (mC (.str "min")) (ac (mC (.str "max")) (ac (mC (.str "rest")) (ac (mC (.str "less")) mNil)))))))) (aP 0 0 aM (aa 0 (ac (mC (.int 7)) mNil)))) (ai 4))
  (aU (bh [] (ac (bz [4] (ac (mC (.str "op")) (aa 4 (ac (mIx (ah 2) (ah 3)) (ac (mIx (ah 2) (mOp bO (ah 3) (mC (.int 1)))) mNil))))) mNil)) (iG 2 (ah 2) (ah 3) (mOp bO (ah 3) (mC (.int 2)))))))))))
  (aX (mIx (ah 2) (mC (.int 0))))))
abbrev jR(ts:!T):↑(T×T):=if ts.length=2 then jf hU 0 5 ts else P8
end
end L2
namespace L2
open PySem PySem.Spec PyProof.Rows
inductive TyB(K:yF) (H:Hp):V->String->Prop where
 | non:TyB K H .non "NoneType"
 | bl (x:Bool):TyB K H (.bl x) "bool"
 | int (i:Int):TyB K H (.int i) "int"
 | str (x:Str):TyB K H (.str x) "str"
 | tup {a:Addr} {xs:!V}:SqT K H a xs->TyB K H (.ref a) "tuple"
 | lst {a:Addr} {xs:!V}:SqL K H a xs->TyB K H (.ref a) "list"
 | dK {a:Addr} {kvs:!(Key×V)}:Rd H a (.dK kvs)->TyB K H (.ref a) "dict"
def TyB.kit(I:Inv X OK Z H s)(r:RelV x u)(t:TyB X.K H x n):∃j,PySem.W.KitX X.K u (.type n) j/\j s.heap/\u≠Pm "__main__.__loader__#opaque" :=by
 cases t with
 | non=>cases (show u=LQ from r);show{_,PySem.W.kitx_none,M3,λz=>nomatch z}
 | bl y=>cases (show u=LX y from r);show{_,PySem.W.kitx_bool,M3,λz=>nomatch z}
 | int i=>have(t,q):=(show∃t,u=Lk i t from r);cases q;show{_,PySem.W.kitx_int,M3,λz=>nomatch z}
 | str y=>have(t,q):=(show∃t,u=Ou y t from r);cases q;show{_,PySem.W.kitx_str,M3,λz=>nomatch z}
 | @tup a l h=>
  cases r;have(g,r,p,_):=I.tuple h;have(o,d,f,_):=p;show{_,PySem.W.kitx_tuple,⟨o,d,f⟩,λz=>nomatch z}
 | @lst a l h=>
  cases r;have(g,r,p,_):=I.list h;have(o,n,d,f,_):=p;show{_,PySem.W.kitx_list,⟨o,d,f⟩,λz=>nomatch z}
 | @dK a c e=>
  cases r;have:=(show JZ X.prog X.w H s.heap a (.dK c)from by
   rcases e with e|⟨o,e⟩;show I.hok a _ e;show(show JZ X.prog X.w H s.heap a (.frz o (.dK c))from I.hok a _ e).2)
  have(_,_,vs,_,p):=this;have(o,m,v,d,f,_):=p;show{_,PySem.W.kitx_dict,⟨o,d,f.1⟩,λz=>nomatch z}
abbrev Ce(K:yF)(n:String):!V->Hp->VK->Prop:=λa H Q=>∃x t b,a=[x,.ty n]/\TyB K H x t/\IW K (.type t) (.type n)*>b/\Q (.bl b) H
def ur(n:String):HE X (.builtin "isinstance") (Ce X.K n):=by
 intro o s Z H p v Q I j h;have(x,t,b,rfl,i,e,q):=h;have(u,r,rfl,f,c):=pG j;cases c;have(m,d,g,a):=i.kit I f;show PySem.W.kia_one d I.kIn g e a λl=>{.bl b,H,I.tok l,Xr,q}
abbrev Cf(K:yF)(ns:!String):!V->Hp->VK->Prop:=λa H Q=>∃x t b p,a=[x,.ref p]/\SqT K H p (ns.map V.ty)/\TyB K H x t/\IX K (.type t) (ns.map LI)*>b/\Q (.bl b) H
def si:∀{ns:!String} {a:!KA},Vals (ns.map V.ty) a->a=ns.map LI
 | [],_,.nil=>rfl
 | n::ns,_,.cons h r=>by
  cases (show _=LI n from h);rw[FS,si r]
def uu(ns:!String):HE X (.builtin "isinstance") (Cf X.K ns):=by
 intro S s Z H L N Q I E h;have(x,t,b,p,rfl,i,z,e,q):=h;have(u,M,rfl,w,g):=pG E;cases g;have(J,v,y,r):=z.kit I w;obtain⟨B,a,⟨o,l,A,m,f⟩,_⟩:=I.tuple i;rw[si a]at f;have(c,d,G,O):=o;cases A;cases f;show PySem.W.kia_tup v I.kIn y l e r λj=>{.bl b,H,I.tok j,Xr,q}
abbrev tyN:T->↑String
 | .im .non=>P9 "NoneType"
 | .im (.bl _)=>P9 "bool"
 | .im (.int _)=>P9 "int"
 | .im (.str _)=>P9 "str"
 | .im (.tup _)=>P9 "tuple"
 | .im (.ls _)=>P9 "list"
 | .im (.fd _ _)=>P9 "dict"
 | .im (.exn _ _ _)=>P8
 | .tup _=>P9 "tuple"
 | .li _=>P9 "list"
 | .lst _=>P9 "list"
 | .di _=>P9 "dict"
 | .dc _=>P9 "dict"
 | .ins _ _=>P8
 | .dq _=>P8
abbrev lg(n m:String):Bool:=n==m||(n == "bool" && m == "int")
private def fJ(ns:!String)(t:T):↑T:=(tyN t).map λn=>.im (.bl (ns.any (lg n)))
def xi{K:yF}{H:Hp}{x:V}{n:String}:∀{t:T},Rpx K H t x->tyN t*>n->TyB K H x n
 | .im i,r,e=>by
  have h:=dI r;cases i<;>rw[RpI]at h<;>cases e;rw[h];show .non;rw[h];show .bl _;rw[h];show .int _;rw[h];show .str _;have(a,c,rfl,h,_):=h;show .tup h;obtain⟨a,c,rfl,h,_⟩:=j6 r;show .lst (aB h);have(a,o,f,rfl,h,_):=h;show .dK (.inr ⟨o,h⟩)
 | .tup d,r,e=>by cases e;have(a,c,F,rfl,h,_):=kK r;show .tup h
 | .li d,r,e=>by cases e;have(a,c,rfl,h,_):=bF r;show .lst (.inl h)
 | .lst d,r,e=>by cases e;have(a,c,F,rfl,h,_):=fX r;show .lst (.inl h)
 | .di d,r,e=>by cases e;obtain⟨F,r⟩:=r;rw[Rp]at r;obtain⟨a,c,rfl,⟨f,h,_⟩,_⟩:=r;show .dK (.inl h)
 | .dc d,r,e=>by cases e;obtain⟨F,r⟩:=r;rw[Rp]at r;obtain⟨a,c,g,rfl,⟨f,h,_⟩,_⟩:=r;show .dK (.inl h)
 | .ins C d,r,e=>by cases e
 | .dq d,r,e=>by cases e
abbrev kn:!String:=["int","bool","str","tuple","list","dict"]
def mJ{K:yF}{n m:String}{t:T}(e:tyN t*>n)(c:m∈kn):IW K (.type n) (.type m)*>(lg n m):=by
 have d:n = "NoneType" \/ n∈kn:=by
  unfold tyN at e;split at e<;>cases e<;>first|show .inl rfl|show .inr (by decide)
 rcases d with rfl|d
 .rcases ycM c with rfl|c;rfl;rcases ycM c with rfl|c;rfl;rcases ycM c with rfl|c;rfl;rcases ycM c with rfl|c;rfl;rcases ycM c with rfl|c;rfl;rcases ycM c with rfl|c;rfl;cases c
 .have f:∀a∈kn,∀b∈kn,IW K (.type a) (.type b)*>(lg a b):=by
   intro a g b h;dsimp[kn,Gg,Gf,or_false]at g h;rcases g with rfl|rfl|rfl|rfl|rfl|rfl<;>rcases h with rfl|rfl|rfl|rfl|rfl|rfl<;>rfl
  show f n d m c
def mI{K:yF}{n:String}{t:T}(e:tyN t*>n):∀{a:!String},(∀m∈a,m∈kn)->IX K (.type n) (a.map LI)*>(a.any (lg n))
 | [],_=>rfl
 | m::a,h=>by
  rw[FS,PySem.W.kitAny.eq_2,mJ e (h m ymS),Ip,mI e λx c=>h x (ymC _ c)];cases lg n m<;>rfl
section
variable {ι : Type}{C:ι->Cx}{P:KP}{W:K2}{K:yF}{mg:Str->↑KA}{base:Heap}{k:Nat}{e:Expr}{m:ME}{pos:Pos}
def vI(d:n∈kn):re K (λx H Q=>Ce K n [x,.ty n] H Q) (fJ [n]):=by
 intro H x c t Q r e q;unfold fJ at e;cases e1:tyN c with
 | none=>rw[e1]at e;cases e
 | some f=>
  rw[e1]at e;cases e;show{x,f,_,Xr,xi r e1,mJ e1 d,?_};show q _ H {JX.refl H,[],?_,GH,λa h=>by cases h};rw[Rp,RpI];show{by simp,Xr}
def vJ{d c:String}(j:d∈kn)(s:c∈kn):re K (λx H Q=>[V.ty d,V.ty c].length<=sizeLine/\∀p,H p=P8->Cf K [d,c] [x,.ref p] (upd H p (.tup [.ty d,.ty c])) Q) (fJ [d,c]):=by
 intro H x g t Q r e q;unfold fJ at e;cases e1:tyN g with
 | none=>rw[e1]at e;cases e
 | some o=>
  rw[e1]at e;cases e;show{by change 2<=sizeLine;decide,λp l=>?_};have f:JX H (upd H p (.tup [.ty d,.ty c])):=(JX.refl H).put l;have i:Rpx K (upd H p (.tup [.ty d,.ty c])) g x:=by
   obtain⟨F,r⟩:=r;show{F,r.same f}
  show{x,o,_,p,Xr,.inl (.inl aN),xi i e1,mI e1 (by simp[j,s]),?_};show q _ _ {f,[],?_,GH,λa h=>by cases h};rw[Rp,RpI];show⟨Xr,Xr⟩
def Ed(c:CK C P W K mg base k)(l:mg "isinstance" = P8)(g:mg x=P8)(j:Lr x*>(.type n))(o:n∈kn)(h:QE C K e m)(s:∀i,Gl (C i) "isinstance" :=by intro _;rfl)(d:∀i,Gl (C i) x:=by intro _;rfl)
  (hs:bH e=Qa:=by rfl) (f:x≠("__name__" : Str):=by decide) (a:(x==("__debug__" : Str))=Qa:=by decide):QE C K (.Call (.Name "isinstance" p) [e,.Name x p1] [] pos) (mUn (fJ [n]) m):=by
 have(t,q,r):=h;show{_,λi=>jM (r:=Ce K n) (by have:=ur (X:=C i) n;rw[c.kk i]at this;show this) (s i) (by rw[c.mg i];show l) OR (de (hs:=hs) (q i) (de (nV (d i) (by rw[c.mg i];show g) j (wO n) f a) nT)) (by change(~~~bH e&&Qb)=Qb;rw[hs];rfl),?_};show qJ (vI o) r
def Ee(g:CK C P W K mg base k)(y:mg "isinstance" = P8)(v:mg x1=P8)(l:Lr x1*>(.type n1))(t:n1∈kn)(w:mg x2=P8)(h:Lr x2*>(.type n2))(s:n2∈kn)(x:QE C K e m)(z:∀i,Gl (C i) "isinstance" :=by intro _;rfl)(o:∀i,Gl (C i) x1:=by intro _;rfl)(u:∀i,Gl (C i) x2:=by intro _;rfl)
  (hs:bH e=Qa:=by rfl) (f:x1≠("__name__" : Str):=by decide) (c:(x1==("__debug__" : Str))=Qa:=by decide) (d:x2≠("__name__" : Str):=by decide) (a:(x2==("__debug__" : Str))=Qa:=by decide):QE C K (.Call (.Name "isinstance" p) [e,.Tuple [.Name x1 p1,.Name x2 p2] j p3] [] pos) (mUn (fJ [n1,n2]) m):=by
 have(A,q,r):=x;show{_,λi=>jM (r:=Cf K [n1,n2]) (by have:=uu (X:=C i) [n1,n2];rw[g.kk i]at this;show this) (z i) (by rw[g.mg i];show y) OR (de (hs:=hs) (q i) (de (vA (de (nV (o i) (by rw[g.mg i];show v) l (wO n1) f c) (de (nV (u i) (by rw[g.mg i];show w) h (wO n2) d a) nT))) nT)) (by change(~~~bH e&&Qb)=Qb;rw[hs];rfl),?_};show qJ (vJ t s) r
end
def DN(h:tyN t*>n)(q:QT1 (.im (.bl (ns.any (lg n))))):W1 (fJ ns t) QT1:={_,by unfold fJ;rw[h];rfl,q}
def xF{prog:KP}{w:K2}{A:Li}{E:KA->KC->Prop}{s:KC}{z TI TO l i2:Addr}{B G:!Addr}{n1 n2 i:Nat}{P1 P2:Nat->KA->Prop}{S N:Nat->Heap->Prop}{a b:KA}{Q:KA->KC->Prop}
  (D1:NG prog w A l B n1 P1 S) (D2:NG prog w A i2 G n2 P2 N)
  (hz:Ph s.heap z TI TO .none) (hTI:LV s.heap TI (.ref l) (.ref i2)) (hTO:LV s.heap TO a b) (s1:S i s.heap) (s2:N i s.heap) (l1:i<n1) (l2:i<n2)
  (ap:TI≠z/\TO≠z/\TI≠TO/\TI≠l/\TI≠i2/\l≠z/\i2≠z/\l≠TO/\i2≠TO/\l≠i2) (f1:z∉B/\TO∉B/\i2∉B) (Y:z∉G/\TO∉G/\l∉G)
  (k:∀x y h' tk,P1 i x->P2 i y->Ph h' z TI TO (Mq s.heap.objs.size)->LV h' TO x y->S (i+1) h'->N (i+1) h'->LV h' s.heap.objs.size x y->h'.objs.size=s.heap.objs.size+1 ->
   (∀c o,c≠z->c≠TO->c≠l->c≠i2->s.heap.get? c*>o->h'.get? c*>o)->Q (.ref s.heap.objs.size) {s with heap:=h',toks:=tk}) :
  KI (KO prog w) A (KJ.«zip.__next__» {[.ref z],[]}) (λfin s'=>∃v,fin=Fin.done (Flow.ret v)/\Q v s') E s:=by
 change KI _ _ (OJ (.ref z) 2 >>= _) _ _ _;show Kz (K6 hz rfl (x:=.bool Qa) rfl ?_);show Kz (K6 hz rfl (x:=.ref TI) rfl ?_);show Kz (Lu hTI rfl ?_);change KI _ _ (Mg (.ref z) >>= _) _ _ _;show Kz ?_;change KI _ _ (OJ (.ref z) 0 >>= _) _ _ _;show Kz (K6 hz rfl (x:=.none) rfl ?_);show KD ?_;change KI _ _ (rule _ >>= _) _ _ _;show Kz (MR ?_);show Kz (K6 hz rfl (x:=.ref TO) rfl ?_);show Kz (LU hz rfl (Hm _) ?_);have hz1:=Ly (Lm λd=>d.setIfInBounds 0 Ma) hz rfl;have U:=Lv s.heap z (Lm λd=>d.setIfInBounds 0 Ma);generalize s.heap.update z (Lm λd=>d.setIfInBounds 0 Ma)=h1 at hz1 U|-;obtain⟨a1,a2,a3,a4,a5,a6,a7,a8,a9,a10⟩:=ap;show Kz ?_;change KI _ _ (forIn [(LL l,0),(LL i2,1)] ((P8:↑PySem.Fin),()) _) _ _ _;rw[HH];show Kz (Kz (Nk ?_));change KI _ _ (KS (.ref l) >>= _) _ _ _;show Kz (D1.item i _ _ _ l1 (D1.frame i _ _ s1 λc h o e=>(U.2 c λq=>f1.1 (q▸h)).trans e) λx h2 t2 px s1' b2=>?_);show KD ?_;have t:KZ l h1 h2:=b2;have H:LV h2 TO a b:=((t.2 TO (K3 a8)).trans (U.2 TO a2)).trans hTO;change KI _ _ (Np (.ref TO) >>= _) _ _ _;show Kz (Lu H rfl ?_);show Kz (My H λh3 Z b3=>?_);have j:KZ TO h2 h3:=b3;show Kz (NQ (KD ?_));change KI _ _ (forIn [(LL i2,1)] ((P8:↑PySem.Fin),()) _) _ _ _;rw[HH];show Kz (Kz (Nk ?_));change KI _ _ (KS (.ref i2) >>= _) _ _ _;have M:LV h3 TO x b:=Z;show Kz (D2.item i _ _ _ l2 (D2.frame i _ _ s2 λc h o e=>(j.2 c λq=>Y.2.1 (q▸h)).trans ((t.2 c λq=>Y.2.2 (q▸h)).trans ((U.2 c λq=>Y.1 (q▸h)).trans e))) λy h4 t4 py s2' b4=>?_);show KD ?_;have r:KZ i2 h3 h4:=b4;have J:LV h4 TO x b:=(r.2 TO (K3 a9)).trans M;change KI _ _ (Np (.ref TO) >>= _) _ _ _;show Kz (Lu J rfl ?_);show Kz (My J λf hTO5 b5=>?_);have p:KZ TO h4 f:=b5;show Kz (NQ (KD ?_));have m:LV f TO x y:=hTO5;change KI _ _ (forIn ([]:!(KA×Nat)) ((P8:↑PySem.Fin),()) _) _ _ _;rw[JA];show KD ?_;change KI _ _ (Np (.ref TO) >>= _) _ _ _;show Kz (Lu m rfl ?_);show Kz (wpAny_newTuple (items:=[x,y]) ?_ (by change 2<=sizeLine;decide));have hz5:f.get? z=_:=(p.2 z (K3 a2)).trans ((r.2 z (K3 a7)).trans ((j.2 z (K3 a2)).trans ((t.2 z (K3 a6)).trans hz1)));have sz:f.objs.size=s.heap.objs.size:=p.1.trans (r.1.trans (j.1.trans (t.1.trans U.1)));have X:=KB {cls:=.type "tuple",data:=.seq [x,y].toArray} hz5;have hn6:=KN f (o:={cls:=.type "tuple",data:=.seq [x,y].toArray}) rfl;change KI _ _ (NZ (.ref z) (.ref f.objs.size) >>= _) _ _ _;show Kz ?_;change KI _ _ (setField (.ref z) 0 (Mq f.objs.size) >>= _) _ _ _;show Kz (LU X rfl (Hm _) ?_);have O:=Ly (Lm λd=>d.setIfInBounds 0 (Mq f.objs.size)) X rfl;have b7:=Lv (f.push {cls:=.type "tuple",data:=.seq [x,y].toArray}) z (Lm λd=>d.setIfInBounds 0 (Mq f.objs.size));generalize (f.push {cls:=.type "tuple",data:=.seq [x,y].toArray}).update z (Lm λd=>d.setIfInBounds 0 (Mq f.objs.size))=h7 at O b7|-;show LU O rfl (Nat.succ_lt_succ (Hm _)) ?_;have hz8:=Ly (Lm λd=>d.setIfInBounds 1 (LX Qa)) O rfl;have b8:=Lv h7 z (Lm λd=>d.setIfInBounds 1 (LX Qa));generalize h7.update z (Lm λd=>d.setIfInBounds 1 (LX Qa))=h8 at hz8 b8|-;have zl:z<s.heap.objs.size:=KM hz;have nz:f.objs.size≠z:=by rw[sz];show Hy zl
 have g:∀c o,c≠z->f.get? c*>o->h8.get? c*>o:=λc o n e=>(b8.2 c n).trans ((b7.2 c n).trans (KB _ e));show KD {_,Xr,?_};have e9:(s.heap.objs.size)=f.objs.size:=sz.symm;rw[<-e9];show k x y h8 t4 px py ?_ ?_ ?_ ?_ ?_ ?_ ?_;rw[e9];show hz8;show g TO _ a2 m;show D1.frame _ _ _ s1' λc h o e=>g c o (λq=>f1.1 (q▸h)) ((p.2 c λq=>f1.2.1 (q▸h)).trans ((r.2 c λq=>f1.2.2 (q▸h)).trans ((j.2 c λq=>f1.2.1 (q▸h)).trans e)));show D2.frame _ _ _ s2' λc h o e=>g c o (λq=>Y.1 (q▸h)) ((p.2 c λq=>Y.2.1 (q▸h)).trans e);rw[e9];show(b8.2 _ nz).trans ((b7.2 _ nz).trans hn6);rw[b8.1,b7.1,Lq,e9]
 .intro c o n1 n2 n3 n4 e;show g c o n1 ((p.2 c n2).trans ((r.2 c n4).trans ((j.2 c n2).trans ((t.2 c n3).trans ((U.2 c n1).trans e)))))
def zP{prog:KP}{w:K2}{A:Li}{E:KA->KC->Prop}{s:KC}{z TI TO g i2:Addr}{p m:!Addr}{j G i:Nat}{P1 P2:Nat->KA->Prop}{B N:Nat->Heap->Prop}{a b:KA}{Q:PySem.Fin->KC->Prop}
  (Z:NG prog w A g p j P1 B) (D2:NG prog w A i2 m G P2 N)
  (hz:Ph s.heap z TI TO .none) (hTI:LV s.heap TI (.ref g) (.ref i2)) (hTO:LV s.heap TO a b) (s1:B i s.heap) (s2:N i s.heap) (l:i=j\/(i<j/\i=G))
  (ap:TI≠z/\TO≠z/\TI≠TO/\TI≠g/\TI≠i2/\g≠z/\i2≠z/\g≠TO/\i2≠TO/\g≠i2) (f1:z∉p/\TO∉p/\i2∉p) (f2:z∉m/\TO∉m/\g∉m)
  (k:∀h' e L,(∀c o,c≠z->c≠TO->c≠g->c≠i2->s.heap.get? c*>o->h'.get? c*>o)->(∃o,h'.get? e*>o/\o.cls=.type "StopIteration")->E (.ref e) {s with heap:=h',toks:=L}) :
  KI (KO prog w) A (KJ.«zip.__next__» {[.ref z],[]}) Q E s:=by
 change KI _ _ (OJ (.ref z) 2 >>= _) _ _ _;show Kz (K6 hz rfl (x:=.bool Qa) rfl ?_);show Kz (K6 hz rfl (x:=.ref TI) rfl ?_);show Kz (Lu hTI rfl ?_);change KI _ _ (Mg (.ref z) >>= _) _ _ _;show Kz ?_;change KI _ _ (OJ (.ref z) 0 >>= _) _ _ _;show Kz (K6 hz rfl (x:=.none) rfl ?_);show KD ?_;change KI _ _ (rule _ >>= _) _ _ _;show Kz (MR ?_);show Kz (K6 hz rfl (x:=.ref TO) rfl ?_);show Kz (LU hz rfl (Hm _) ?_);have y:=Ly (Lm λf=>f.setIfInBounds 0 Ma) hz rfl;have J:=Lv s.heap z (Lm λf=>f.setIfInBounds 0 Ma);generalize s.heap.update z (Lm λf=>f.setIfInBounds 0 Ma)=h1 at y J|-;obtain⟨a1,a2,a3,a4,a5,a6,a7,a8,a9,a10⟩:=ap;show Kz ?_;change KI _ _ (forIn [(LL g,0),(LL i2,1)] ((P8:↑PySem.Fin),()) _) _ _ _;rw[HH];show Kz (Kz (Nk ?_));change KI _ _ (KS (.ref g) >>= _) _ _ _;have q1:B i h1:=Z.frame i _ _ s1 λc M o e=>(J.2 c λq=>f1.1 (q▸M)).trans e;have u:∀(H:Heap) (e:Addr) (L:Nat) (Y:Obj),H.get? z*>Y->(∃vs,Y.data=.fields vs/\0<vs.size)->Y.cls=.type "zip" -> (∀c o,c≠z->c≠TO->c≠g->c≠i2->s.heap.get? c*>o->H.get? c*>o)->(∃o,H.get? e*>o/\o.cls=.type "StopIteration") ->
   KI (KO prog w) A (setField (.ref z) 0 LQ) (λ_ s''=>E (.ref e) s'') E {s with heap:=H,toks:=L}:=by
  intro H e L Y g1 g2 g3 g4 g5;have(vs,d,lz):=g2;show LU g1 d lz ?_;have b9:=Lv H z (Lm λf=>f.setIfInBounds 0 LQ);have(o,g6,g7):=g5;have nez:e≠z:=λq=>by
   subst q;rw[g1]at g6;cases g6;rw[g3]at g7;show absurd g7 (by decide +kernel)
  show k _ e L (λc o j G U X h=>(b9.2 c j).trans (g4 c o j G U X h)) {o,(b9.2 e nez).trans g6,g7}
 rcases l with rfl|⟨l1,rfl⟩
 .show Kz (Z.done _ _ _ q1 λO e x2 st=>?_);show u O e _ _ (x2 z _ (K3 a6) y) {_,Xr,Hm _} rfl (λc o j G U X h=>x2 c o U ((J.2 c j).trans h)) st
 .show Kz (Z.item i _ _ _ l1 q1 λx O t2 px s1' b2=>?_);show KD ?_;have r:KZ g h1 O:=b2;have t:LV O TO a b:=((r.2 TO (K3 a8)).trans (J.2 TO a2)).trans hTO;change KI _ _ (Np (.ref TO) >>= _) _ _ _;show Kz (Lu t rfl ?_);show Kz (My t λh3 hTO3 b3=>?_);have v:KZ TO O h3:=b3;show Kz (NQ (KD ?_));change KI _ _ (forIn [(LL i2,1)] ((P8:↑PySem.Fin),()) _) _ _ _;rw[HH];show Kz (Kz (Nk ?_));change KI _ _ (KS (.ref i2) >>= _) _ _ _;show Kz (D2.done _ _ _ (D2.frame i _ _ s2 λc M o e=>(v.2 c λq=>f2.2.1 (q▸M)).trans ((r.2 c λq=>f2.2.2 (q▸M)).trans ((J.2 c λq=>f2.1 (q▸M)).trans e))) λh4 e x4 st=>?_);show u h4 e _ _ (x4 z _ (K3 a7) ((v.2 z (K3 a2)).trans ((r.2 z (K3 a6)).trans y))) {_,Xr,Hm _} rfl (λc o j G U X h=>x4 c o X ((v.2 c G).trans ((r.2 c U).trans ((J.2 c j).trans h)))) st
def lW{prog:KP}{w:K2}{A:Li}{E:KA->KC->Prop}{s:KC}{z TI TO f i2:Addr}{d e:!Addr}{u t i:Nat}{p v:Nat->KA->Prop}{g h:Nat->Heap->Prop}{a b:KA}{Q:↑KA->KC->Prop}
  (B:NG prog w A.in1 f d u p g) (G:NG prog w A.in1 i2 e t v h)
  (hz:Ph s.heap z TI TO .none) (m:LV s.heap TI (.ref f) (.ref i2)) (l:LV s.heap TO a b) (N:g i s.heap) (L:h i s.heap) (l1:i<u) (l2:i<t)
  (J:TI≠z/\TO≠z/\TI≠TO/\TI≠f/\TI≠i2/\f≠z/\i2≠z/\f≠TO/\i2≠TO/\f≠i2) (H:z∉d/\TO∉d/\i2∉d) (M:z∉e/\TO∉e/\f∉e)
  (k:∀x y h' j,p i x->v i y->Ph h' z TI TO (Mq s.heap.objs.size)->LV h' TO x y->g (i+1) h'->h (i+1) h'->LV h' s.heap.objs.size x y->h'.objs.size=s.heap.objs.size+1 ->
   (∀c o,c≠z->c≠TO->c≠f->c≠i2->s.heap.get? c*>o->h'.get? c*>o)->Q (P9 (.ref s.heap.objs.size)) {s with heap:=h',toks:=j}) :
  KI (KO prog w) A (Mp (.ref z)) Q E s:=by
 have q:s.TypeIs (.ref z) "zip" :={_,hz,Xr};unfold Mp;show Kz (N6 (Lh (name:=K9 "__next__") q MH (Ln MH q OB ?_ (Os _))));show xF B G hz m l N L l1 l2 J H M λx y h' j c1 c2 c3 c4 c5 c6 c7 c8 c9=>?_;show KD (k x y h' j c1 c2 c3 c4 c5 c6 c7 c8 c9)
def jb{prog:KP}{w:K2}{A:Li}{E:KA->KC->Prop}{s:KC}{z TI TO g i2:Addr}{d f:!Addr}{q v i:Nat}{x U:Nat->KA->Prop}{h j:Nat->Heap->Prop}{a b:KA}{Q:↑KA->KC->Prop}
  (B:NG prog w A.in1 g d q x h) (G:NG prog w A.in1 i2 f v U j)
  (hz:Ph s.heap z TI TO .none) (p:LV s.heap TI (.ref g) (.ref i2)) (m:LV s.heap TO a b) (S:h i s.heap) (L:j i s.heap) (l:i=q\/(i<q/\i=v))
  (J:TI≠z/\TO≠z/\TI≠TO/\TI≠g/\TI≠i2/\g≠z/\i2≠z/\g≠TO/\i2≠TO/\g≠i2) (H:z∉d/\TO∉d/\i2∉d) (O:z∉f/\TO∉f/\g∉f)
  (k:∀h' t,(∀c o,c≠z->c≠TO->c≠g->c≠i2->s.heap.get? c*>o->h'.get? c*>o)->Q P8 {s with heap:=h',toks:=t}) :
  KI (KO prog w) A (Mp (.ref z)) Q E s:=by
 have r:s.TypeIs (.ref z) "zip" :={_,hz,Xr};unfold Mp;show Kz (N6 (Lh (name:=K9 "__next__") r MH (Ln MH r OB ?_ (Os _))));show zP B G hz p m S L l J H O λh' e t y st=>?_;have(o,N,M):=st;show Kz (OA (T:="StopIteration") (b:=Qb) ⟨o,N,M⟩ Pe ?_);show KD (k _ _ y)
abbrev Kk(c:Bool)(h:Heap)(l:Addr)(a:Array KA):Prop:=match c with|true=>h.IsList l a|false=>h.IsTuple l a
abbrev Kg(a:Bool)(h:Heap)(it l:Addr)(k:Nat):Prop:=match a with|true=>h.IsListIter it l k|false=>h.IsTupleIter it l k
abbrev itC(a:Bool):String:=match a with|true=>"list_iterator" | false=>"tuple_iterator"
noncomputable abbrev itO(kd:Bool) (l:Addr):Obj:={cls:=.type (itC kd),data:=.fields #[.ref l,.int 0 0]}
def rN(a:Bool)(h:Kk a s.heap l els)(q:Q (.ref s.heap.objs.size) {s with heap:=s.heap.push (itO a l)}):KI (KO prog w) A (NO (.ref l)) Q E s:=by
 cases a with
 | true=>show M9 h q
 | false=>show LZ h q
def Kk.keep(x:Kk kd h l els)(k:∀o,h.get? l*>o->h'.get? l*>o):Kk kd h' l els:=by
 cases kd with
 | true=>have(o,e,r):=x;show{o,k o e,r}
 | false=>have(o,e,r):=x;show{o,k o e,r}
def Kk.get(x:Kk kd h l els):∃o,h.get? l*>o:=by
 cases kd with
 | true=>have(o,e,r):=x;show⟨o,e⟩
 | false=>have(o,e,r):=x;show⟨o,e⟩
noncomputable abbrev zK2(h:Heap) (k1 k2:Bool) (la1 la2:Addr):Heap:=(h.push (itO k1 la1)).push (itO k2 la2)
noncomputable abbrev zK3(h:Heap) (k1 k2:Bool) (la1 la2:Addr):Heap:=(zK2 h k1 k2 la1 la2).push {cls:=.type "tuple",data:=.seq #[.ref h.objs.size,.ref (h.push (itO k1 la1)).objs.size]}
noncomputable abbrev zK4(h:Heap) (k1 k2:Bool) (la1 la2:Addr):Heap:=(zK3 h k1 k2 la1 la2).push {cls:=.type "tuple",data:=.seq #[.none,.none]}
noncomputable abbrev zK5(h:Heap) (k1 k2:Bool) (la1 la2:Addr):Heap:=(zK4 h k1 k2 la1 la2).push {cls:=.type "zip",data:=.fields #[.none,.bool Qa,.bool Qa,.ref (zK2 h k1 k2 la1 la2).objs.size,.ref (zK3 h k1 k2 la1 la2).objs.size]}
def qf(i h:Bool)(c a:Addr)(xs p:Array KA) :
  P3 (KJ.«zip.__new__» {[.type "zip",.ref c,.ref a],[]}) (λ_ R s=>Kk i s.heap c xs/\Kk h s.heap a p/\R (.ok (.ret (.ref (zK4 s.heap i h c a).objs.size))) {s with heap:=zK5 s.heap i h c a}):=
 .of_wp λv w y RR u f=>by
  obtain⟨r,g,d,x,os⟩:=u;obtain⟨q,t,f⟩:=f;have j:=sub_zip;have l:Kk h (r.push (itO i c)) a p:=t.keep λo e=>KB _ e;wp_walk using rN i q,rN h l
  show{_,Xr,f}
def sD(y:Kk k1 s.heap la1 xs)(z:Kk k2 s.heap la2 ys)
  (x:∀h',Ph h' (s.heap.objs.size+4) (s.heap.objs.size+2) (s.heap.objs.size+3) .none->LV h' (s.heap.objs.size+2) (.ref s.heap.objs.size) (.ref (s.heap.objs.size+1))->LV h' (s.heap.objs.size+3) .none .none ->
   Kg k1 h' s.heap.objs.size la1 0->Kg k2 h' (s.heap.objs.size+1) la2 0->h'.objs.size=s.heap.objs.size+5->(∀c o,s.heap.get? c*>o->h'.get? c*>o)->Q (.ref (s.heap.objs.size+4)) {s with heap:=h'}) :
  KI (KO prog w) A (call (.type "zip") [.ref la1,.ref la2]) Q E s:=by
 show callType_new F.called_zip (by decide) (F.typeCall_zip_2 _ _) (F.newCall_zip_2 _ _) (λm=>F.args_object_init_3 m _ _) F.entry_zip_new (qf k1 k2 la1 la2 xs ys) {y,z,?_};have i:(s.heap.push (itO k1 la1)).objs.size=s.heap.objs.size+1:=Lq ..;have d:(zK2 s.heap k1 k2 la1 la2).objs.size=s.heap.objs.size+2:=by rw[zK2,Lq,i]
 have f:(zK3 s.heap k1 k2 la1 la2).objs.size=s.heap.objs.size+3:=by rw[zK3,Lq,d]
 have j:(zK4 s.heap k1 k2 la1 la2).objs.size=s.heap.objs.size+4:=by rw[zK4,Lq,f]
 have B:(s.heap.push (itO k1 la1)).get? s.heap.objs.size*>(itO k1 la1):=KN _ rfl;have G:(zK2 s.heap k1 k2 la1 la2).get? (s.heap.objs.size+1)*>(itO k2 la2):=by have:=KN (s.heap.push (itO k1 la1)) (o:=itO k2 la2) rfl;rw[i]at this;show this
 have t:=KN (zK2 s.heap k1 k2 la1 la2) (o:={cls:=.type "tuple",data:=.seq #[.ref s.heap.objs.size,.ref (s.heap.push (itO k1 la1)).objs.size]}) rfl;have r:=KN (zK3 s.heap k1 k2 la1 la2) (o:={cls:=.type "tuple",data:=.seq #[.none,.none]}) rfl;have q:=KN (zK4 s.heap k1 k2 la1 la2) (o:={cls:=.type "zip",data:=.fields #[.none,.bool Qa,.bool Qa,.ref (zK2 s.heap k1 k2 la1 la2).objs.size,.ref (zK3 s.heap k1 k2 la1 la2).objs.size]}) rfl;rw[d,i]at t;rw[f]at r;rw[j,d,f]at q;have p:∀c o,(zK2 s.heap k1 k2 la1 la2).get? c*>o->(zK5 s.heap k1 k2 la1 la2).get? c*>o:=λc o e=>KB _ (KB _ (KB _ e));have it:∀(g:Bool) (h:Heap) (a l:Addr),h.get? a*>(itO g l)->Kg g h a l 0:=λg h a l e=>by
  cases g;show{_,e,Xr,Xr};show{_,e,Xr,Xr}
 change _/\_;rw[j];have v:(zK5 s.heap k1 k2 la1 la2).get? (s.heap.objs.size+4)=P9 {cls:=.type "zip",data:=.fields #[.none,.bool Qa,.bool Qa,.ref (s.heap.objs.size+2),.ref (s.heap.objs.size+3)]}:=by
  change(P7 _ _).get? _=_;rw[d,f];show q
 show{{_,v,Xr},x _ v ?_ ?_ (it _ _ _ _ (p _ _ (KB _ B))) (it _ _ _ _ (p _ _ G)) ?_ λc o e=>p c o (KB _ (KB _ e))}
 .show KB _ (KB _ ?_);change(P7 _ _).get? _=_;rw[i];show t
 .show KB _ r
 .rw[zK5,Lq,j]
def nC(e:A.handled=P8)(c:Bool)(it l:Addr)(d:l≠it)(a:Array KA):NG prog w A it [it,l] a.size (λk v=>a[k]?*>v) (λk h=>Kg c h it l k/\Kk c h l a):=by
 cases c with
 | true=>show PX e it l d a
 | false=>show j0 e it l d a
def uz(hh:A.handled=P8)(kd:Bool)(it l:Addr)(els:Array KA)(i:Nat)(hi:els[i]?=P8):NG prog w A it [it,l] i (λk v=>els[k]?*>v) (λk h=>k=i/\Kg kd h it l k/\Kk kd h l els) where
 live:=λk h st=>by
  obtain⟨_,st,_⟩:=st;cases kd;obtain⟨o,e,_⟩:=st;show⟨o,e⟩;obtain⟨o,e,_⟩:=st;show⟨o,e⟩
 frame:=λk h h' st hk=>by
  obtain⟨e,st,sq⟩:=st;show{e,?_,sq.keep λo e=>hk l ∅ o e};cases kd;obtain⟨o,e,r⟩:=st;show{o,hk it ∅ o e,r};obtain⟨o,e,r⟩:=st;show{o,hk it ∅ o e,r}
 item:=λk s Q E hlt st _=>by
  have:=st.1;omega
 done:=λs Q E st kk=>by
  obtain⟨_,st,sq⟩:=st;cases kd with
  | true=>show NK hh st sq hi kk
  | false=>show fN hh st sq hi kk
abbrev SqK(K:yF)(H:Hp)(c:Bool)(a:Addr)(xs:!V):Prop:=match c with|true=>SqL K H a xs|false=>SqT K H a xs
def Inv.seqK(I:Inv X OK Z H s)(h:SqK X.K H kd a xs):∃c:!KA,Vals xs c/\Kk kd s.heap a c.toArray:=by
 cases kd with
 | true=>
  have(c,d,p,_):=I.list h;have(o,n,f,g,i,e):=p;show⟨c,d,o,f,g,n,e⟩
 | false=>
  have(c,d,p,_):=I.tuple h;show⟨c,d,p⟩
def Inv.seqK_inj(I:Inv X OK Z H s)(h:SqK X.K H kd a xs)(h':SqK X.K H kd a ys):xs=ys:=by
 cases kd with
 | true=>show I.list_inj h h'
 | false=>show I.tuple_inj h h'
abbrev Itz(K:yF) (e d:Bool) (f g:Addr):It:=
 {λi H=>∃a c x y,SqK K H e f a/\SqK K H d g c/\a[i]?*>x/\c[i]?*>y,
   λi H v h=>∃p x y,H p=P8/\v=.ref p/\h=upd H p (.tup [x,y])/\(∀a,SqK K H e f a->a[i]?*>x)/\∀c,SqK K H d g c->c[i]?*>y,
   λi H=>∃a c,SqK K H e f a/\SqK K H d g c/\(a.length<=i\/c.length<=i)}
def Inv.turnedL{X:Cx}{g:!(Addr×Obj)}{Z:St}{H:Hp}{s:KC}{h':Heap}{t':Nat}{fs:!Addr}(I:Inv X g Z H s)(k:∀b o,b∉fs->s.heap.get? b*>o->h'.get? b*>o)(f:∀b∈fs,dW X g H b):Inv X g Z H {s with heap:=h',toks:=t'}:=by
 have d:∀b u,H b*>u->b∉fs:=λb u e z=>by rw[(f b z).1]at e;cases e
 have i:X.env.locals∉fs:=λz=>(f _ z).2.1 rfl;show I.step (g':=s.gens) (d':=s.drawn) (ch:=fs) (λb x=>?_) (λb o _ _ a e _=>k b o a e) (λb o _ _ a e _=>{o.slots,k b o a e}) (λ_ _ _ _ n=>n)
  (λb o a e=>{o,k b o a e}) (λ_ _ e=>e) (λ_ _ _ e=>e) (λb E e=>{#[],by rw[e];simp}) (λm j=>?_) (λb u e=>?_) I.bare
 .have(_,B,_,t,y,l):=f b x;show⟨t,B,y,l⟩
 .have(o,w,A,p,r):=j;show{o,w,A,k _ o i p,r}
 .show(I.hok b u e).stay (λc v a q=>k c v ?_ q) (λ_ q=>q) λ_ _ q=>q;rcases a with z|z;rw[z];show d b u e;show d c _ z
def Kg.get(x:Kg kd h it l k):∃o,h.get? it*>o/\∀v,o.data ≠ .cell v:=by
 cases kd with
 | true=>have(o,e,c,d):=x;show{o,e,λv z=>by rw[d]at z;cases z}
 | false=>have(o,e,c,d):=x;show{o,e,λv z=>by rw[d]at z;cases z}
def Kg.keep(x:Kg kd h it l k)(a:∀o,h.get? it*>o->h'.get? it*>o):Kg kd h' it l k:=by
 cases kd with
 | true=>have(o,e,r):=x;show{o,a o e,r}
 | false=>have(o,e,r):=x;show{o,a o e,r}
structure ZAp(z TI TO i1 i2 l1 l2:Addr):Prop where
 ap:TI≠z/\TO≠z/\TI≠TO/\TI≠i1/\TI≠i2/\i1≠z/\i2≠z/\i1≠TO/\i2≠TO/\i1≠i2
 f1:z∉[i1,l1]/\TO∉[i1,l1]/\i2∉[i1,l1]
 f2:z∉[i2,l2]/\TO∉[i2,l2]/\i1∉[i2,l2]
 n1:l1≠i1
 n2:l2≠i2
def xh{P:KP}{w:K2}{K:yF}{elts:!Expr}{k0:Nat}{pos:Pos}(k1 k2:Bool){z TI TO i1 i2 l1 l2:Addr}(A:ZAp z TI TO i1 i2 l1 l2) :
  Ko P w K (.Tuple elts k0 pos) (Itz K k1 k2 l1 l2) [z,TI,TO,i1,i2] z (λi h=>Ph h z TI TO .none/\LV h TI (.ref i1) (.ref i2)/\(∃a b,LV h TO a b)/\Kg k1 h i1 l1 i/\Kg k2 h i2 l2 i) where
 mem:=by simp
 obj:=λi h st b hb=>by
  obtain⟨s1,s2,⟨a,c,s3⟩,s4,s5⟩:=st;dsimp[Gg,Gf,or_false]at hb;rcases hb with rfl|rfl|rfl|rfl|rfl;show{_,s1,λv z=>by cases z};show{_,s2,λv z=>by cases z};show{_,s3,λv z=>by cases z};show s4.get;show s5.get
 keep:=λi h h' st k=>by
  obtain⟨s1,s2,⟨a,c,s3⟩,s4,s5⟩:=st;show{k z ∅ _ s1,k TI ∅ _ s2,{a,c,k TO ∅ _ s3},s4.keep λo e=>k i1 ∅ o e,s5.keep λo e=>k i2 ∅ o e}
 item:=by
  intro X hP hw hK hc i OK s Z H E I hf st hg;subst hP hw hK;have(xs,ys,x,y,hq1,hq2,hx,hy):=hg;have(its1,rv1,p1):=I.seqK hq1;have(its2,rv2,p2):=I.seqK hq2;have(u1,hu1,ru1):=rv1.get hx;have(u2,hu2,ru2):=rv2.get hy;obtain⟨s1,s2,⟨a,c,s3⟩,s4,s5⟩:=st;have hn1:i<its1.toArray.size:=by rw[FN];show(FL.mp hu1).1
  have hn2:i<its2.toArray.size:=by rw[FN];show(FL.mp hu2).1
  have hh:X.A.in1.handled=P8:=I.ok.hd hc;show lW (nC (A:=X.A.in1) hh k1 i1 l1 A.n1 its1.toArray) (nC (A:=X.A.in1) hh k2 i2 l2 A.n2 its2.toArray) s1 s2 s3 ⟨s4,p1⟩ ⟨s5,p2⟩ hn1 hn2 A.ap A.f1 A.f2 λx' y' h1 tk px py hz1 hTO1 st1 st2 hpr hsz kk=>?_;have ex:x'=u1:=by
   have e1:its1.toArray[i]?*>x':=px;have e2:its1.toArray[i]?*>u1:=by exists hu1
   rw[e1]at e2;show F9.inj e2
  have ey:y'=u2:=by
   have e1:its2.toArray[i]?*>y':=py;have e2:its2.toArray[i]?*>u2:=by exists hu2
   rw[e1]at e2;show F9.inj e2
  subst ex ey;show{_,Xr,wpAny_letOwnedTupleGo_zip hz1 λh2 hz2 sb=>?_};have sb':KZ z h1 h2:=sb;have hzl:z<s.heap.objs.size:=KM s1;obtain⟨a1,a2,a3,a4,a5,a6,a7,a8,a9,a10⟩:=A.ap;have k2':∀b o,b∉[z,TO,i1,i2]->s.heap.get? b*>o->h2.get? b*>o:=λb o n q=>by
   dsimp[Gg,Gf,or_false,not_or]at n;show(sb'.2 b n.1).trans (kk b o n.1 n.2.1 n.2.2.1 n.2.2.2 q)
  have I1:Inv X OK Z H {s with heap:=h2,toks:=tk}:=I.turnedL k2' λb hb=>hf b (by
   dsimp[Gg,Gf,or_false]at hb|-;rcases hb with h|h|h|h<;>simp[h])
  have fz:dW X OK H s.heap.objs.size:=I.fpOk (FV _) (I.hok.fresh (FV _));have hT2:h2.get? s.heap.objs.size=P9 {cls:=.type "tuple",data:=.seq #[x',y']}:=(sb'.2 _ (Hy hzl)).trans hpr;have I2:Inv X OK Z (upd H s.heap.objs.size (.tup [x,y])) {s with heap:=h2,toks:=tk}:=I1.track fz (.inr I.sz) I.sz {by change 2<=sizeLine;decide,[x',y'],.cons ru1 (.cons ru2 .nil),{_,hT2,⟨Xr,Xr⟩,_,Xr}};show{.ref s.heap.objs.size,_,I2,Xr,{_,x,y,fz.1,Xr,Xr,λys' hy'=>by rw[I.seqK_inj hy' hq1];show hx,λys' hy'=>by rw[I.seqK_inj hy' hq2];show hy},{hz2,?_,{_,_,(sb'.2 TO a2).trans hTO1},st1.1.keep λo e=>(sb'.2 i1 a6).trans e,st2.1.keep λo e=>(sb'.2 i2 a7).trans e},λb hb=>?_};show(sb'.2 TI a1).trans (kk TI _ a1 a3 a4 a5 s2)
  .have hbo:∃o,s.heap.get? b*>o:=by
    dsimp[Gg,Gf,or_false]at hb;rcases hb with rfl|rfl|rfl|rfl|rfl;show{_,s1};show{_,s2};show{_,s3};have(o,e,_):=s4.get;show⟨o,e⟩;have(o,e,_):=s5.get;show⟨o,e⟩
   have(o,q):=hbo;rw[upd_ne (Ga (KM q))];show(hf b hb).1
 done:=by
  intro X hP hw hK hc i OK s Z H E I hf st hg;subst hP hw hK;have(xs,ys,hq1,hq2,hl):=hg;have(its1,rv1,p1):=I.seqK hq1;have(its2,rv2,p2):=I.seqK hq2;obtain⟨s1,s2,⟨a,c,s3⟩,s4,s5⟩:=st;have hh:X.A.in1.handled=P8:=I.ok.hd hc;have fin:∀h' tk,(∀c o,c≠z->c≠TO->c≠i1->c≠i2->s.heap.get? c*>o->h'.get? c*>o)->(P8:↑KA)=P8/\Inv X OK Z H {s with heap:=h',toks:=tk}:=λh' tk kk=>
   {Xr,I.turnedL (fs:=[z,TO,i1,i2]) (λb o n q=>by
    dsimp[Gg,Gf,or_false,not_or]at n;show kk b o n.1 n.2.1 n.2.2.1 n.2.2.2 q) λb hb=>hf b (by
    dsimp[Gg,Gf,or_false]at hb|-;rcases hb with h|h|h|h<;>simp[h])}
  have l1':=rv1.length;have l2':=rv2.length;by_cases h1:xs.length<=i
  .have e1:its1.toArray[i]?=P8:=by simp;omega
   show jb (uz (A:=X.A.in1) hh k1 i1 l1 its1.toArray i e1) (nC (A:=X.A.in1) hh k2 i2 l2 A.n2 its2.toArray) s1 s2 s3 ⟨Xr,s4,p1⟩ ⟨s5,p2⟩ (.inl rfl) A.ap A.f1 A.f2 fin
  .have h2:ys.length<=i:=by omega
   have e2:its2.toArray[i]?=P8:=by simp;omega
   have hn1:i<its1.toArray.size:=by rw[FN];omega
   show jb (nC (A:=X.A.in1) hh k1 i1 l1 A.n1 its1.toArray) (uz (A:=X.A.in1) hh k2 i2 l2 its2.toArray i e2) s1 s2 s3 ⟨s4,p1⟩ ⟨Xr,s5,p2⟩ (.inr ⟨hn1,Xr⟩) A.ap A.f1 A.f2 fin
 self:=λ_ _ _ _ _ st h=>OC st.1 h
abbrev Dr(K:yF)(i:TA):TI:=λZ H R=>i Z H λvs a=>∃f e c d g h,vs=[.ref c,.ref d]/\SqK K a f c g/\SqK K a e d h/\R (Itz K f e c d) a
def BV{X:Cx}{a b:Expr}{U:TA}{elts:!Expr}{k0:Nat}{p pos pt:Pos}(hg:Gl X "zip")(hm:X.mg "zip" = P8)(ha:PA X [a,b] U)(v:aY [a,b]=Qb):PI X (.Tuple elts k0 pt) (.Call (.Name "zip" p) [a,b] [] pos) (Dr X.K U):=by
 intro OK s Z H R I h;have r:bH a=Qa:=by
  cases q:bH a with
  | true=>rw[aY,q]at v;cases v
  | false=>rfl
 have x:bH b=Qa:=by
  cases q:bH b with
  | true=>rw[aY,r,aY,q]at v;cases v
  | false=>rfl
 show PZ (gz I hg hm boot_zip (GB (thn (ha pos OK s Z H _ I h) λus f ⟨vs,H1,m,r1,q1⟩=>?_) (bf r) (by rw[bf x];rfl)));obtain⟨k1,k2,l1,l2,xs,ys,e,y,A,q⟩:=q1;subst e;have(u,u',rfl,ru,J):=pG r1;cases ru;cases J;have(Q,rv1,Y):=m.seqK y;have(M,rv2,L):=m.seqK A;have l:l1<f.heap.objs.size:=by have(o,e):=Y.get;show KM e
 have j:l2<f.heap.objs.size:=by have(o,e):=L.get;show KM e
 show sD Y L λh1 O G B w E hsz kk=>?_;show OC O ?_;have i:∀c:Nat,f.heap.objs.size+c≠l1:=λc=>Hy (F7 l (GK _ c));have g:∀c:Nat,f.heap.objs.size+c≠l2:=λc=>Hy (F7 j (GK _ c));have N:∀{c d:Nat},c≠d->f.heap.objs.size+c≠f.heap.objs.size+d:=λh z=>h (Nat.add_left_cancel z);show{f.heap.objs.size+4,[f.heap.objs.size+4,f.heap.objs.size+2,f.heap.objs.size+3,f.heap.objs.size,f.heap.objs.size+1],_,_,H1,Xr,m.kept (t':=f.toks) λb o e=>kk b o e,xh k1 k2 {?_,?_,?_,?_,?_},{O,G,{_,_,B},w,E},λb S=>?_,q};show{?_,?_,?_,?_,?_,?_,?_,?_,?_,?_}<;>first|show i _|show g _|show i 0|show g 0|show Ga l|show Ga j|show λz=>absurd (show(_:Nat)=_ from z) ⋯
 .dsimp[Gg,Gf,or_false,not_or];show{{?_,?_},{?_,?_},?_,?_}<;>first|show i _|show g _|show i 0|show g 0|show Ga l|show Ga j|show λz=>absurd (show(_:Nat)=_ from z) ⋯
 .dsimp[Gg,Gf,or_false,not_or];show{{?_,?_},{?_,?_},?_,?_}<;>first|show i _|show g _|show i 0|show g 0|show Ga l|show Ga j|show λz=>absurd (show(_:Nat)=_ from z) ⋯
 .first|show i _|show g _|show i 0|show g 0|show Ga l|show Ga j|show λz=>absurd (show(_:Nat)=_ from z) ⋯
 .first|show K3 (g 1)|show i _|show g _|show i 0|show g 0|show Ga l|show Ga j|show λz=>absurd (show(_:Nat)=_ from z) ⋯
 .have t:f.heap.objs.size<=b:=by
   dsimp[Gg,Gf,or_false]at S;rcases S with rfl|rfl|rfl|rfl|rfl<;>first|show FV _|show GK _ _
  show m.fpOk t (m.hok.fresh t)
abbrev oq:T->↑(Bool×!I)
 | .im (.tup a)=>P9 (Qa,a)
 | .li a=>P9 (Qb,a)
 | .im (.ls a)=>P9 (Qb,a)
 | _=>P8
abbrev qX(is js:!I):!R:=(is.zip js).map λp=>{.ow,.im (.tup [p.1,p.2])}
private def qc(a:MA):MI:={λO=>match a.run O with
 | some ([d,c],f)=>(match oq d.t,oq c.t with
  | some (_,e),P9 (_,g)=>P9 (([d,c],qX e g),f)
  | _,_=>P8)
 | _=>P8,a.mu}
def kL{K:yF}{H:Hp}{g:Bool}{is:!I}{v:V}:∀{t:T},Rpx K H t v->oq t*>(g,is)->∃a xs,v=.ref a/\SqK K H g a xs/\md K H is xs
 | .im (.tup _),r,e=>by cases e;show bQ r
 | .li _,r,e=>by cases e;have(a,xs,d,f,c):=bF r;show{a,xs,d,.inl f,c}
 | .im .non,_,e=>by cases e
 | .im (.bl _),_,e=>by cases e
 | .im (.int _),_,e=>by cases e
 | .im (.str _),_,e=>by cases e
 | .im (.ls _),r,e=>by cases e;have(a,xs,d,f,c):=j6 r;show{a,xs,d,.inl f,c}
 | .im (.fd _ _),_,e=>by cases e
 | .im (.exn _ _ _),_,e=>by cases e
 | .tup _,_,e=>by cases e
 | .lst _,_,e=>by cases e
 | .di _,_,e=>by cases e
 | .dc _,_,e=>by cases e
 | .dq _,_,e=>by cases e
 | .ins _ _,_,e=>by cases e
def C1{a:Gm}{Q N:Bool}{g j:Addr}{h c:R}{is js:!I}(e1:oq h.t*>(Q,is))(e2:oq c.t*>(N,js)):fF a (Itz a.K Q N g j) [.ref g,.ref j] [h,c] (qX is js):=λH O Z E S=>by
 replace S:Sim a H O Z ({P8,.ref g,h}::{P8,.ref j,c}::E):=S;have Y:Rpx a.K H h.t (.ref g):=S.rd (e:={P8,.ref g,h}) ymS;have R2:Rpx a.K H c.t (.ref j):=S.rd (e:={P8,.ref j,c}) (ymC _ ymS);have(b1,l,w,s,L):=kL Y e1;cases w;have(b2,o,w,u,J):=kL R2 e2;cases w;show{λi B=>{l,o,s,u,?_},λi r hr=>?_}
 .rw[L.length,J.length];unfold qX at B;rw[FM,IK]at B;omega
 .have(p,hp,rfl):=ar hr;have(A,m):=HC.mp hp;have(w1,d,v):=L.get A;have(X,f,z):=J.get m;show{⟨l,o,w1,X,s,u,d,f⟩,λx H' y=>?_};have(pp,x',y',q,rfl,rfl,U,hy):=y;have G:=U l s;rw[d]at G;cases G;have M:=hy o u;rw[f]at M;cases M;show S.fresh (New.tup q (.cons v (.cons z (by rw[md]))))
def zk{K:yF}{x:TA}{a:MA}(N:fo K x a):jn K (Dr K x) (qc a):=by
 intro c H O Z E Y m h A z f S q;dsimp[qc]at f q;ext f j g O1 J;ext f X is U js o s;cases f;show N c H O Z E _ _ _ z J S λvs d i u=>?_;obtain⟨v1,v2,rfl⟩:∃v1 v2,vs=[v1,v2]:=by
  cases vs with
  | nil=>cases i
  | cons v r=>cases r with
   | nil=>cases i
   | cons w r=>cases r with
    | nil=>show⟨v,w,Xr⟩
    | cons _ _=>cases i
 have l:Sim c d A Z (⟨P8,v1,j⟩::⟨P8,v2,g⟩::ag a.mu E):=u;have G:Rpx c.K d j.t v1:=l.rd (e:=⟨P8,v1,j⟩) ymS;have R2:Rpx c.K d g.t v2:=l.rd (e:=⟨P8,v2,g⟩) (ymC _ ymS);have(p,B,rfl,M,g2):=kL G o;have(y,L,rfl,Q,h2):=kL R2 s;subst z;show{X,U,p,y,B,L,Xr,M,Q,q c rfl (λ_ _ _ _ S=>S) _ [.ref p,.ref y] d rfl u (C1 o s)}
section
variable {ι : Type}{C:ι->Cx}{P:KP}{W:K2}{K:yF}{mg:Str->↑KA}{base:Heap}{k:Nat}{a b:Expr}{ms:MA}{pos:Pos}
def B9(c:CK C P W K mg base k)(T:Bi mg)(d:QA C K [a,b] ms)(e:∀i,Gl (C i) "zip" :=by intro _;rfl):QI C K (.Tuple elts k0 pt) (.Call (.Name "zip" p) [a,b] [] pos) (qc ms):=by
 have(f,q,n,r):=d;show{_,λi=>by have:=BV (X:=C i) (elts:=elts) (k0:=k0) (p:=p) (pos:=pos) (pt:=pt) (e i) (by rw[c.mg i];show T.b_zip) (q i) n;rw[c.kk i]at this;show this,zk r}
end
def C4(h:WA ms O λrs f=>∃c a e d is js,rs=[c,a]/\oq c.t*>(e,is)/\oq a.t*>(d,js)/\QI' [c,a] (qX is js) f):WI (qc ms) O QI':=by
 obtain⟨rs,f,i,c,a,e,d,is,js,rfl,g,j,q⟩:=h;show{_,_,_,by dsimp[qc,i,g,j],q}
section
variable {S α:Type}{O:Rho}{m:ME}{ms:MA}{g:MG}{s1:MS}{QE':R->Rho->Prop}{Q:Fl->Rho->Prop}{fr:! ↑Nat}
def xt(st:S->Rho)(emb : α->I)(P:Nat->S->!α->Prop) (h:WA ms O λrs c=>∃f d B A is js,rs=[f,d]/\oq f.t*>(B,is)/\oq d.t*>(A,js)/\min is.length js.length<sizeLine/\(eI fr c.length&&eM (g.mu++([]++m.mu)) fr.length&&[f,d].all (aw (muF fr (g.mu++([]++m.mu)))))=Qb/\∃o,c=st o/\P 0 o [] /\
  (∀(j:Nat) x y s l,is[j]?*>x->js[j]?*>y->P j s l->WG g {.ow,.im (.tup [x,y])} (inR fr (st s)) λc=>WE m c λr G=>∃x i,r={.ow,.im (emb x)}/\du fr (g.mu++([]++m.mu)) G (st s)=st i/\P (j+1) i (l++[x])) /\
  ∀s l,P (min is.length js.length) s l->QE' {.ow,.li (l.map emb)} (st s)):WE (bj fr (qc ms) g mYes m) O QE':=by unhygienic
 obtain⟨rs,c,L,f,d,B,A,is,js,rfl,M,N,X,al,o,rfl,Y,U,he⟩:=h;show lM (C4 {_,_,L,f,d,B,A,is,js,Xr,M,N,al,by unfold qX;rw[FM,IK];show X,λj a O=>∃s l,a=l.map (λx=>T.im (emb x))/\O=st s/\P j s l,{o,[],Xr,Xr,Y},?_,?_})
 .rintro j r a O H ⟨s,l,rfl,rfl,E⟩;have(p,J,rfl):=ar H;have(w,v):=HC.mp J;show WG.mono (U j p.1 p.2 s l w v E) λc q=>lS {λ_=>q.mono λr G ⟨x,i,e,Z,u⟩=>{_,e,i,l++[x],by simp,Z,u},λz=>by cases z}
 .rintro a O ⟨s,l,rfl,rfl,E⟩;rw[ib];show he s l ?_;have:(qX is js).length=min is.length js.length:=by unfold qX;rw[FM,IK]
  rw[<-this];show E
end
def vj(h:tyN t*>n)(a:ns.any (lg n)=b)(q:QT1 (.im (.bl b))):W1 (fJ ns t) QT1:=DN h (by rw[a];show q)
def BC(q:QT1 (.im (.bl Qa))):W1 (neT (.im (.bl a)) (.im (.bl a))) QT1:=w1 (x:=.im (.bl Qa)) (by unhygienic (cases a<;>rfl)) q
end L2
namespace L2
open PySem
noncomputable section
abbrev hJ(rec:!T->↑T):MS:=(aq (mIf (ak (mUn (fJ ["tuple","list"]) (ah 1))) (aq (mIf (mOr (ak (mOp neT (mUn (fJ ["tuple"]) (ah 0)) (mUn (fJ ["tuple"]) (ah 1)))) (ak (mOp neT (mUn (fJ ["list"]) (ah 0)) (mUn (fJ ["list"]) (ah 1))))) (aX (mC (.bl Qa))) mNext)
  (aX (i5 (mOp eqT (mB cB (aa 0 mNil)) (mB cB (aa 1 mNil))) (mB j9 (ac (bj [P8,P8,P8,P8] (qc (aa 0 (aa 1 mNil))) (cc (aC (ai 2) (aC (ai 3) mGNil))) mYes (mB rec (aa 2 (aa 3 mNil)))) mNil))))) mNext)
  (aq (mIf (mOr (ak (mOp neT (mUn (fJ ["bool"]) (ah 0)) (mUn (fJ ["bool"]) (ah 1)))) (ak (mOp neT (mUn (fJ ["str"]) (ah 0)) (mUn (fJ ["str"]) (ah 1))))) (aX (mC (.bl Qa))) mNext)
  (aX (i5 (mO (mUn (fJ ["tuple","list"]) (ah 0))) (mOp eqT (ah 0) (ah 1))))))
abbrev dU:Nat->!T->↑T
 | 0=>λa=>if a.length=2 then ce bw 2 a else P8
 | n+1=>λa=>if a.length=2 then ce (hJ (dU n)) 2 a else P8
end
end L2
namespace L2
open PySem PySem.Spec PyProof.Rows
section
variable {κ : Type}[DecidableEq κ]
abbrev ud(a:!(κ×V)) (k : κ):↑V:=(a.find? λc=>decide (c.1=k)).map (·.2)
def xn{p : κ×V}{r:!(κ×V)}{k : κ}(e:p.1=k):ud (p::r) k*>p.2:=by simp[ud,Ib,e]
def xm{p : κ×V}{r:!(κ×V)}{k : κ}(e:¬ p.1=k):ud (p::r) k=ud r k:=by simp[ud,Ib,e]
def KV.val{a:!(κ×V)}{vs:!(κ×KA)}(r:KV a vs)(k : κ):RelO (ud a k) (Ot vs k):=by
 unfold KV at r
 induction r with
 | nil=>show M3
 | @cons p q j d h t g=>
  have(f,i):=h;by_cases e:p.1=k
  .have c:q.1=k:=f.symm.trans e;have b:Ot (q::d) k*>q.2:=by simp[Ot,Ib,c]
   rw[xn e,b];show i
  .have c:¬ q.1=k:=λz=>e (f.trans z);have b:Ot (q::d) k=Ot d k:=by simp[Ot,Ib,c]
   rw[xm e,b];show g
end
def zW{P:KP}{w:K2}{k:Key}{u:KA}(r:RelV (kV k) u):(bX P w).is k u=Qb:=by
 cases k with
 | inl i=>have(t,e):=(show∃t,u=Lk i t from r);subst e;show oZ P w i t
 | inr x=>have(t,e):=(show∃t,u=Ou x t from r);subst e;show o5 P w x t
section
variable {prog:KP}{w:K2}
protected def KpG(G:Heap)(d it:Addr)(h:Heap):Prop:=∀b o,b≠d->b≠it->G.get? b*>o->h.get? b*>o
structure DUp(prog:KP)(w:K2)(U:Prop)(G:Heap)(d it:Addr)(Ob : β->Obj->Prop)(len : β->Nat)(stp : β->γ->β)(Pr : γ->KA->KA->Prop):Prop where
 set:∀{A:Li} {E:KA->KC->Prop} {Q:Unit->KC->Prop} {s:KC} {st o p key val},(U->A.units+1<LF)->KpG G d it s.heap->Pr p key val->s.heap.get? d*>o->Ob st o->len st<sizeLine->(∀h' o' tk,KZ d s.heap h'->h'.get? d*>o'->Ob (stp st p) o'->Q () {s with heap:=h',toks:=tk})->KI (KO prog w) A (dictSet d key val) Q E s
 len:∀st p,len (stp st p)<=len st+1
end
section
variable {X:Cx}{OK:!(Addr×Obj)}{Z:St}{H:Hp}{s:KC}{a:Addr}{xs:!V}
def Inv.tupleN(I:Inv X OK Z H s)(h:SqT X.K H a xs):∃c:!KA,Vals xs c/\J1 s.heap a c.toArray/\xs.length<=sizeLine:=by
 rcases h with h|⟨o,c,n,g,d,f,i,r⟩
 .have(z,c,r,p):=h.ok I.hok;show⟨c,r,p,z⟩
 .show{c.toList,r,{o,I.kIn a o g,d,n,by simpa using f},?_};have e:=r.length;dsimp[GE]at e;omega
end
section
variable {X:Cx}{OK:!(Addr×Obj)}{Z:St}{H:Hp}{s:KC}
def Inv.frz(I:Inv X OK Z H s)(h:H a*>(.lst xs)):∃o,Inv X OK Z (upd H a (.frz o (.lst xs))) s:=by
 have(z,c,n,r,e):=(show JZ X.prog X.w H s.heap a (.lst xs)from I.hok a _ h);show{_,I.write (t':=s.toks) (h':=s.heap) (by rw[h];show M3) (.inl rfl) (λb u _ q=>q) {_,e} ⟨e,z,c,n,r,e⟩}
end
section
variable {O:Rho}{ms:MA}{QE':R->Rho->Prop}{g:MG}{s1:MS}{Q:Fl->Rho->Prop}{S:Type}
def zD(st:S->Rho)(P:Nat->S->Prop) (h:WA ms O λrs a=>∃k is,rs=[{k,.li is}]/\aw (g.mu++s1.mu) {k,.li is}=Qb/\∃c,a=st c/\P 0 c /\
  (∀(j:Nat) x s,is.reverse[j]?*>x->P j s->WG g {.ow,.im x} (st s) λa=>WS s1 a (fFs st (P (j+1)) Q))/\∀s,P is.length s->Q .nx (st s)):WS (eJ (sT ms) g s1) O Q:=by
 obtain⟨rs,a,o,k,is,rfl,v,c,rfl,p,m,t⟩:=h;show so {[{k,.li is}],is.reverse.map (λi=>{.ow,.im i}),st c,by dsimp[sT,o],?_,λj O=>∃s,O=st s/\P j s,⟨c,Xr,p⟩,?_,?_}
 .rw[FO];show{by rw[GO,HN,v];rfl,kr λr u=>by have(x,_,rfl):=FT.mp u;rfl}
 .rintro j r O l ⟨s,rfl,d⟩;have(x,e,rfl):=ar l;show(m j x s e d).mono λa q=>q.mono λf w q=>nH q
 .rintro O ⟨s,rfl,d⟩;rw[FM,Hi]at d;show t s d
end
open AutoSeq1 (wpAny_loadPart')
open MeetsSeq MeetsSeq2 MeetsSeq3 SeqRoads2
abbrev wY:!I->Option !Str
 | []=>P9 []
 | .str z::c=>match wY c with
  | some a=>P9 (z::a)
  | none=>P8
 | _=>P8
def t5:∀(ss:!Str),wY (ss.map .str)*>ss
 | []=>rfl
 | z::ss=>by rw[FS,wY,t5 ss]
def ou{K:yF}{H:Hp}:∀{ss:!Str},md K H (ss.map .str) (ss.map V.str)
 | []=>by rw[HA,HA,md]
 | z::ss=>by rw[FS,FS,md];show{_,_,Xr,by rw[RpI],ou}
open PySem.W (KasT kas_sort)
structure Ord(f:Nat->Nat->Bool):Prop where
 as:∀{i j},f i j=Qb->f j i=Qa
 tr:∀{i j k},f j i=Qa->f k j=Qa->f k i=Qa
open PySem.W (KasT kas_sort kas_ask kat_run kat_snds KatLex kat_lt kat_cons kat_nil kat_one kat_yes kat_no kat_kind KatTups)
open PySem.W (KasT kas_sort kas_ask kat_run kat_snds KatLex KatGo kat_lt kat_cons kat_nil kat_one kat_yes kat_no kat_kind KatTups)
abbrev one(z:Str):!Str:=[z]
section
variable (P:KP)(w:K2)
abbrev It1(h:Heap):K1->KA->Prop
 | .inl k,v=>(bX P w).is k v=Qb
 | .inr a,v=>∃b,v=.ref b/\IsTupleKey (bX P w) h a b
abbrev Kw(h:Heap)(ks:!K1)(a:Addr):Prop:=∃o c n,h.get? a*>o/\o.cls=.type "tuple" /\ o.data=.seq c n/\Paired (It1 P w h) ks c.toList
end
section
variable {P:KP}{w:K2}{h h':Heap}{a b:Addr}{k x y:K1}{v u:KA}{A:Li}{E:KA->KC->Prop}{s:KC}
def It1.inj(d:It1 P w h x v)(f:It1 P w h y v):x=y:=by
 cases x with
 | inl i=>
  cases y with
  | inl j=>rw[(bX P w).inj _ _ _ d f]
  | inr j=>have(b,rfl,_):=f;show absurd ((bX P w).byValue _ _ d) (by simp[Pi])
 | inr i=>
  cases y with
  | inl j=>have(b,rfl,_):=d;show absurd ((bX P w).byValue _ _ f) (by simp[Pi])
  | inr j=>have(b,rfl,q):=d;have(c,e,g):=f;cases e;rw[q.inj g]
def Paired.injK:∀{xs c:!K1} {vs:!KA},Paired (It1 P w h) xs vs->Paired (It1 P w h) c vs->xs=c
 | _,_,_,.nil,.nil=>rfl
 | _,_,_,.cons r t,.cons e d=>by rw[r.inj e,Paired.injK t d]
def Kw.inj{xs i:!K1}(l:Kw P w h xs a)(r:Kw P w h i a):xs=i:=by
 have(o,e,n,m,_,t,p):=l;have(j,d,z,g,_,c,f):=r;obtain rfl:o=j:=F9.inj (m.symm.trans g);rw[t]at c;injection c with q _;subst q;show Paired.injK p f
end
abbrev kQ(K:yF)(H:Hp):K1->V->Prop
 | .inl k,v=>v=kV k
 | .inr a,v=>∃b,v=.ref b/\SqT K H b (a.map kV)
abbrev KQ(K:yF)(H:Hp)(ks:!K1)(b:Addr):Prop:=∃a,SqT K H b a/\Paired (kQ K H) ks a
protected def Eq3:=!K1×Addr×V
section
variable {X:Cx}{OK:!(Addr×Obj)}{Z:St}{H:Hp}{s:KC}{a b:Addr}{ks:!K1}{ys:!Eq3}
def oW{P:KP}{w:K2}:∀{ks:!Key} {c:!KA},Vals (ks.map kV) c->ItemsAre (bX P w) ks c
 | [],_,h=>by cases h;show .nil
 | k::ks,_,h=>by
  cases h with
  | cons r t=>show .cons (zW r) (oW t)
def KQ.is(I:Inv X OK Z H s)(h:KQ X.K H ks b):Kw X.prog X.w s.heap ks b:=by
 have(O,j,L):=h;obtain⟨d,r,⟨o,y,B,n,i⟩,p⟩:=I.tupleN j;show{o,d.toArray,n,y,B.1,i,?_};change Paired _ ks d;clear j i p
 induction L generalizing d with
 | nil=>cases r;show .nil
 | @cons k x _ _ q t G=>
  cases r with
  | @cons _ u _ _ g M=>
   show .cons ?_ (G _ M);cases k with
   | inl k=>
    have e:x=kV k:=q;subst e;show zW g
   | inr z=>
    have(c,e,E):=(show∃c,x=V.ref c/\SqT X.K H c (z.map kV)from q);subst e;obtain rfl:u=LL c:=g;obtain⟨f,J,⟨A,m,l,N,v⟩,_⟩:=I.tupleN E;show{c,Xr,A,f.toArray,N,m,l.1,v,oW J}
end
protected def Ev3:=!K1×Addr×KA
abbrev imR(r:R):↑I:=match r.t with
 | .im i=>P9 i
 | _=>P8
section
variable {Γ:Gm}{H H':Hp}{O:Rho}{Z:St}{E:!En}{v x y:V}{t:T}{K:yF}{Q:VK}
def Sim.own{r:R}(S:Sim Γ H O Z (⟨P8,v,r⟩::E))(e:imR r*>i):RpI Γ.K H i v/\Sim Γ H O Z ({P8,v,{.ow,.im i}}::E):=by
 have(F,a):=S.rd ymS;have(k,t):=r;unfold imR at e;dsimp only at e;ext e;cases e;have h:=(bo a).1;show{h,(S.drop rfl).imm h}
end
end L2
namespace L2
open PySem PySem.Spec PyProof.Rows
abbrev ixL(s:T) (n:Int):↑Nat:=match s with
 | .li a=>ixN a.length n
 | _=>P8
open PySem.W (Frag)
mutual
noncomputable def I.noex:I->Bool
 | .exn _ _ _=>Qa|.tup is=>I.noexs is|.ls is=>I.noexs is|.fd _ is=>I.noexs is|.non=>Qb|.bl _=>Qb|.int _=>Qb|.str _=>Qb
noncomputable def I.noexs:!I->Bool
 | []=>Qb
 | i::is=>i.noex&&I.noexs is
end
open PySem.W (Frag)
protected def Tab:=!(Str×!Str)
structure CK0{ι : Type}(C:ι->Cx)(P:KP)(W:K2)(K:Frag)(mg:Str->↑KA)(base:Heap):Prop where
 prog:∀i,(C i).prog=P
 w:∀i,(C i).w=W
 kk:∀i,(C i).K=K
 mg:∀i,(C i).mg=mg
 base:∀i,(C i).base=base
 un:∀i,(C i).A.units+64<LF
abbrev Aw(K:yF) (a:Addr):It:=
 {λi H=>∃c x,SqL K H a c/\c[i]?*>x,λi H y d=>∃p x,H p=P8/\y=.ref p/\d=upd H p (.tup [.int i,x])/\∀c,SqL K H a c->c[i]?*>x,λi H=>∃c,SqL K H a c/\c.length<=i}
def qR{P:KP}{w:K2}{K:yF}{elts:!Expr}{k0:Nat}{pos:Pos}(a it e:Addr)(hei:e≠it) :
  Ko P w K (.Tuple elts k0 pos) (Aw K a) [e,it] e (λi h=>(∃old,PD h e it ((i:Nat):Int) old)/\h.IsListIter it a i) where
 mem:=by simp
 obj:=λi h st b hb=>by
  rcases ycM hb with z|z
  .subst z;have(old,e1):=st.1;show{_,e1,λv z=>by cases z}
  .have z':b=it:=by exists z
   subst z';have(o,e,c,d):=st.2;show{o,e,λv z=>by rw[d]at z;cases z}
 keep:=λi h h' st k=>{let ⟨old,e1⟩:=st.1;{old,k e ∅ _ e1},st.2.at λo e=>k it ∅ o e}
 item:=by
  intro X hP hw hK hc i OK s Z H E I hf st hg;subst hP hw hK;have(xs,x,hq,hx):=hg;have(its,rv,p,hz):=I.list hq;have(u,hu,ru):=rv.get hx;have(f0,f1,f2,f3,f4,f5):=hf it ∅;have(e0,e1,e2,e3,e4,e5):=hf e ∅;obtain⟨⟨old,he⟩,hit⟩:=st;have hT:s.heap.IsList a its.toArray:=p.isList;have nai:a≠it:=λz=>by
   subst z;have(o1,q1,q2,_):=hT;have(o2,q3,q4,_):=hit;rw[q1]at q3;cases q3;rw[q2]at q4;show absurd q4 (by decide +kernel)
  have nae:e≠a:=λz=>by
   subst z;have(o1,q1,q2,_):=hT;have q3:s.heap.get? e=_:=he;rw[q1]at q3;cases q3;have q5:LI "enumerate" = LI "list" :=q2;show absurd q5 (by decide +kernel)
  have hn:i<its.toArray.size:=by
   rw[FN];show(FL.mp hu).1
  show Nq (PX (A:=X.A.in1) (I.ok.hd hc) it a nai its.toArray) he ⟨hit,hT⟩ hn hei (by simp[hei,nae]) λx' h1 tk px ho st1 ht hz1 kk=>?_;have ex:x'=u:=by
   have e1:its.toArray[i]?*>x':=px;have e2:its.toArray[i]?*>u:=by exists hu
   rw[e1]at e2;show F9.inj e2
  subst ex;show{_,Xr,M1 ho λh2 he2 sb=>?_};have sb':KZ e h1 h2:=sb;have hel:e<s.heap.objs.size:=KM he;have k2:∀b o,b≠e->b≠it->s.heap.get? b*>o->h2.get? b*>o:=λb o n1 n2 q=>(sb'.2 b n1).trans (kk b o n1 n2 q);have I1:Inv X OK Z H {s with heap:=h2,toks:=tk+1}:=I.turned2 k2 (hf e ∅) (hf it ∅);have fz:dW X OK H s.heap.objs.size:=I.fpOk (FV _) (I.hok.fresh (FV _));have hT2:h2.get? s.heap.objs.size=P9 {cls:=.type "tuple",data:=.seq #[.int i tk,x']}:=(sb'.2 _ (Hy hel)).trans ht;have I2:Inv X OK Z (upd H s.heap.objs.size (.tup [.int i,x])) {s with heap:=h2,toks:=tk+1}:=I1.track fz (.inr I.sz) I.sz {by change 2<=sizeLine;decide,[.int i tk,x'],.cons ⟨tk,Xr⟩ (.cons ru .nil),{_,hT2,⟨Xr,Xr⟩,_,Xr}};show{.ref s.heap.objs.size,_,I2,Xr,{_,x,fz.1,Xr,Xr,λys hy=>by rw[I.list_inj hy hq];show hx},{{x',?_},?_},λb hb=>?_}
  .have e9:((i+1:Nat):Int)=(i:Int)+1:=by push_cast;rfl
   rw[e9];show he2
  .show st1.1.extBut sb'.extBut (K3 hei)
  .have hbo:∃o,s.heap.get? b*>o:=by
    rcases ycM hb with z|z;subst z;show{_,he}
    .have z':b=it:=by exists z
     subst z';have(o,q,_):=hit;show⟨o,q⟩
   have(o,q):=hbo;rw[upd_ne (Ga (KM q))];show(hf b hb).1
 done:=by
  intro X hP hw hK hc i OK s Z H E I hf st hg;subst hP hw hK;have(xs,hq,hx):=hg;have(its,rv,p,hz):=I.list hq;have(f0,f1,f2,f3,f4,f5):=hf it ∅;have hl:=rv.length;obtain⟨⟨old,he⟩,hit⟩:=st;have hT:s.heap.IsList a its.toArray:=p.isList;have nai:a≠it:=λz=>by
   subst z;have(o1,q1,q2,_):=hT;have(o2,q3,q4,_):=hit;rw[q1]at q3;cases q3;rw[q2]at q4;show absurd q4 (by decide +kernel)
  show uA (λQ E kk=>NK (A:=X.A.in1) (I.ok.hd hc) hit hT (by simp;omega) kk) he λh1 eb=>{Xr,I.turned (t':=s.toks) (λb o hb e=>eb b o hb e) f0 f1 f3 f4 f5}
 self:=λ_ _ _ _ _ st h=>by
  obtain⟨⟨old,he⟩,_⟩:=st;show Mn he h
abbrev pV(K:yF)(e:TA):TI:=λZ H R=>e Z H λvs c=>∃a d,vs=[.ref a]/\SqL K c a d/\R (Aw K a) c
def vE{X:Cx}{a:Expr}{i:TA}{elts:!Expr}{k0:Nat}{p pos pt:Pos}(L:Gl X "enumerate")(y:X.mg "enumerate" = P8)(B:PA X [a] i)(hs:KT [a] X.env=[(Qa,eval a X.env)]:=by rfl):PI X (.Tuple elts k0 pt) (.Call (.Name "enumerate" p) [a] [] pos) (pV X.K i):=by
 intro A s Z H R I h;show PZ (gz I L y Pf (GB (thn (B pos A s Z H _ I h) λQ c ⟨vs,w,d,E,M⟩=>?_) hs rfl));have(l,N,e,J,q):=M;subst e;have(u,rfl,t):=dm E;cases t;have(g,U,x,O):=d.list J;show call_enumerate_list (show c.heap.IsList l g.toArray from x.isList) λS j f r m=>?_;show Mn j ?_;show{c.heap.objs.size+1,[c.heap.objs.size+1,c.heap.objs.size],_,_,w,Xr,d.kept (t':=c.toks) λb o e=>m b o e,qR l c.heap.objs.size _ (Jp _),{{_,j},f},λb G=>?_,q};rcases ycM G with z|z
 .subst z;show d.fpOk (Im _) (d.hok.fresh (Im _))
 .have v:b=c.heap.objs.size:=by exists z
  subst v;show d.fpOk (FV _) (d.hok.fresh (FV _))
def Fs{X:Cx}{K:yF}{a:Expr}{c:TA}{elts:!Expr}{k0:Nat}{p pos pt:Pos}(h:X.K=K)(f:Gl X "enumerate")(d:X.mg "enumerate" = P8)(e:PA X [a] c)(hs:KT [a] X.env=[(Qa,eval a X.env)]:=by rfl):PI X (.Tuple elts k0 pt) (.Call (.Name "enumerate" p) [a] [] pos) (pV K c):=h▸vE f d e hs
open PySem.W (Frag)
abbrev uY:T->Option !I
 | .li a=>P9 a
 | .im (.ls a)=>P9 a
 | _=>P8
private def jF(a:MA):MI:={λO=>match a.run O with
 | some ([r],c)=>(match uY r.t with
  | some d=>P9 (([r],da 0 d),c)
  | none=>P8)
 | _=>P8,a.mu}
def rG{K:Frag}{H:Hp}{t:T}{is:!I}{v:V}(e:uY t*>is)(r:Rpx K H t v):∃a xs,v=.ref a/\Rd H a (.lst xs)/\md K H is xs:=by
 unfold uY at e;split at e;cases e;show bF r;cases e;show j6 r;cases e
section
variable {Γ:Gm}{K:Frag}
def zF{a:Addr}{r0:R}{is:!I}(q:uY r0.t*>is):fF Γ (Aw Γ.K a) [.ref a] [r0] (da 0 is):=λH O Z E S=>by
 replace S:Sim Γ H O Z ({P8,.ref a,r0}::E):=S;have s:Rpx Γ.K H r0.t (.ref a):=S.rd (e:={P8,.ref a,r0}) ymS;have(B,f,v,g,l):=rG q s;cases v;show{λi h=>{f,aB g,by rw[l.length];rw[jv]at h;show h},λi r c=>?_};rw[fu]at c;cases e:is[i]? with
 | none=>rw[e]at c;cases c
 | some j=>
  rw[e]at c;cases c;have(w,m,d):=l.get e;show{{f,w,aB g,m},λx A y=>?_};have(p,z,u,rfl,rfl,o):=y;have:=o f (aB g);rw[m]at this;cases this;rw[Gq];show S.fresh (New.tup u (.cons (by rw[RpI]) (.cons d (by rw[md]))))
def tT{m:TA}{a:MA}(x:fo K m a):jn K (pV K m) (jF a):=by unhygienic
 intro Γ H O Z E z s g p o c S q;dsimp[jF]at c;ext c h A u;ext c G j;cases c;show x Γ H O Z E _ _ _ o u S λvs f l d=>?_;cases vs with
 | nil=>cases l
 | cons v vs=>
  cases vs with
  | cons _ _=>cases l
  | nil=>
   have d:Sim Γ f p Z (⟨P8,v,h⟩::ag a.mu E):=d;have y:Rpx Γ.K f h.t v:=d.rd (e:=⟨P8,v,h⟩) ymS;have(i,r,rfl,w,B):=rG j y;subst o;show{i,r,Xr,aB w,q Γ rfl (λ_ _ _ _ S=>S) _ [.ref i] f rfl d (zF j)}
end
section
variable {ι : Type}{C:ι->Cx}{P:KP}{W:K2}{K:Frag}{mg:Str->↑KA}{base:Heap}{k:Nat}{a e:Expr}{m:ME}{ms:MA}{pos:Pos}
def wg(c:CK C P W K mg base k)(T:Bi mg)(d:QA C K [a] ms)(f:∀i,Gl (C i) "enumerate" :=by intro _;rfl)(hs:bH a=Qa:=by rfl):QI C K (.Tuple elts k0 pt) (.Call (.Name "enumerate" p) [a] [] pos) (jF ms):=by
 have(g,q,_,r):=d;show{_,λi=>Fs (c.kk i) (f i) (by rw[c.mg i];show T.b_enumerate) (q i) (bf hs),tT r}
end
abbrev Ky(h:Heap)(z TI TO:Addr):Prop:=∃(T:Addr) (b:Bool),h.get? z=P9 {cls:=.type "zip",dict:=P8,data:=.fields #[Mq T,.bool b,.bool Qa,.ref TI,.ref TO],slots:=#[]}/\∃o,h.get? T*>o
section
variable {prog:KP}{w:K2}{A:Li}{E:KA->KC->Prop}{s:KC}{z TI TO i1 i2:Addr}{fp1 fp2:!Addr}{n1 n2 i:Nat}{P1 P2:Nat->KA->Prop}{St1 St2:Nat->Heap->Prop}
def Ky.keep{h h':Heap}(x:Ky h z TI TO)(k:∀c o,h.get? c*>o->∃d,h'.get? c*>d)(e:∀o,h.get? z*>o->h'.get? z*>o):Ky h' z TI TO:=by
 have(T,b,f,o,a):=x;show{T,b,e _ f,k T o a}
end
end L2
namespace L2
open PySem PySem.Spec PyProof.Rows PySem.Builtin PySem.Builtin.Str
section
variable {X:Cx}{zs:!Str}
def pH:∀{l:!(Str×Tok)},Vals ((l.map (·.1)).map V.str) (Pu l)
 | []=>.nil
 | p::l=>.cons ⟨p.2,Xr⟩ pH
def sX:MtR X "str.startswith" (λx vs H Q=>∃z y,x=.str z/\vs=[.str y]/\Q (.bl (LB z y)) H):=by
 intro e s Z H x f v g Q I a d h;have(z,y,rfl,rfl,q):=h;have(t,rfl):=a;have(u,rfl,c):=dm d;have(u,rfl):=c;show SC.startswith {.bl (LB z y),H,I,Xr,q}
abbrev qF:V->!V->Hp->VK->Prop:=λx vs H Q=>∃z y,x=.str z/\vs=[.str y]/\(y.length==0)=Qa/\z.length<=sizeLine/\(partsBetween z (occurrences z y 0 z.length (z.length+1)) y.length).length<=sizeLine/\∀l,H l=P8->Q (.ref l) (upd H l (.lst ((LH z y).map V.str)))
def vc:MtR X "str.split" qF:=by
 intro A s Z H x J v L Q I E G h;have(z,y,rfl,rfl,m,p,i,q):=h;have(t,rfl):=E;have(u,rfl,r):=dm G;have(u,rfl):=r;have a:∀(l:!(Str×Tok)) (d:Tok),l.map (·.1)=LH z y->l.length<=sizeLine->EP X A Z Q (.ref s.heap.objs.size) {s with toks:=d,heap:=s.heap.push {cls:=.type "list",data:=.seq (Pu l).toArray}}:=λl d e B=>by
  have j:=pH (l:=l);rw[e]at j;have c:((LH z y).map V.str).length=l.length:=by rw[<-e,FM,FM]
  show{.ref s.heap.objs.size,_,I.laid (t':=d) (λb o q=>KB _ q) (FV _) (show JZ X.prog X.w _ _ _ (.lst ((LH z y).map V.str))from{by rw[c];show B,Pu l,_,j,KN _ rfl}),Xr,q _ (I.hok.fresh (FV _))}
 cases h1:(decide (z.length<y.length)||decide (strKind z<strKind y))
 .cases hf:(occurrences z y 0 z.length (z.length+1)).isEmpty
  .show Ls Nr (Mh _ _ _) Nd (M4 _ _) (meets_str_split_sep z y t u h1 m hf p i) ?_;have:=a (numbered s.toks (partsBetween z (occurrences z y 0 z.length (z.length+1)) y.length)) (s.toks+(partsBetween z (occurrences z y 0 z.length (z.length+1)) y.length).length) ((Pj _ _).trans ((if_neg (ne_true_of_eq_false h1)).trans (if_neg (ne_true_of_eq_false hf))).symm) (by rw[<-FM (f:=(·.1)),Pj];show i);rw[<-strsFrom_eq]at this;show this
  .show Ls Nr (Mh _ _ _) Nd (M4 _ _) (meets_str_split_not_found z y t u h1 m hf) (a [(z,t)] s.toks ((if_neg (ne_true_of_eq_false h1)).trans (if_pos hf)).symm (by rw[KG];change 1<=_;omega))
 .show Ls Nr (Mh _ _ _) Nd (M4 _ _) (meets_str_split_cannot_occur z y t u h1) (a [(z,t)] s.toks (if_pos h1).symm (by rw[KG];change 1<=_;omega))
abbrev wu:V->!V->Hp->VK->Prop:=λx vs H Q=>∃z y,x=.str z/\vs=[.str y]/\(y.length==0)=Qa/\z.length<=sizeLine/\∀l,H l=P8->Q (.ref l) (upd H l (.tup [.str (La z y).1,.str (La z y).2.1,.str (La z y).2.2]))
def yg:MtR X "str.partition" wu:=by
 intro B s Z H x L v M Q I E G h;have(z,y,rfl,rfl,J,p,q):=h;have(t,rfl):=E;have(u,rfl,A):=dm G;have(u,rfl):=A;have d:∀(a b c:Str) (g j f l:Tok),(a,b,c)=La z y->EP X B Z Q (.ref s.heap.objs.size) {s with toks:=l,heap:=s.heap.push {cls:=.type "tuple",data:=.seq [.str a g,.str b j,.str c f].toArray}}:=λa b c g j f l e=>by
  rw[<-e]at q;show{.ref s.heap.objs.size,_,I.laid (t':=l) (λb o q=>KB _ q) (FV _) (show JZ X.prog X.w _ _ _ (.tup [.str a,.str b,.str c])from{by rw[KG];change 3<=_;omega,[.str a g,.str b j,.str c f],.cons ⟨g,Xr⟩ (.cons ⟨j,Xr⟩ (.cons ⟨f,Xr⟩ .nil)),J1.new _ _}),Xr,q _ (I.hok.fresh (FV _))}
 show Ls F.slot_str_partition (Mh _ _ _) F.entry_str_partition (F.args_str_partition_2 _ _) (meets_str_partition z y t u J p) ?_;cases ho:occurrences z y 0 z.length 1 with
 | nil=>show d _ _ _ _ _ _ _ (by unfold La;rw[ho])
 | cons i r=>show d _ _ _ _ _ _ _ (by unfold La;rw[ho])
def sC:HE X (.type "str") (λxs H Q=>∃i:Int,xs=[.int i]/\i.natAbs.log2<1920/\Q (.str (toString i)) H):=by
 intro e s Z H xs f Q I d h;have(i,rfl,a,q):=h;have(u,rfl,c):=dm d;have(u,rfl):=c;show P.str_of_int a {.str (toString i),H,I.tok _,{_,Xr},q}
end
abbrev ik:T->!T->↑T
 | .im (.str z),[.im (.str y)]=>P9 (.im (.bl (LB z y)))
 | _,_=>P8
abbrev jh(z y:Str):Bool:= ~~~(y.length==0)&&(decide (z.length<=sizeLine)&&decide ((partsBetween z (occurrences z y 0 z.length (z.length+1)) y.length).length<=sizeLine))
abbrev ge:T->!T->↑T
 | .im (.str z),[.im (.str y)]=>if jh z y=Qb then P9 (.li ((LH z y).map .str))else P8
 | _,_=>P8
abbrev mV:T->!T->↑T
 | .im (.str z),[.im (.str y)]=>if(~~~(y.length==0)&&decide (z.length<=sizeLine))=Qb then P9 (.im (.tup [.str (La z y).1,.str (La z y).2.1,.str (La z y).2.2]))else P8
 | _,_=>P8
private def iz:!T->↑T:=l1 λt=>match isI t with
 | some n=>if n.natAbs.log2<1920 then P9 (.im (.str (toString n)))else P8
 | none=>P8
section
variable {K:yF}{H:Hp}
def pf:kP K "str" (λx vs H Q=>∃z y,x=.str z/\vs=[.str y]/\Q (.bl (LB z y)) H) ik:=by
 intro H x vs d f t Q a r e q;unfold ik at e;ext e z y;cases e;have(v,rfl,c):=jg r;rw[bc a,bc c];show{z,y,Xr,Xr,q _ H (.sc rfl)}
def qA:kP K "str" qF ge:=by
 intro H x vs g h t Q d r e q;unfold ge at e;ext e z y;ext e a;cases e;have(v,rfl,f):=jg r;rw[bc d,bc f];unfold jh at a;rw[FO,FO,Gk,decide_eq_true_eq,decide_eq_true_eq]at a;show{z,y,Xr,Xr,a.1,a.2.1,a.2.2,λl c=>q _ _ (.li c ou)}
def tI:kP K "str" wu mV:=by
 intro H x vs g h t Q d r e q;unfold mV at e;ext e z y;ext e a;cases e;have(v,rfl,f):=jg r;rw[bc d,bc f];rw[FO,Gk,decide_eq_true_eq]at a;show{z,y,Xr,Xr,a.1,a.2,λl c=>q _ _ (New.tup c ?_)};show ou (ss:=[(La z y).1,(La z y).2.1,(La z y).2.2])
def tJ:gi K (λxs H Q=>∃i:Int,xs=[.int i]/\i.natAbs.log2<1920/\Q (.str (toString i)) H) iz:=by
 intro H vs h t Q r e q;unfold iz at e;have a:=dn e;clear e;have(x,rfl,e):=a;have(v,rfl,d):=jg r;ext e n g;cases dL g;ext e f;cases e;have c:=aQ d;subst c;show{n,Xr,f,q _ H (.sc rfl)}
end
def oY:jm "str" "startswith" ik:={_,λ_=>_,PySem.F.plainAttrs_str,PySem.F.slot_str_startswith,PySem.F.type_str_startswith,λ_=>sX,λ_=>pf,λK H x a c t r e=>by
 unfold ik at e;split at e;rw[bc r];rfl;cases e}
def kA:jm "str" "split" ge:={_,λ_=>qF,PySem.F.plainAttrs_str,PySem.F.slot_str_split,PySem.F.type_str_split,λ_=>vc,λ_=>qA,λK H x a c t r e=>by
 unfold ge at e;split at e;rw[bc r];rfl;cases e}
def Bb:jm "str" "partition" mV:={_,λ_=>wu,PySem.F.plainAttrs_str,PySem.F.slot_str_partition,PySem.F.type_str_partition,λ_=>yg,λ_=>tI,λK H x a c t r e=>by
 unfold mV at e;split at e;rw[bc r];rfl;cases e}
def b_str:sr "str" iz:={_,λ_=>_,Ht,λ_ _=>sC,λ_=>tJ}
section
variable {z y:Str}{n:Int}{Q:T->Prop}
def vp(q:Q (.im (.bl (LB z y)))):W1 (ik (.im (.str z)) [.im (.str y)]) Q:={_,Xr,q}
def kD(h:jh z y=Qb)(q:Q (.li ((LH z y).map .str))):W1 (ge (.im (.str z)) [.im (.str y)]) Q:={_,if_pos h,q}
def BD(h:(~~~(y.length==0)&&decide (z.length<=sizeLine))=Qb)(q:Q (.im (.tup [.str (La z y).1,.str (La z y).2.1,.str (La z y).2.2]))):W1 (mV (.im (.str z)) [.im (.str y)]) Q:={_,if_pos h,q}
def jL(h:n.natAbs.log2<1920)(q:Q (.im (.str (toString n)))):W1 (iz [.im (.int n)]) Q:=by unhygienic show{_,if_pos h,q}
end
section
variable {X:Cx}
def sx:HE X (.type "int") (λxs H Q=>∃z n,xs=[.str z]/\GZ z*>n/\z.length<=640/\Q (.int n) H):=by
 intro f s Z H xs g Q I d h;have(z,n,rfl,e,a,q):=h;have(u,rfl,c):=dm d;have(u,rfl):=c;show PySem.W.KIN.call_text e a {.int n,H,I.tok _,{_,Xr},q}
end
end L2
namespace L2
open PySem PySem.Spec PyProof.Rows
private def iY:!T->↑T:=l1 λt=>match isS t with
 | some z=>if z.length<=640 then(GZ z).map λn=>.im (.int n)else P8
 | none=>P8
def tF{K:yF}:gi K (λxs H Q=>∃z n,xs=[.str z]/\GZ z*>n/\z.length<=640/\Q (.int n) H) iY:=by
 intro H vs h t Q r e q;unfold iY at e;have a:=dn e;clear e;have(x,rfl,e):=a;have(v,rfl,c):=jg r;ext e z g;cases rD g;ext e f;have(n,d,rfl):=IE.mp e;rw[bc c];show{z,n,Xr,d,f,q _ H (.sc rfl)}
def nt:sr "int" iY:={_,λ_=>_,IN,λ_ _=>sx,λ_=>tF}
def nR{z:Str}{n:Int}{Q:T->Prop}(h:z.length<=640)(e:GZ z*>n)(q:Q (.im (.int n))):W1 (iY [.im (.str z)]) Q:=by
 show{_,?_,q};unfold iY;change(if z.length<=640 then(GZ z).map _ else P8)=_;rw[if_pos h,e];rfl
end L2
namespace L2
open PySem PySem.Spec PyProof.Rows PySem.Builtin PySem.Builtin.Str
abbrev tF2(c d:Str)(f e:TE):TE:=λZ H Q=>f Z H λx a=>∃i:Int,x=.int i/\i.natAbs.log2<1920/\(((Mc++c)++(toString i:Str))++d).length<=sizeLine/\e Z a λy g=>∃j:Int,y=.int j/\j.natAbs.log2<1920/\((((Mc++c)++(toString i:Str))++d)++(toString j:Str)).length<=sizeLine/\Q (.str ((((Mc++c)++(toString i:Str))++d)++(toString j:Str))) g
section
variable {X:Cx}{a b:Expr}{ta tb:TE}{c d:Str}{k1 k2:Nat}{p1 p2 p3 p4 pos:Pos}
def sR(x y:Str):x.length<=(x++y).length:=by rw[strLen_append];omega
def D0(m:(Mc++c).length<=sizeLine)(S:PE X a ta)(hb:PE X b tb):PE X (.JoinedStr [.Constant (.str c) k1 p1,.FormattedValue a (-1) P8 p2,.Constant (.str d) k2 p3,.FormattedValue b (-1) P8 p4] pos) (tF2 c d ta tb):=by
 intro l s Z H Q I h;show wpAny_JoinedStr ?_;show thn (qx l s Z H (λv o=>v=.str c/\o=H) I ⟨Xr,Xr⟩) ?_;rintro v y ⟨x,H1,J,Y,rfl,rfl⟩;have(t,rfl):=Y;have O:(Mc++c).length<=sizeLine->Joins (KO X.prog X.w) X.A X.xe [eval (.FormattedValue a (-1) P8 p2) X.env,eval (.Constant (.str d) k2 p3) X.env,eval (.FormattedValue b (-1) P8 p4) X.env] (Mc++c) (λf e=>f.length<=sizeLine/\EP X l Z Q (.str f e.toks) {e with toks:=e.toks+1}) y:=λ_=>by
  show M5 ?_;show thn (S l y Z _ _ J h) ?_;rintro v s2 ⟨x,u,N,E,i,rfl,G,r,q⟩;have(t2,rfl):=E;show NL G {_,_,Xr,Gj (sR _ d) r,?_};show thn (qx l _ Z u (λv o=>v=.str d/\o=u) (N.tok _) ⟨Xr,Xr⟩) ?_;rintro v B ⟨x,H3,I3,L,rfl,rfl⟩;have(t3,rfl):=L;show{_,_,Xr,r,?_};show M5 ?_;show thn (hb l B Z _ _ I3 q) ?_;rintro v s4 ⟨x,U,M,r4,j,rfl,z,g,q2⟩;have(t4,rfl):=r4;show NL z {_,_,Xr,g,g,{.str _,U,M.tok _,{_,Xr},q2}}
 show{c,t,Xr,m,O m}
end
end L2
namespace L2
open PySem PySem.Spec PyProof.Rows
abbrev f1S(c d:Str) (i:Int):Str:=((Mc++c)++(toString i:Str))++d
abbrev f2S(c d:Str) (i j:Int):Str:=f1S c d i++(toString j:Str)
private def mF2(c d:Str)(a b:ME):ME:={λO=>match a.run O with
 | some (h,f)=>(match isI h.t with
  | some i=>if i.natAbs.log2<1920/\(f1S c d i).length<=sizeLine then(match b.run f with
   | some (e,g)=>(match isI e.t with
    | some j=>if j.natAbs.log2<1920/\(f2S c d i j).length<=sizeLine then P9 ({.ow,.im (.str (f2S c d i j))},g)else P8
    | none=>P8)
   | none=>P8)else P8
  | none=>P8)
 | none=>P8,a.mu++b.mu}
def Cm{K:yF}{z A:TE}{a b:ME}{c d:Str}(N:aR K z a)(U:aR K A b):aR K (tF2 c d z A) (mF2 c d a b):=by unhygienic
 intro o H O Z E Q r Y h e S q;dsimp[mF2]at e;ext e B p L;ext e i J;ext e v;ext e m O2 M;ext e j G;ext e u;cases e;show N o H O Z E _ B p h L S λx s w=>?_;have g:=w.rd ymS;rw[h]at g;have g:Rpx K s B.t x:=g;rw[dL J]at g;show{i,aQ g,v.1,v.2,?_};show U o s p Z _ _ m _ h M (w.drop rfl) λy X l=>?_;have f:=l.rd ymS;rw[h]at f;have f:Rpx K X m.t y:=f;rw[dL G]at f;show{j,aQ f,u.1,u.2,?_};rw[ae]at l;show q _ _ ((l.drop rfl).fresh (.sc rfl))
section
variable {ι : Type}{C:ι->Cx}{P:KP}{W:K2}{K:yF}{mg:Str->↑KA}{base:Heap}{k:Nat}{a b:Expr}{ma mb:ME}{c d:Str}{k1 k2:Nat}{p1 p2 p3 p4 pos:Pos}
def FA(e:(Mc++c).length<=sizeLine)(h:QE C K a ma)(f:QE C K b mb):QE C K (.JoinedStr [.Constant (.str c) k1 p1,.FormattedValue a (-1) P8 p2,.Constant (.str d) k2 p3,.FormattedValue b (-1) P8 p4] pos) (mF2 c d ma mb):=by
 have(p,m,j):=h;have(o,l,g):=f;show{_,λi=>D0 e (m i) (l i),Cm j g}
end
abbrev k8:T->!T->↑T
 | .im (.str z),[.im (.str y)]=>(match K0 z y 0 z.length 1 with
  | i::_=>P9 (.im (.int (i:Nat)))
  | []=>P8)
 | _,_=>P8
def tE{K:yF}:kP K "str" (λx vs H Q=>∃(z y:Str) (i:Nat) (rest:!Nat),x=.str z/\vs=[.str y]/\K0 z y 0 z.length 1=i::rest/\Q (.int i) H) k8:=by
 intro H x vs f g t Q c r e q;unfold k8 at e;ext e z y;ext e i rest a;cases e;have(v,rfl,d):=jg r;rw[bc c,bc d];show{z,y,i,rest,Xr,Xr,a,q _ H (.sc rfl)}
def A9:jm "str" "index" k8:={_,λ_=>_,PySem.F.plainAttrs_str,PySem.F.slot_str_index,PySem.F.type_str_index,λ_=>u9,λ_=>tE,λK H x a c t r e=>by
 unfold k8 at e;split at e;rw[bc r];rfl;cases e}
def Bw{z y:Str}{i:Nat}{rest:!Nat}{Q:T->Prop}(h:K0 z y 0 z.length 1=i::rest)(q:Q (.im (.int (i:Nat)))):W1 (k8 (.im (.str z)) [.im (.str y)]) Q:=by
 show{_,?_,q};unfold k8;dsimp only;rw[h]
section
variable {O:Rho}{a b:ME}{c d:Str}{QE':R->Rho->Prop}
def FG(h:WE a O λy g=>IsN y.t λi=>i.natAbs.log2<1920/\(f1S c d i).length<=sizeLine/\WE b g λm l=>IsN m.t λj=>j.natAbs.log2<1920/\(f2S c d i j).length<=sizeLine/\QE' {.ow,.im (.str (f2S c d i j))} l):WE (mF2 c d a b) O QE':=by unhygienic
 obtain⟨⟨A,u⟩,g,s,i,f,r,v,⟨z,x⟩,l,w,j,e,o,p,q⟩:=h;have f:u=.im (.int i):=f;have e:x=.im (.int j):=e;subst f e;show{_,_,?_,q};dsimp[mF2,s,isI,w];rw[if_pos ⟨r,v⟩,if_pos ⟨o,p⟩]
end
end L2
namespace L2
open PySem
noncomputable section
abbrev cX:MS:=(aq (mIf (ak (mOp eqT (mIx (ah 0) (mC (.int 0))) (mC (.str "num")))) (aX (mB iz (ac (mIx (ah 0) (mC (.int 1))) mNil))) mNext)
  (aq (mIf (ak (mOp eqT (mIx (ah 0) (mC (.int 0))) (mC (.str "at")))) (aX (mOp bO (mOp bO (mIx (ah 0) (mC (.int 1))) (mC (.str "@"))) (mM dE (mC (.str ",")) (ac (bj [P8,P8] (mIt (mIx (ah 0) (mC (.int 2)))) (ai 1) mYes (mB iz (aa 1 mNil))) mNil)))) mNext)
  (aX (lV (ak (mOp eqT (mIx (ah 0) (mC (.int 0))) (mC (.str "op")))) (mIx (ah 0) (mC (.int 1))) (mC (.str "if"))))))
abbrev fh(ts:!T):↑T:=if ts.length=1 then ce cX 1 ts else P8
abbrev cG:MS:=(aq (aU (ah 0) (cc (aC (ai 1) (aC (ai 2) (aC (ai 3) mGNil)))))
  (aq (aU (bh [] (ac (mF2 "house " " " (ah 1) (ah 2)) mNil)) (ai 4))
  (aq (eJ (mIt (ah 3)) (cc (aC (ai 5) (aC (ai 6) mGNil)))
  (dX [5,6] (cC (iq 4 [] apT (ah 4) (ac (mM dE (mC (.str " ")) (ac (mOp bO (bh [5] (ac (mC (.str "desk")) (aa 5 mNil))) (bj [P8,P8,P8,P8,P8,P8,P8,P8] (mIt (mB cK (aa 6 mNil))) (ai 7) mYes (mB fh (aa 7 mNil)))) mNil)) mNil)))))
  (aX (mM dE (mC (.str "\n")) (aa 4 mNil))))))
abbrev cM(ts:!T):↑T:=if ts.length=1 then ce cG 7 ts else P8
abbrev cW:MS:=(aq (mIf (mOr (fA (ak (dr (bY λi j=>decide (i<=j)) (bY λi j=>decide (i<=j)) (mC (.int 1)) (mB cB (aa 0 mNil)) (ah 1)))) (fA (ak (mB j9 (ac (bj [P8,P8,P8] (mIt (ah 0)) (ai 2) mYes (mOp inT (ah 2) (mC (.str "0123456789")))) mNil))))) (aX (mC (.bl Qa))) mNext)
  (aX (qa (mOp eqT (mB cB (aa 0 mNil)) (mC (.int 1))) (mOp neT (mIx (ah 0) (mC (.int 0))) (mC (.str "0"))))))
abbrev be(ts:!T):↑T:=if ts.length=2 then ce cW 2 ts else P8
abbrev fM:MS:=(aq (aU (mM ge (ah 0) (ac (mC (.str " ")) mNil)) (ai 1))
  (aq (mIf (mOr (ak (mOp neT (mB cB (aa 1 mNil)) (mC (.int 3)))) (ak (mOp neT (mIx (ah 1) (mC (.int 0))) (mC (.str "house"))))) bw mNext)
  (aq (mIf (mOr (fA (ak (mB be (ac (mIx (ah 1) (mC (.int 1))) (ac (mC (.int 10)) mNil))))) (fA (ak (mB be (ac (mIx (ah 1) (mC (.int 2))) (ac (mC (.int 10)) mNil)))))) bw mNext)
  (aX (bz [] (ac (mB iY (ac (mIx (ah 1) (mC (.int 1))) mNil)) (ac (mB iY (ac (mIx (ah 1) (mC (.int 2))) mNil)) mNil)))))))
abbrev fV(ts:!T):↑T:=if ts.length=1 then ce fM 2 ts else P8
abbrev cF:MS:=(aq (mIf (ak (mM ik (ah 0) (ac (mC (.str "-")) mNil))) (aX (i5 (mOp neT (ah 0) (mC (.str "-0"))) (mB be (ac (mSl (ah 0) (eN (mC (.int 1))) mNoPart) (ac (mC (.int 3)) mNil))))) mNext)
  (aX (mB be (aa 0 (ac (mC (.int 3)) mNil)))))
abbrev cJ(ts:!T):↑T:=if ts.length=1 then ce cF 1 ts else P8
abbrev eQ:MS:=(aq (aU (mM mV (ah 0) (ac (mC (.str "@")) mNil)) (cc (aC (ai 1) (aC (ai 2) (aC (ai 3) mGNil)))))
  (aq (aU (mM ge (ah 3) (ac (mC (.str ",")) mNil)) (ai 4))
  (aq (mIf (mOr (fA (ak (mB dk (aa 1 mNil)))) (fA (ak (mB j9 (ac (bj [P8,P8,P8,P8,P8,P8] (mIt (ah 4)) (ai 5) mYes (mB cJ (aa 5 mNil))) mNil))))) (aX (mC .non)) mNext)
  (aX (bz [1] (ac (mC (.str "at")) (aa 1 (ac (mB l3 (ac (bj [P8,P8,P8,P8,P8,P8] (mIt (ah 4)) (ai 5) mYes (mB iY (aa 5 mNil))) mNil)) mNil))))))))
abbrev gM(ts:!T):↑T:=if ts.length=1 then ce eQ 5 ts else P8
abbrev fb:MS:=(aq (mIf (ak (mOp eqT (ah 0) (mC (.str "if")))) (aX (lV (ak (mOp (bY λi j=>decide (j<=i)) (mB cB (aa 1 mNil)) (mC (.int 3)))) (bz [] (ac (mC (.str "if")) (ac (gC 1 jN (ah 1)) (ac (gC 1 jN (ah 1)) (ac (gC 1 jN (ah 1)) mNil))))) (mC .non))) mNext)
  (aq (mIf (ak (mOp inT (ah 0) (mC (.tup [.str "+",.str "-",.str "*",.str "min",.str "max",.str "rest",.str "less"])))) (aX (lV (ak (mOp (bY λi j=>decide (j<=i)) (mB cB (aa 1 mNil)) (mC (.int 2)))) (bz [0] (ac (mC (.str "op")) (aa 0 (ac (gC 1 jN (ah 1)) (ac (gC 1 jN (ah 1)) mNil))))) (mC .non))) mNext)
  (aq (mIf (ak (mB be (aa 0 (ac (mC (.int 10)) mNil)))) (aX (bz [] (ac (mC (.str "num")) (ac (mB iY (aa 0 mNil)) mNil)))) mNext)
  (aX (mB gM (aa 0 mNil))))))
abbrev fj(ts:!T):↑(T×T):=if ts.length=2 then jf fb 1 2 ts else P8
abbrev cY:MS:=(aq (aU (bh [] mNil) (ai 1))
  (aq (eJ (sT (aa 0 mNil)) (ai 2)
  (dX [2,3] (aq (aU (aP 1 1 fj (aa 2 (aa 1 mNil))) (ai 3))
  (aq (mIf (ak (mOp isT (ah 3) (mC .non))) (aX (mC .non)) mNext)
  (cC (iq 1 [3] apT (ah 1) (aa 3 mNil)))))))
  (aX (lV (ak (mOp eqT (mB cB (aa 1 mNil)) (mC (.int 1)))) (mIx (ah 1) (mC (.int 0))) (mC .non)))))
abbrev fk(ts:!T):↑T:=if ts.length=1 then ce cY 4 ts else P8
abbrev e8:MS:=(aq (aU (mM ge (ah 0) (ac (mC (.str " ")) mNil)) (ai 2))
  (aq (mIf (mOr (ak (mOp (bY λi j=>decide (i<j)) (mB cB (aa 2 mNil)) (mC (.int 3)))) (mOr (ak (mOp neT (mIx (ah 2) (mC (.int 0))) (mC (.str "desk")))) (fA (ak (mB dk (ac (mIx (ah 2) (mC (.int 1))) mNil)))))) bw mNext)
  (aq (aU (mB fk (ac (mSl (ah 2) (eN (mC (.int 2))) mNoPart) mNil)) (ai 3))
  (aq (mIf (ak (mOp isT (ah 3) (mC .non))) bw mNext)
  (aX (bz [3] (ac (mIx (ah 2) (mC (.int 1))) (aa 3 mNil))))))))
abbrev fi(ts:!T):↑T:=if ts.length=2 then ce e8 4 ts else P8
abbrev ee:MS:=(aq (aU (mM ge (ah 0) (ac (mC (.str "\n")) mNil)) (ai 1))
  (aq (aU (mB fV (ac (mIx (ah 1) (mC (.int 0))) mNil)) (cc (aC (ai 2) (aC (ai 3) mGNil))))
  (aq (mIf (ak (mOp eqT (mB cB (aa 1 mNil)) (mC (.int 1)))) bw mNext)
  (aq (aU (bj [P8,P8,P8,P8,P8,P8,P8,P8] (jF (aa 1 mNil)) (cc (aC (ai 6) (aC (ai 7) mGNil))) (ak (mOp (bY λi j=>decide (j<i)) (ah 6) (mC (.int 0)))) (mB fi (aa 7 (aa 6 mNil)))) (ai 4))
  (aq (aU (bz [2,3] (aa 2 (aa 3 (ac (mB l3 (aa 4 mNil)) mNil)))) (ai 5))
  (aq (cC (mB eC (aa 5 mNil)))
  (aX (ah 5))))))))
abbrev cL(ts:!T):↑T:=if ts.length=1 then ce ee 6 ts else P8
abbrev dM:MS:=(aq (aU (mC (.str "abcdefghijklmnopqrstuvwxyz")) (ai 2))
  (aq (aU (mM dE (mC (.str "")) (ac (bj [P9 0,P8,P9 2,P8,P8] (dF (ac (mOp bO (mC (.int 1)) (aP 0 0 aM (aa 0 (ac (mC (.int 8)) mNil)))) mNil)) (ai 4) mYes (mIx (ah 2) (aP 0 0 aM (aa 0 (ac (mC (.int 26)) mNil))))) mNil)) (ai 3))
  (aq (mIf (ak (mOp eqT (aP 0 0 aM (aa 0 (ac (mC (.int 5)) mNil))) (mC (.int 0)))) (aU (mIx (bh [] (ac (mC (.str "minx")) (ac (mC (.str "rmax")) (ac (mC (.str "res")) (ac (mC (.str "lesse")) (ac (mC (.str "ifi")) (ac (mC (.str "desk")) (ac (mC (.str "house")) mNil)))))))) (aP 0 0 aM (aa 0 (ac (mC (.int 7)) mNil)))) (ai 3)) mNext)
  (aq (eY (mOr (ak (mOp inT (ah 3) (ah 1))) (ak (mOp inT (ah 3) (bz [] (ac (mC (.str "min")) (ac (mC (.str "max")) (ac (mC (.str "rest")) (ac (mC (.str "less")) (ac (mC (.str "if")) mNil)))))))))
  (aU (mOp bO (mSl (ah 3) mNoPart (eN (mUn sY (mC (.int 1))))) (mIx (ah 2) (mOp jI (mOp bO (mM k8 (ah 2) (ac (mIx (ah 3) (mUn sY (mC (.int 1)))) mNil)) (mC (.int 1))) (mC (.int 26))))) (ai 3)))
  (aX (ah 3))))))
abbrev fS(ts:!T):↑(T×T):=if ts.length=2 then jf dM 0 4 ts else P8
abbrev dN:MS:=(aq (aU (bj [P9 0,P8,P8,P8] (dF (aa 1 mNil)) (ai 3) mYes (bh [] (ac (mC (.int 0)) (ac (mC (.int 1)) (ac (mOp l0 (mC (.int 0)) (mC (.int 1))) (ac (mC (.int 999)) (ac (mOp l0 (mC (.int 0)) (mC (.int 999))) (ac (mC (.int 10)) (ac (mOp l0 (mC (.int 0)) (mC (.int 100))) (ac (mOp l0 (aP 0 0 aM (aa 0 (ac (mC (.int 1999)) mNil))) (mC (.int 999))) mNil)))))))))) (ai 2))
  (aX (mB l3 (ac (bj [P9 0,P8,P8,P8] (mIt (ah 2)) (ai 3) mYes (mIx (ah 3) (aP 0 0 aM (aa 0 (ac (mC (.int 8)) mNil))))) mNil))))
abbrev fU(ts:!T):↑(T×T):=if ts.length=2 then jf dN 0 3 ts else P8
abbrev cV:MS:=(aq (rH 4 5 (ac (aP 0 0 aM (aa 0 (ac (mC (.int 3)) mNil))) (ac (bh [] mNil) mNil)))
  (aq (eJ (dF (ac (mOp bO (mC (.int 1)) (aP 0 0 aM (aa 0 (ac (mC (.int 12)) mNil)))) mNil)) (ai 6)
  (dX [6] (mIf (lm (ak (mOp (bY λi j=>decide (j<i)) (aP 0 0 aM (aa 0 (ac (mC (.int 3)) mNil))) (mC (.int 0)))) (ak (mOp (bY λi j=>decide (i<j)) (ah 6) (ah 3)))) (cC (iq 5 [] apT (ah 5) (ac (bz [] (ac (mC (.str "at")) (ac (mIx (ah 1) (aP 0 0 aM (aa 0 (ac (mB cB (aa 1 mNil)) mNil)))) (ac (aP 0 0 fU (aa 0 (aa 2 mNil))) mNil)))) mNil))) (cC (iq 5 [] apT (ah 5) (ac (bz [] (ac (mC (.str "num")) (ac (mIx (bh [] (ac (mC (.int 0)) (ac (mC (.int 9)) (ac (mC (.int 1000000000)) (ac (aP 0 0 aM (aa 0 (ac (mC (.int 1000000001)) mNil))) mNil))))) (aP 0 0 aM (aa 0 (ac (mC (.int 4)) mNil)))) mNil))) mNil))))))
  (aq (mIf (ak (mOp (bY λi j=>decide (j<i)) (ah 4) (mC (.int 0)))) (aX (aP 0 0 jR (aa 0 (aa 5 mNil)))) mNext)
  (aq (aU (mIx (ah 5) (mC (.int 0))) (ai 7))
  (aq (eJ (mIt (mSl (ah 5) (eN (mC (.int 1))) mNoPart)) (ai 8)
  (dX [8,9] (aq (aU (mIx (bh [] (ac (mC (.str "+")) (ac (mC (.str "-")) (ac (mC (.str "*")) (ac (mC (.str "min")) (ac (mC (.str "max")) (ac (mC (.str "rest")) (ac (mC (.str "less")) mNil)))))))) (aP 0 0 aM (aa 0 (ac (mC (.int 7)) mNil)))) (ai 9))
  (aU (mIx (bh [] (ac (bz [9,7,8] (ac (mC (.str "op")) (aa 9 (aa 7 (aa 8 mNil))))) (ac (bz [9,8,7] (ac (mC (.str "op")) (aa 9 (aa 8 (aa 7 mNil))))) mNil))) (aP 0 0 aM (aa 0 (ac (mC (.int 2)) mNil)))) (ai 7)))))
  (aX (ah 7)))))))
abbrev ff(ts:!T):↑(T×T):=if ts.length=4 then jf cV 0 10 ts else P8
abbrev cD:MS:=(aq (aU (bz [] (ac (mOp bO (mC (.int 1)) (aP 0 0 aM (aa 0 (ac (mC (.int 3)) mNil)))) (ac (mOp bO (mC (.int 1)) (aP 0 0 aM (aa 0 (ac (mC (.int 6)) mNil)))) mNil))) (cc (aC (ai 1) (aC (ai 2) mGNil))))
  (aq (aU (mIx (bh [] (ac (mC (.int 2)) (ac (mC (.int 1000000000)) (ac (mOp bO (mC (.int 2)) (aP 0 0 aM (aa 0 (ac (mC (.int 999999999)) mNil)))) mNil)))) (aP 0 0 aM (aa 0 (ac (mC (.int 3)) mNil)))) (ai 3))
  (aq (aU (bh [] mNil) (ai 4))
  (aq (eJ (dF (aa 2 mNil)) (ai 5)
  (dX [5] (cC (iq 4 [] apT (ah 4) (ac (aP 0 0 fS (aa 0 (aa 4 mNil))) mNil)))))
  (aX (bz [1,3] (aa 1 (aa 3 (ac (mB l3 (ac (bj [P9 0,P9 1,P9 2,P8,P9 4,P8,P8] (mIt (ah 4)) (ai 6) mYes (bz [6] (aa 6 (ac (aP 0 0 ff (aa 0 (aa 4 (aa 1 (ac (mOp k6 (mC (.int 16)) (ah 2)) mNil))))) mNil)))) mNil)) mNil)))))))))
abbrev er(ts:!T):↑(T×T):=if ts.length=1 then jf cD 0 6 ts else P8
abbrev hV(rec:!T->↑T):MS:=(aq (mIf (ak (mOp eqT (mIx (ah 0) (mC (.int 0))) (mC (.str "num")))) (aX (bh [] (ac (mB iz (ac (mIx (ah 0) (mC (.int 1))) mNil)) mNil))) mNext)
  (aq (mIf (ak (mOp eqT (mIx (ah 0) (mC (.int 0))) (mC (.str "at")))) (aX (bh [] (ac (mOp bO (mOp bO (mIx (ah 0) (mC (.int 1))) (mC (.str "@"))) (mM dE (mC (.str ",")) (ac (bj [P8,P8,P8,P8] (mIt (mIx (ah 0) (mC (.int 2)))) (ai 3) mYes (mB iz (aa 3 mNil))) mNil))) mNil))) mNext)
  (aq (aU (bh [] (ac (mIx (bh [] (ac (mIx (ah 0) (mC (.int 0))) (ac (mIx (ah 0) (mC (.int 1))) mNil))) (mB sK (ac (mOp eqT (mIx (ah 0) (mC (.int 0))) (mC (.str "op"))) mNil))) mNil)) (ai 1))
  (aq (eJ (mIt (mSl (ah 0) (eN (mOp bO (mC (.int 1)) (mB sK (ac (mOp eqT (mIx (ah 0) (mC (.int 0))) (mC (.str "op"))) mNil)))) mNoPart)) (ai 2)
  (dX [2] (cC (iq 1 [] nF (ah 1) (ac (mB rec (aa 2 mNil)) mNil)))))
  (aX (ah 1))))))
abbrev fD:Nat->!T->↑T
 | 0=>λa=>if a.length=1 then ce bw 3 a else P8
 | n+1=>λa=>if a.length=1 then ce (hV (fD n)) 3 a else P8
abbrev i7:MS:=(aq (aU (bh [] (ac (mOp bO (mOp bO (mOp bO (mC (.str "house ")) (mB iz (ac (mIx (ah 0) (mC (.int 0))) mNil))) (mC (.str " "))) (mB iz (ac (mIx (ah 0) (mC (.int 1))) mNil))) mNil)) (ai 1))
  (aq (eJ (mIt (mIx (ah 0) (mC (.int 2)))) (cc (aC (ai 2) (aC (ai 3) mGNil)))
  (dX [2,3] (cC (iq 1 [] apT (ah 1) (ac (mM dE (mC (.str " ")) (ac (mOp bO (bh [2] (ac (mC (.str "desk")) (aa 2 mNil))) (mB (fD 24) (aa 3 mNil))) mNil)) mNil)))))
  (aX (mM dE (mC (.str "\n")) (aa 1 mNil)))))
abbrev lF(ts:!T):↑T:=if ts.length=1 then ce i7 4 ts else P8
abbrev eP:MS:=(aq (aU (bh [] mNil) (ai 1))
  (aq (eJ (dF (ac (mB u7 (ac (mC (.int 2)) (ac (mB sV (ac (mB cB (aa 0 mNil)) (ac (mC (.int 7)) mNil))) mNil))) mNil)) (ai 2)
  (dX [2,3] (aq (aU (jD 0 er (ac (mB lE (aa 0 (aa 2 mNil))) mNil)) (ai 3))
  (cC (iq 1 [] apT (ah 1) (ac (bz [3] (aa 3 (ac (mB lF (aa 3 mNil)) mNil))) mNil))))))
  (aq (eJ (mIt (mOp bO (ah 1) (mSl (ah 1) mNoPart (eN (mC (.int 1)))))) (cc (aC (ai 3) (aC (ai 4) mGNil)))
  (dX [3,4] (mIf (mOr (fA (ak (mB (dU 24) (ac (mB cM (aa 3 mNil)) (aa 4 mNil))))) (fA (ak (mB (dU 24) (ac (mB cL (aa 4 mNil)) (aa 3 mNil)))))) (aX (mC (.bl Qa))) mNext)))
  (aX (mB j9 (ac (bj [P8,P8,P8,P8,P8] (mIt (ah 1)) (cc (aC (ai 3) (aC (ai 4) mGNil))) mYes (mOp eqT (mB cM (ac (mB cL (aa 4 mNil)) mNil)) (ah 4))) mNil))))))
abbrev r_l_law_v14(ts:!T):↑T:=if ts.length=1 then ce eP 5 ts else P8
end
end L2
namespace K07
open PySem PySem.Spec PyProof.Rows L2
abbrev top(i:Nat):Stmt:=PySem.Challenge.pw_clockhouse_k07_houses_as_texts.main.body.getD i (.Pass {0,0,0,0})
noncomputable abbrev jU:Stmt:=top 10
noncomputable abbrev fm:Stmt:=top 11
noncomputable abbrev iM:Stmt:=top 12
noncomputable abbrev oo:Stmt:=top 13
noncomputable abbrev f9:Stmt:=top 21
noncomputable abbrev f8:Stmt:=top 22
noncomputable abbrev gR:Stmt:=top 23
noncomputable abbrev f7:Stmt:=top 24
noncomputable abbrev iO:Stmt:=top 25
noncomputable abbrev gc:Stmt:=top 30
noncomputable abbrev gS:Stmt:=top 31
noncomputable abbrev gb:Stmt:=top 32
noncomputable abbrev iN:Stmt:=top 33
noncomputable abbrev gT:Stmt:=top 34
noncomputable abbrev gW:Stmt:=top 35
noncomputable abbrev gU:Stmt:=top 36
noncomputable abbrev jV:Stmt:=top 37
noncomputable abbrev gQ:Stmt:=top 38
noncomputable abbrev dA:Stmt:=top 39
noncomputable abbrev gN:Stmt:=top 41
noncomputable abbrev gP:Stmt:=top 42
noncomputable abbrev fZ:Stmt:=top 43
noncomputable abbrev dy:Stmt:=top 44
noncomputable abbrev dz:Stmt:=top 45
noncomputable abbrev cT:Stmt:=top 46
noncomputable abbrev cO:Stmt:=top 47
noncomputable abbrev f6:Stmt:=top 48
noncomputable abbrev gO:Stmt:=top 49
noncomputable abbrev fY:Stmt:=top 50
noncomputable abbrev s_law:Stmt:=top 51
structure GT(K:yF)(mg:Str->↑KA):Prop where
 triv:True
 g_FIGURES:JY mg "FIGURES" (.str "0123456789")
 g_LEAST_WHEEL:JY mg "LEAST_WHEEL" (.int 2)
 g_LETTERS:JY mg "LETTERS" (.str "abcdefghijklmnopqrstuvwxyz")
 g_LONGEST_NAME:JY mg "LONGEST_NAME" (.int 8)
 g_MOST_DESKS:JY mg "MOST_DESKS" (.int 6)
 g_MOST_FIGURES:JY mg "MOST_FIGURES" (.int 10)
 g_MOST_NUMBER:JY mg "MOST_NUMBER" (.int 1000000000)
 g_MOST_ROW_FIGURES:JY mg "MOST_ROW_FIGURES" (.int 3)
 g_MOST_STEPS:JY mg "MOST_STEPS" (.int 16)
 g_MOST_WAYS:JY mg "MOST_WAYS" (.int 3)
 g_MOST_WHEEL:JY mg "MOST_WHEEL" (.int 1000000000)
 g_NO_NAMES:∃a,JY mg "NO_NAMES" (.ref a)/\Ke K a [.str "min",.str "max",.str "rest",.str "less",.str "if"]
 g_SIGNS:∃a,JY mg "SIGNS" (.ref a)/\Ke K a [.str "+",.str "-",.str "*",.str "min",.str "max",.str "rest",.str "less"]
end K07
namespace L2
open PySem PySem.Spec PyProof.Rows
section
variable {O:Rho}{a b m:ME}{ms:MA}{QE':R->Rho->Prop}{QA':!R->Rho->Prop}
def uk:aw M {.ow,t}=Qb:=by unhygienic rfl
def bT:aw [] r=Qb:=by
 have(k,t):=r;cases k with
 | vw o p=>cases o<;>unhygienic rfl
 | _=>unhygienic rfl
def Fa(h:WA ms O λrs c=>QA' ({.ow,.im i}::rs) c):WA (ac (mC i) ms) O QA':=oA (w_C (WA.mono h λ_ _ q=>gu uk q))
def FK(h:WE m O λr c=>QA' [r] c):WA (ac m mNil) O QA':=oA (WE.mono h λ_ _ q=>lP (gu (by unhygienic show bT) q))
def E3(h:WE a O λd c=>W1 (f d.t (.im i)) λt=>QE' {.ow,t} c):WE (mOp f a (mC i)) O QE':=qW (WE.mono h λ_ _ q=>w_C (gu (by unhygienic show bT) q))
def E4(h:WE a O λg d=>WE (ah n) d λc e=>W1 (f g.t c.t) λt=>QE' {.ow,t} e):WE (mOp f a (ah n)) O QE':=qW (WE.mono h λ_ _ h=>WE.mono h λ_ _ q=>gu (by unhygienic show bT) q)
abbrev owL:Nat->!R->Option !T
 | _,[]=>P9 []
 | n+1,⟨.ow,t⟩::c=>match owL n c with
  | some d=>P9 (t::d)
  | none=>P8
 | _,_=>P8
def lv{mv:!Nat}{O:Rho}:∀{n:Nat} {rs:!R} {ts:!T},owL n rs*>ts->rs.length<=n/\consL mv rs O*>(ts,O)
 | _,[],ts,h=>by rw[owL]at h;cases h;show{GA _,Xr}
 | 0,_::_,ts,h=>by simp[owL]at h
 | n+1,⟨k,t⟩::rs,ts,h=>by
  cases k with
  | ow=>
   rw[owL]at h;cases e:owL n rs with
   | none=>rw[e]at h;cases h
   | some f=>
    rw[e]at h;cases h;have(c,d):=lv (mv:=mv) (O:=O) e;show{IB c,by rw[consL,d]}
  | _=>simp[owL]at h
abbrev OwT(rs:!R)(Q:!T->Prop):Prop:=∃c,owL 1000 rs*>c/\Q c
def DH(h:owL 1000 rs*>ts)(q:Q ts):OwT rs Q:=⟨ts,h,q⟩
def CW(h:WA ms O λrs c=>OwT rs λts=>QE' {.ow,mQ ts} c):WE (bz [] ms) O QE':=xv (WA.mono h λ_ _ ⟨_,e,q⟩=>gu (decide_eq_true (lv (mv:=[]) (O:=O) e).1) {_,_,(lv e).2,q})
def CM(h:WA ms O λrs c=>OwT rs λts=>QE' {.ow,bM ts} c):WE (bh [] ms) O QE':=xu (WA.mono h λ_ _ ⟨_,e,q⟩=>gu (decide_eq_true (lv (mv:=[]) (O:=O) e).1) {_,_,(lv e).2,q})
def FI{run:!T->↑(T×T)}{k0:Nat}{t:T}{i:I}(h:W2 (run [t,.im i]) λx s=>QE' {.ow,x} (P9 {.io k0,s}::am [0] O)):WE (aP 0 0 run (aa 0 (ac (mC i) mNil))) (P9 {.io k0,t}::O) QE':=
 oy (eH rfl (Fa (lP (pN rfl (Az rfl (by unhygienic rfl) rfl rfl (W2.mono h λx s q=>by rw[nX];show q))))))
def E9{run:!T->↑(T×T)}{k0 n:Nat}{t:T}{r0:R}(c : O[n]?*>(P9 r0))(d:aw [0] (rdR (n+1) r0)=Qb)(h:W2 (run [t,(rdR (n+1) r0).t]) λx s=>QE' {.ow,x} (P9 {.io k0,s}::am [0] O)):WE (aP 0 0 run (aa 0 (aa (n+1) mNil))) (P9 {.io k0,t}::O) QE':=
 oy (eH rfl (eH (r0:=r0) c (lP (pN (r:=r0) c (pN rfl (Az rfl (by change(Qb&&_)=Qb;simp[Gn,Gn.loop,d]) rfl rfl (W2.mono h λx s q=>by rw[nX];show q)))))))
def xw(c : O[n]?*>(P9 r0))(q:QA' [rdR n r0] O):WA (aa n mNil) O QA':=eH (r0:=r0) c (lP (pN (r:=r0) c q))
def Fc{n:Nat}{r0:R}{k:Int}{Q:Int->Rho->Prop}(c : O[n]?*>(P9 r0))(e:(rdR n r0).t=.im (.int k))(q:Q k O):WA (aa n mNil) O (λrs d=>Ku rs λk=>Q k d):=xw c (rB (by rw[FS,e];rfl) q)
def CJ(c : O[n]?*>(P9 r0))(h:W1 (ixR (rdR n r0) (.im i)) λr=>QE' r O):WE (mIx (ah n) (mC i)) O QE':=CI (j7 c (w_C (gu (by unhygienic show bT) h)))
def CL{n m:Nat}{r0 c:R}(d : O[n]?*>(P9 r0))(e : O[m]?*>(P9 c))(h:W1 (ixR (rdR n r0) (rdR m c).t) λr=>QE' r O):WE (mIx (ah n) (ah m)) O QE':=CI (j7 d (j7 e (gu (by unhygienic show bT) h)))
def CV{f:T->T->↑T}{n m:Nat}{r0 c:R}(d : O[n]?*>(P9 r0))(e : O[m]?*>(P9 c))(h:W1 (f (rdR n r0).t (rdR m c).t) λt=>QE' {.ow,t} O):WE (mOp f (ah n) (ah m)) O QE':=qW (j7 d (j7 e (gu (by unhygienic show bT) h)))
def CU(c : O[n]?*>(P9 r0))(h:W1 (f (rdR n r0).t (.im i)) λt=>QE' {.ow,t} O):WE (mOp f (ah n) (mC i)) O QE':=qW (j7 c (w_C (gu (by unhygienic show bT) h)))
def CT(c : O[n]?*>(P9 r0))(h:W1 (f (.im i) (rdR n r0).t) λt=>QE' {.ow,t} O):WE (mOp f (mC i) (ah n)) O QE':=qW (w_C (j7 c (gu (by unhygienic show bT) h)))
def CS(h:W1 (f (.im i) (.im j)) λt=>QE' {.ow,t} O):WE (mOp f (mC i) (mC j)) O QE':=qW (w_C (w_C (gu (by unhygienic show bT) h)))
def Au{n m:Nat}{r0 d:R}(c : O[n]?*>(P9 r0))(e : O[m]?*>(P9 d))(q:QA' [rdR n r0,rdR m d] O):WA (aa n (aa m mNil)) O QA':=eH (r0:=r0) c (xw e (pN (r:=r0) c q))
def Fb{n m k:Nat}{r0 e d:R}(c : O[n]?*>(P9 r0))(f : O[m]?*>(P9 e))(g : O[k]?*>(P9 d))(q:QA' [rdR n r0,rdR m e,rdR k d] O):WA (aa n (aa m (aa k mNil))) O QA':=eH (r0:=r0) c (Au f g (pN (r:=r0) c q))
end
end L2
namespace L2
open PySem PySem.Spec PyProof.Rows PySem.Builtin PySem.Builtin.Str
abbrev cz(c:Nat):! !Nat->!Nat
 | []=>[]
 | [x]=>x
 | x::y::r=>x++c::cz c (y::r)
def uw{c:Nat}:∀{x e s d:!Nat},c∉x->c∉e->x++c::s=e++c::d->x=e/\s=d
 | [],[],s,d,_,_,h=>by cases h;show⟨Xr,Xr⟩
 | [],a::e,s,d,_,g,h=>by cases h;show absurd ymS g
 | a::x,[],s,d,f,_,h=>by cases h;show absurd ymS f
 | a::x,b::e,s,d,f,g,h=>by
  rw[F8,F8,Hj.injEq]at h;have(rfl,h):=h;have(j,i):=uw (λz=>f (ymC _ z)) (λz=>g (ymC _ z)) h;show{by rw[j],i}
def mD{c:Nat}:∀{a b:! !Nat},a≠[]->b≠[]->(∀x∈a,c∉x)->(∀x∈b,c∉x)->cz c a=cz c b->a=b
 | [],_,h,_,_,_,_=>absurd rfl h
 | _,[],_,h,_,_,_=>absurd rfl h
 | [x],[y],_,_,_,_,h=>by rw[cz,cz]at h;rw[h]
 | [x],y::z::r,_,_,d,_,h=>by
  rw[cz,cz]at h;show absurd (show c∈x by rw[h];show yaR _ ymS) (d x ymS)
 | x::z::r,[y],_,_,_,e,h=>by
  rw[cz,cz]at h;show absurd (show c∈y by rw[<-h];show yaR _ ymS) (e y ymS)
 | x::y::r,g::m::i,_,_,d,e,h=>by
  rw[cz,cz]at h;have(j,l):=uw (d x ymS) (e g ymS) h;have:=mD (a:=y::r) (b:=m::i) ∅ ∅ (λz f=>d z (ymC _ f)) (λz f=>e z (ymC _ f)) l;rw[j,this]
def ci(c:Nat)(zs:!Str):sL (Lj (oL [c]) zs)=cz c (zs.map sL):=by
 have f:∀(zs:!Str) (a:Array Nat),(zs.foldl (λa p=>a++(oL [c]).cps++p.cps) a).toList=a.toList++(zs.map λz=>c::sL z).flatten:=by
  intro zs
  induction zs with
  | nil=>intro a;simp
  | cons z zs e=>
   intro a;rw[HZ,e];simp[sL,oL]
 have d:∀(x:!Nat) (zs:!Str),x++(zs.map λz=>c::sL z).flatten=cz c (x::zs.map sL):=by
  intro x zs
  induction zs generalizing x with
  | nil=>simp[cz]
  | cons z zs e=>
   rw[FS,FS,cz,GG,<-e (sL z)];simp
 cases zs with
 | nil=>rfl
 | cons z zs=>
  rw[FS,<-d];show f zs z.cps
def wV(x y:Str):LH x y≠[]:=by
 intro h;have h:=congrArg HV h;unfold LH at h;split at h;cases h
 .split at h;cases h;rw[N0]at h;cases h
def qL:∀{a b:!Str},a.map sL=b.map sL->a=b:=by
 intro a
 induction a with
 | nil=>intro b h;cases b with
  | nil=>rfl
  | cons _ _=>cases h
 | cons x a c=>
  intro b h;cases b with
  | nil=>cases h
  | cons y b=>
   rw[FS,FS,Hj.injEq]at h;rw[c h.2];have:oL (sL x)=oL (sL y):=by rw[h.1]
   rw[lr,lr]at this;rw[this]
def gf(c:Nat){zs:!Str}(d:zs≠[])(g:∀z∈zs,c∉sL z):LH (Lj (oL [c]) zs) (oL [c])=zs:=by
 have h:Lj (oL [c]) (LH (Lj (oL [c]) zs) (oL [c]))=Lj (oL [c]) zs:=(StrLaws.glued_eq_join _ _).trans (StrLaws.join_split _ _);have f:=congrArg sL h;rw[ci,ci]at f;show qL (mD (by simpa using wV _ _) (by exists d) (λx a=>?_) (λx a=>?_) f)
 .have(p,e,rfl):=FT.mp a;show StrLaws.split_free _ c p e
 .have(p,e,rfl):=FT.mp a;show g p e
def ij{z:Str}{c:Nat}(h:z.length+2<=sizeLine):jh z (oL [c])=Qb:=by
 unfold jh;rw[FO,FO,decide_eq_true_eq,decide_eq_true_eq];show{Xr,by omega,?_};rw[N0];have:=StrLaws.occ_length_le z (oL [c]) 0 z.length (z.length+1);omega
abbrev dig(n:Nat):!Nat:=(IF 10 n).map Char.toNat
def lJ(n:Nat):sL ((toString (n:Int):Str))=dig n:=PySem.W.KIN.signs_num n
def mr{n:Nat}(h:n<10):dig n=[48+n]:=by
 unfold dig;rw[Nat.toDigits_of_lt_base h]
 revert n
 decide
def xK{n:Nat}(h:10<=n):dig n=dig (n / 10)++[48+n % 10]:=by
 have a:n % 10<10:=Ik n (by decide);have t:IF 10 (n / 10)++IF 10 (n % 10)=IF 10 (10*(n / 10)+n % 10):=Nat.toDigits_append_toDigits (by decide) ⋯ a;rw[Nat.div_add_mod]at t;have e:dig n=dig (n / 10)++dig (n % 10):=by unfold dig;rw[<-t,FY]
 rw[e,mr a]
def gr:∀(k n:Nat),n<10^k->1<=k->(dig n).length<=k/\dig n≠[]/\(∀c∈dig n,48<=c/\c<=57)/\((dig n).length=1\/(dig n).head?≠P9 48)/\(n≠0->(dig n).head?≠P9 48):=by
 intro k
 induction k with
 | zero=>intro n _ h;omega
 | succ k f=>
  intro n m _;by_cases h:n<10
  .rw[mr h];show{by simp,by simp,λc a=>?_,.inl rfl,λp=>?_};rw[ysM a];omega;simp;omega
  .have g:1<=k:=by
    cases k with
    | zero=>omega
    | succ k=>omega
   have(q,l,i,o,j):=f (n / 10) (by rw[Nat.pow_succ]at m;omega) g;rw[xK ⋯];have d:(dig (n / 10)++[48+n % 10]).head?≠P9 48:=by
    have:=j ⋯;cases e:dig (n / 10)with
    | nil=>show absurd e l
    | cons x r=>rw[e]at this;show this
   show{by rw[FQ];change _+1<=_;omega,by simp,λc a=>?_,.inr d,λ_=>d};rcases yaM a with z|z;show i c z;rw[ysM z];omega
def nN{n:Nat}(h:n<10^10):GZ (toString (n:Int):Str)*>(n:Int):=PySem.W.KIN.num_reads ⋯ ⋯
def xL(n:Nat):PySem.NumText.digitsVal (dig n)=n:=PySem.W.KIN.val_back n
def qM{n:Nat}(h:1<=n):sL ((toString (-(n:Int)):Str))=45::dig n:=by
 obtain⟨m,rfl⟩:∃m,n=m+1:={n-1,by omega};have e:(toString (-((m+1:Nat):Int))) = "-" ++ Nat.repr (m+1):=rfl;change(PySem.Str.ofString (toString (-((m+1:Nat):Int)))).cps.toList=_;rw[e,Jy];rw[String.toList_append,FY,Nat.toList_repr];rfl
def xY{n:Nat}(h:1<=n)(f:n<10^10):GZ (toString (-(n:Int)):Str)*>(-(n:Int)):=by
 have(i,g,d,_,_):=gr 10 n f (by decide);have e:=qM h;have:=PySem.intText_neg (x:=(toString (-(n:Int)):Str)) (cs:=dig n) e (λc a=>d c a) g (by
  change(PySem.Str.ofString (toString (-(n:Int)))).length<=4300;have:(sL ((toString (-(n:Int)):Str))).length<=11:=by rw[e,FR];omega
  have j:(PySem.Str.ofString (toString (-(n:Int)))).length=(sL ((toString (-(n:Int)):Str))).length:=by unfold sL;rw[GE];rfl
  omega)
 rw[xL]at this;show this
def BI{c:Nat}{a b:!Nat}(h:c∉a):La (oL (a++c::b)) (oL [c])=(oL a,oL [c],oL b):=by
 have j:(oL (a++c::b)).cps.toList=a++c::b:=rfl;have d:∀i,StrLaws.At (oL (a++c::b)) (oL [c]) (oL (a++c::b)).length i↔(a++c::b)[i]?*>c:=λi=>by
  have:=StrLaws.subAt_one (oL (a++c::b)) c i;rw[j]at this;show this
 have f:(a++c::b)[a.length]?*>c:=by rw[Hv (FV _),JP];rfl
 rcases partition_whole (oL (a++c::b)) (oL [c])with⟨_,l⟩|⟨i,e,g,l⟩;show absurd ((d a.length).mpr f) (l _)
 .have g:=(d i).mp g;have m:i=a.length:=by
   rcases Nat.lt_trichotomy i a.length with z|z|z
   .rw[GQ z]at g;show absurd (ymG g) h
   .show z
   .show absurd ((d a.length).mpr f) (l _ z)
  subst m;rw[e];have p:strSub (oL (a++c::b)) 0 a.length=oL a:=iL (by
   change(strSub (oL (a++c::b)) 0 a.length).cps.toList=a;rw[NM,j];simp)
  have o:strSub (oL (a++c::b)) (a.length+(oL [c]).length) (oL (a++c::b)).length=oL b:=iL (by
   change(strSub (oL (a++c::b)) (a.length+1) (oL (a++c::b)).length).cps.toList=b;rw[NM,j];have:(oL (a++c::b)).length=a.length+1+b.length:=by change(a++c::b).toArray.size=_;simp;omega
   rw[this];simp)
  rw[p,o]
end L2
namespace L2
open PySem
noncomputable section
end
end L2
namespace L2
open PySem PySem.Spec PyProof.Rows
local macro_rules|`(tactic| ac_nf)=>`(tactic| try simp only[AY,Dv,Du,x0,Dw,List.set_cons_zero,Jc,nX,yV,Ci,Ck,Cj,yW,uF,sH])
local macro_rules|`(tactic| injection $x:ident)=>`(tactic| refine $x ?_)
local macro_rules|`(tactic| infer_instance)=>`(tactic| first
 | injection xR|injection xS|(refine xP ?_;try ac_nf)|injection AN|refine Dl rfl ?_|injection Do|injection Dn
 | injection E8|injection EW|injection E7|injection CF|injection CP|injection EX|injection E6
 | injection w_C|refine j7 rfl ?_|refine CV rfl rfl ?_|refine CU rfl ?_|refine CT rfl ?_|injection CS|injection E3|injection E4|injection qW|injection FJ|injection w_B|injection w_M|refine CJ rfl ?_|refine CL rfl rfl ?_|injection CI|injection FH|injection CW|injection CM|refine DH (by unhygienic rfl) ?_|injection xu|injection xv|injection EY|injection CD|injection E5|injection CQ|injection FI|refine E9 rfl (by unhygienic rfl) ?_|injection oy|injection zA|injection EZ|injection CN|injection zB
 | injection zM|injection zN
 | injection lP|injection Fa|injection FK|refine Fc rfl rfl ?_|refine xw rfl ?_|refine Au rfl rfl ?_|refine Fb rfl rfl rfl ?_|injection oA|refine eH rfl ?_
 | injection zO|injection C6|injection xE|injection C5|injection Fd|injection lS
 | (refine zI (by unhygienic rfl) ?_;try ac_nf)|refine C3 rfl ?_|refine xA (by unhygienic rfl) ?_|injection zJ|injection C2|injection xz
 | refine gu (by unhygienic rfl) ?_
 | injection Bt|injection DW|injection DT|injection DJ|injection DK|injection DR|injection DL|injection DS|injection DM|injection BA|injection Bz|injection DQ|injection DP|injection Bx|injection BH|injection BB|injection DU|injection DV|injection BE|refine BF rfl ?_
 | refine lw rfl ?_|refine DO rfl ?_|refine vo (n:=0) rfl (IP rfl) ?_|refine vo (n:=1) rfl (IP rfl) ?_
 | refine z7 (Fz (by decide) (by decide)) ?_|refine z7 (Fy (by decide) (by decide)) ?_|refine z6 ⋯ ?_|refine Bv ⋯ ?_
 | refine CO (by rfl) ?_|injection AF|injection Dh
 | refine vj (b:=true) rfl (by decide) ?_|refine vj (b:=false) rfl (by decide) ?_|injection BC
 | injection Fu|injection Fv|refine pN rfl ?_|refine Az rfl (by unhygienic rfl) rfl rfl ?_|refine Fk rfl ?_|refine Fi rfl rfl ?_|injection Fj|injection CA|refine rB rfl ?_)
local macro_rules|`(tactic| omega)=>`(tactic| decide)
local macro_rules|`(tactic| and_intros)=>`(tactic| repeat infer_instance)
local macro_rules|`(tactic| cbv)=>`(tactic| unhygienic rfl)
local macro_rules|`(tactic| clear_value $h:ident)=>`(tactic| first|refine dsp (fun $h=>?_) (fun $h=>?_)|refine Fq (fun $h=>?_) (fun $h=>?_)|refine bsp (fun $h=>?_) (fun $h=>?_))
def gI{ns:!Int}{g:Kd}{a:Int}{d:R->Prop}(f:0<=a)(h:a<ns.length)(q:∀y,y∈ns->ns[a.toNat]?*>y->d {.ow,.im (.int y)}):W1 (ixR {g,.li (ns.map .int)} (.im (.int a))) d:=by
 show vk f (by exists h) λx c=>?_;rw[F4]at c;cases e:ns[a.toNat]? with
 | none=>rw[e]at c;cases c
 | some y=>rw[e]at c;cases c;show q y (ymG e) e
def bv{a:Type}{P : a->Prop}{l:!a}{y : a}(h:∀x∈l,P x)(d:P y):∀x∈l++[y],P x:=λx c=>(yaM c).elim (h x) λz=>by rw[ysM z];show d
abbrev fT(f:Int×Int):T:=.li [.int f.1,.int f.2]
def aW(a:0<n)(e:n<2^64)(q:∀d c,0<=d->d<n->Q (.im (.int d)) (fT c)):W2 (aM [fT f,.im (.int n)]) Q:=by
 show rT rfl rfl ?_;unfold i8;and_intros
 (refine aK ?_;and_intros;clear_value h)
 .and_intros;show q _ (f.1 / n,f.2) (HI _ (by lia)) (Hr _ a)
 .and_intros;show q _ (f.1,(f.2*48271 % 2147483647*40692+30103) % 2147483399+1) (HI _ (by lia)) (Hr _ a)
abbrev FE(is:!Int):T:=.im (.tup (is.map .int))
inductive Ru where
 | num (n:Int)|rd (x:Str) (row:!Int)|op (s:Str) (a b:Ru)|cond (a b c:Ru)
abbrev tRu:Ru->I
 | .num n=>.tup [.str "num",.int n]
 | .rd x d=>.tup [.str "at",.str x,.tup (d.map .int)]
 | .op s a b=>.tup [.str "op",.str s,tRu a,tRu b]
 | .cond a b c=>.tup [.str "if",tRu a,tRu b,tRu c]
abbrev Ru.leaves:Ru->!Ru
 | .op _ a b=>a.leaves++b.leaves
 | .cond a b c=>a.leaves++(b.leaves++c.leaves)
 | r=>[r]
abbrev Ru.depth:Ru->Nat
 | .op _ a b=>max a.depth b.depth+1
 | .cond a b c=>max a.depth (max b.depth c.depth)+1
 | _=>0
abbrev J3:!Str:=["+","-","*","min","max","rest","less"]
abbrev Ru.ok:Ru->Prop
 | .op s a b=>s∈J3/\a.ok/\b.ok
 | .cond a b c=>a.ok/\b.ok/\c.ok
 | _=>True
def Ru.depth_lt:∀r:Ru,r.depth<r.leaves.length
 | .num _=>Ju
 | .rd _ _=>Ju
 | .op _ a b=>by have:=a.depth_lt;have:=b.depth_lt;dsimp[Ru.depth,Ru.leaves,FQ];omega
 | .cond a b c=>by have:=a.depth_lt;have:=b.depth_lt;have:=c.depth_lt;dsimp[Ru.depth,Ru.leaves,FQ];omega
def iu{d:Type}{emb : d->I}{ns:!d}{h:Kd}{a:Int}{f:R->Prop}(g:0<=a)(i:a<ns.length)(q:∀y,ns[a.toNat]?*>y->f {.ow,.im (emb y)}):W1 (ixR {h,.li (ns.map emb)} (.im (.int a))) f:=by
 show vk g (by exists i) λx c=>?_;rw[F4]at c;cases e:ns[a.toNat]? with
 | none=>rw[e]at c;cases c
 | some y=>rw[e]at c;cases c;show q y e
def As{d:MT}{c a:MS}{O:Rho}{Q:Fl->Rho->Prop}(M:Bool->Rho->Prop)(h:WT d O M)(f:∀O,M Qb O->WS c O Q)(g:∀O,M Qa O->WS a O Q):WS (mIf d c a) O Q:=aK (WT.mono h λb O m=>{λe=>f O (e▸m),λe=>g O (e▸m)})
def Fn{c:Type}{l:!c}{n:Nat}{a b : c}(f:l[n]?*>a)(d:l[n+1]?*>b):l=l.take n++a::b::l.drop (n+2):=by
 have(h,g):=FL.mp f;have(i,e):=FL.mp d;rw[<-g,<-e,Ha,Ha,Hf]
def Fo{d:Type}{l:!d}{n:Nat}{a b c : d}(i:l[n]?*>a)(f:l[n+1]?*>b)(e:l[n+2]?*>c):l=l.take n++a::b::c::l.drop (n+3):=by
 have(o,j):=FL.mp i;have(p,g):=FL.mp f;have(m,h):=FL.mp e;rw[<-j,<-g,<-h,Ha,Ha,Ha,Hf]
def uJ{f:Int×Int}{rs:!Ru}(o:rs≠[])(E:rs.length<=1000)(e:∀r∈rs,r.ok){Q:T->T->Prop}(q:∀r M,r.leaves=rs.flatMap Ru.leaves->r.ok->Q (.im (tRu r)) (fT M)):W2 (jR [fT f,.li (rs.map tRu)]) Q:=by
 show Kc [P9 {.io 0,fT f},P9 {.vw P8 P8,.li (rs.map tRu)},P8,P8,P8] rfl rfl rfl ?_;unfold hU;and_intros;show lN (λs:(Int×Int)×!Ru=>[P9 {.io 0,fT s.1},P9 {.vw P8 P8,.li (rs.map tRu)},⇑(.li (s.2.map tRu)),P8,P8]) (λs=>s.2≠[]/\s.2.length<=1000/\(∀r∈s.2,r.ok)/\s.2.flatMap Ru.leaves=rs.flatMap Ru.leaves) (λs=>s.2.length) (f,rs) (by cbv) ⟨o,E,e,Xr⟩ λs ⟨o,E,e,m⟩=>?_;have(f,i):=s;dsimp only at o E e m|-;and_intros;rw[FM];clear_value w
 .and_intros;rw[FM];show aW ⋯ ⋯ λg f u L=>?_;ac_nf;and_intros;show As (λb O=>∃f:Int×Int,O=[P9 {.io 0,fT f},P9 {.vw P8 P8,.li (rs.map tRu)},⇑(.li (i.map tRu)),↥(.int g),P8]/\(b=Qb->2<i.length)) ?_ ?_ ?_
  .and_intros;rw[FM];clear_value G
   .and_intros;show aW ⋯ ⋯ λd f t v=>?_;ac_nf;and_intros;show{f,Xr,λ_=>by omega}
   .show{f,Xr,λz=>absurd z (by decide)}
  .rintro O ⟨f,rfl,G⟩;have G:=G rfl;and_intros;rw[FM];generalize A:(if(i.length:Int)-3<g then(i.length:Int)-3 else g)=at1;have H:0<=at1/\at1+3<=i.length:=by subst A;split<;>omega
   show iu (ns:=i) H.1 ⋯ λa x=>?_;and_intros;show iu (ns:=i) ⋯ ⋯ λb p=>?_;and_intros;show iu (ns:=i) ⋯ ⋯ λc y=>?_;and_intros;rw[show(at1+1).toNat=at1.toNat+1 by omega]at p;rw[show(at1+2).toNat=at1.toNat+2 by omega]at y;have l:=Fo x p y;show{[],i.map tRu,_,_,at1,at1+3,Xr,Xr,Xr,by cbv,{H.1,by omega,by simp;omega,by simp;rw[KG];omega},Xr,Xr,?_};ac_nf;and_intros;show{(f,i.take at1.toNat++Ru.cond a b c::i.drop (at1.toNat+3)),?_,?_,by simp,?_,?_,?_}
   .rw[FY,FS,Iu,JF,show(at1+3).toNat=at1.toNat+3 by omega,F5]
    cbv
   .simp;omega
   .simp;omega
   .intro r j;rcases yaM j with j|j;show e r (HY j)
    .rcases ycM j with rfl|j;show{e a (ymG x),e b (ymG p),e c (ymG y)};show e r (IY j)
   .rw[<-m]
    conv=>rhs;rw[l]
    simp[Ru.leaves]
  .rintro O ⟨f,rfl,_⟩;and_intros;show aW ⋯ ⋯ λd f t v=>?_;ac_nf;and_intros;show iu (emb:=I.str) (ns:=J3) t (by simpa[J3]using v) λJ B=>?_;and_intros;show iu (ns:=i) u ⋯ λa x=>?_;and_intros;show iu (ns:=i) ⋯ ⋯ λb p=>?_;and_intros;rw[show(g+1).toNat=g.toNat+1 by omega]at p;have l:=Fn x p;show{[],i.map tRu,_,_,g,g+2,Xr,Xr,Xr,by cbv,{u,by omega,by simp;omega,by simp;rw[KG];omega},Xr,Xr,?_};ac_nf;and_intros;show{(f,i.take g.toNat++Ru.op J a b::i.drop (g.toNat+2)),?_,?_,by simp,?_,?_,?_}
   .rw[FY,FS,Iu,JF,show(g+2).toNat=g.toNat+2 by omega,F5]
    cbv
   .simp;omega
   .simp;omega
   .intro r j;rcases yaM j with j|j;show e r (HY j)
    .rcases ycM j with rfl|j;show{ymG B,e a (ymG x),e b (ymG p)};show e r (IY j)
   .rw[<-m]
    conv=>rhs;rw[l]
    simp[Ru.leaves]
 .and_intros;obtain⟨r,rfl⟩:∃r,i=[r]:=by
   match i,o,w with
   | [r],_,_=>show⟨r,Xr⟩
   | _::_::_,_,h=>simp at h;omega
  and_intros;show q r f (by exists m) (e r ∅)
abbrev Ru.kids:Ru->!Ru
 | .op _ a b=>[a,b]
 | .cond a b c=>[a,b,c]
 | _=>[]
abbrev Ru.pre:Ru->!Ru
 | .num n=>[.num n]
 | .rd x d=>[.rd x d]
 | .op s a b=>.op s a b::(a.pre++b.pre)
 | .cond a b c=>.cond a b c::(a.pre++(b.pre++c.pre))
def qz(r:Ru):r.pre=r::r.kids.flatMap Ru.pre:=by cases r<;>simp[Ru.pre,Ru.kids]
def rM(r:Ru):1<=r.pre.length:=by rw[qz];simp
def fQ:∀r:Ru,r.pre.length<2*r.leaves.length
 | .num _=>by simp[Ru.pre,Ru.leaves]
 | .rd _ _=>by simp[Ru.pre,Ru.leaves]
 | .op _ a b=>by have:=fQ a;have:=fQ b;dsimp[Ru.pre,Ru.leaves,FR,FQ];omega
 | .cond a b c=>by have:=fQ a;have:=fQ b;have:=fQ c;dsimp[Ru.pre,Ru.leaves,FR,FQ];omega
def uU(r:Ru):r.kids.length<=3:=by cases r<;>simp[Ru.kids]
def uO(q:Q (.im (.tup (r.kids.map tRu)))):W1 (dw [.im (tRu r)]) Q:=by
 show p7 [↥(tRu r)] rfl rfl rfl ?_;unfold cg;cases r with
 | num k=>
  rw[tRu];and_intros
  (refine aK ?_;and_intros;clear_value h)
  .show absurd h (by decide +kernel)
  and_intros
  (refine aK ?_;and_intros;clear_value d)
  .show absurd d (by decide +kernel)
  and_intros;show q
 | rd x e=>
  rw[tRu];and_intros
  (refine aK ?_;and_intros;clear_value h)
  .show absurd h (by decide +kernel)
  and_intros
  (refine aK ?_;and_intros;clear_value d)
  .show absurd d (by decide +kernel)
  and_intros;show q
 | op s a b=>
  rw[tRu];and_intros
  (refine aK ?_;and_intros;clear_value h)
  .and_intros;show rL (is:=[.str "op",.str s,tRu a,tRu b]) (show ¬((2:Nat)=0/\4=4) by decide) ?_;and_intros;show q
  .show absurd rfl h
 | cond a b c=>
  rw[tRu];and_intros
  (refine aK ?_;and_intros;clear_value h)
  .show absurd h (by decide +kernel)
  and_intros
  (refine aK ?_;and_intros;clear_value d)
  .and_intros;show rL (is:=[.str "if",tRu a,tRu b,tRu c]) (show ¬((1:Nat)=0/\4=4) by decide) ?_;and_intros;show q
  .show absurd rfl d
def BG(q:Q (~~~is.isEmpty)):W1 (tru (.li is)) Q:=w1 rfl q
def lx(u:r.leaves.length<=1000)(q:Q (.li (r.pre.map tRu))):W1 (cK [.im (tRu r)]) Q:=by
 have g:=fQ r;show p7 [↥(tRu r),P8,P8,P8] rfl rfl rfl ?_;unfold dO;and_intros;show lN (λs:!Ru×!Ru=>[↥(tRu r),⇑(.li (s.1.map tRu)),⇑(.li (s.2.map tRu)),P8]) (λs=>s.1++s.2.reverse.flatMap Ru.pre=r.pre) (λs=>(s.2.flatMap Ru.pre).length) ([],[r]) (by cbv) ∅ λs e=>?_;have(h,st):=s;dsimp only at e|-;and_intros;show BG ?_;show bsp (λf=>?_) (λm=>?_)
 .obtain⟨c,p,rfl⟩:∃c p,st=c++[p]:=by
   rcases IQ st with z|⟨a,b,z⟩;rw[z]at f;cases f;show{a,b,by simpa using z}
  rw[FY]at *;and_intros;show mU ?_;ac_nf;and_intros;have d:=congrArg HV e;dsimp[I0,Hu,List.reverse_nil,G5,F3,FW,Hk,Ge,FQ,F8]at d e;have j:(c.reverse.flatMap Ru.pre).length=(c.flatMap Ru.pre).length:=by simp[I8,HB,Jq]
  have o:c.length<=(c.flatMap Ru.pre).length:=by
   clear e f d j
   induction c with
   | nil=>simp
   | cons a l t=>rw[FW,FR,FQ];have:=rM a;omega
  show cH (is:=h.map tRu) (by simp;rw[KG];omega) ?_;ac_nf;and_intros;show uO ?_;and_intros;have i:=uU p;show Bu (is:=c.map tRu) (js:=(p.kids.map tRu).reverse) (by simp;rw[KG];omega) ?_;ac_nf;and_intros;show{(h++[p],c++p.kids.reverse),?_,?_,?_}
  .rw[FY,FY,HB]
   cbv
  .rw[F3,F3,FQ,FQ,FW,Hk,Ge,qz p,FR];have:(p.kids.reverse.flatMap Ru.pre).length=(p.kids.flatMap Ru.pre).length:=by simp[I8,HB,Jq]
   omega
  .rw[<-e,I0,List.reverse_reverse,F3,qz p];simp
 .have:st=[]:=by cases st<;>first|rfl|cases m
  subst this;and_intros;simp at e;subst e;show q
abbrev Looks(P:Nat->Int×!Int->Prop)(c:Nat)(m:Nat)(a:! !(Int×!Int)):Prop:=a.length=m/\∀x l,a[x]?*>l->l.length<=c/\∀p∈l,P x p
def zv{c:Type}{l:!c}{n x:Nat}{a b : c}(h:(l.set n a)[x]?*>b):(n=x/\b=a)\/(n≠x/\l[x]?*>b):=by
 by_cases e:n=x
 .subst e;have:=(FL.mp h).1;rw[GC (by exists this)]at h;cases h;show .inl ⟨Xr,Xr⟩
 .rw[F6 e]at h;show .inr ⟨e,h⟩
def Looks.set{P:Nat->Int×!Int->Prop}{c m:Nat}{e:! !(Int×!Int)}{n:Nat}{l a:!(Int×!Int)}(h:Looks P c m e)(i:e[n]?*>l)(g:a.length<=c)(f:∀p∈a,P n p):Looks P c m (e.set n a):=by
 show{by rw[HG];show h.1,λx a d=>?_};rcases zv d with⟨rfl,rfl⟩|⟨_,d⟩;show⟨g,f⟩;show h.2 x a d
abbrev RR(rest row:!Int):Prop:=row.length=rest.length/\∀(i:Nat) y r,row[i]?*>y->rest[i]?*>r->-2<=y/\y<=2/\-2<=r+y/\r+y<=2
abbrev Kf:!Str:=["min","max","rest","less","if"]
def xG:∀i<26,∀j<26,(sL LET).getD i 0=(sL LET).getD j 0->i=j:=by decide +kernel
def Be(h:oL x=oL y):x=y:=congrArg sL h
abbrev cx(z:Str):Prop:=1<=z.length/\z.length<=8/\z∉Kf/\∀c∈sL z,c∈sL LET
def kY{a:Type}{xs:!a}{n:Nat}(h:n<=xs.length):cy xs (P9 (n:Int)) P8=xs.drop n:=by
 unfold cy;rw[HT.sIx_none,HT.sIx_nat,Jv h];show GD (by rw[Hz];show FV _)
def m8:∀{zs:!Str},pE (zs.map I.str)*>zs
 | []=>rfl
 | z::zs=>by rw[FS,pE,m8];rfl
def vm(h:(zs.map (·.length)).sum+zs.length*z.length<=16777216)(q:QT1 (.im (.str (Lj z zs)))):W1 (dE (.im (.str z)) [.li (zs.map .str)]) QT1:=w1 (by dsimp[dE,m8];rw[if_pos h]) q
def qk{f:Type}{g:Nat->f}{n:Nat}(d:∀x<n,∀y<n,g x=g y->x=y):((Gn n).map g).Nodup:=jG List.nodup_range λx a y c e=>d x (GP.mp a) y (GP.mp c) e
def qY(h:i<26):(sL LET)[i]?*>((sL LET).getD i 0):=by
 rw[Gb,GX (by rw[ko];show h)];rfl
abbrev bG(p:Str×Ru):I:=.tup [.str p.1,tRu p.2]
abbrev bd(w wh:Int) (a:!(Str×Ru)):I:=.tup [.int w,.int wh,.tup (a.map bG)]
abbrev lf:Ru->Prop
 | .num _=>True
 | .rd _ _=>True
 | _=>False
def jB{r:Ru}(h:lf r):r.leaves=[r]:=by cases r<;>first|rfl|cases h
def mK:∀{rs:!Ru},(∀r∈rs,lf r)->rs.flatMap Ru.leaves=rs
 | [],_=>rfl
 | r::rs,h=>by rw[FW,jB (h r ymS),mK λx a=>h x (ymC _ a)];rfl
abbrev Kr(ns:!Str)(w:Int):Ru->Prop
 | .num n=>0<=n/\n<=1000000000
 | .rd x a=>x∈ns/\a.length=w.toNat
 | _=>False
def nQ{r:Ru}(h:lf r):r.ok:=by cases r<;>first|trivial|cases h
abbrev Cov(n:Nat)(rs:!Ru):Prop:=∃L:!(Str×!Int),L.length<=n/\∀x a,Ru.rd x a∈rs->(x,a)∈L
abbrev Kt(c:Nat)(ns:!Str)(w:Int)(n:Nat)(r:Ru):Prop:=r.ok/\r.leaves.length<=c/\(∀l∈r.leaves,Kr ns w l)/\Cov n r.leaves
abbrev Kb(c:Nat)(w wh:Int)(a:!(Str×Ru)):Prop:=1<=w/\w<=3/\2<=wh/\wh<=1000000000/\1<=a.length/\a.length<=6/\(a.map (·.1)).Nodup/\(∀z∈a.map (·.1),cx z)/\∃n,n*a.length<=16/\∀p∈a,Kt c (a.map (·.1)) w n p.2
def mj{a:Type}{xs:!a}{v:Int}(h:0<=v):cy xs P8 (P9 v)=xs.take v.toNat:=by
 obtain⟨n,rfl⟩:∃n:Nat,v=n:={v.toNat,by lia};unfold cy;rw[HT.sIx_none,HT.sIx_nat,GF,IS,JQ];rcases Nat.le_total n xs.length with h|h;rw[Jv h];rw[Nat.min_eq_right h,GD h,GD (FV _)]
def dg:∀{r l:Ru},lf l->l∈r.pre->l∈r.leaves
 | .num _,l,_,h=>h
 | .rd _ _,l,_,h=>h
 | .op s a b,l,d,h=>by
  rw[Ru.pre]at h;rw[Ru.leaves];rcases ycM h with rfl|h;cases d
  .rcases yaM h with h|h;show yaL _ (dg d h);show yaR _ (dg d h)
 | .cond a b c,l,d,h=>by
  rw[Ru.pre]at h;rw[Ru.leaves];rcases ycM h with rfl|h;cases d
  .rcases yaM h with h|h;show yaL _ (dg d h)
   .rcases yaM h with h|h;show yaR _ (yaL _ (dg d h));show yaR _ (yaR _ (dg d h))
abbrev tR2(p:Str×!Int):I:=.tup [.str p.1,.tup (p.2.map .int)]
def tw(m:r.leaves.length<=1000)(q:∀L:!(Str×!Int),L.length<=2000->(∀p∈L,Ru.rd p.1 p.2∈r.leaves)->Q (.im (.tup (L.map tR2)))):W1 (jS [.im (tRu r)]) Q:=by
 have i:=fQ r;show p7 [↥(tRu r)] rfl rfl rfl ?_;unfold ia;and_intros;show xp (λ_:Unit=>[↥(tRu r)]) tR2 (λj _ L=>L.length<=j/\∀p∈L,Ru.rd p.1 p.2∈r.leaves) ?_;and_intros;show lx m ?_;show{r.pre.map tRu,Xr,by simp;rw[KG];omega,by cbv,(),by cbv,{FV _,by simp},λj t _ L d ⟨l,f⟩=>?_,λ_ L ⟨l,f⟩=>?_}
 .rw[F4]at d;cases e:r.pre[j]? with
  | none=>rw[e]at d;cases d
  | some y=>
   rw[e]at d;cases d;have o:=ymG e;cases y with
   | num k=>
    rw[tRu];and_intros;clear_value h
    .show absurd h (by decide +kernel)
    .show{(),by cbv,by omega,f}
   | rd x g=>
    rw[tRu];and_intros;clear_value h
    .and_intros;show{(x,g),(),Xr,by cbv,by simp;omega,bv f (dg trivial o)}
    .show absurd rfl h
   | op s a b=>
    rw[tRu];and_intros;clear_value h
    .show absurd h (by decide +kernel)
    .show{(),by cbv,by omega,f}
   | cond a b c=>
    rw[tRu];and_intros;clear_value h
    .show absurd h (by decide +kernel)
    .show{(),by cbv,by omega,f}
 .and_intros;show q L (by simp at l;omega) f
def uG(d:1<=w)(e:w<=3)(a:2<=wh)(c:wh<=1000000000)(g:1<=is.length)(f:is.length<=6)(q:Q (.im .non)):W1 (eB [.im (.int w),.im (.int wh),.im (.tup is)]) Q:=by
 show p7 [↥(.int w),↥(.int wh),↥(.tup is)] rfl rfl rfl ?_;unfold dY;and_intros;show aK ?_;and_intros;clear_value c1
 rotate_left
 .show absurd d c1
 and_intros;clear_value c2
 .show absurd e c2
 and_intros;show aK ?_;and_intros;clear_value c3
 rotate_left
 .show absurd a c3
 and_intros;clear_value c4
 .show absurd c c4
 and_intros;show aK ?_;and_intros;clear_value c5
 rotate_left
 .show absurd ⋯ c5
 and_intros;clear_value c6
 .show absurd ⋯ c6
 and_intros;show q
def eG:∀{zs:!Str},I.doks (zs.map I.str)=Qb/\I.deps (zs.map I.str)<=50
 | []=>{Xr,by decide}
 | z::zs=>by
  have a:=eG (zs:=zs);show{by rw[FS,I.doks,a.1];rfl,?_};rw[FS,I.deps];have:I.dep (.str z)=0:=rfl;have:=a.2;omega
def zq(t:r.leaves.length<=1000)(v:0<=w)(ho:∀l∈r.leaves,Kr ns w l)(q:Q (.im .non)):W1 (fg [.im (.str z),.im (tRu r),.li (ns.map .str),.im (.int w)]) Q:=by
 have o:=fQ r;show p7 [↥(.str z),↥(tRu r),P9 {.vw P8 P8,.li (ns.map .str)},↥(.int w),P8] rfl rfl rfl ?_;unfold e7;and_intros;show eU (λ_:Unit=>[↥(.str z),↥(tRu r),P9 {.vw P8 P8,.li (ns.map .str)},↥(.int w),P8]) (λ_ _=>True) ?_;and_intros;show lx t ?_;show{r.pre.map tRu,Xr,by cbv,(),by cbv,trivial,λj u _ d _=>?_,λ_ _=>?_}
 .rw[F4]at d;cases e:r.pre[j]? with
  | none=>rw[e]at d;cases d
  | some y=>
   rw[e]at d;cases d;have p:=ymG e;cases y with
   | num k=>
    have i:=ho _ (dg (l:=.num k) trivial p);rw[tRu];and_intros;show aK ?_;and_intros;clear_value h
    rotate_left
    .show absurd rfl h
    and_intros;clear_value c1
    rotate_left
    .show absurd i.1 c1
    and_intros;clear_value c2
    .show absurd i.2 c2
    and_intros;show aK ?_;and_intros;clear_value g
    .show absurd g (by decide +kernel)
    show spF ?_;and_intros;show aK ?_;and_intros;clear_value f
    .show absurd f (by decide +kernel)
    show spF ?_;and_intros;show{(),by cbv,trivial}
   | rd x m=>
    have i:=ho _ (dg (l:=.rd x m) trivial p);rw[tRu];and_intros;show aK ?_;and_intros;clear_value h
    .show absurd h (by decide +kernel)
    show spF ?_;and_intros;show aK ?_;and_intros;clear_value g
    rotate_left
    .show absurd rfl g
    and_intros;show vn (is:=ns.map .str) ⟨Xr,eG.1,eG.2⟩ ?_;and_intros;clear_value c1
    .show absurd (FT.mpr ⟨x,i.1,Xr⟩) c1
    and_intros;show aK ?_;and_intros;clear_value f
    rotate_left
    .show absurd rfl f
    and_intros;clear_value c2
    .show absurd (by rw[FM,i.2];omega) c2
    and_intros;show{(),by cbv,trivial}
   | op s a b=>
    rw[tRu];and_intros;show aK ?_;and_intros;clear_value h
    .show absurd h (by decide +kernel)
    show spF ?_;and_intros;show aK ?_;and_intros;clear_value g
    .show absurd g (by decide +kernel)
    show spF ?_;and_intros;show aK ?_;and_intros;clear_value f
    .show absurd f (by decide +kernel)
    show spF ?_;and_intros;show{(),by cbv,trivial}
   | cond a b c=>
    rw[tRu];and_intros;show aK ?_;and_intros;clear_value h
    .show absurd h (by decide +kernel)
    show spF ?_;and_intros;show aK ?_;and_intros;clear_value g
    .show absurd g (by decide +kernel)
    show spF ?_;and_intros;show aK ?_;and_intros;clear_value f
    .show absurd f (by decide +kernel)
    show spF ?_;and_intros;show{(),by cbv,trivial}
 .and_intros;show q
def yb:∀c∈sL LET,occ {#[c]} LET=Qb:=by decide +kernel
def uo:∀{bs:!Bool},bls (bs.map I.bl)*>bs
 | []=>rfl
 | b::bs=>by rw[FS,bls,uo];rfl
def o8{bs:!Bool}{Q:T->Prop}(q:Q (.im (.bl (bs.all id)))):W1 (j9 [.li (bs.map I.bl)]) Q:=w1 (by dsimp[j9,uo,G6]) q
def jx(h:cx z)(q:Q (.im (.bl Qb))):W1 (dk [.im (.str z)]) Q:=by
 have(m,o,f,g):=h;show p7 [↥(.str z)] rfl rfl rfl ?_;unfold gD;and_intros;show aK ?_;and_intros;show nS (by rw[KG];omega) ?_;and_intros;clear_value c1
 rotate_left
 .show absurd ⋯ c1
 and_intros;clear_value c2
 .show absurd ⋯ c2
 and_intros;show o9 (is:=Kf.map .str) {Xr,by decide +kernel,by decide +kernel} ?_;and_intros;clear_value c3
 .show absurd (by exists c3) f
 and_intros;show bS (λ_:Unit=>[↥(.str z)]) I.bl (λj _ L=>∀b∈L,b=Qb) ?_;and_intros;show{(sL z).map (λc=>.str {#[c]}),by rw[GJ];rfl,by rw[FM,<-aH,KG];omega,by cbv,(),by cbv,by simp,λj l _ L a d=>?_,λ_ L d=>?_}
 .rw[F4]at a;cases e:(sL z)[j]? with
  | none=>rw[e]at a;cases a
  | some c=>
   rw[e]at a;cases a;and_intros;show{occ {#[c]} LET,(),Xr,by cbv,bv d (yb c (g c (ymG e)))}
 .and_intros;show o8 ?_;and_intros;rw[show L.all id=Qb from Go.mpr λb i=>d b i];show q
abbrev eT(z:Str) (p:Str×!Int):I:=.tup [.str z,.str p.1,.tup (p.2.map .int)]
def il:∀{L:!(Str×!Int)},I.doks (L.map (eT z))=Qb/\I.deps (L.map (eT z))<=50
 | []=>{Xr,GA _}
 | p::l=>by
  have c:=il (z:=z) (L:=l);have d:∀a:!Int,I.doks (a.map I.int)=Qb/\I.deps (a.map I.int)=0:=λa=>by
   induction a with
   | nil=>show⟨Xr,Xr⟩
   | cons x a c=>show{by rw[FS,I.doks,c.1];rfl,by rw[FS,I.deps,c.2];rfl}
  show{?_,?_}
  .rw[FS,I.doks,c.1];dsimp[eT,I.dok,I.doks,(d p.2).1];rfl
  .rw[FS,I.deps];have e:I.dep (eT z p)<=50:=by dsimp[eT,I.dep,I.deps,(d p.2).2];decide
   have:=c.2;omega
def wX:(eT z p).dok=Qb:=by
 have:=(il (z:=z) (L:=[p])).1;rw[FS,HA,I.doks,FO]at this;show this.1
def sG(m:r.leaves.length<=1000)(q:∀L:!(Str×!Int),L.Nodup->L.length<=2000->(∀p∈L,Ru.rd p.1 p.2∈r.leaves)->Q (.li (L.map (eT z)))):W1 (eA [.im (.str z),.im (tRu r)]) Q:=by
 show p7 [↥(.str z),↥(tRu r),P8,P8,P8,P8] rfl rfl rfl ?_;unfold cE;and_intros;show eU (λL:!(Str×!Int)=>[↥(.str z),↥(tRu r),⇑(.li (L.map (eT z))),P8,P8,P8]) (λj L=>L.Nodup/\L.length<=j/\∀p∈L,Ru.rd p.1 p.2∈r.leaves) ?_;and_intros;show tw m λR w l=>?_;show{R.map tR2,Xr,by cbv,[],by cbv,{GH,FV _,by simp},λj v L c ⟨g,f,d⟩=>?_,λL ⟨g,f,d⟩=>?_}
 .rw[F4]at c;cases e:R[j]? with
  | none=>rw[e]at c;cases c
  | some p=>
   rw[e]at c;cases c;have u:=(FL.mp e).1;have s:=l p (ymG e);and_intros;show aK ?_;and_intros;show vn (i:=eT z p) (is:=L.map (eT z)) ⟨wX,il.1,il.2⟩ ?_;and_intros;clear_value h
   .and_intros;show cH (is:=L.map (eT z)) (i:=eT z p) (by simp;rw[KG];omega) ?_;ac_nf;and_intros;show{L++[p],?_,?_,by simp;omega,bv d s}
    .rw[FY]
     cbv
    .rw[FP];show{g,by simp,λa o b t e=>?_};rw[ysM t]at e;subst e;show h (FT.mpr {_,o,Xr})
   .and_intros;show{L,by cbv,g,by omega,d}
 .and_intros;rw[FM]at f;show q L g ⋯ d
abbrev FIG:Str:="0123456789"
def xQ:∀c<58,48<=c->occ {#[c]} FIG=Qb:=by decide +kernel
section
variable {z:Str}{most:Int}{Q:T->Prop}
def gx(s:1<=(sL z).length)(t:((sL z).length:Int)<=most)(p:(sL z).length<=1000)(o:∀c∈sL z,48<=c/\c<=57)(m:(sL z).length=1\/(sL z).head?≠P9 48)(q:Q (.im (.bl Qb))):W1 (be [.im (.str z),.im (.int most)]) Q:=by
 have a:z.length=(sL z).length:=aH z;show p7 [↥(.str z),↥(.int most)] rfl rfl rfl ?_;unfold cW;and_intros;show aK ?_;and_intros;show nS (by rw[a,KG];omega) ?_;and_intros;show{λc1=>?_,λc1=>absurd (of_decide_eq_false c1) ⋯};and_intros;show{λc2=>?_,λc2=>?_}
 .show absurd c2 (by rw[decide_eq_true ⋯];decide)
 and_intros;show bS (λ_:Unit=>[↥(.str z),↥(.int most)]) I.bl (λj _ L=>∀b∈L,b=Qb) ?_;and_intros;show{(sL z).map (λc=>.str {#[c]}),by rw[GJ];rfl,by rw[FM,KG];omega,by cbv,(),by cbv,by simp,λj r _ L f i=>?_,λ_ L i=>?_}
 .have(c,d,rfl):=ar f;have:=o c (ymG d);and_intros;show{occ {#[c]} FIG,(),Xr,by cbv,bv i (xQ c ⋯ this.1)}
 and_intros;show o8 ?_;rw[show L.all id=Qb from Go.mpr λb l=>i b l];and_intros;show{λh=>(nomatch h),λ_=>?_};and_intros;show nS (by rw[a,KG];omega) ?_;and_intros;show{λ_=>?_,λh=>?_}
 .and_intros;show q
 .have h:=of_decide_eq_false h;and_intros;show qu (by rw[a,KG];omega) (Int.le_refl 0) ⋯ λc d=>?_;and_intros;have g:c≠48:=λe=>by
   subst e;show(m.resolve_left ⋯) ?_;rw[List.head?_eq_getElem?];show d
  rw[show decide (({#[c]}:Str) = "0")=Qa from decide_eq_false λe=>g (by have:=congrArg sL e;show(Hj.inj this).1)];show q
def uR(r:(sL z).length<=1000)(o:∃c∈sL z,¬ (48<=c/\c<=57))(q:Q (.im (.bl Qa))):W1 (be [.im (.str z),.im (.int most)]) Q:=by
 have f:z.length=(sL z).length:=aH z;have(c0,g,d):=o;show p7 [↥(.str z),↥(.int most)] rfl rfl rfl ?_;unfold cW;and_intros;show aK ?_;and_intros;show nS (by rw[f,KG];omega) ?_;and_intros;have all:∀P:Bool->Rho->Prop,P Qa [↥(.str z),↥(.int most)]->WT (ak (mB j9 (ac (bj [P8,P8,P8] (mIt (ah 0)) (ai 2) mYes (mOp inT (ah 2) (mC (.str "0123456789")))) mNil))) [↥(.str z),↥(.int most)] P:=λP p=>by
  and_intros;show bS (λ_:Unit=>[↥(.str z),↥(.int most)]) I.bl (λj _ L=>L=((sL z).take j).map λc=>decide (c∈sL FIG)) ?_;and_intros;show{(sL z).map (λc=>.str {#[c]}),by rw[GJ];rfl,by rw[FM,KG];omega,by cbv,(),by cbv,Xr,λj s _ L e a=>?_,λ_ L a=>?_}
  .have(c,i,rfl):=ar e;and_intros;show{occ {#[c]} FIG,(),Xr,by cbv,by rw[a,Gz,i,FY];change _++[occ {#[c]} FIG]=_++[decide (c∈sL FIG)];rw[show occ {#[c]} FIG=decide (c∈sL FIG)from StrLaws.found_one FIG c]}
  rw[FM,GN]at a;and_intros;show o8 ?_;have l:c0∉sL FIG:=λh=>d (by
   have m:∀c∈sL FIG,48<=c/\c<=57:=by decide +kernel
   show m c0 h)
  have:L.all id=Qa:=by
   rw[a,Ji,Bool.eq_false_iff];intro h;show l (of_decide_eq_true (Go.mp h c0 g))
  rw[this];and_intros;show p
 show{λc1=>?_,λc1=>?_}
 .and_intros;show{λc2=>?_,λc2=>?_}
  .show{λ_=>?_,λh=>(nomatch h)};and_intros;show q
  .show xE (all _ ?_);show{λ_=>?_,λh=>(nomatch h)};and_intros;show q
 .and_intros;show{λ_=>{λ_=>?_,λh=>(nomatch h)},λh=>(nomatch h)};and_intros;show q
end
def wW(z:Str)(c:Nat):LB z (oL [c])=decide ((sL z).head?*>c):=by
 obtain⟨⟨l⟩⟩:=z;unfold LB P4;cases l with
 | nil=>rfl
 | cons a l=>
  change(decide (0+1<=(a::l).length)&&((Array.mk (a::l)).extract 0 (0+1) == #[c]))=decide ((a::l).head?*>c);rw[decide_eq_true (by rw[FR];omega),Iq];have:(Array.mk (a::l)).extract 0 (0+1) = #[a]:=by simp
  rw[this];rw[GI,beq_iff_eq,decide_eq_true_iff];simp
section
variable {Q:T->Prop}{x:Int}
def uS(m : -1000<x)(o:x<1000)(q:Q (.im (.bl Qb))):W1 (cJ [.im (.str (toString x))]) Q:=by
 show p7 [↥(.str (toString x))] rfl rfl rfl ?_;unfold cF;and_intros;show aK ?_;and_intros;show vp ?_;rw[show LB (toString x) "-" = LB (toString x) (oL [45])from rfl,wW];and_intros;by_cases l:x<0
 .obtain⟨n,rfl⟩:∃n:Nat,x = -(n:Int):={x.natAbs,by omega};have(j,c,a,f,i):=gr 3 n ⋯ (by decide);have e:=qM (n:=n) ⋯;rw[e];show{λ_=>?_,λh=>absurd rfl (of_decide_eq_false h)};and_intros;have g:¬ ((toString (-(n:Int)):Str) = "-0"):=λz=>by
   have z:=congrArg sL z;rw[e]at z;have z:dig n=[48]:=(Hj.inj z).2;show i ⋯ (by rw[z];rfl)
  show{λ_=>?_,λh=>absurd h (by rw[decide_eq_false g];decide)};and_intros;show Aa (by rw[aH,e,FR,KG];omega) ?_;rw[e,show cy (45::dig n) (P9 1) P8=dig n from kY (xs:=45::dig n) (n:=1) (by rw[FR];omega)];and_intros;show gx (by rw[cw];show HD.mpr c) (by rw[cw];omega) (by rw[cw];omega) (by rw[cw];show a) (by rw[cw];show f) ?_;and_intros;show q
 .obtain⟨n,rfl⟩:∃n:Nat,x=(n:Int):={x.natAbs,by omega};have(j,c,a,f,_):=gr 3 n ⋯ (by decide);have e:=lJ n;rw[e];show{λh=>?_,λ_=>?_}
  .have h:=of_decide_eq_true h;have:=a 45 (by cases d:dig n with
    | nil=>show absurd d c
    | cons y r=>rw[d]at h;cases h;show ymS)
   omega
  and_intros;show gx (by rw[e];show HD.mpr c) (by rw[e];omega) (by rw[e];omega) (by rw[e];show a) (by rw[e];show f) ?_;and_intros;show q
end
def oX:∀c∈sL LET,97<=c/\c<=122:=by decide +kernel
def je{v:Int}(l : -1000<v)(m:v<1000):(sL ((toString v:Str))).length<=4/\(∀c∈sL ((toString v:Str)),c=45\/(48<=c/\c<=57))/\GZ (toString v:Str)*>v:=by
 by_cases j:v<0
 .obtain⟨n,rfl⟩:∃n:Nat,v = -(n:Int):={v.natAbs,by omega};have(f,i,d,h,g):=gr 3 n ⋯ (by decide);have e:=qM (n:=n) ⋯;rw[e];show{by rw[FR];omega,λc a=>(ycM a).elim .inl λz=>.inr (d c z),xY ⋯ ⋯}
 .obtain⟨n,rfl⟩:∃n:Nat,v=(n:Int):={v.natAbs,by omega};have(f,i,d,h,g):=gr 3 n ⋯ (by decide);have e:=lJ n;rw[e];show{by omega,λc a=>.inr (d c a),nN ⋯}
def hC{c k:Nat}:∀{l:! !Nat},(∀x∈l,x.length<=k)->(cz c l).length<=l.length*(k+1)
 | [],_=>GA _
 | [x],h=>by have:=h x ymS;change x.length<=1*(k+1);omega
 | x::y::r,h=>by
  have d:=h x ymS;have e:=hC (c:=c) (l:=y::r) λz a=>h z (ymC _ a);rw[cz,FQ,FR,FR,Je];omega
abbrev cq(row:!Int):Str:=Lj (oL [44]) (row.map λv=>(toString v:Str))
abbrev bJ(x:Str) (row:!Int):Str:=oL (sL x++64::sL (cq row))
section
variable {x:Str}{row:!Int}{Q:T->Prop}
def eD(a:∀v∈row,-1000<v/\v<1000):(sL (cq row)).length<=row.length*5:=by
 unfold cq;rw[ci];have:=hC (c:=44) (k:=4) (l:=(row.map λv=>(toString v:Str)).map sL) λz e=>by
  have(s,f,rfl):=FT.mp e;have(v,d,rfl):=FT.mp f;show(je (a v d).1 (a v d).2).1
 rw[FM,FM]at this;show this
def qG(l:cx x)(w:row≠[])(G:row.length<=3)(i:∀v∈row,-1000<v/\v<1000)(q:Q (.im (tRu (.rd x row)))):W1 (gM [.im (.str (bJ x row))]) Q:=by
 have o:=eD i;have B:(sL x).length<=8:=by rw[<-aH];show l.2.1
 have s:(bJ x row).length<=30:=by rw[aH];unfold bJ;rw[cw,FQ,FR];omega
 show p7 [↥(.str (bJ x row)),P8,P8,P8,P8] rfl rfl rfl ?_;unfold eQ;and_intros;show BD (by rw[FO];show{Xr,decide_eq_true (by rw[KG];omega)}) ?_;have u:La (bJ x row) "@" = (oL (sL x),oL [64],oL (sL (cq row))):=BI λh=>by
  have:=oX 64 (l.2.2.2 64 h);omega
 rw[u,lr,lr];and_intros;have A:(cq row).length<=15:=by rw[aH];omega
 show kD (ij (c:=44) (by rw[KG];omega)) ?_;have p:LH (cq row) "," = row.map λv=>(toString v:Str):=gf 44 (by exists w) λz t=>by
  have(v,d,rfl):=FT.mp t;intro h;rcases(je (i v d).1 (i v d).2).2.1 44 h with e|e<;>omega
 rw[p];ac_nf;and_intros;show aK ?_;and_intros;show jx l ?_;and_intros;show{λh=>(nomatch h),λ_=>?_};and_intros;show bS (λ_:Unit=>[↥(.str (bJ x row)),↥(.str x),↥(.str (oL [64])),↥(.str (cq row)),⇑(.li ((row.map λv=>(toString v:Str)).map .str))]) I.bl (λj _ L=>∀b∈L,b=Qb) ?_;and_intros;show{_,Xr,by rw[FM,FM,KG];omega,by cbv,(),by cbv,by simp,λj r _ L f a=>?_,λ_ L a=>?_}
 .have(y,m,rfl):=ar f;have(v,d,rfl):=ar m;have g:=i v (ymG d);and_intros;show uS g.1 g.2 ?_;show{Qb,(),Xr,by cbv,bv a rfl}
 and_intros;show o8 ?_;rw[show L.all id=Qb from Go.mpr λb g=>a b g];and_intros;show{λh=>(nomatch h),λ_=>?_};and_intros;show bS (λ_:Unit=>[↥(.str (bJ x row)),↥(.str x),↥(.str (oL [64])),↥(.str (cq row)),⇑(.li ((row.map λv=>(toString v:Str)).map .str))]) I.int (λj _ L=>L=row.take j) ?_;and_intros;show{_,Xr,by rw[FM,FM,KG];omega,by cbv,(),by cbv,Xr,λj r _ L f a=>?_,λ_ L a=>?_}
 .have(y,m,rfl):=ar f;have(v,d,rfl):=ar m;have g:=i v (ymG d);have(H,_,E):=je g.1 g.2;and_intros;show nR (by rw[aH];omega) E ?_;show{v,(),Xr,by cbv,by rw[a,Gz,d];rfl}
 rw[FM,FM,GN]at a;subst a;and_intros;show q
end
abbrev l5:!Str:=["if","+","-","*","min","max","rest","less"]
def uf:∀s∈l5,∃c∈sL s,¬ (48<=c/\c<=57):=by decide +kernel
def xD:∀s∈l5,64∉sL s:=by decide +kernel
def ii:∀s∈J3,s∈l5/\s ≠ "if" :=by decide +kernel
abbrev bg:Ru->Str
 | .num n=>toString n
 | .rd x a=>bJ x a
 | .op s _ _=>s
 | .cond _ _ _=>"if"
abbrev kids:Ru->!Ru
 | .op _ a b=>[a,b]
 | .cond a b c=>[a,b,c]
 | _=>[]
abbrev uj(w:Nat):Ru->Prop
 | .num n=>0<=n/\n<=1000000000
 | .rd x a=>cx x/\a.length=w/\∀v∈a,-1000<v/\v<1000
 | _=>True
section
variable {r:Ru}{pile:!Ru}{w:Nat}{Q:T->T->Prop}
def vd{n:Int}(f:0<=n)(g:n<=1000000000):(toString n:Str)∉l5:=λh=>by
 obtain⟨k,rfl⟩:∃k:Nat,n=k:={n.toNat,by omega};have(_,_,d,_,_):=gr 10 k ⋯ (by decide);have(c,a,e):=uf _ h;rw[lJ]at a;show e (d c a)
def xJ{x:Str}{row:!Int}:bJ x row∉l5:=λh=>xD _ h (by unfold bJ;rw[cw];show yaR _ ymS)
def oe(L:1<=w/\w<=3)(j:uj w r)(hs:∀s a b,r=.op s a b->s∈J3)(E:pile.length<=1000)(q:Q (.im (tRu r)) (.li (pile.map tRu))):W2 (fj [.im (.str (bg r)),.li ((pile++(kids r).reverse).map tRu)]) Q:=by
 show Kc [↥(.str (bg r)),P9 {.io 0,.li ((pile++(kids r).reverse).map tRu)}] rfl rfl rfl ?_;unfold fb;and_intros;cases r with
 | cond a b c=>
  have d:(pile++(kids (.cond a b c)).reverse).map tRu=((pile.map tRu++[tRu c])++[tRu b])++[tRu a]:=by simp[kids]
  rw[d];show aK ?_;and_intros;show{λ_=>?_,λh=>absurd rfl (of_decide_eq_false h)};and_intros;show{λ_=>?_,λh=>absurd (of_decide_eq_false h) (by simp;omega)};and_intros;show mU (is:=(pile.map tRu++[tRu c])++[tRu b]) (i:=tRu a) ?_;ac_nf;and_intros;show mU (is:=pile.map tRu++[tRu c]) (i:=tRu b) ?_;ac_nf;and_intros;show mU (is:=pile.map tRu) (i:=tRu c) ?_;ac_nf;and_intros;show q
 | op s a b=>
  have(H,v):=ii s (hs s a b rfl);have d:(pile++(kids (.op s a b)).reverse).map tRu=(pile.map tRu++[tRu b])++[tRu a]:=by simp[kids]
  rw[d,show bg (.op s a b)=s from rfl];show aK ?_;and_intros;show{λh=>absurd (of_decide_eq_true h) v,λ_=>?_};and_intros;show aK ?_;and_intros;show o9 (is:=J3.map .str) {Xr,by decide +kernel,by decide +kernel} ?_;rw[decide_eq_true (show I.str s∈J3.map .str from FT.mpr {s,hs s a b rfl,Xr})];and_intros;show{λ_=>?_,λh=>(nomatch h)};and_intros;show{λ_=>?_,λh=>absurd (of_decide_eq_false h) (by simp;omega)};and_intros;show mU (is:=pile.map tRu++[tRu b]) (i:=tRu a) ?_;ac_nf;and_intros;show mU (is:=pile.map tRu) (i:=tRu b) ?_;ac_nf;and_intros;show q
 | num n=>
  have d:(pile++(kids (.num n)).reverse).map tRu=pile.map tRu:=by simp[kids]
  have g:=vd j.1 j.2;obtain⟨k,rfl⟩:∃k:Nat,n=k:={n.toNat,by have:=j.1;omega};have u:=j.2;have(G,A,y,z,_):=gr 10 k ⋯ (by decide);have e:=lJ k;rw[d,show bg (.num (k:Int))=(toString (k:Int):Str)from rfl];show aK ?_;and_intros;show{λh=>absurd (by rw[of_decide_eq_true h];decide +kernel) g,λ_=>?_};and_intros;show aK ?_;and_intros;show o9 (is:=J3.map .str) {Xr,by decide +kernel,by decide +kernel} ?_;rw[decide_eq_false (λh=>g (by have(s,l,m):=FT.mp h;rw[<-I.str.inj m];show(ii s l).1))];and_intros;show{λh=>(nomatch h),λ_=>?_};and_intros;show aK ?_;and_intros;show gx (by rw[e];show HD.mpr A) (by rw[e];omega) (by rw[e];omega) (by rw[e];show y) (by rw[e];show z) ?_;and_intros;show{λ_=>?_,λh=>(nomatch h)};and_intros;show nR (by rw[aH,e];omega) (nN ⋯) ?_;and_intros;show q
 | rd x f=>
  have d:(pile++(kids (.rd x f)).reverse).map tRu=pile.map tRu:=by simp[kids]
  have g:=xJ (x:=x) (row:=f);have(t,o,p):=j;have J:=eD p;have B:(sL x).length<=8:=by rw[<-aH];show t.2.1
  rw[d,show bg (.rd x f)=bJ x f from rfl];show aK ?_;and_intros;show{λh=>absurd (by rw[of_decide_eq_true h];decide +kernel) g,λ_=>?_};and_intros;show aK ?_;and_intros;show o9 (is:=J3.map .str) {Xr,by decide +kernel,by decide +kernel} ?_;rw[decide_eq_false (λh=>g (by have(s,l,m):=FT.mp h;rw[<-I.str.inj m];show(ii s l).1))];and_intros;show{λh=>(nomatch h),λ_=>?_};and_intros;show aK ?_;and_intros;show uR (by unfold bJ;rw[cw,FQ,FR];omega) {64,by unfold bJ;rw[cw];show yaR _ ymS,by decide} ?_;and_intros;show{λh=>(nomatch h),λ_=>?_};and_intros;show qG t (λh=>by rw[h]at o;simp at o;omega) ⋯ p ?_;and_intros;show q
end
abbrev stk:!Ru->!Ru
 | []=>[]
 | r::l=>(stk l).take ((stk l).length-(kids r).length)++[r]
abbrev Fit:!Ru->Prop
 | []=>True
 | r::l=>(∃P,stk l=P++(kids r).reverse)/\Fit l
def gY{r:Ru}{l P:!Ru}(h:stk l=P++(kids r).reverse):stk (r::l)=P++[r]:=by
 rw[stk,h,FQ,Hi,HL,List.take_left'];rfl
def yD:∀(r:Ru) (t:!Ru),Fit t->Fit (r.pre++t)/\stk (r.pre++t)=stk t++[r]:=by
 intro r
 induction r with
 | num n=>show λt h=>{{{stk t,by simp[kids]},h},gY (by simp[kids])}
 | rd x o=>show λt h=>{{{stk t,by simp[kids]},h},gY (by simp[kids])}
 | op s a b f g=>
  intro t h;have(d,l):=g t h;have(j,i):=f _ d;have e:stk (a.pre++(b.pre++t))=stk t++(kids (.op s a b)).reverse:=by rw[i,l];simp[kids]
  rw[Ru.pre,F8,F5];show{{{_,e},j},gY e}
 | cond a b c f g m=>
  intro t h;have(c1,c2):=m t h;have(d,l):=g _ c1;have(j,i):=f _ d;have e:stk (a.pre++(b.pre++(c.pre++t)))=stk t++(kids (.cond a b c)).reverse:=by rw[i,l,c2];simp[kids]
  rw[Ru.pre,F8,F5,F5];show{{{_,e},j},gY e}
def Fit.drop:∀{l:!Ru} (n:Nat),Fit l->Fit (l.drop n)
 | l,0,h=>h
 | [],n+1,h=>h
 | _::l,n+1,h=>Fit.drop n h.2
def rX:∀l:!Ru,(stk l).length<=l.length
 | []=>GA _
 | r::l=>by
  have:=rX l;dsimp[stk,FQ,GS,FR,Jt];omega
def rK{is:!I}{Q:T->Prop}(q:Q (.im (.bl Qa))):W1 (isT (.im (.tup is)) (.im .non)) Q:=by unhygienic show{_,Xr,q}
def r9(r:Ru):∃is,tRu r=.tup is:=by cases r<;>show{_,Xr}
def zm{a:Type}{l:!a}{j:Nat}{x : a}(h:l.reverse[j]?*>x):l.drop (l.length-(j+1))=x::l.drop (l.length-j):=by
 have c:j<l.length:=by have:=(FL.mp h).1;rwa [Hi]at this
 rw[HR c]at h;have e:=GR (l:=l) (i:=l.length-(j+1)) ⋯;rw[e];have:l[l.length-(j+1)]'⋯=x:=by
  have d:=(FL.mp h).2;rw[<-d];congr 1;omega
 rw[this];congr 2;omega
def og{r:Ru}{w:Nat}{Q:T->Prop}(B:1<=w/\w<=3)(v:∀n∈r.pre,uj w n/\∀s a b,n=.op s a b->s∈J3)(E:r.pre.length<=1000)(q:Q (.im (tRu r))):W1 (fk [.li ((r.pre.map bg).map .str)]) Q:=by
 have(m,p):=yD r [] trivial;rw[Ge]at m p;show p7 [P9 {.vw P8 P8,.li ((r.pre.map bg).map .str)},P8,P8,P8] rfl rfl rfl ?_;unfold cY;and_intros;show zD (λs:!Ru=>[P9 {.vw P8 P8,.li ((r.pre.map bg).map .str)},⇑(.li (s.map tRu)),P8,P8]) (λj s=>s=stk (r.pre.drop (r.pre.length-j))) ?_;and_intros;show{_,_,Xr,by cbv,[],by cbv,by rw[JQ,HS];rfl,λj x s l e=>?_,λs e=>?_}
 .rw[<-HB,<-HB]at l;have(y,A,rfl):=ar l;have(n,d,rfl):=ar A;have t:=zm d;have c:=m.drop (r.pre.length-(j+1));rw[t]at c;obtain⟨⟨P,g⟩,_⟩:=c;have(l1,l2):=v n (List.mem_reverse.mp (ymG d));have f:P.length<=1000:=by
   have z:=rX (r.pre.drop (r.pre.length-j));rw[g,FQ,Hz]at z;omega
  rw[e,g];and_intros;show oe B l1 l2 f ?_;and_intros;ac_nf;have(u,o):=r9 n;show aK ?_;and_intros;rw[o];show rK ?_;and_intros;show{λh=>(nomatch h),λ_=>?_};and_intros;show cH (is:=P.map tRu) (i:=.tup u) (by rw[FM,KG];omega) ?_;ac_nf;and_intros;show{P++[n],?_,?_}
  .rw[FY,FS,o];rfl
  .rw[t,gY g]
 .rw[FM,FM,JP,IS,p]at e;subst e;rw[show stk []++[r]=[r]from rfl];and_intros;show{λ_=>?_,λh=>absurd rfl (of_decide_eq_false h)};and_intros;show q
def ic{n:Int}(h:0<=n)(i:n<=1000000000):1<=(sL ((toString n:Str))).length/\(sL ((toString n:Str))).length<=10/\(∀c∈sL ((toString n:Str)),48<=c/\c<=57)/\((sL ((toString n:Str))).length=1\/(sL ((toString n:Str))).head?≠P9 48)/\GZ (toString n:Str)*>n:=by
 obtain⟨k,rfl⟩:∃k:Nat,n=k:={n.toNat,by omega};have(a,g,d,f,_):=gr 10 k ⋯ (by decide);have e:=lJ k;rw[e];show{HD.mpr g,a,d,f,nN ⋯}
abbrev pF(w wh:Int):!Str:=["house",toString w,toString wh]
abbrev cr(w wh:Int):Str:=Lj (oL [32]) (pF w wh)
def uL:32∉sL "house" :=by decide +kernel
section
variable {w wh:Int}{Q:T->Prop}
def se(d:0<=w/\w<=1000000000)(e:0<=wh/\wh<=1000000000):(sL (cr w wh)).length<=33:=by
 unfold cr;rw[ci];have:=hC (c:=32) (k:=10) (l:=(pF w wh).map sL) λz f=>by
  have(s,a,rfl):=FT.mp f;dsimp[pF,Gg,Gf,or_false]at a;rcases a with rfl|rfl|rfl;decide +kernel;show(ic d.1 d.2).2.1;show(ic e.1 e.2).2.1
 show this
def pk(a:0<=w/\w<=1000000000)(d:0<=wh/\wh<=1000000000)(q:Q (.im (.tup [.int w,.int wh]))):W1 (fV [.im (.str (cr w wh))]) Q:=by
 have f:=se a d;have(w1,m,g,j,l):=ic a.1 a.2;have(v1,v2,v3,v4,v5):=ic d.1 d.2;show p7 [↥(.str (cr w wh)),P8] rfl rfl rfl ?_;unfold fM;and_intros;show kD (ij (c:=32) (by rw[aH,KG];omega)) ?_;have i:LH (cr w wh) " " = pF w wh:=gf 32 (by unfold pF;simp) λz e=>by
  dsimp[pF,Gg,Gf,or_false]at e;rcases e with rfl|rfl|rfl;show uL;show λh=>by have:=g 32 h;omega
  .show λh=>by have:=v3 32 h;omega
 rw[i,show(pF w wh).map I.str=[I.str "house",I.str (toString w),I.str (toString wh)]from rfl];ac_nf;and_intros;show aK ?_;and_intros;show{λh=>(nomatch h),λ_=>?_};and_intros;show{λh=>absurd h (by decide +kernel),λ_=>?_};and_intros;show aK ?_;and_intros;show gx w1 ⋯ ⋯ g j ?_;and_intros;show{λh=>(nomatch h),λ_=>?_};and_intros;show gx v1 ⋯ ⋯ v3 v4 ?_;and_intros;show{λh=>(nomatch h),λ_=>?_};and_intros;show nR (by rw[aH];omega) l ?_;and_intros;show nR (by rw[aH];omega) v5 ?_;and_intros;show q
end
abbrev Wd(z:Str):Prop:=(∀c∈sL z,33<=c)/\(sL z).length<=30
def jl:∀s∈("desk" :: "house" :: l5:!Str),(∀c∈sL s,33<=c)/\(sL s).length<=30:=by decide +kernel
def rJ{x:Str}(h:cx x):Wd x:={λc z=>by have:=oX c (h.2.2.2 c z);omega,by rw[<-aH];have:=h.2.1;omega}
def qm{n:Int}(a:0<=n)(e:n<=1000000000):Wd (toString n):=by
 have(_,f,d,_,_):=ic a e;show{λc z=>by have:=d c z;omega,Gj f (by decide)}
abbrev gj(w:Nat)(n:Ru):Prop:=uj w n/\∀s a b,n=.op s a b->s∈J3
def mE{c d:Nat}:∀{l:! !Nat},d∈cz c l->d=c \/ ∃x∈l,d∈x
 | [],h=>absurd h Gf
 | [x],h=>.inr ⟨x,ymS,h⟩
 | x::y::r,h=>by
  rw[cz]at h;rcases yaM h with h|h;show .inr ⟨x,ymS,h⟩
  .rcases ycM h with h|h;show .inl h
   .rcases mE h with h|⟨z,e,a⟩;show .inl h;show .inr {z,ymC _ e,a}
def lj{c d:Nat}{l:!Str}(h:d∈sL (Lj (oL [c]) l)):d=c \/ ∃x∈l,d∈sL x:=by
 rw[ci]at h;rcases mE h with h|⟨y,a,f⟩;show .inl h
 .have(s,e,rfl):=FT.mp a;show .inr ⟨s,e,f⟩
def oV{c k:Nat}{l:!Str}(h:∀x∈l,(sL x).length<=k):(Lj (oL [c]) l).length<=l.length*(k+1):=by
 rw[aH,ci];have:=hC (c:=c) (k:=k) (l:=l.map sL) λz d=>by
  have(s,a,rfl):=FT.mp d;show h s a
 rw[FM]at this;show this
def xW{w:Nat}{n:Ru}(q:w<=3)(h:gj w n):Wd (bg n):=by
 cases n with
 | num k=>show qm h.1.1 h.1.2
 | rd x d=>
  have(i,p,f):=h.1;have o:=eD f;have l:(sL x).length<=8:=by rw[<-aH];show i.2.1
  change(∀c∈sL (bJ x d),33<=c)/\(sL (bJ x d)).length<=30;unfold bJ;rw[cw];show{λc z=>?_,by rw[FQ,FR];omega};rcases yaM z with z|z;show(rJ i).1 c z
  .rcases ycM z with z|z;omega
   .rcases lj z with z|⟨s,j,m⟩;omega
    .have(v,g,rfl):=FT.mp j;rcases(je (f v g).1 (f v g).2).2.1 c m with e|e<;>omega
 | op s a b=>show jl s (ymC _ (ymC _ (ii s (h.2 s a b rfl)).1))
 | cond a b c=>show jl "if" (by decide)
abbrev gk(x:Str) (r:Ru):!Str:="desk" :: x::r.pre.map bg
abbrev cf(x:Str) (r:Ru):Str:=Lj (oL [32]) (gk x r)
section
variable {x:Str}{r:Ru}{w:Nat}{Q:T->Prop}
def iU(d:cx x)(e:w<=3)(c:∀n∈r.pre,gj w n):∀z∈gk x r,Wd z:=λz a=>by
 unfold gk at a;rcases ycM a with rfl|a;show jl _ ymS
 .rcases ycM a with rfl|a;show rJ d
  .have(n,f,rfl):=FT.mp a;show xW e (c n f)
def jZ(d:cx x)(e:w<=3)(f:∀n∈r.pre,gj w n)(i:r.pre.length<=1000):(cf x r).length<=40000/\10∉sL (cf x r):=by
 show{?_,λh=>?_}
 .have:=oV (c:=32) (k:=30) (l:=gk x r) λz a=>(iU d e f z a).2;have g:(gk x r).length=r.pre.length+2:=by simp[gk]
  rw[g]at this;show Gj this ⋯
 .rcases lj h with h|⟨z,a,h⟩;cases h
  .have:=(iU d e f z a).1 10 h;omega
def oa(a:cx x)(d:1<=w/\w<=3)(e:∀n∈r.pre,gj w n)(f:r.pre.length<=1000){i:I}(q:Q (.im (bG (x,r)))):W1 (fi [.im (.str (cf x r)),.im i]) Q:=by
 have j:=(jZ a d.2 e f).1;show p7 [↥(.str (cf x r)),↥i,P8,P8] rfl rfl rfl ?_;unfold e8;and_intros;show kD (ij (c:=32) (by rw[KG];omega)) ?_;have l:LH (cf x r) " " = gk x r:=gf 32 (by unfold gk;simp) λz m h=>by have:=(iU a d.2 e z m).1 32 h;omega
 rw[l,show(gk x r).map I.str=I.str "desk" :: I.str x::(r.pre.map bg).map .str from rfl];ac_nf;and_intros;show aK ?_;and_intros;have p:=rM r;show{λh=>absurd (of_decide_eq_true h) (by simp;omega),λ_=>?_};and_intros;show lw (x:=.str "desk") (jo (n:=0) rfl rfl) ?_;and_intros;show{λh=>absurd h (by decide +kernel),λ_=>?_};and_intros;show lw (x:=.str x) (jo (n:=1) rfl rfl) ?_;and_intros;show jx a ?_;and_intros;show{λh=>(nomatch h),λ_=>?_};and_intros;rw[show cy (I.str "desk" :: I.str x::(r.pre.map bg).map .str) (P9 2) P8=(r.pre.map bg).map .str from kY (n:=2) ∅];show og d e f ?_;ac_nf;and_intros;have(o,g):=r9 r;rw[g];show aK ?_;and_intros;show rK ?_;and_intros;show{λh=>(nomatch h),λ_=>?_};and_intros;show lw (x:=.str x) (jo (n:=1) rfl rfl) ?_;and_intros;rw[<-g];show q
end
def uv{d:Type}[DecidableEq d]:∀{L M:!d},L.Nodup->(∀x∈L,x∈M)->L.length<=M.length
 | [],_,_,_=>GA _
 | a::L,M,f,h=>by
  have(g,i):=Gi.mp f;have e:=h a ymS;have:=uv (L:=L) (M:=M.erase a) i λx c=>by
   have:x≠a:=λz=>g (z▸c);show(List.mem_erase_of_ne this).mpr (h x (ymC _ c))
  rw[List.length_erase_of_mem e]at this;have:1<=M.length:=List.length_pos_of_mem e;rw[FR];omega
def qN(E:ds.length<=6)(h:∀p∈ds,p.2.leaves.length<=1000/\Cov n p.2.leaves)(u:n*ds.length<=16)(q:∀is:!I,is.length<=16->Q (.im (.tup is))):W1 (fW [.im (bd w wh ds)]) Q:=by
 show p7 [↥(bd w wh ds)] rfl rfl rfl ?_;unfold dP;and_intros;show zC (oB ?_);rw[bd];and_intros;show w1 (x:=(ds.map bG).map λi=>{.ow,.im i}) rfl (gu (by cbv) {λj a O=>O=[↥(bd w wh ds)]/\∃is:!I,a=is.map T.im/\is.length<=n*j,{Xr,[],Xr,GA _},?_,?_})
 .rintro j r a O z ⟨rfl,is,rfl,d⟩;have(x,s,rfl):=ar z;have(p,e,rfl):=ar s;have t:=(FL.mp e).1;have(f,B,m,c):=h p (ymG e);have y:n*(j+1)<=16:=Gj (Nat.mul_le_mul_left n t) u;and_intros;show oB ?_;and_intros;show sG f λL l v g=>?_;have A:L.length<=n:=Gj (uv l λp e=>c p.1 p.2 (g p e)) m;have o:is.length+L.length<=n*(j+1):=by rw[JR];omega
  show w1 (x:=(L.map (eT p.1)).map λi=>{.ow,.im i}) rfl (gu (by cbv) {by simp;rw[KG];omega,?_});show sE _ (λx=>?_) _ {by cbv,is++L.map (eT p.1),by simp,by simp;omega};and_intros;show{Xr,by cbv}
 .rintro a O ⟨rfl,is,rfl,d⟩;rw[FM,FM]at d;show{by rw[FM,KG];omega,?_};rw[ja];and_intros;show q is ⋯
def xO{ns:!Int}{k:Int}(o:ns.length<=1000)(g:0<=k)(l:k<=1000000){Q:T->Prop}(q:∀f,Q (fT f)):W1 (lE [.li (ns.map .int),.im (.int k)]) Q:=by
 show p7 [P9 {.vw P8 P8,.li (ns.map .int)},↥(.int k),P8,P8] rfl rfl rfl ?_;unfold i6;and_intros;show WS.mono (Q:=λc O=>c=.nx/\∃cell:Int,O=[P9 {.vw P8 P8,.li (ns.map .int)},↥(.int k),↥(.int cell),P8]) ?_ ?_
 ·(refine aK ?_;and_intros;clear_value d)
  .rw[FM]at d;and_intros;show gI (ns:=ns) g d λy h _=>?_;and_intros;show{by trivial,y,by first|trivial|cbv}
  ·(refine aK ?_;and_intros;clear_value e)
   .rw[FM]at e;and_intros;rw[FM];show z6 ⋯ ?_;and_intros;show gI (ns:=ns) (HI _ ⋯) (Hr _ ⋯) λy h _=>?_;and_intros;show{by trivial,_,by first|trivial|cbv}
   .and_intros;show{by trivial,_,by first|trivial|cbv}
 rintro c O ⟨rfl,cell,rfl⟩;and_intros;show WS.mono (Q:=λc O=>c=.nx/\∃a:Int,O=[P9 {.vw P8 P8,.li (ns.map .int)},↥(.int k),↥(.int cell),↥(.int a)]) ?_ ?_
 .show aK ?_;and_intros;show z8 {by omega,by omega,by decide} ?_;and_intros;clear_value i
  .and_intros;show{by trivial,_,by first|trivial|cbv}
  .and_intros;show{by trivial,_,by first|trivial|cbv}
 rintro c O ⟨rfl,a,rfl⟩;and_intros;have j:=HI cell (show(2147483629:Int)≠0 by omega);have m:=Hr cell (show(0:Int)<2147483629 by omega);show z8 {by omega,by omega,by omega} ?_;and_intros;show q (a,_)
def Kb.map{c i:Nat}{w wh:Int}{a:!(Str×Ru)}{g:Ru->Ru}(z:∀ns n r,Kt c ns w n r->Kt i ns w n (g r))(h:Kb c w wh a):Kb i w wh (a.map λp=>(p.1,g p.2)):=by
 obtain⟨u,t,l,s,m,o,v,x,n,j,d⟩:=h;have e:(a.map λp=>(p.1,g p.2)).map (·.1)=a.map (·.1):=by rw[GJ];rfl
 show{u,t,l,s,by rw[FM];show m,by rw[FM];show o,by rw[e];show v,by rw[e];show x,n,by rw[FM];show j,λp q=>?_};rw[e];have(y,f,rfl):=FT.mp q;show z _ _ _ (d y f)
abbrev tH(h:Int×Int×!(Str×Ru)):I:=bd h.1 h.2.1 h.2.2
def nL{w wh:Int}{a:!(Str×Ru)}(h:Kb 1000 w wh a){Q:T->Prop}(q:Q (.im (.bl Qb))):W1 (eC [.im (bd w wh a)]) Q:=by
 obtain⟨N,Z,U,Y,X,v,S,a8,n,E,g⟩:=h;show p7 [↥(bd w wh a),P8,P8,P8,P8,P8,P8,P8] rfl rfl rfl ?_;unfold dZ;and_intros;show uG (is:=a.map bG) N Z U Y (by exists X) (by exists v) ?_;and_intros;show bS (λ_:Unit=>[↥(bd w wh a),↥(.int w),↥(.int wh),↥(.tup (a.map bG)),P8,P8,P8,P8]) I.str (λj _ L=>L=(a.take j).map (·.1)) ?_;and_intros;show{a.map bG,Xr,by simp;rw[KG];omega,by cbv,(),by cbv,Xr,λj x' _ L d s=>?_,λ_ L s=>?_}
 .rw[F4]at d;cases e:a[j]? with
  | none=>rw[e]at d;cases d
  | some p=>
   rw[e]at d;cases d;and_intros;show{p.1,(),Xr,by cbv,by rw[s,JD,e];simp}
 rw[FM,GD (FV _)]at s;subst s;and_intros;show so (zK ?_);and_intros;show{_,a.map bG,Xr,gu ?_ {λj O=>O=[↥(bd w wh a),↥(.int w),↥(.int wh),↥(.tup (a.map bG)),⇑(.li ((a.map (·.1)).map .str)),P8,P8,P8],by cbv,?_,?_}}
 .rw[FO];show{by cbv,kr λr f=>?_};have(i,l):=HQ.mp f;rw[fu]at l;cases e:(a.map bG)[i]? with
  | none=>rw[e]at l;cases l
  | some x=>rw[e]at l;cases l;rfl
 .rintro i r O f rfl;rw[fu,F4]at f;cases e:a[i]? with
  | none=>rw[e]at f;cases f
  | some p=>
   rw[e]at f;dsimp[G6,F9.injEq,Gq]at f;subst f;have o:=ymG e;have(d1,B,H,d4):=g p o;have l:=(FL.mp e).1;rw[bG];and_intros;show aK ?_;and_intros;show jx (a8 p.1 (FT.mpr ⟨p,o,Xr⟩)) ?_;and_intros;show spF ?_;and_intros;rw[mj ⋯,GF,<-Iu];show zZ (i:=.str p.1) (is:=((a.map (·.1)).take i).map .str) ⟨Xr,eG.1,eG.2⟩ ?_;and_intros;clear_value c
   .exfalso;have(z,G,J):=FT.mp c;cases J;have(k,t):=HQ.mp G;have m:k<i:=by have:=(FL.mp t).1;simp at this;omega
    rw[Io m]at t;have h2:(a.map (·.1))[i]?*>p.1:=by rw[F4,e];rfl
    have y:=FL.mp t;have u:=FL.mp h2;show(List.pairwise_iff_getElem.mp S k i y.1 u.1 m) (y.2.trans u.2.symm)
   and_intros;show zq (r:=p.2) (ns:=a.map (·.1)) B ⋯ H ?_;and_intros;first|rfl|cbv
 .rintro O rfl;and_intros;show aK ?_;and_intros;show qN v (λp o=>{(g p o).2.1,(g p o).2.2.2}) E λA M=>?_;and_intros;clear_value c
  .show absurd c ⋯
  .and_intros;show q
abbrev J4(w wh:Int)(a:!(Str×Ru)):Prop:=Kb 12 w wh a/\∀p∈a,∀n∈p.2.pre,gj w.toNat n
abbrev bn(w wh:Int) (a:!(Str×Ru)):!Str:=cr w wh::a.map λp=>cf p.1 p.2
abbrev b6(w wh:Int) (a:!(Str×Ru)):Str:=Lj (oL [10]) (bn w wh a)
def Kb.le{c e:Nat}{w wh:Int}{f:!(Str×Ru)}(h:Kb c w wh f)(i:c<=e):Kb e w wh f:=by
 obtain⟨o,q,j,m,s,l,g,r,n,t,a⟩:=h;show{o,q,j,m,s,l,g,r,n,t,λp d=>{(a p d).1,Gj (a p d).2.1 i,(a p d).2.2}}
section
variable {w wh:Int}{ds:!(Str×Ru)}{Q:T->Prop}
def J4.one(h:J4 w wh ds){p:Str×Ru}(c:p∈ds):cx p.1/\(1<=w.toNat/\w.toNat<=3)/\(∀n∈p.2.pre,gj w.toNat n)/\p.2.pre.length<=24/\p.2.leaves.length<=12:=by
 obtain⟨⟨q,r,i,o,l,j,g,d,n,m,a⟩,f⟩:=h;have:=fQ p.2;have e:=(a p c).2.1;show{d _ (Gd c),by omega,f p c,by omega,e}
def mz(h:J4 w wh ds):(b6 w wh ds).length<=300000/\∀z∈bn w wh ds,10∉sL z/\z.length<=40000:=by
 have d:=h.1;have o:cr w wh∈bn w wh ds->True:=λ_=>trivial;have a:∀z∈bn w wh ds,10∉sL z/\z.length<=40000:=λz a=>by
  rcases ycM a with rfl|a
  .have e:=se (w:=w) (wh:=wh) (by have:=d.1;have:=d.2.1;omega) (by have:=d.2.2.1;have:=d.2.2.2.1;omega);show{λh=>?_,by rw[aH];omega};rcases lj h with h|⟨z,a,h⟩;cases h
   .dsimp[pF,Gg,Gf,or_false]at a;rcases a with rfl|rfl|rfl;have:=(jl "house" (by decide)).1 10 h;omega;have:=(qm (n:=w) (by have:=d.1;omega) (by have:=d.2.1;omega)).1 10 h;omega;have:=(qm (n:=wh) (by have:=d.2.2.1;omega) (by have:=d.2.2.2.1;omega)).1 10 h;omega
  .have(p,i,rfl):=FT.mp a;have(m,j,g,r,_):=h.one i;have:=jZ m j.2 g ⋯;show⟨this.2,this.1⟩
 show{?_,a};have:=oV (c:=10) (k:=40000) (l:=bn w wh ds) λz h=>by rw[<-aH];show(a z h).2
 have f:(bn w wh ds).length=ds.length+1:=by simp[bn]
 rw[f]at this;have q:=d.2.2.2.2.2.1;show Gj this ⋯
def xC{c:MA}{O:Rho}{a:!R->!R->Rho->Prop}(h:WA c O λrs d=>∃r is,rs=[r]/\uY r.t*>is/\a [r] (da 0 is) d):WI (jF c) O a:=by unhygienic
 have(rs,d,f,r,is,rfl,e,q):=h;show{_,_,_,by dsimp[jF,f,e],q}
def jw:∀(is:!I) (k:Nat),(da k is).length=is.length
 | [],_=>rfl
 | _::is,k=>congrArg (· + 1) (jw is (k+1))
def oQ:∀{is:!I} {k j:Nat} {r:R},(da k is)[j]?*>r->∃i,is[j]?*>i/\r={.ow,.im (.tup [.int ((k+j:Nat):Int),i])}
 | [],_,_,_,h=>by cases h
 | i::is,k,0,r,h=>by simp[da]at h;show⟨i,Xr,h.symm⟩
 | i::is,k,j+1,r,h=>by
  have(d,c,a):=oQ (is:=is) (k:=k+1) (j:=j) (by simpa[da]using h);show{d,by simpa using c,by rw[a];congr 6;omega}
def iw(h:J4 w wh ds)(q:Q (.im (bd w wh ds))):W1 (cL [.im (.str (b6 w wh ds))]) Q:=by
 have(f,o):=mz h;have(G,J,A,E,L,B,_):=h.1;show p7 [↥(.str (b6 w wh ds)),P8,P8,P8,P8,P8] rfl rfl rfl ?_;unfold ee;and_intros;show kD (ij (c:=10) (by rw[KG];omega)) ?_;have l:LH (b6 w wh ds) "\n" = bn w wh ds:=gf 10 (by unfold bn;simp) λz h=>(o z h).1;rw[l];have y:(bn w wh ds).map I.str=I.str (cr w wh)::ds.map λp=>I.str (cf p.1 p.2):=by unfold bn;rw[FS,GJ];rfl
 rw[y];ac_nf;and_intros;show lw (x:=.str (cr w wh)) (jo (n:=0) rfl rfl) ?_;and_intros;show pk ⋯ ⋯ ?_;and_intros;show aK ?_;and_intros;show{λh=>absurd (of_decide_eq_true h) (by simp;omega),λ_=>?_};and_intros;show lM (xC ?_);and_intros;show{_,_,Xr,Xr,gu (by cbv) {by rw[jw];simp;rw[KG];omega,λj a O=>O=[↥(.str (b6 w wh ds)),⇑(.li (I.str (cr w wh)::ds.map λp=>I.str (cf p.1 p.2))),↥(.int w),↥(.int wh),P8,P8]/\a=(ds.take (j-1)).map λp=>T.im (bG p),⟨Xr,Xr⟩,?_,?_}}
 .rintro j r a O v ⟨rfl,rfl⟩;have(i,m,rfl):=oQ v;rw[Gq];and_intros;show{λd=>?_,λd=>?_}
  .have g:=of_decide_eq_true d;obtain⟨k,rfl⟩:∃k,j=k+1:={j-1,by omega};have(p,e,rfl):=ar (show(ds.map λp=>I.str (cf p.1 p.2))[k]?*>i by exists m);have(u,t,s,H,_):=h.one (ymG e);and_intros;show oa u t s ⋯ ?_;show{_,Xr,by cbv,?_};rw[HL,HL,Gz,e,FY];rfl
  .have g:=of_decide_eq_false d;obtain rfl:j=0:=by omega
   show{by cbv,Xr}
 .rintro a O ⟨rfl,rfl⟩;rw[jw,FR,FM,HL,GN,show(ds.map λp=>T.im (bG p))=(ds.map bG).map T.im by rw[GJ];rfl,ja];and_intros;show nL (h.1.le ⋯) ?_;and_intros;show q
end
def gA{n:Int}(a : -1000000000<=n)(c:n<=1000000000):n.natAbs.log2<1920:=by
 by_cases h:n.natAbs=0;rw[h];decide;show(JW h).mpr (F7 (show n.natAbs<2^30 by omega) (Nat.pow_le_pow_right (by decide) (by decide)))
def wZ{k:Nat}:∀{l:!Str},(∀x∈l,x.length<=k)->(l.map (·.length)).sum<=l.length*k
 | [],_=>GA _
 | a::l,h=>by
  have d:=h a ymS;have e:=wZ (l:=l) λx c=>h x (ymC _ c);rw[FS,JG,FR,Je];omega
def kC{c k:Nat}{zs:!Str}{Q:T->Prop}(h:∀z∈zs,z.length<=k)(a:zs.length*(k+1)<=16777216)(q:Q (.im (.str (Lj (oL [c]) zs)))):W1 (dE (.im (.str (oL [c]))) [.li (zs.map .str)]) Q:=vm (by
 have:=wZ h;have d:(oL [c]).length=1:=rfl;rw[d,Nat.mul_one];rw[JR]at a;omega) q
def ni(x:Str)(row:!Int):x ++ "@" ++ cq row=bJ x row:=iL (by unfold bJ;rw[iK,iK,cw,F5];rfl)
def ng(w wh:Int) : "house " ++ (toString w:Str) ++ " " ++ (toString wh:Str)=cr w wh:=iL (by
 unfold cr;rw[ci,iK,iK,iK];change _=sL "house" ++ 32::(sL (toString w)++32::sL (toString wh));rw[F5,F5];rfl)
section
variable {x:Str}{row:!Int}{r:Ru}{w:Nat}{Q:T->Prop}
def rS(a:∀v∈row,-1000<v/\v<1000):∀z∈row.map (λv=>(toString v:Str)),z.length<=4:=λz d=>by
 have(v,c,rfl):=FT.mp d;rw[aH];show(je (a v c).1 (a v c).2).1
def nU(A:w<=3)(h:gj w r)(q:Q (.im (.str (bg r)))):W1 (fh [.im (tRu r)]) Q:=by
 show p7 [↥(tRu r)] rfl rfl rfl ?_;unfold cX;cases r with
 | num n=>
  obtain⟨⟨t,m⟩,_⟩:=h;rw[tRu];and_intros
  (refine aK ?_;and_intros;clear_value h)
  .and_intros;show jL (gA ⋯ m) ?_;and_intros;show q
  .show absurd rfl h
 | rd x row=>
  obtain⟨⟨i,u,f⟩,_⟩:=h;have o:=i.2.1;have p:=eD f;rw[tRu];and_intros
  (refine aK ?_;and_intros;clear_value h)
  .show absurd h (by decide +kernel)
  and_intros
  (refine aK ?_;and_intros;clear_value d)
  .and_intros;show gH (by rw[show("@" : Str).length=1 from rfl,KG];omega) ?_;and_intros;show bS (λ_:Unit=>[↥(.tup [.str "at",.str x,.tup (row.map .int)])]) I.str (λj _ L=>L=(row.take j).map λv=>(toString v:Str)) ?_;and_intros;show{_,Xr,by rw[FM,KG];omega,by cbv,(),by cbv,Xr,λj y _ L l e=>?_,λ_ L e=>?_}
   .have(v,g,rfl):=ar l;have z:=f v (ymG g);and_intros;show jL (gA ⋯ ⋯) ?_;show{toString v,(),Xr,by cbv,by rw[e,Gz,g,FY];rfl}
   rw[FM,GN]at e;subst e;and_intros;show kC (c:=44) (k:=4) (rS f) (by rw[FM];omega) ?_;and_intros;show gH (by rw[cU,show("@" : Str).length=1 from rfl,show Lj (oL [44]) (row.map λv=>(toString v:Str))=cq row from rfl,aH (cq row),KG];omega) ?_;rw[show Lj (oL [44]) (row.map λv=>(toString v:Str))=cq row from rfl,ni];and_intros;show q
  .show absurd rfl d
 | op s a b=>
  rw[tRu];and_intros
  (refine aK ?_;and_intros;clear_value h)
  .show absurd h (by decide +kernel)
  and_intros
  (refine aK ?_;and_intros;clear_value d)
  .show absurd d (by decide +kernel)
  and_intros;show{λ_=>?_,λh=>absurd rfl (of_decide_eq_false h)};and_intros;show q
 | cond a b c=>
  rw[tRu];and_intros
  (refine aK ?_;and_intros;clear_value h)
  .show absurd h (by decide +kernel)
  and_intros
  (refine aK ?_;and_intros;clear_value d)
  .show absurd d (by decide +kernel)
  and_intros;show{λh=>absurd (of_decide_eq_true h) (by decide +kernel),λ_=>?_};and_intros;show q
def lQ:∀(n:Nat) (r:Ru),r.depth<n->w<=3->(∀m∈r.pre,gj w m)->r.pre.length<=1000->∀{Q:T->Prop},Q (.li ((r.pre.map bg).map .str))->W1 (fD n [.im (tRu r)]) Q
 | 0,r,t,_,_,_,Q,q=>absurd t (Jw _)
 | n+1,r,t,E,f,o,Q,q=>by
  show p7 [↥(tRu r),P8,P8] rfl rfl rfl ?_;unfold hV;cases r with
  | num k=>
   obtain⟨⟨M,H⟩,_⟩:=f _ ymS;rw[tRu];and_intros
   (refine aK ?_;and_intros;clear_value h)
   .and_intros;show jL (gA ⋯ H) ?_;and_intros;show q
   .show absurd rfl h
  | rd x row=>
   obtain⟨⟨G,N,z⟩,_⟩:=f _ ymS;have J:=G.2.1;have o:=eD z;rw[tRu];and_intros
   (refine aK ?_;and_intros;clear_value h)
   .show absurd h (by decide +kernel)
   and_intros
   (refine aK ?_;and_intros;clear_value g)
   .and_intros;show gH (by rw[show("@" : Str).length=1 from rfl,KG];omega) ?_;and_intros;show bS (λ_:Unit=>[↥(.tup [.str "at",.str x,.tup (row.map .int)]),P8,P8]) I.str (λj _ L=>L=(row.take j).map λv=>(toString v:Str)) ?_;and_intros;show{_,Xr,by rw[FM,KG];omega,by cbv,(),by cbv,Xr,λj y _ L p e=>?_,λ_ L e=>?_}
    .have(v,B,rfl):=ar p;have O:=z v (ymG B);and_intros;show jL (gA ⋯ ⋯) ?_;show{toString v,(),Xr,by cbv,by rw[e,Gz,B,FY];rfl}
    rw[FM,GN]at e;subst e;and_intros;show kC (c:=44) (k:=4) (rS z) (by rw[FM];omega) ?_;and_intros;show gH (by rw[cU,show("@" : Str).length=1 from rfl,show Lj (oL [44]) (row.map λv=>(toString v:Str))=cq row from rfl,aH (cq row),KG];omega) ?_;rw[show Lj (oL [44]) (row.map λv=>(toString v:Str))=cq row from rfl,ni];and_intros;show q
   .show absurd rfl g
  | op s a b=>
   have u:(Ru.op s a b).pre=.op s a b::(a.pre++b.pre):=rfl;rw[u]at f o q;dsimp[FR,FQ]at o;rw[Ru.depth]at t;rw[tRu];and_intros
   (refine aK ?_;and_intros;clear_value h)
   .show absurd h (by decide +kernel)
   and_intros
   (refine aK ?_;and_intros;clear_value g)
   .show absurd g (by decide +kernel)
   and_intros;show eU (λL:!Str=>[↥(.tup [.str "op",.str s,tRu a,tRu b]),⇑(.li (L.map .str)),P8]) (λj L=>L=s::(([a,b].take j).flatMap Ru.pre).map bg) ?_;and_intros;show rL (is:=[.str "op",.str s,tRu a,tRu b]) (show ¬((2:Nat)=0/\4=4) by decide) ?_;and_intros;show{[tRu a,tRu b],by cbv,by cbv,[s],by cbv,Xr,λj y L p e=>?_,λL e=>?_}
   .have(k,i,rfl):=ar (show([a,b].map tRu)[j]?*>y from p);have hk2:=ymG i;have d:k.depth<n/\(∀m∈k.pre,gj w m)/\k.pre.length<=1000:=by
     dsimp[Gg,Gf,or_false]at hk2;rcases hk2 with rfl|rfl;show{by omega,λm h=>f m (ymC _ (yaL _ h)),by omega};show{by omega,λm h=>f m (ymC _ (yaR _ h)),by omega}
    have A:L.length<=2002:=by
     rw[e,FR,FM];have:=congrArg (λl=>(l.flatMap Ru.pre).length) (Hf j [a,b]);dsimp[F3,FW,Hk,Ge,FQ]at this;omega
    and_intros;show lQ n k d.1 E d.2.1 d.2.2 ?_;and_intros;show vh (is:=L.map .str) (js:=(k.pre.map bg).map .str) (by dsimp[FM];rw[KG];omega) ?_;ac_nf;and_intros;show{L++k.pre.map bg,?_,?_}
    .rw[FY]
    .rw[e,Gz,i,F3,FY];simp
   .subst e;and_intros;rw[show(s::(([a,b].take [tRu a,tRu b].length).flatMap Ru.pre).map bg)=(Ru.op s a b::(a.pre++b.pre)).map bg by simp[bg]];show q
  | cond a b c=>
   have u:(Ru.cond a b c).pre=.cond a b c::(a.pre++(b.pre++c.pre)):=rfl;rw[u]at f o q;dsimp[FR,FQ]at o;rw[Ru.depth]at t;rw[tRu];and_intros
   (refine aK ?_;and_intros;clear_value h)
   .show absurd h (by decide +kernel)
   and_intros
   (refine aK ?_;and_intros;clear_value g)
   .show absurd g (by decide +kernel)
   and_intros;show eU (λL:!Str=>[↥(.tup [.str "if",tRu a,tRu b,tRu c]),⇑(.li (L.map .str)),P8]) (λj L=>L=("if" : Str)::(([a,b,c].take j).flatMap Ru.pre).map bg) ?_;and_intros;show rL (is:=[.str "if",tRu a,tRu b,tRu c]) (show ¬((1:Nat)=0/\4=4) by decide) ?_;and_intros;show{[tRu a,tRu b,tRu c],by cbv,by cbv,["if"],by cbv,Xr,λj y L p e=>?_,λL e=>?_}
   .have(k,i,rfl):=ar (show([a,b,c].map tRu)[j]?*>y from p);have hk2:=ymG i;have d:k.depth<n/\(∀m∈k.pre,gj w m)/\k.pre.length<=1000:=by
     dsimp[Gg,Gf,or_false]at hk2;rcases hk2 with rfl|rfl|rfl;show{by omega,λm h=>f m (ymC _ (yaL _ h)),by omega};show{by omega,λm h=>f m (ymC _ (yaR _ (yaL _ h))),by omega};show{by omega,λm h=>f m (ymC _ (yaR _ (yaR _ h))),by omega}
    have A:L.length<=3003:=by
     rw[e,FR,FM];have:=congrArg (λl=>(l.flatMap Ru.pre).length) (Hf j [a,b,c]);dsimp[F3,FW,Hk,Ge,FQ]at this;omega
    and_intros;show lQ n k d.1 E d.2.1 d.2.2 ?_;and_intros;show vh (is:=L.map .str) (js:=(k.pre.map bg).map .str) (by dsimp[FM];rw[KG];omega) ?_;ac_nf;and_intros;show{L++k.pre.map bg,?_,?_}
    .rw[FY]
    .rw[e,Gz,i,F3,FY];simp
   .subst e;and_intros;rw[show(("if" : Str)::(([a,b,c].take [tRu a,tRu b,tRu c].length).flatMap Ru.pre).map bg)=(Ru.cond a b c::(a.pre++(b.pre++c.pre))).map bg by simp[bg]];show q
end
section
variable {w wh:Int}{ds:!(Str×Ru)}{x:Str}{r:Ru}{Q:T->Prop}
def kN{n:Int}(a:0<=n)(c:n<=1000000000):((toString n:Str)).length<=10:=by rw[aH];show(ic a c).2.1
def mq(a:cx x){n:Nat}(d:n<=3)(e:∀m∈r.pre,gj n m)(h:r.pre.length<=24)(q:Q (.im (.str (cf x r)))):W1 (dE (.im (.str " ")) [.li ((gk x r).map .str)]) Q:=
 kC (c:=32) (k:=30) (λz f=>by rw[aH];show(iU a d e z f).2) (by have g:(gk x r).length=r.pre.length+2:=(by simp[gk]);omega) q
def k7(h:J4 w wh ds)(q:Q (.im (.str (b6 w wh ds)))):W1 (dE (.im (.str "\n")) [.li ((bn w wh ds).map .str)]) Q:=
 kC (c:=10) (k:=40000) (λz a=>((mz h).2 z a).2) (by have d:(bn w wh ds).length=ds.length+1:=(by simp[bn]);have:=h.1.2.2.2.2.2.1;omega) q
def rV(h:J4 w wh ds)(q:Q (.im (.str (b6 w wh ds)))):W1 (cM [.im (bd w wh ds)]) Q:=by
 have(A,E,u,z,G,v,_):=h.1;have l1:=kN (n:=w) ⋯ ⋯;have l2:=kN (n:=wh) ⋯ ⋯;have d:(Mc ++ "house " : Str) = "house " :=by decide +kernel
 show p7 [↥(bd w wh ds),P8,P8,P8,P8,P8,P8] rfl rfl rfl ?_;unfold cG;rw[bd];and_intros;show FG ?_;and_intros;show{gA ⋯ ⋯,by unfold f1S;rw[cU,cU,d,show("house " : Str).length=6 from rfl,show(" " : Str).length=1 from rfl,KG];omega,?_};and_intros;show{gA ⋯ ⋯,by unfold f2S f1S;rw[cU,cU,cU,d,show("house " : Str).length=6 from rfl,show(" " : Str).length=1 from rfl,KG];omega,?_};rw[show f2S "house " " " w wh=cr w wh by unfold f2S f1S;rw[d];show ng w wh];and_intros;show eU (λL:!Str=>[↥(bd w wh ds),↥(.int w),↥(.int wh),↥(.tup (ds.map bG)),⇑(.li (L.map .str)),P8,P8]) (λj L=>L=bn w wh (ds.take j)) ?_;and_intros;show{ds.map bG,by cbv,by cbv,[cr w wh],by cbv,Xr,λj y L e a=>?_,λL a=>?_}
 .have(p,g,rfl):=ar e;have(t,l,i,s,B):=h.one (ymG g);rw[bG];and_intros;show bS (λ_:Unit=>[↥(bd w wh ds),↥(.int w),↥(.int wh),↥(.tup (ds.map bG)),⇑(.li (L.map .str)),↥(.str p.1),↥(tRu p.2)]) I.str (λj _ M=>M=(p.2.pre.take j).map bg) ?_;and_intros;show lx ⋯ ?_;show{_,Xr,by rw[FM,KG];omega,by cbv,(),by cbv,Xr,λj y _ M e c=>?_,λ_ M c=>?_}
  .have(m,f,rfl):=ar e;and_intros;show nU l.2 (i m (ymG f)) ?_;show{bg m,(),Xr,by cbv,by rw[c,Gz,f,FY];rfl}
  rw[FM,GN]at c;subst c;and_intros;show qr (is:=[.str "desk",.str p.1]) (js:=(p.2.pre.map bg).map .str) (by simp;rw[KG];omega) ?_;and_intros;show mq t l.2 i s ?_;and_intros;have o:L.length<=7:=by rw[a,bn,FR,FM,GS];omega
  show cH (is:=L.map .str) (by rw[FM,KG];omega) ?_;ac_nf;and_intros;show{L++[cf p.1 p.2],by rw[FY];rfl,by rw[a,bn,bn,Gz,g,FY];rfl}
 .rw[FM,GN]at a;subst a;and_intros;show k7 h ?_;and_intros;show q
def zt(h:J4 w wh ds)(q:Q (.im (.str (b6 w wh ds)))):W1 (lF [.im (bd w wh ds)]) Q:=by
 have(t,v,m,s,z,o,_):=h.1;have l1:=kN (n:=w) ⋯ ⋯;have l2:=kN (n:=wh) ⋯ ⋯;show p7 [↥(bd w wh ds),P8,P8,P8] rfl rfl rfl ?_;unfold i7;rw[bd];and_intros;show jL (gA ⋯ ⋯) ?_;and_intros;show gH (by rw[show("house " : Str).length=6 from rfl,KG];omega) ?_;and_intros;show gH (by rw[cU,show("house " : Str).length=6 from rfl,show(" " : Str).length=1 from rfl,KG];omega) ?_;and_intros;show jL (gA ⋯ ⋯) ?_;and_intros;show gH (by rw[cU,cU,show("house " : Str).length=6 from rfl,show(" " : Str).length=1 from rfl,KG];omega) ?_;rw[ng w wh];and_intros;show eU (λL:!Str=>[↥(bd w wh ds),⇑(.li (L.map .str)),P8,P8]) (λj L=>L=bn w wh (ds.take j)) ?_;rw[bd];and_intros;show{ds.map bG,by cbv,by cbv,[cr w wh],by cbv,Xr,λj y L i a=>?_,λL a=>?_}
 .have(p,d,rfl):=ar i;have(l,e,c,g,u):=h.one (ymG d);have A:=p.2.depth_lt;rw[bG];and_intros;show lQ 24 p.2 ⋯ e.2 c ⋯ ?_;and_intros;show qr (is:=[.str "desk",.str p.1]) (js:=(p.2.pre.map bg).map .str) (by simp;rw[KG];omega) ?_;and_intros;show mq l e.2 c g ?_;and_intros;have f:L.length<=7:=by rw[a,bn,FR,FM,GS];omega
  show cH (is:=L.map .str) (by rw[FM,KG];omega) ?_;ac_nf;and_intros;show{L++[cf p.1 p.2],by rw[FY];rfl,by rw[a,bn,bn,Gz,d,FY];rfl}
 .rw[FM,GN]at a;subst a;and_intros;show k7 h ?_;and_intros;show q
end
abbrev sS(k:Nat):Nat:=(sL LET).getD (k % 26) 0
abbrev dR(p:!Nat) (k t:Nat):Str:=oL (p++[sS (k+t)])
def Dz(k:Nat):sS k∈sL LET:=ymG (qY (Ik _ (by decide)))
def A7:∀k<26,K0 LET (oL [(sL LET).getD k 0]) 0 LET.length 1=[k]:=by decide +kernel
def DA:∀c∈sL LET,∃k,k<26/\c=(sL LET).getD k 0:=λc d=>by
 have(k,a,e):=List.mem_iff_getElem.mp d;show{k,by rw[ko]at a;show a,?_};rw[Gb,GX a,<-e];rfl
def zn{p:!Nat}{k s t:Nat}(hs:s<26)(a:t<26)(h:dR p k s=dR p k t):s=t:=by
 have h:=Be h;have h:=(List.append_inj_right' h rfl);have:=xG _ (Ik _ (by decide)) _ (Ik _ (by decide)) (Hj.inj h).1;omega
abbrev LN(z:Str):Prop:=1<=z.length/\z.length<=8/\∀c∈sL z,c∈sL LET
def wU:∀z∈(["minx","rmax","res","lesse","ifi","desk","house"]:!Str),1<=z.length/\z.length<=8/\∀c∈sL z,c∈sL LET:=by decide +kernel
def LN.rot{z:Str}(h:LN z):∃p k,k<26/\z=dR p k 0/\p.length<=7/\∀c∈p,c∈sL LET:=by
 have(f,a,g):=h;rw[aH]at f a;rcases IQ (sL z)with e|⟨p,c,e⟩;rw[e]at f;cases f
 .have e:sL z=p++[c]:=by exists e
  have(k,i,rfl):=DA c (g c (by rw[e];simp));rw[e]at a;simp at a;show{p,k,i,iL ?_,a,λd j=>g d (by rw[e];show yaL _ j)};show e.trans (by unfold dR sS;rw[cw,JM,Nat.mod_eq_of_lt i])
def Cs{p:!Nat}{k t:Nat}(f:p.length<=7)(a:∀c∈p,c∈sL LET)(d:dR p k t∉Kf):cx (dR p k t):=by
 have e:(dR p k t).length=p.length+1:=by rw[aH];unfold dR;rw[cw,FQ];rfl
 show{by omega,by omega,d,λc h=>?_};unfold dR at h;rw[cw]at h;rcases yaM h with h|h;show a c h;rw[ysM h];show Dz _
def ux(p:!Nat)(c:Nat):cy (p++[c]) P8 (P9 (-1))=p:=by
 unfold cy;have a:HT.sIx (p++[c]).length 0 P8=0:=HT.sIx_none ..;have d:HT.sIx (p++[c]).length (p++[c]).length (P9 (-1))=p.length:=by
  simp[HT.sIx];omega
 rw[a,d];simp
def By{d:Kd}{p:!Nat}{c:Nat}{a:R->Prop}(hz:p.length<=1000)(q:a {.ow,.im (.str {#[c]})}):W1 (ixR {d,.im (.str (oL (p++[c])))} (.im (.int (-1)))) a:=by
 have h:atI (sL (oL (p++[c]))) (-1)*>c:=by rw[cw];show um _ _
 have hz:(oL (p++[c])).length<=sizeLine:=by rw[aH,cw,FQ,KG];change p.length+1<=_;omega
 show{_,by dsimp[ixR,isI,ixX,ixI,if_pos hz,h,G6],q}
def oK{f:Int×Int}{zs:!Str}(hz:zs.length<=5){Q:T->T->Prop}(q:∀z f',cx z->z∉zs->Q (.im (.str z)) (fT f')):W2 (fS [fT f,.li (zs.map .str)]) Q:=by
 show Kc [P9 {.io 0,fT f},P9 {.vw P8 P8,.li (zs.map .str)},P8,P8] rfl rfl rfl ?_;unfold dM;and_intros;show xq (λf:Int×Int=>[P9 {.io 0,fT f},P9 {.vw P8 P8,.li (zs.map .str)},↥(.str LET),P8]) I.str (λj _ l=>l.length=j/\∀z∈l,∃o,o∈sL LET/\z={#[o]}) ?_;and_intros;show aW ⋯ ⋯ λd f v w=>?_;ac_nf;and_intros;show{{by omega,by omega},by cbv,f,by cbv,{Xr,by simp},λj f l hj ⟨hl,r⟩=>?_,λf l ⟨hl,r⟩=>?_}
 .and_intros;show aW ⋯ ⋯ λd f v w=>?_;ac_nf;and_intros;show qu (s:=LET) (by rw[LET_len',KG];omega) v (by rw[ko];show w) λc g=>?_;show{{#[c]},f,Xr,by cbv,by simp[hl],bv r {c,ymG g,Xr}}
 and_intros;have m:∀zs:!Str,(∀z∈zs,∃o,o∈sL LET/\z={#[o]})->(zs.map (·.length)).sum=zs.length:=λzs h=>by
  induction zs with
  | nil=>rfl
  | cons z zs ih=>
   have(o,_,e):=h z ymS;rw[FS,JG,ih λy A=>h y (ymC _ A),FR,e];change 1+zs.length=_;omega
 have e0:("" : Str)=oL []:=by decide +kernel
 have e1:(("" : Str)).length=0:=by decide +kernel
 show vm (zs:=l) (by rw[m l r,e1];omega) ?_;have J:sL (Lj "" l)=(l.map sL).flatten:=by rw[e0];show sI l
 have u:LN (Lj "" l):=by
  have G:(sL (Lj "" l)).length=l.length:=by
   rw[J,List.length_flatten,GJ];rw[<-m l r];congr 1
  show{by rw[aH,G];omega,by rw[aH,G];omega,λc g=>?_};rw[J]at g;have(y,N,g):=Jn.mp g;have(z,hz,rfl):=FT.mp N;have(o,X,rfl):=r z hz;have:c=o:=by exists g
  rw[this];show X
 generalize Lj "" l=z0 at *;and_intros;show WS.mono (Q:=λfl O=>fl=.nx/\∃(f:Int×Int) (z:Str),LN z/\O=[P9 {.io 0,fT f},P9 {.vw P8 P8,.li (zs.map .str)},↥(.str LET),↥(.str z)]) ?_ ?_
 .show aK ?_;and_intros;show aW ⋯ ⋯ λd5 f a5 b5=>?_;ac_nf;and_intros;show{λ_=>?_,λ_=>?_}
  .and_intros;show aW ⋯ ⋯ λd7 f a7 b7=>?_;ac_nf;and_intros;show iu (emb:=I.str) (ns:=["minx","rmax","res","lesse","ifi","desk","house"]) a7 (by exists b7) λy A=>?_;and_intros;show{by trivial,f,y,wU y (ymG A),by cbv}
  .and_intros;show{by trivial,f,z0,u,by cbv}
 rintro fl O ⟨rfl,f,z,u,rfl⟩;have(p,k,hk,rfl,hp,S):=u.rot;and_intros;show lN (λt:Nat=>[P9 {.io 0,fT f},P9 {.vw P8 P8,.li (zs.map .str)},↥(.str LET),↥(.str (dR p k t))]) (λt=>t<=10/\∀s<t,dR p k s∈zs++Kf) (λt=>11-t) 0 (by cbv) {by omega,λs E=>absurd E (Jw _)} λt ⟨ht,hF⟩=>?_;show WT.mono (Q1:=λU O1=>O1=[P9 {.io 0,fT f},P9 {.vw P8 P8,.li (zs.map .str)},↥(.str LET),↥(.str (dR p k t))]/\(U=Qb->dR p k t∈zs++Kf)/\(U=Qa->dR p k t∉zs++Kf)) ?_ ?_
 .and_intros;show zZ ⟨Xr,eG.1,eG.2⟩ ?_;and_intros;have Z:(I.str (dR p k t)∈zs.map I.str)↔dR p k t∈zs:={λh=>by have(y,A,e):=FT.mp h;rwa [<-I.str.inj e],λh=>Gd h};show{λh=>{by cbv,λ_=>yaL _ (Z.mp (of_decide_eq_true h)),λh=>nomatch h},λh=>?_};have hn:=λz=>of_decide_eq_false h (Z.mpr z);and_intros;show o9 (is:=Kf.map .str) {Xr,by decide +kernel,by decide +kernel} ?_;and_intros;have Y:(I.str (dR p k t)∈Kf.map I.str)↔dR p k t∈Kf:={λh=>by have(y,A,e):=FT.mp h;rwa [<-I.str.inj e],λh=>Gd h};show{by cbv,λh=>yaR _ (Y.mp (of_decide_eq_true h)),λh z=>(yaM z).elim hn λz=>of_decide_eq_false h (Y.mpr z)}
 rintro U O1 ⟨rfl,h1,h2⟩;show{λH=>?_,λH=>?_}
 .have B:∀s<t+1,dR p k s∈zs++Kf:=λs E=>by
   rcases Nat.lt_succ_iff_lt_or_eq.mp E with h|rfl;show hF s h;show h1 H
  have g:=uv (L:=(Gn (t+1)).map (dR p k)) (M:=zs++Kf) (qk λa ha b H e=>zn ⋯ ⋯ e) λx r=>by
   have(s,E,rfl):=FT.mp r;show B s (GP.mp E)
  rw[FM,Jj,FQ,show Kf.length=5 from rfl]at g;have hrl:(dR p k t).length<=8:=by rw[aH];unfold dR;rw[cw,FQ];change p.length+1<=8;omega
  and_intros;show Aa (by rw[KG];omega) ?_;rw[show sL (dR p k t)=p++[sS (k+t)]from rfl,ux];and_intros;show By (p:=p) (c:=sS (k+t)) ⋯ ?_;and_intros;show Bw (i:=(k+t) % 26) (rest:=[]) (A7 _ (Ik _ (by decide))) ?_;and_intros;show qu (s:=LET) (by rw[LET_len',KG];omega) (HI _ ⋯) (by rw[ko];show Hr _ ⋯) λc g=>?_;have ec:c=sS (k+(t+1)):=by
   rw[show((((k+t) % 26:Nat):Int)+1) % 26=(((k+(t+1)) % 26:Nat):Int) by omega,GF,qY (Ik _ (by decide))]at g;show(F9.inj g).symm
  and_intros;show gH (by rw[aH,cw,KG];change p.length+1<=_;omega) ?_;and_intros;show{t+1,?_,by omega,by omega,B};rw[show(oL p++({#[c]}:Str):Str)=dR p k (t+1)from iL (by rw[iK,ec];rfl)]
 .and_intros;show q _ f (Cs hp S λh=>h2 H (yaR _ h)) λh=>h2 H (yaL _ h)
abbrev Da(w:Nat)(row:!Int):Prop:=row.length=w/\∀v∈row,-1000<v/\v<1000
def pI{f:Int×Int}{w:Int}(G:1<=w)(H:w<=3){Q:T->T->Prop}(q:∀row A,Da w.toNat row->Q (FE row) (fT A)):W2 (fU [fT f,.im (.int w)]) Q:=by
 show Kc [P9 {.io 0,fT f},↥(.int w),P8] rfl rfl rfl ?_;unfold dN;and_intros;show xr (λf:Int×Int=>[P9 {.io 0,fT f},↥(.int w),P8]) (λa:!Int=>T.li (a.map .int)) (λ_ _=>T.noConfusion) (λj _ L=>∀a∈L,a.length=8/\∀v∈a,-1000<v/\v<1000) ?_;and_intros;show{{by omega,by omega},by cbv,f,by cbv,by simp,λj f L E m=>?_,λf L m i=>?_}
 .and_intros;show aW ⋯ ⋯ λd f p s=>?_;ac_nf;and_intros;show{[0,1,0-1,999,0-999,10,0-100,d-999],f,Xr,by cbv,bv m {Xr,λv o=>?_}};dsimp[Gg,Gf,or_false]at o;rcases o with rfl|rfl|rfl|rfl|rfl|rfl|rfl|rfl<;>omega
 and_intros;show lM (oB ?_);and_intros;show w1 rfl (gu ?_ {by dsimp[FM];rw[KG];omega,λj c O=>∃(f:Int×Int) (row:!Int),O=[P9 {.io 0,fT f},↥(.int w),⇑(.lst (L.map λa=>T.li (a.map .int)))]/\c=row.map (λv=>T.im (.int v))/\row.length=j/\∀v∈row,-1000<v/\v<1000,{f,[],by cbv,Xr,Xr,by simp},?_,?_})
 .cbv
 .rintro j r c O z ⟨f,row,rfl,rfl,g,e⟩;have(t,B,rfl):=ar z;have(a,l,rfl):=ar B;have(J,u):=m a (ymG l);and_intros;show{λ_=>?_,λh=>(nomatch h)};unhygienic change WE _ [P9 {.io 0,fT f},P8,P8,P9 {.vw (P9 6) P8,.li (a.map .int)}] _
  and_intros;show aW ⋯ ⋯ λd f p s=>?_;ac_nf;and_intros;show gI (ns:=a) p ⋯ λy x _=>?_;show{_,Xr,f,row++[y],by cbv,by rw[FY];rfl,by rw[FQ,g];rfl,bv e (u y x)}
 .rintro c O ⟨f,row,rfl,rfl,g,e⟩;rw[show(row.map λv=>T.im (.int v))=(row.map I.int).map T.im by rw[GJ];rfl,ja];and_intros;show q row f {by rw[g,FM,FM,i],e}
abbrev WL(ns:!Str)(w:Nat):Ru->Prop
 | .num n=>0<=n/\n<=1000000000
 | .rd x a=>x∈ns/\Da w a
 | _=>False
def WL.leaf{ns:!Str}{w:Nat}{r:Ru}(h:WL ns w r):lf r:=by cases r<;>first|trivial|cases h
def jX{ns:!Str}{w:Nat}(g:∀x∈ns,cx x):∀{r:Ru},r.ok->(∀l∈r.leaves,WL ns w l)->∀m∈r.pre,gj w m
 | .num n,_,h,m,d=>by
  rw[ysM d];show{h _ ymS,λ_ _ _ e=>by cases e}
 | .rd x p,_,h,m,d=>by
  rw[ysM d];have(a,b,c):=h _ ymS;show{{g x a,b,c},λ_ _ _ e=>by cases e}
 | .op s a b,⟨i,j,o⟩,h,m,d=>by
  rw[Ru.pre]at d;rcases ycM d with rfl|d;show{trivial,λ_ _ _ e=>by cases e;show i}
  .rcases yaM d with d|d;show jX g j (λl f=>h l (yaL _ f)) m d;show jX g o (λl f=>h l (yaR _ f)) m d
 | .cond a b c,⟨i,j,o⟩,h,m,d=>by
  rw[Ru.pre]at d;rcases ycM d with rfl|d;show{trivial,λ_ _ _ e=>by cases e}
  .rcases yaM d with d|d;show jX g i (λl f=>h l (yaL _ f)) m d
   .rcases yaM d with d|d;show jX g j (λl f=>h l (yaR _ (yaL _ f))) m d;show jX g o (λl f=>h l (yaR _ (yaR _ f))) m d
def oE{f:Int×Int}{zs:!Str}{w c:Int}(h1:1<=w)(h2:w<=3)(hz:1<=zs.length)(hz6:zs.length<=6)(N:0<=c){Q:T->T->Prop}(q:∀r f',r.ok->r.leaves.length<=12->(∀l∈r.leaves,WL zs w.toNat l)->Cov c.toNat r.leaves->Q (.im (tRu r)) (fT f')):W2 (ff [fT f,.li (zs.map .str),.im (.int w),.im (.int c)]) Q:=by
 show Kc [P9 {.io 0,fT f},P9 {.vw P8 P8,.li (zs.map .str)},↥(.int w),↥(.int c),P8,P8,P8,P8,P8,P8] rfl rfl rfl ?_;unfold cV;and_intros;show aW ⋯ ⋯ λt f a0 b0=>?_;ac_nf;and_intros;show oz (λs:(Int×Int)×!Ru=>[P9 {.io 0,fT s.1},P9 {.vw P8 P8,.li (zs.map .str)},↥(.int w),↥(.int c),↥(.int t),⇑(.li (s.2.map tRu)),P8,P8,P8,P8]) (λj s=>s.2.length=j/\(∀l∈s.2,WL zs w.toNat l)/\∃L:!(Str×!Int),L.length<=j/\(L.length:Int)<=c/\∀x g,Ru.rd x g∈s.2->(x,g)∈L) ?_;and_intros;show aW ⋯ ⋯ λmany f a1 b1=>?_;ac_nf;and_intros;show{{by omega,by omega},(f,[]),by cbv,{Xr,by simp,[],by simp,N,by simp},λj s hj ⟨J,p,L,p3,p4,S⟩=>?_,λs ⟨J,p,L,p3,p4,S⟩=>?_}
 .have(f,u):=s;dsimp only at J p S|-;and_intros;show As (λb O=>∃f:Int×Int,O=[P9 {.io 0,fT f},P9 {.vw P8 P8,.li (zs.map .str)},↥(.int w),↥(.int c),↥(.int t),⇑(.li (u.map tRu)),↥(.int j),P8,P8,P8]/\(b=Qb->(j:Int)<c)) ?_ ?_ ?_
  .and_intros;show aW ⋯ ⋯ λd f c1 d1=>?_;ac_nf;and_intros;show{λ_=>?_,λ_=>?_}
   .and_intros;show{f,by cbv,λh=>of_decide_eq_true h}
   .show{f,by cbv,λh=>nomatch h}
  .rintro O ⟨f,rfl,hlt⟩;have hlt:=hlt rfl;and_intros;rw[FM];show aW ⋯ ⋯ λd f c1 d1=>?_;ac_nf;and_intros;show iu (emb:=I.str) (ns:=zs) c1 d1 λz hz=>?_;and_intros;show pI h1 h2 λg f Y=>?_;ac_nf;and_intros;show cH (is:=u.map tRu) (i:=tRu (.rd z g)) (by rw[FM,KG];omega) ?_;ac_nf;and_intros;show{(f,u++[.rd z g]),by rw[FY];cbv,by rw[FQ,J];rfl,bv p (show WL zs w.toNat (.rd z g)from{ymG hz,Y}),L++[(z,g)],by rw[FQ];change L.length+1<=_;omega,by rw[FQ];change((L.length+1:Nat):Int)<=_;omega,λy r o=>?_};rcases yaM o with o|o
   .show yaL _ (S y r o)
   .cases ysM o;show yaR _ ymS
  .rintro O ⟨f,rfl,_⟩;and_intros;show aW ⋯ ⋯ λd f c1 d1=>?_;ac_nf;and_intros;show aW ⋯ ⋯ λe f c2 d2=>?_;ac_nf;and_intros;show gI (ns:=[0,9,1000000000,d]) c2 (by exists d2) λv hv _=>?_;have hv:0<=v/\v<=1000000000:=by simp at hv;omega
   and_intros;show cH (is:=u.map tRu) (i:=tRu (.num v)) (by rw[FM,KG];omega) ?_;ac_nf;and_intros;show{(f,u++[.num v]),by rw[FY];cbv,by rw[FQ,J];rfl,bv p (show WL zs w.toNat (.num v)from hv),L,by omega,p4,λy r o=>?_};rcases yaM o with o|o
   .show S y r o
   .cases ysM o
 .have(f,u):=s;dsimp only at J p S|-;have hne:u≠[]:=λe=>by rw[e]at J;simp at J;omega
  and_intros;show aK ?_;and_intros;show{λ_=>?_,λ_=>?_}
  .and_intros;show uJ (rs:=u) hne ⋯ (λr hr=>nQ (p r hr).leaf) λr f G hro=>?_;rw[mK λr hr=>(p r hr).leaf]at G;ac_nf;and_intros;show q r f hro (by rw[G];omega) (by rw[G];show p) {L,by omega,by rw[G];show S}
  .and_intros;obtain⟨A,rest,rfl⟩:∃A rest,u=A::rest:=by
    cases u with
    | nil=>show absurd rfl hne
    | cons a l=>show⟨a,l,Xr⟩
   rw[FS]at *;and_intros;show lw (x:=tRu A) (jo (n:=0) rfl rfl) ?_;and_intros;show eU (λs:(Int×Int)×Ru=>[P9 {.io 0,fT s.1},P9 {.vw P8 P8,.li (zs.map .str)},↥(.int w),↥(.int c),↥(.int t),⇑(.li (tRu A::rest.map tRu)),P8,↥(tRu s.2),P8,P8]) (λj s=>s.2.ok/\s.2.leaves.length=j+1/\∀l∈s.2.leaves,l∈A::rest) ?_;and_intros;have Z:=jB (p A ymS).leaf;show{rest.map tRu,by rw[show cy (tRu A::rest.map tRu) (P9 1) P8=rest.map tRu from kY (n:=1) ∅];cbv,by cbv,(f,A),by cbv,{nQ (p A ymS).leaf,by rw[Z];rfl,by rw[Z];simp},λj y s o ⟨U,X,M⟩=>?_,λs ⟨U,X,M⟩=>?_}
   .have(f,r):=s;have(l,hl,rfl):=ar o;dsimp only at U X M|-;have H:l∈A::rest:=ymC _ (ymG hl);have B:=jB (p l H).leaf;have hlo:=nQ (p l H).leaf;and_intros;show aW ⋯ ⋯ λd f c1 d1=>?_;ac_nf;and_intros;show iu (emb:=I.str) (ns:=J3) c1 (by simpa[J3]using d1) λsg E=>?_;have E:=ymG E;and_intros;show aW ⋯ ⋯ λe f c2 d2=>?_;ac_nf;and_intros;show iu (emb:=tRu) (ns:=[.op sg r l,.op sg l r]) c2 (by exists d2) λz hz=>?_;have hz:=ymG hz;and_intros;dsimp[Gg,Gf,or_false]at hz;show{(f,z),by cbv,?_};rcases hz with rfl|rfl
    .show{⟨E,U,hlo⟩,by rw[Ru.leaves,B,FQ,X];rfl,λm N=>by rw[Ru.leaves,B]at N;show(yaM N).elim (M m) λh=>by rw[ysM h];show H}
    .show{⟨E,hlo,U⟩,by rw[Ru.leaves,B,FQ,X];change 1+_=_;omega,λm N=>by rw[Ru.leaves,B]at N;show(yaM N).elim (λh=>by rw[ysM h];show H) (M m)}
   .have(f,r):=s;dsimp only at U X M|-;rw[FM]at X;rw[FR]at J;and_intros;show q r f U ⋯ (λl hl=>p l (M l hl)) {L,by omega,λx g h=>S x g (M _ h)}
def WL.lk{ns:!Str}{w:Int}{r:Ru}(h:WL ns w.toNat r):Kr ns w r:=by
 cases r with
 | num n=>show h
 | rd x a=>show⟨h.1,h.2.1⟩
 | op _ _ _=>show h.elim
 | cond _ _ _=>show h.elim
def l4{f:Int×Int}{Q:T->T->Prop}(q:∀w wh c f',J4 w wh c->Q (.im (bd w wh c)) (fT f')):W2 (er [fT f]) Q:=by
 show Kc [P9 {.io 0,fT f},P8,P8,P8,P8,P8] rfl rfl rfl ?_;unfold cD;and_intros;show aW ⋯ ⋯ λN f a1 b1=>?_;ac_nf;and_intros;show aW ⋯ ⋯ λM f a2 b2=>?_;ac_nf;and_intros;show aW ⋯ ⋯ λO f a3 b3=>?_;ac_nf;and_intros;show aW ⋯ ⋯ λd4 f a4 S=>?_;ac_nf;and_intros;show gI (ns:=[2,1000000000,2+O]) a4 (by exists S) λwh H _=>?_;have g:2<=wh/\wh<=1000000000:=by simp at H;omega
 obtain⟨w,hw⟩:∃w,w=1+N:={_,Xr};obtain⟨m,X⟩:∃m:Nat,(m:Int)=1+M:={(1+M).toNat,by omega};rw[<-hw,<-X];and_intros;show oz (λs:(Int×Int)×!Str=>[P9 {.io 0,fT s.1},↥(.int w),↥(.int m),↥(.int wh),⇑(.li (s.2.map .str)),P8]) (λj s=>s.2.length=j/\s.2.Nodup/\∀z∈s.2,cx z) ?_;and_intros;show{{by omega,by omega},(f,[]),by cbv,{Xr,GH,by simp},λj s hj ⟨t,u,o⟩=>?_,λs ⟨t,u,o⟩=>?_}
 .have(f,d):=s;dsimp only at t u o|-;and_intros;show oK (zs:=d) ⋯ λz f G U=>?_;ac_nf;and_intros;show cH (is:=d.map .str) (i:=.str z) (by rw[FM,KG];omega) ?_;ac_nf;and_intros;show{(f,d++[z]),by rw[FY];cbv,by rw[FQ,t];rfl,?_,bv o G};show FP.mpr {u,by simp,λa Z b hb e=>U (by rw[<-ysM hb,<-e];show Z)}
 have(f,d):=s;dsimp only at t u o|-;rw[GF]at t;and_intros;show bS (λf:Int×Int=>[P9 {.io 0,fT f},↥(.int w),↥(.int m),↥(.int wh),⇑(.li (d.map .str)),P8]) bG (λj _ c=>c.map (·.1)=d.take j/\∀p∈c,p.2.ok/\p.2.leaves.length<=12/\(∀l∈p.2.leaves,WL d w.toNat l)/\Cov (16 / m) p.2.leaves) ?_;and_intros;show{d.map .str,Xr,by rw[FM,KG];omega,by cbv,f,by cbv,{Xr,by simp},λj y f c hy ⟨h,E⟩=>?_,λf c ⟨h,E⟩=>?_}
 .have(z,G,rfl):=ar hy;and_intros;show oE ⋯ ⋯ ⋯ ⋯ (Int.ediv_nonneg ⋯ ⋯) λr f v B x A=>?_;ac_nf;and_intros;rw[show((16:Int) / (m:Int)).toNat=16 / m from congrArg Int.toNat (Int.natCast_ediv 16 m).symm]at A;show{(z,r),f,Xr,by cbv,by rw[FY,h,Gz,G];rfl,bv E ⟨v,B,x,A⟩}
 .rw[FM,GN]at h;have L:c.length=m:=by rw[<-t,<-h,FM]
  and_intros;show q w wh c f {{by omega,by omega,g.1,g.2,by omega,by omega,by rw[h];show u,by rw[h];show o,16 / m,by rw[L];show Nat.div_mul_le_self 16 m,λp J=>?_},λp J=>?_}
  .have(v,B,x,A):=E p J;rw[h];show{v,B,λl Y=>(x l Y).lk,A}
  .have(v,B,x,A):=E p J;show jX o v x
abbrev FB:Ru->↑(Str×!Int)
 | .rd x a=>P9 (x,a)
 | _=>P8
abbrev rds(r:Ru):!(Str×!Int):=r.leaves.filterMap FB
abbrev Fp(a:!(Str×!Int)) (p:Str×!Int):!(Str×!Int):=if p∈a then a else a++[p]
abbrev ded(L:!(Str×!Int)):!(Str×!Int):=L.foldl Fp []
mutual
noncomputable def I.fit:I->Bool
 | .tup is=>decide (is.length<=1000000)&&I.fits is
 | .ls _=>Qa
 | .fd _ _=>Qa
 | .exn _ _ _=>Qa
 | _=>Qb
noncomputable def I.fits:!I->Bool
 | []=>Qb
 | i::is=>i.fit&&I.fits is
end
def oR:∀{is:!I} {i:I},I.fits is=Qb->i∈is->i.fit=Qb
 | a::is,i,h,c=>by
  rw[I.fits,FO]at h;rcases ycM c with rfl|c;show h.1;show oR h.2 c
def nI:∀{is:!I},(∀i∈is,i.fit=Qb)->I.fits is=Qb
 | [],_=>rfl
 | a::is,h=>by rw[I.fits,h a ymS,nI λi c=>h i (ymC _ c)];rfl
def oO:∀{is:!I} {i:I},i∈is->i.dep<=I.deps is
 | a::is,i,c=>by
  rw[I.deps];rcases ycM c with rfl|c;omega;have:=oO c;omega
def nB:∀{is:!I},(∀i∈is,i.dep<=n)->I.deps is<=n
 | [],_=>GA _
 | a::is,h=>by
  have d:=h a ymS;have e:=nB λi c=>h i (ymC _ c);rw[I.deps];omega
def vg{l:!Unit}{Q:T->Prop}(q:Q (.im (.bl Qb))):W1 (j9 [.li (l.map λ_=>I.bl Qb)]) Q:=by
 have e:(l.map λ_=>I.bl Qb)=(l.map λ_=>Qb).map I.bl:=by rw[GJ];rfl
 rw[e];show o8 ?_;have:(l.map λ_=>Qb).all id=Qb:=by simp
 rw[this];show q
def oJ:∀(n:Nat) (i:I),i.dep<n->i.fit=Qb->W1 (dU n [.im i,.im i]) λt=>t=.im (.bl Qb):=by
 intro n
 induction n with
 | zero=>intro i h;omega
 | succ n m=>
  intro i h a;show p7 [↥i,↥i] rfl rfl rfl ?_;unfold hJ;cases i with
  | tup c=>
   rw[I.fit,FO,decide_eq_true_eq]at a;rw[I.dep]at h
   (repeat first|infer_instance|refine spT ?_|refine spF ?_|refine aK ?_)
   clear_value o
   .and_intros;show xt (λ_:Unit=>[↥(.tup c),↥(.tup c)]) (λ_:Unit=>I.bl Qb) (λj _ l=>l.length=j) ?_;and_intros;show{_,_,Qa,Qa,c,c,Xr,Xr,Xr,by rw[KG];omega,by cbv,(),by cbv,Xr,λj x y _ l e f g=>?_,λ_ l g=>?_}
    .rw[e]at f;cases (f);have d:=ymG e;and_intros;show W1.mono (m x (by have:=oO d;omega) (oR a.2 d)) λt p=>?_;subst p;show{(),(),Xr,by cbv,by simp[g]}
    .and_intros;show vg ?_;and_intros;try rfl
   .show absurd rfl o
  | non=>
   (repeat first|infer_instance|refine spT ?_|refine spF ?_|refine aK ?_)
   show w1 (x:=.im (.bl Qb)) (by cbv) ?_;and_intros;try rfl
  | bl b=>
   (repeat first|infer_instance|refine spT ?_|refine spF ?_|refine aK ?_)
   show w1 (x:=.im (.bl Qb)) (by unhygienic (cases b<;>rfl)) ?_;and_intros;try rfl
  | int z=>(repeat first|infer_instance|refine spT ?_|refine spF ?_|refine aK ?_);simp
  | str z=>(repeat first|infer_instance|refine spT ?_|refine spF ?_|refine aK ?_);simp
  | ls c=>rw[I.fit]at a;cases a
  | fd _ _=>rw[I.fit]at a;cases a
  | exn _ _ _=>rw[I.fit]at a;cases a
abbrev RuL(r:Ru):Prop:=r.leaves.length<=22/\∀x a,Ru.rd x a∈r.leaves->a.length<=1000
abbrev H6(a:!(Str×Ru)):Prop:=a.length<=6/\(a.map (·.1)).Nodup/\∀p∈a,RuL p.2
def uP(row:!Int)(h:row.length<=1000000):(I.tup (row.map I.int)).fit=Qb/\(I.tup (row.map I.int)).dep=1:=by
 have c:I.fits (row.map I.int)=Qb:=nI λi a=>by have(x,_,rfl):=FT.mp a;rfl
 have d:I.deps (row.map I.int)=0:=Nat.le_zero.mp (nB λi a=>by have(x,_,rfl):=FT.mp a;show FV _);rw[I.fit,I.dep,c,d];show{by simpa using h,Xr}
def Dj(c:a<=x+2)(d:b<=y+2):max 0 (max 0 (max a (max b 0)))+1<=max x y+1+2:=by
 show IB ?_
 repeat' refine Nat.max_le.2 {?_,?_}
 all_goals omega
def Di(d:a<=x+2)(e:b<=y+2)(f:c<=z+2):max 0 (max a (max b (max c 0)))+1<=max x (max y z)+1+2:=by
 show IB ?_
 repeat' refine Nat.max_le.2 {?_,?_}
 all_goals omega
def ip:∀{r:Ru},(∀x row,Ru.rd x row∈r.leaves->row.length<=1000)->(tRu r).fit=Qb/\(tRu r).dep<=r.depth+2
 | .num _,_=>{Xr,by simp[tRu,I.dep,I.deps,Ru.depth]}
 | .rd x row,h=>by
  have j:=h x row (by simp[Ru.leaves]);have i:=uP row ⋯;dsimp[tRu,I.fit,I.fits,I.dep,I.deps]at i|-;rw[i.1];show{by simp,by omega}
 | .op s a b,h=>by
  have e:=ip (r:=a) λx row d=>h x row (by rw[Ru.leaves];show yaL _ d);have f:=ip (r:=b) λx row d=>h x row (by rw[Ru.leaves];show yaR _ d);dsimp[tRu,I.fit,I.fits,I.dep,I.deps,Ru.depth,e.1,f.1];show{by simp,Dj e.2 f.2}
 | .cond a b c,h=>by
  have e:=ip (r:=a) λx row d=>h x row (by rw[Ru.leaves];show yaL _ d);have f:=ip (r:=b) λx row d=>h x row (by rw[Ru.leaves];show yaR _ (yaL _ d));have g:=ip (r:=c) λx row d=>h x row (by rw[Ru.leaves];show yaR _ (yaR _ d));dsimp[tRu,I.fit,I.fits,I.dep,I.deps,Ru.depth,e.1,f.1,g.1];show{by simp,Di e.2 f.2 g.2}
abbrev SL(a:!(Str×Ru)):!(Str×Str×!Int):=a.flatMap λd=>(ded (rds d.2)).map λp=>(d.1,p)
abbrev tHT(h:Int×Int×!(Str×Ru)):I:=.tup [tH h,.str (b6 h.1 h.2.1 h.2.2)]
def J4.fit{w wh:Int}{c:!(Str×Ru)}(h:J4 w wh c):(bd w wh c).fit=Qb/\(bd w wh c).dep<24:=by
 have one:∀p∈c,(bG p).fit=Qb/\(bG p).dep<=15:=λp a=>by
  have(u,t,o,s,q):=h.one a;have(e,g):=ip (r:=p.2) λx l f=>by
   have:=(h.1.2.2.2.2.2.2.2.2);have(n,_,j):=this;have:=(j p a).2.2.1 _ f;have:=this.2;have:=h.1.2.1;omega
  have:=p.2.depth_lt;dsimp[bG,I.fit,I.fits,e,I.dep,I.deps];show{by simp,by omega}
 have m:=h.1.2.2.2.2.2.1;have e:I.fits (c.map bG)=Qb:=nI λi d=>by have(p,a,rfl):=FT.mp d;show(one p a).1
 have g:I.deps (c.map bG)<=15:=nB λi d=>by have(p,a,rfl):=FT.mp d;show(one p a).2
 dsimp[bd,I.fit,I.fits,I.dep,I.deps,e,FM];show{by rw[FO];show{by simp,?_};simp;omega,by omega}
def k07_law{ns:!Int}(G:ns.length<=63):W1 (r_l_law_v14 [.li (ns.map .int)]) λt=>t=.im (.bl Qb):=by
 show p7 [P9 {.vw P8 P8,.li (ns.map .int)},P8,P8,P8,P8] rfl rfl rfl ?_;unfold eP;and_intros;show oz (λA:!(Int×Int×!(Str×Ru))=>[P9 {.vw P8 P8,.li (ns.map .int)},⇑(.li (A.map tHT)),P8,P8,P8]) (λj A=>A.length=j/\∀h∈A,J4 h.1 h.2.1 h.2.2) ?_;and_intros;rw[FM];generalize r:(if(if(7:Int)<(ns.length:Int)then 7 else(ns.length:Int))>2 then(if(7:Int)<(ns.length:Int)then 7 else(ns.length:Int))else 2)=c;have s:2<=c/\c<=7:=by subst r;split<;>split<;>omega
 show{{by omega,by omega},[],by cbv,{Xr,by simp},λj A E ⟨o,e⟩=>?_,λA ⟨o,e⟩=>?_}
 .and_intros;show xO (ns:=ns) ⋯ ⋯ ⋯ λf=>?_;and_intros;show l4 λw p q f a=>?_;ac_nf;and_intros;show zt a ?_;and_intros;show cH (is:=A.map tHT) (i:=tHT (w,p,q)) (by rw[FM,KG];omega) ?_;ac_nf;and_intros;show{A++[(w,p,q)],by rw[FY];cbv,by rw[FQ,o];rfl,bv e a}
 have B:A.length<=7:=by omega
 and_intros;show eU (λ_:Unit=>[P9 {.vw P8 P8,.li (ns.map .int)},⇑(.li (A.map tHT)),P8,P8,P8]) (λ_ _=>True) ?_;and_intros;rw[show cy (A.map tHT) P8 (P9 1)=(A.take 1).map tHT by rw[Iu];show mj (v:=1) (by decide)];show qr (is:=A.map tHT) (js:=(A.take 1).map tHT) (by dsimp[FM,GS];rw[KG];omega) ?_;show{(A++A.take 1).map tHT,by rw[FY];rfl,by cbv,(),by cbv,trivial,λj y _ g _=>?_,λ_ _=>?_}
 .have(h,a,rfl):=ar g;have d:J4 h.1 h.2.1 h.2.2:=by
   rcases yaM (ymG a)with z|z;show e h z;show e h (HY z)
  have(x,u):=d.fit;rw[tHT,tH];and_intros;show aK ?_;and_intros;show rV d ?_;and_intros;show W1.mono (oJ 24 (.str (b6 h.1 h.2.1 h.2.2)) (by simp[I.dep]) rfl) λt m=>?_;subst m;and_intros;show{λh=>(nomatch h),λ_=>?_};and_intros;show iw d ?_;and_intros;show W1.mono (oJ 24 (bd h.1 h.2.1 h.2.2) u x) λt m=>?_;subst m;and_intros;show{λh=>(nomatch h),λ_=>?_};and_intros;show{(),by cbv,trivial}
 .and_intros;show bS (λ_:Unit=>[P9 {.vw P8 P8,.li (ns.map .int)},⇑(.li (A.map tHT)),P8,P8,P8]) (λ_:Unit=>I.bl Qb) (λj _ l=>True) ?_;and_intros;show{A.map tHT,Xr,by rw[FM,KG];omega,by cbv,(),by cbv,trivial,λj y _ l g _=>?_,λ_ l _=>?_}
  .have(h,a,rfl):=ar g;have d:=e h (ymG a);rw[tHT,tH];and_intros;show iw d ?_;and_intros;show rV d ?_;and_intros;show{(),(),by rw[decide_eq_true rfl],by cbv,trivial}
  and_intros;show vg ?_;and_intros;try rfl
end L2
namespace K07
open PySem PySem.Spec PyProof.Rows L2
local macro_rules|`(tactic| exfalso)=>`(tactic| exact⟨rfl,rfl,rfl,by decide +kernel,rfl,by decide +kernel,by decide +kernel⟩)
structure Adr(mg:Str->↑KA)(K:yF):Prop where
 d0:p8 K mg "_law_take" gP ["_law_feed_here","_law_many"]
 d1:p8 K mg "_law_any_name" dy ["_law_feed_here","_law_taken"]
 d2:p8 K mg "_law_grown" fZ ["_law_feed_here","_law_leaves"]
 d3:p8 K mg "_law_wide_row" dz ["_law_feed_here","_law_ways"]
 d4:p8 K mg "_law_wide_rule" cT ["_law_feed_here","_law_names","_law_ways","_law_most"]
 d5:p8 K mg "_law_wide_house" cO ["_law_feed_here"]
 d6:p8 K mg "_law_feed" gN ["_law_script","_law_k"]
 d7:p8 K mg "_law_words" f6 ["_law_rule"]
 d8:p8 K mg "_law_said" gO ["_law_house"]
 d9:p8 K mg "_law_alike" fY ["_law_found","_law_due"]
 d10:p8 K mg "part_word" gS ["part"]
 d11:p8 K mg "inner_parts" fm ["part"]
 d12:p8 K mg "parts_of" iM ["rule"]
 d13:p8 K mg "show_house" gc ["house"]
 d14:p8 K mg "is_number" gQ ["word","most"]
 d15:p8 K mg "read_top" iN ["row"]
 d16:p8 K mg "look_frame" f8 ["ways","wheel","desks"]
 d17:p8 K mg "look_rule" gR ["name","rule","names","ways"]
 d18:p8 K mg "reads" oo ["rule"]
 d19:p8 K mg "desk_steps" f7 ["name","rule"]
 d20:p8 K mg "steps_of" iO ["house"]
 d21:p8 K mg "is_name" jU ["text"]
 d22:p8 K mg "look_house" f9 ["house"]
 d23:p8 K mg "is_row_number" dA ["word"]
 d24:p8 K mg "read_at" jV ["word"]
 d25:p8 K mg "read_part" gU ["word","pile"]
 d26:p8 K mg "read_rule" gW ["words"]
 d27:p8 K mg "read_desk" gT ["row","at"]
 d28:p8 K mg "read_house" gb ["text"]
 d29:p8 K mg "law" s_law ["_law_script"]
 T:Bi mg
 G:GT K mg
def adr_less(mg:Str->↑KA)(K:yF)(a:Addr)(A:Adr mg K)(l:Kq K a):Adr mg (less K a):=
 {A.d0.less l,A.d1.less l,A.d2.less l,A.d3.less l,A.d4.less l,A.d5.less l,A.d6.less l,A.d7.less l,A.d8.less l,A.d9.less l,A.d10.less l,A.d11.less l,A.d12.less l,A.d13.less l,A.d14.less l,A.d15.less l,A.d16.less l,A.d17.less l,A.d18.less l,A.d19.less l,A.d20.less l,A.d21.less l,A.d22.less l,A.d23.less l,A.d24.less l,A.d25.less l,A.d26.less l,A.d27.less l,A.d28.less l,A.d29.less l,A.T,{trivial,A.G.g_FIGURES,A.G.g_LEAST_WHEEL,A.G.g_LETTERS,A.G.g_LONGEST_NAME,A.G.g_MOST_DESKS,A.G.g_MOST_FIGURES,A.G.g_MOST_NUMBER,A.G.g_MOST_ROW_FIGURES,A.G.g_MOST_STEPS,A.G.g_MOST_WAYS,A.G.g_MOST_WHEEL,GTup.less A.G.g_NO_NAMES l,GTup.less A.G.g_SIGNS l}}
noncomputable abbrev pm0:KA:=(vs "law_clockhouse_k07_houses_as_texts" 461)
noncomputable abbrev pm1:KA:=(vs "clockhouse.housetexts" 380)
noncomputable abbrev pm2:KA:=(vs "clockhouse.rules" 273)
noncomputable abbrev pm3:KA:=(vs "clockhouse.houses" 322)
abbrev KF(P:Py):yF:=[(3,oD [(eO P "__name__" 165 (vs "law_clockhouse_k07_houses_as_texts" 461)),(eO P "__doc__" 166 .none),(eO P "__package__" 167 .none),(eO P "__loader__" 168 (Pm "__main__.__loader__#opaque")),(eO P "__spec__" 169 .none),(eO P "__annotations__" 170 (vr 6)),(eO P "__builtins__" 171 (vr 4)),(eO P "__file__" 173 (vs "/claim/cut.py" 172)),(eO P "__cached__" 174 .none),(eO P "kept" 195 (vr 21)),(eO P "HouseError" 220 (vr 38)),(eO P "NoHouse" 247 (vr 58)),(eO P "NoText" 272 (vr 77)),(eO P "LETTERS" 276 (vs "abcdefghijklmnopqrstuvwxyz" 275)),(eO P "LONGEST_NAME" 278 (Lk 8 277)),(eO P "SIGNS" 286 (vr 80)),(eO P "NO_NAMES" 292 (vr 81)),(eO P "is_name" 298 (vr 86)),(eO P "inner_parts" 305 (vr 93)),(eO P "parts_of" 315 (vr 100)),(eO P "reads" 321 (vr 105)),(eO P "MOST_WAYS" 325 (Lk 3 324)),(eO P "LEAST_WHEEL" 327 (Lk 2 326)),(eO P "MOST_WHEEL" 329 (Lk 1000000000 328)),(eO P "MOST_DESKS" 331 (Lk 6 330)),(eO P "MOST_NUMBER" 333 (Lk 1000000000 332)),(eO P "MOST_STEPS" 335 (Lk 16 334)),(eO P "look_house" 341 (vr 110)),(eO P "look_frame" 350 (vr 117)),(eO P "look_rule" 361 (vr 124)),(eO P "desk_steps" 373 (vr 131)),(eO P "steps_of" 379 (vr 136)),(eO P "FIGURES" 383 (vs "0123456789" 382)),(eO P "MOST_FIGURES" 385 (Lk 10 384)),(eO P "MOST_ROW_FIGURES" 387 (Lk 3 386)),(eO P "show_house" 393 (vr 141)),(eO P "part_word" 399 (vr 146)),(eO P "read_house" 405 (vr 151)),(eO P "read_top" 413 (vr 158)),(eO P "read_desk" 423 (vr 165)),(eO P "read_rule" 433 (vr 172)),(eO P "read_part" 441 (vr 179)),(eO P "read_at" 447 (vr 184)),(eO P "is_number" 453 (vr 189)),(eO P "is_row_number" 460 (vr 196)),(eO P "_law_feed" 472 (vr 203)),(eO P "_law_take" 482 (vr 210)),(eO P "_law_grown" 493 (vr 217)),(eO P "_law_any_name" 499 (vr 222)),(eO P "_law_wide_row" 505 (vr 227)),(eO P "_law_wide_rule" 521 (vr 234)),(eO P "_law_wide_house" 527 (vr 239)),(eO P "_law_words" 533 (vr 244)),(eO P "_law_said" 543 (vr 251)),(eO P "_law_alike" 549 (vr 256)),(eO P "law" 555 (vr 261))] 56),
 (210,oF "_law_take" gP pm0 209),
 (209,oc "_law_take" 473 167 2 204 (P9 (206,207)) 208 480),
 (222,oF "_law_any_name" dy pm0 221),
 (221,oc "_law_any_name" 494 186 2 218 P8 220 497),
 (217,oF "_law_grown" fZ pm0 216),
 (216,oc "_law_grown" 483 175 2 211 (P9 (213,214)) 215 491),
 (227,oF "_law_wide_row" dz pm0 226),
 (226,oc "_law_wide_row" 500 194 2 223 P8 225 503),
 (234,oF "_law_wide_rule" cT pm0 233),
 (233,oc "_law_wide_rule" 506 197 4 228 (P9 (230,231)) 232 519),
 (239,oF "_law_wide_house" cO pm0 238),
 (238,oc "_law_wide_house" 522 211 1 235 P8 237 525),
 (203,oF "_law_feed" gN pm0 202),
 (202,oc "_law_feed" 463 157 2 197 (P9 (199,200)) 201 470),
 (244,oF "_law_words" f6 pm0 243),
 (243,oc "_law_words" 528 218 1 240 P8 242 531),
 (251,oF "_law_said" gO pm0 250),
 (250,oc "_law_said" 534 227 1 245 (P9 (247,248)) 249 541),
 (256,oF "_law_alike" fY pm0 255),
 (255,oc "_law_alike" 544 232 2 252 P8 254 547),
 (146,oF "part_word" gS pm1 145),
 (145,oc "part_word" 394 96 1 142 P8 144 397),
 (93,oF "inner_parts" fm pm2 92),
 (92,oc "inner_parts" 299 28 1 87 (P9 (89,90)) 91 303),
 (100,oF "parts_of" iM pm2 99),
 (99,oc "parts_of" 306 34 1 94 (P9 (96,97)) 98 313),
 (141,oF "show_house" gc pm1 140),
 (140,oc "show_house" 388 90 1 137 P8 139 391),
 (189,oF "is_number" gQ pm1 188),
 (188,oc "is_number" 448 148 2 185 P8 187 451),
 (158,oF "read_top" iN pm1 157),
 (157,oc "read_top" 406 111 1 152 (P9 (154,155)) 156 411),
 (117,oF "look_frame" f8 pm3 116),
 (116,oc "look_frame" 342 62 3 111 (P9 (113,114)) 115 348),
 (124,oF "look_rule" gR pm3 123),
 (123,oc "look_rule" 351 69 4 118 (P9 (120,121)) 122 359),
 (105,oF "reads" oo pm2 104),
 (104,oc "reads" 316 42 1 101 P8 103 319),
 (131,oF "desk_steps" f7 pm3 130),
 (130,oc "desk_steps" 362 77 2 125 (P9 (127,128)) 129 371),
 (136,oF "steps_of" iO pm3 135),
 (135,oc "steps_of" 374 84 1 132 P8 134 377),
 (86,oF "is_name" jU pm2 85),
 (85,oc "is_name" 293 24 1 82 P8 84 296),
 (110,oF "look_house" f9 pm3 109),
 (109,oc "look_house" 336 51 1 106 P8 108 339),
 (196,oF "is_row_number" dA pm1 195),
 (195,oc "is_row_number" 454 152 1 190 (P9 (192,193)) 194 458),
 (184,oF "read_at" jV pm1 183),
 (183,oc "read_at" 442 142 1 180 P8 182 445),
 (179,oF "read_part" gU pm1 178),
 (178,oc "read_part" 434 134 2 173 (P9 (175,176)) 177 439),
 (172,oF "read_rule" gW pm1 171),
 (171,oc "read_rule" 424 126 1 166 (P9 (168,169)) 170 431),
 (165,oF "read_desk" gT pm1 164),
 (164,oc "read_desk" 414 118 2 159 (P9 (161,162)) 163 421),
 (151,oF "read_house" gb pm1 150),
 (150,oc "read_house" 400 102 1 147 P8 149 403),
 (261,oF "law" s_law pm0 260),
 (260,oc "law" 550 240 1 257 P8 259 553),
 (81,oT [(vs "min" 287),(vs "max" 288),(vs "rest" 289),(vs "less" 290),(vs "if" 291)]),
 (80,oT [(vs "+" 279),(vs "-" 280),(vs "*" 281),(vs "min" 282),(vs "max" 283),(vs "rest" 284),(vs "less" 285)])]
abbrev KL:!Str:=["kept","HouseError","NoHouse","NoText","LETTERS","LONGEST_NAME","SIGNS","NO_NAMES","is_name","inner_parts","parts_of","reads","MOST_WAYS","LEAST_WHEEL","MOST_WHEEL","MOST_DESKS","MOST_NUMBER","MOST_STEPS","look_house","look_frame","look_rule","desk_steps","steps_of","FIGURES","MOST_FIGURES","MOST_ROW_FIGURES","show_house","part_word","read_house","read_top","read_desk","read_rule","read_part","read_at","is_number","is_row_number","_law_feed","_law_take","_law_grown","_law_any_name","_law_wide_row","_law_wide_rule","_law_wide_house","_law_words","_law_said","_law_alike"].map K9
abbrev KH:PySem.W.Hook:=PySem.W.kHook KF [3,210,209,222,221,217,216,227,226,234,233,239,238,203,202,244,243,251,250,256,255,146,145,93,92,100,99,141,140,189,188,158,157,117,116,124,123,105,104,131,130,136,135,86,85,110,109,196,195,184,183,179,178,172,171,165,164,151,150,261,260,81,80] (λ_=>rfl)
abbrev KQ:KP:=PySem.W.view PySem.Challenge.pw_clockhouse_k07_houses_as_texts [51]
def left:PySem.W.LeftO PySem.Challenge.pw_clockhouse_k07_houses_as_texts KQ KL (λs=>PySem.W.xlAt KQ [] s&&PySem.W.recOk [] s) KH.obs KH.val 4000:=λw=>by rfl'
def adr0(w:K2)(mg:Str->↑KA)(h:Heap)(X:(KF w.params).In h)(G:h.Ns K4 mg):Adr mg (KF w.params):=
 {p8.mkO X G 210 pm0 209 (by2 λ_ _ _ _ _ _ _ _=>rfl),
   p8.mkO X G 222 pm0 221 (by2 λ_ _ _ _ _ _ _ _=>rfl),
   p8.mkO X G 217 pm0 216 (by2 λ_ _ _ _ _ _ _ _=>rfl),
   p8.mkO X G 227 pm0 226 (by2 λ_ _ _ _ _ _ _ _=>rfl),
   p8.mkO X G 234 pm0 233 (by4 λ_ _ _ _ _ _ _ _ _ _=>rfl),
   p8.mkO X G 239 pm0 238 (by1 λ_ _ _ _ _ _ _=>rfl),
   p8.mkO X G 203 pm0 202 (by2 λ_ _ _ _ _ _ _ _=>rfl),
   p8.mkO X G 244 pm0 243 (by1 λ_ _ _ _ _ _ _=>rfl),
   p8.mkO X G 251 pm0 250 (by1 λ_ _ _ _ _ _ _=>rfl),
   p8.mkO X G 256 pm0 255 (by2 λ_ _ _ _ _ _ _ _=>rfl),
   p8.mkO X G 146 pm1 145 (by1 λ_ _ _ _ _ _ _=>rfl),
   p8.mkO X G 93 pm2 92 (by1 λ_ _ _ _ _ _ _=>rfl),
   p8.mkO X G 100 pm2 99 (by1 λ_ _ _ _ _ _ _=>rfl),
   p8.mkO X G 141 pm1 140 (by1 λ_ _ _ _ _ _ _=>rfl),
   p8.mkO X G 189 pm1 188 (by2 λ_ _ _ _ _ _ _ _=>rfl),
   p8.mkO X G 158 pm1 157 (by1 λ_ _ _ _ _ _ _=>rfl),
   p8.mkO X G 117 pm3 116 (by3 λ_ _ _ _ _ _ _ _ _=>rfl),
   p8.mkO X G 124 pm3 123 (by4 λ_ _ _ _ _ _ _ _ _ _=>rfl),
   p8.mkO X G 105 pm2 104 (by1 λ_ _ _ _ _ _ _=>rfl),
   p8.mkO X G 131 pm3 130 (by2 λ_ _ _ _ _ _ _ _=>rfl),
   p8.mkO X G 136 pm3 135 (by1 λ_ _ _ _ _ _ _=>rfl),
   p8.mkO X G 86 pm2 85 (by1 λ_ _ _ _ _ _ _=>rfl),
   p8.mkO X G 110 pm3 109 (by1 λ_ _ _ _ _ _ _=>rfl),
   p8.mkO X G 196 pm1 195 (by1 λ_ _ _ _ _ _ _=>rfl),
   p8.mkO X G 184 pm1 183 (by1 λ_ _ _ _ _ _ _=>rfl),
   p8.mkO X G 179 pm1 178 (by2 λ_ _ _ _ _ _ _ _=>rfl),
   p8.mkO X G 172 pm1 171 (by1 λ_ _ _ _ _ _ _=>rfl),
   p8.mkO X G 165 pm1 164 (by2 λ_ _ _ _ _ _ _ _=>rfl),
   p8.mkO X G 151 pm1 150 (by1 λ_ _ _ _ _ _ _=>rfl),
   p8.mkO X G 261 pm0 260 (by1 λ_ _ _ _ _ _ _=>rfl),
   {bN X G,bN X G,bN X G,bN X G,bN X G,bN X G,bN X G,bN X G,bN X G,bN X G,bN X G,bN X G,bN X G,bN X G,bN X G,bN X G,bN X G,bN X G,bN X G,bN X G,bN X G},{trivial,JY.mk' X G (u:=(vs "0123456789" 382)) (by rfl') {_,Xr},JY.mk' X G (u:=(Lk 2 326)) (by rfl') {_,Xr},JY.mk' X G (u:=(vs "abcdefghijklmnopqrstuvwxyz" 275)) (by rfl') {_,Xr},JY.mk' X G (u:=(Lk 8 277)) (by rfl') {_,Xr},JY.mk' X G (u:=(Lk 6 330)) (by rfl') {_,Xr},JY.mk' X G (u:=(Lk 10 384)) (by rfl') {_,Xr},JY.mk' X G (u:=(Lk 1000000000 332)) (by rfl') {_,Xr},JY.mk' X G (u:=(Lk 3 386)) (by rfl') {_,Xr},JY.mk' X G (u:=(Lk 16 334)) (by rfl') {_,Xr},JY.mk' X G (u:=(Lk 3 324)) (by rfl') {_,Xr},JY.mk' X G (u:=(Lk 1000000000 328)) (by rfl') {_,Xr},GTup.mkO X G 81 [(vs "min" 287),(vs "max" 288),(vs "rest" 289),(vs "less" 290),(vs "if" 291)] (by rfl') (by rfl') (by decide) (by repeat' first|show .nil|refine .cons ⟨_,rfl⟩ ?_),GTup.mkO X G 80 [(vs "+" 279),(vs "-" 280),(vs "*" 281),(vs "min" 282),(vs "max" 283),(vs "rest" 284),(vs "less" 285)] (by rfl') (by rfl') (by decide) (by repeat' first|show .nil|refine .cons ⟨_,rfl⟩ ?_)}}
def c0:p6 ["_law_feed_here","_law_many","_law_digit","_law_one"] ["_law_feed_here","_law_many"] (aj gP):=by exfalso
def c1:p6 ["_law_feed_here","_law_taken","_law_letters","_law_name"] ["_law_feed_here","_law_taken"] (aj dy):=by exfalso
def c2:p6 ["_law_feed_here","_law_leaves","_law_found","_law_at","_law_sign"] ["_law_feed_here","_law_leaves"] (aj fZ):=by exfalso
def c3:p6 ["_law_feed_here","_law_ways","_law_some"] ["_law_feed_here","_law_ways"] (aj dz):=by exfalso
def c4:p6 ["_law_feed_here","_law_names","_law_ways","_law_most","_law_deep","_law_leaves","_law_k","_law_found","_law_leaf","_law_sign"] ["_law_feed_here","_law_names","_law_ways","_law_most"] (aj cT):=by exfalso
def c5:p6 ["_law_feed_here","_law_ways","_law_many","_law_wheel","_law_names","_law_k"] ["_law_feed_here"] (aj cO):=by exfalso
def c6:p6 ["_law_script","_law_k","_law_cell","_law_own"] ["_law_script","_law_k"] (aj gN):=by exfalso
def c7:p6 ["_law_rule","_law_found","_law_part"] ["_law_rule"] (aj f6):=by exfalso
def c8:p6 ["_law_house","_law_rows","_law_name","_law_rule"] ["_law_house"] (aj gO):=by exfalso
def c9:p6 ["_law_found","_law_due"] ["_law_found","_law_due"] (aj fY):=by exfalso
def c10:p6 ["part"] ["part"] (aj gS):=by exfalso
def c11:p6 ["part"] ["part"] (aj fm):=by exfalso
def c12:p6 ["rule","parts","due","part"] ["rule"] (aj iM):=by exfalso
def c13:p6 ["house","ways","wheel","desks","rows","name","rule"] ["house"] (aj gc):=by exfalso
def c14:p6 ["word","most"] ["word","most"] (aj gQ):=by exfalso
def c15:p6 ["row","words"] ["row"] (aj iN):=by exfalso
def c16:p6 ["ways","wheel","desks"] ["ways","wheel","desks"] (aj f8):=by exfalso
def c17:p6 ["name","rule","names","ways","part"] ["name","rule","names","ways"] (aj gR):=by exfalso
def c18:p6 ["rule"] ["rule"] (aj oo):=by exfalso
def c19:p6 ["name","rule","steps","other","row","step"] ["name","rule"] (aj f7):=by exfalso
def c20:p6 ["house"] ["house"] (aj iO):=by exfalso
def c21:p6 ["text"] ["text"] (aj jU):=by exfalso
def c22:p6 ["house","ways","wheel","desks","names","at","name","rule"] ["house"] (aj f9):=by exfalso
def c23:p6 ["word"] ["word"] (aj dA):=by exfalso
def c24:p6 ["word","name","mark","numbers","words"] ["word"] (aj jV):=by exfalso
def c25:p6 ["word","pile"] ["word","pile"] (aj gU):=by exfalso
def c26:p6 ["words","pile","word","part"] ["words"] (aj gW):=by exfalso
def c27:p6 ["row","at","words","rule"] ["row","at"] (aj gT):=by exfalso
def c28:p6 ["text","rows","ways","wheel","desks","house"] ["text"] (aj gb):=by exfalso
def c29:p6 ["_law_script","_law_asked","_law_k","_law_house","_law_text"] ["_law_script"] (aj s_law):=by exfalso
local macro_rules|`(tactic| ac_nf)=>`(tactic| first|exact af|exact CK.blk af)
local macro_rules|`(tactic| injection $x:ident)=>`(tactic| refine $x ?_)
local macro_rules|`(tactic| infer_instance)=>`(tactic| first
 | ((with_reducible change QE _ _ _ _);first|exact bi|exact rO|refine wc ?_ ?_ ?_|exact aF _|exact dH|exact yP|exact bE G!|refine gJ nofun ?_ ?_|refine lC _ ?_|refine Ef _ ?_|refine Ea nofun ?_ ?_|refine Ep nofun ?_ ?_|refine Eh nofun ?_ ?_|refine Eg nofun ?_ ?_|refine B6 nofun ?_ ?_|refine Em nofun ?_ ?_|refine Eb _ nofun (by with_reducible assumption) ?_|refine Ec nofun (by with_reducible assumption) ?_|refine eR nofun (by with_reducible first|exact b_len|exact b_max|exact b_min|exact b_all) ?_ ?_|refine we nofun (by with_reducible first|exact b_tuple|exact b_int|exact b_list|exact b_str|exact nt) ?_ ?_|refine dh nofun (by with_reducible assumption) ?_|refine yS nofun ?_ ?_ ?_|refine Eo nofun ?_|refine Ei _ _ nofun (by with_reducible first|exact u5|exact u6) ?_ ?_|refine jO _ nofun mP ?_|refine lB nofun (by with_reducible first|exact Ba|exact oY|exact kA|exact Bb|exact A9) ?_ ?_|refine FA (by decide +kernel) ?_ ?_|refine mX nofun ?_ ?_ ?_ (by unhygienic rfl)|refine Ed nofun (Bi.b_isinstance (by assumption)) (by with_reducible first|exact Bi.b_bool (by assumption)|exact Bi.b_list (by assumption)|exact Bi.b_str (by assumption)|exact Bi.b_tuple (by assumption)) (by with_reducible first|exact HP|exact Ho|exact Ht|exact Hl) (by decide) ?_|refine Ee nofun (Bi.b_isinstance (by assumption)) (by with_reducible first|exact Bi.b_bool (by assumption)|exact Bi.b_list (by assumption)|exact Bi.b_str (by assumption)|exact Bi.b_tuple (by assumption)) (by with_reducible first|exact HP|exact Ho|exact Ht|exact Hl) (by decide) (by with_reducible first|exact Bi.b_bool (by assumption)|exact Bi.b_list (by assumption)|exact Bi.b_str (by assumption)|exact Bi.b_tuple (by assumption)) (by with_reducible first|exact HP|exact Ho|exact Ht|exact Hl) (by decide) ?_|refine El ?_ ?_|injection Ek|injection Ej|refine Ad ?_ ?_|injection wd)
 | ((with_reducible change QA _ _ _ _);first|exact au|refine ao _ ?_|refine ay ?_ ?_)
 | ((with_reducible change QSs _ _ _ _);first|exact bA|exact jQ|refine nY _ ?_|refine aD ?_ ?_|injection aS)
 | ((with_reducible change QS _ _ _ _);first|refine jP _ ?_ ?_|exact br|injection cj|injection kH|refine qC ?_ ?_|refine Ca _ _ nofun ?_ ?_|refine cv ?_ ?_ ?_|refine qD nofun (λ_=>MJ) ?_ ?_ ?_|refine wj (λ_=>MJ) ?_ ?_|refine qs_fgt _ ?_)
 | ((with_reducible change QT _ _ _ _);first|refine bB nofun ?_ ?_ ?_ (by unhygienic rfl)|injection dv|refine Cb nofun ?_|injection gL|refine QW.t ?_)
 | ((with_reducible change QW _ _ _ _);first|refine nZ ?_ ?_|refine j5 ?_ ?_|injection kJ|injection iJ)
 | ((with_reducible change QG _ _ _ _ _);first|refine bu _ ?_|refine gK nofun (aV ?_ (aV ?_ eS))|refine gK nofun (aV ?_ (aV ?_ (aV ?_ eS)))|refine B7 _ ?_ ?_|refine wf _ ?_ ?_ ?_)
 | ((with_reducible change QI _ _ _ _ _);first|refine tL nofun ?_ ?_|refine B9 nofun ?_ ?_|refine B8 nofun ?_ ?_|refine rP nofun ?_ ?_|refine lD nofun ?_)
 | ((with_reducible change QO _ _ _ _);first|exact kF|injection kG)
 | ((with_reducible change QTs _ _ _ _);first|exact kI|injection rQ)
 | ((with_reducible change eK _ _);first|exact pQ|exact AD|exact AE|exact su|exact De|exact jp|exact Df|exact pR|exact zQ)
 | ((with_reducible show∀_,List.Nodup _);intro _;first|assumption|exact j3 (by rfl'))
 | with_reducible first|assumption|exact Bi.b_all (by assumption)|exact Bi.b_bool (by assumption)|exact Bi.b_int (by assumption)|exact Bi.b_isinstance (by assumption)|exact Bi.b_len (by assumption)|exact Bi.b_list (by assumption)|exact Bi.b_max (by assumption)|exact Bi.b_min (by assumption)|exact Bi.b_str (by assumption)|exact Bi.b_tuple (by assumption))
local macro_rules|`(tactic| and_intros)=>`(tactic| repeat' (first|infer_instance|fail))
section
variable {P:KP}{W:K2}{K:yF}{mg:Str->↑KA}{base:Heap}(A:Adr mg K)
include A
def v0:Has P W K mg base 1 "_law_take" ["_law_feed_here","_law_many"] (spI K 0 aM):=by
 have:=c0.nd;have:=A.T;show Def.qi A.d0.to c0 (m:=i8) ?_ (λ_=>rfl);unfold i8;and_intros
def v1:Has P W K mg base 2 "_law_any_name" ["_law_feed_here","_law_taken"] (spI K 0 fS):=by
 have:=@v0 P W K mg base A;have:=c1.nd;have:=A.T;show Def.qi A.d1.to c1 (m:=dM) ?_ (λ_=>rfl);unfold dM;and_intros
 .show cR (N':=["_law_feed_here","_law_taken","_law_letters","_law_name","_law_k"]) (by ac_nf) (λ_=>Blk.of (by rfl')) ?_ ?_ ?_ ?_<;>and_intros
def v2:Has P W K mg base 2 "_law_grown" ["_law_feed_here","_law_leaves"] (spI K 0 jR):=by
 have:=@v0 P W K mg base A;have:=c2.nd;have:=A.T;show Def.qi A.d2.to c2 (m:=hU) ?_ (λ_=>rfl);unfold hU;and_intros
def v3:Has P W K mg base 2 "_law_wide_row" ["_law_feed_here","_law_ways"] (spI K 0 fU):=by
 have:=@v0 P W K mg base A;have:=c3.nd;have:=A.T;show Def.qi A.d3.to c3 (m:=dN) ?_ (λ_=>rfl);unfold dN;and_intros
 .show iI _ (N':=["_law_feed_here","_law_ways","_law_some","_law_k"]) (by ac_nf) (λ_=>(by first|assumption|show j3 (by rfl'))) (λ_=>Blk.of (by rfl')) ?_ ?_ ?_ ?_<;>and_intros
 .show cR (N':=["_law_feed_here","_law_ways","_law_some","_law_one"]) (by ac_nf) (λ_=>Blk.of (by rfl')) ?_ ?_ ?_ ?_<;>and_intros
def v4:Has P W K mg base 3 "_law_wide_rule" ["_law_feed_here","_law_names","_law_ways","_law_most"] (spI K 0 ff):=by
 have:=@v0 P W K mg base A;have:=@v3 P W K mg base A;have:=@v2 P W K mg base A;have:=c4.nd;have:=A.T;show Def.qi A.d4.to c4 (m:=cV) ?_ (λ_=>rfl);unfold cV;and_intros
def v5:Has P W K mg base 4 "_law_wide_house" ["_law_feed_here"] (spI K 0 er):=by
 have:=@v0 P W K mg base A;have:=@v1 P W K mg base A;have:=@v4 P W K mg base A;have:=c5.nd;have:=A.T;show Def.qi A.d5.to c5 (m:=cD) ?_ (λ_=>rfl);unfold cD;and_intros
 .show cR (N':=["_law_feed_here","_law_ways","_law_many","_law_wheel","_law_names","_law_k","_law_name"]) (by ac_nf) (λ_=>Blk.of (by rfl')) ?_ ?_ ?_ ?_<;>and_intros
def v6:Has P W K mg base 1 "_law_feed" ["_law_script","_law_k"] (spP K lE):=by
 have:=c6.nd;have:=A.T;show Def.qp A.d6.to c6 (m:=i6) ?_ (λ_=>rfl);unfold i6;and_intros
def v7:∀n,Has P W K mg base (1+n) "_law_words" ["_law_rule"] (spP K (fD n))
 | 0=>Def.qp A.d7.to c7 (m:=bw) jQ (λ_=>rfl)
 | n+1=>by
  have a:=v7 n;have:=c7.nd;have:=A.T;show Def.qp (k:=1+n) A.d7.to c7 (m:=hV (fD n)) ?_ (λ_=>rfl);unfold hV;and_intros
  .show cR (N':=["_law_rule","_law_found","_law_part","_law_one"]) (by ac_nf) (λ_=>Blk.of (by rfl')) ?_ ?_ ?_ ?_<;>and_intros
def v8:Has P W K mg base 26 "_law_said" ["_law_house"] (spP K lF):=by
 have:=@v7 P W K mg base A 24;have:=c8.nd;have:=A.T;show Def.qp A.d8.to c8 (m:=i7) ?_ (λ_=>rfl);unfold i7;and_intros
def v9:∀n,Has P W K mg base (1+n) "_law_alike" ["_law_found","_law_due"] (spP K (dU n))
 | 0=>Def.qp A.d9.to c9 (m:=bw) jQ (λ_=>rfl)
 | n+1=>by
  have a:=v9 n;have:=c9.nd;have:=A.T;show Def.qp (k:=1+n) A.d9.to c9 (m:=hJ (dU n)) ?_ (λ_=>rfl);unfold hJ;and_intros
  .show cR (N':=["_law_found","_law_due","_law_one","_law_other"]) (by ac_nf) (λ_=>Blk.of (by rfl')) ?_ ?_ ?_ ?_<;>and_intros
def v10:Has P W K mg base 1 "part_word" ["part"] (spP K fh):=by
 have:=c10.nd;have:=A.T;show Def.qp A.d10.to c10 (m:=cX) ?_ (λ_=>rfl);unfold cX;and_intros
 .show cR (N':=["part","number"]) (by ac_nf) (λ_=>Blk.of (by rfl')) ?_ ?_ ?_ ?_<;>and_intros
def v11:Has P W K mg base 1 "inner_parts" ["part"] (spP K dw):=by
 have:=c11.nd;have:=A.T;show Def.qp A.d11.to c11 (m:=cg) ?_ (λ_=>rfl);unfold cg;and_intros
def v12:Has P W K mg base 2 "parts_of" ["rule"] (spP K cK):=by
 have:=@v11 P W K mg base A;have:=c12.nd;have:=A.T;show Def.qp A.d12.to c12 (m:=dO) ?_ (λ_=>rfl);unfold dO;and_intros
def v13:Has P W K mg base 3 "show_house" ["house"] (spP K cM):=by
 have:=@v12 P W K mg base A;have:=@v10 P W K mg base A;have:=c13.nd;have:=A.T;show Def.qp A.d13.to c13 (m:=cG) ?_ (λ_=>rfl);unfold cG;and_intros
 .show cR (N':=["house","ways","wheel","desks","rows","name","rule","part"]) (by ac_nf) (λ_=>Blk.of (by rfl')) ?_ ?_ ?_ ?_<;>and_intros
def v14:Has P W K mg base 1 "is_number" ["word","most"] (spP K be):=
 Def.qp A.d14.to c14 (m:=cW) (aD (cv (QW.t (j5 (dv (fB af jp jp bi (eR af b_len A.T.b_len (ao 0 au)) (aF 1))) (iJ (dv (gL (eR af b_all A.T.b_all (ay (cR (N':=["word","most","sign"]) (f:=[P8,P8,P8]) af (λ_=>Blk.of (by rfl')) (lD af (aF 0)) (bu 2 (λ_=>j3 (by rfl'))) kI (mX (CK.blk af) su (aF 2) (bE (CK.blk af) A.G.g_FIGURES rfl) (by unhygienic rfl))) au))))))) (aS (cj yP)) bA)
  (aS (cj (El (mX af pQ (eR af b_len A.T.b_len (ao 0 au)) bi (bI _)) (wd (mX af pR (gJ af (aF 0) bi) dH (bI _))))))) (λ_=>rfl)
def v15:Has P W K mg base 2 "read_top" ["row"] (spP K fV):=
 Def.qp A.d15.to c15 (m:=fM) (aD (jP 1 (λ_=>c15.nd) (lB af kA (aF 0) (ay dH au)))
  (aD (cv (QW.t (j5 (bB af pR (eR af b_len A.T.b_len (ao 1 au)) bi (bI _)) (iJ (bB af pR (gJ af (aF 1) bi) dH (bI _))))) (aS br) bA)
  (aD (cv (QW.t (j5 (dv (gL (dh af (v14 A) (ay (gJ af (aF 1) bi) (ay (bE af A.G.g_MOST_FIGURES rfl) au))))) (iJ (dv (gL (dh af (v14 A) (ay (gJ af (aF 1) bi) (ay (bE af A.G.g_MOST_FIGURES rfl) au)))))))) (aS br) bA)
  (aS (cj (lC [] (ay (we af nt A.T.b_int (ay (gJ af (aF 1) bi) au)) (ay (we af nt A.T.b_int (ay (gJ af (aF 1) bi) au)) au)))))))) (λ_=>rfl)
def v16:Has P W K mg base 1 "look_frame" ["ways","wheel","desks"] (spP K eB):=
 Def.qp A.d16.to c16 (m:=dY) (aD (cv (dv (fB af jp jp bi (aF 0) (bE af A.G.g_MOST_WAYS rfl))) (aS br) bA)
  (aD (cv (dv (fB af jp jp (bE af A.G.g_LEAST_WHEEL rfl) (aF 1) (bE af A.G.g_MOST_WHEEL rfl))) (aS br) bA)
  (aS (cv (dv (fB af jp jp bi (eR af b_len A.T.b_len (ao 2 au)) (bE af A.G.g_MOST_DESKS rfl))) (aS br) bA)))) (λ_=>rfl)
def v17:Has P W K mg base 3 "look_rule" ["name","rule","names","ways"] (spP K fg):=
 Def.qp A.d17.to c17 (m:=e7) (aS (qD af (λ_=>MJ) (lD af (dh af (v12 A) (ao 1 au))) (bu 4 (λ_=>c17.nd)) (nY [4] (aD (cv (QW.t (nZ (bB af pQ (gJ af (aF 4) bi) dH (bI _)) (kJ (dv (fB af jp jp bi (gJ af (aF 4) bi) (bE af A.G.g_MOST_NUMBER rfl)))))) (aS br) bA)
  (aD (cv (QW.t (nZ (bB af pQ (gJ af (aF 4) bi) dH (bI _)) (kJ (bB af zQ (gJ af (aF 4) bi) (aF 2) (by unhygienic rfl))))) (aS br) bA)
  (aS (cv (QW.t (nZ (bB af pQ (gJ af (aF 4) bi) dH (bI _)) (kJ (bB af pR (eR af b_len A.T.b_len (ay (gJ af (aF 4) bi) au)) (aF 3) (bI _))))) (aS br) bA))))))) (λ_=>rfl)
def v18:Has P W K mg base 3 "reads" ["rule"] (spP K jS):=by
 have:=@v12 P W K mg base A;have:=c18.nd;have:=A.T;show Def.qp A.d18.to c18 (m:=ia) ?_ (λ_=>rfl);unfold ia;and_intros
 .show cR (N':=["rule","part"]) (by ac_nf) (λ_=>Blk.of (by rfl')) ?_ ?_ ?_ ?_<;>and_intros
def v19:Has P W K mg base 4 "desk_steps" ["name","rule"] (spP K eA):=by
 have:=@v18 P W K mg base A;have:=c19.nd;have:=A.T;show Def.qp A.d19.to c19 (m:=cE) ?_ (λ_=>rfl);unfold cE;and_intros
def v20:Has P W K mg base 5 "steps_of" ["house"] (spP K fW):=by
 have:=@v19 P W K mg base A;have:=c20.nd;have:=A.T;show Def.qp A.d20.to c20 (m:=dP) ?_ (λ_=>rfl);unfold dP;and_intros
 .show yQ (N':=["house","name","rule","step"]) (by ac_nf) (λ_=>Blk.of (by rfl')) rfl ?_ ?_ ?_ ?_ ?_ ?_<;>and_intros
def v21:Has P W K mg base 1 "is_name" ["text"] (spP K dk):=
 Def.qp A.d21.to c21 (m:=gD) (aD (cv (QW.t (j5 (dv (fB af jp jp bi (eR af b_len A.T.b_len (ao 0 au)) (bE af A.G.g_LONGEST_NAME rfl))) (iJ (bB af su (aF 0) (ph af A.G.g_NO_NAMES) (by unhygienic rfl))))) (aS (cj yP)) bA)
  (aS (cj (eR af b_all A.T.b_all (ay (cR (N':=["text","sign"]) (f:=[P8,P8]) af (λ_=>Blk.of (by rfl')) (lD af (aF 0)) (bu 1 (λ_=>j3 (by rfl'))) kI (mX (CK.blk af) su (aF 1) (bE (CK.blk af) A.G.g_LETTERS rfl) (by unhygienic rfl))) au))))) (λ_=>rfl)
def v22:Has P W K mg base 6 "look_house" ["house"] (spP K eC):=
 Def.qp A.d22.to c22 (m:=dZ) (aD (qC (aF 0) (gK af (aV (bu 1 (λ_=>c22.nd)) (aV (bu 2 (λ_=>c22.nd)) (aV (bu 3 (λ_=>c22.nd)) eS)))))
  (aD (kH (dh af (v16 A) (ao 1 (ao 2 (ao 3 au)))))
  (aD (iI 4 (N':=["house","ways","wheel","desks","names","at","name","rule"]) (f:=[P8,P8,P8,P8,P8,P8,P8,P8]) af (λ_=>c22.nd) (λ_=>Blk.of (by rfl')) (lD af (aF 3)) (gK (CK.blk af) (aV (bu 6 (λ_=>j3 (by rfl'))) (aV (bu 7 (λ_=>j3 (by rfl'))) eS))) kI (aF 6))
  (aD (qD af (λ_=>MJ) (rP af A.T (ao 3 au)) (gK af (aV (bu 5 (λ_=>c22.nd)) (aV (gK af (aV (bu 6 (λ_=>c22.nd)) (aV (bu 7 (λ_=>c22.nd)) eS))) eS))) (nY [5,6,7] (aD (cv (QW.t (j5 (dv (gL (dh af (v21 A) (ao 6 au)))) (iJ (bB af su (aF 6) (yS af (aF 4) kF (kG (aF 5))) (by unhygienic rfl))))) (aS br) bA)
  (aS (kH (dh af (v17 A) (ao 6 (ao 7 (ao 4 (ao 1 au))))))))))
  (aD (cv (bB af AE (eR af b_len A.T.b_len (ay (dh af (v20 A) (ao 0 au)) au)) (bE af A.G.g_MOST_STEPS rfl) (bI _)) (aS br) bA)
  (aS (cj yP))))))) (λ_=>rfl)
def v23:Has P W K mg base 2 "is_row_number" ["word"] (spP K cJ):=
 Def.qp A.d23.to c23 (m:=cF) (aD (cv (gL (lB af oY (aF 0) (ay dH au))) (aS (cj (Ad (mX af pR (aF 0) dH (bI _)) (wd (dh af (v14 A) (ay (yS af (aF 0) (kG bi) kF) (ay (bE af A.G.g_MOST_ROW_FIGURES rfl) au))))))) bA)
  (aS (cj (dh af (v14 A) (ao 0 (ay (bE af A.G.g_MOST_ROW_FIGURES rfl) au)))))) (λ_=>rfl)
def v24:Has P W K mg base 3 "read_at" ["word"] (spP K gM):=by
 have:=@v21 P W K mg base A;have:=@v23 P W K mg base A;have:=c24.nd;have:=A.T;show Def.qp A.d24.to c24 (m:=eQ) ?_ (λ_=>rfl);unfold eQ;and_intros
 .show cR (N':=["word","name","mark","numbers","words","number"]) (by ac_nf) (λ_=>Blk.of (by rfl')) ?_ ?_ ?_ ?_<;>and_intros
 .show cR (N':=["word","name","mark","numbers","words","number"]) (by ac_nf) (λ_=>Blk.of (by rfl')) ?_ ?_ ?_ ?_<;>and_intros
def v25:Has P W K mg base 4 "read_part" ["word","pile"] (spI K 1 fj):=
 Def.qi A.d25.to c25 (m:=fb) (aD (cv (bB af pQ (aF 0) dH (bI _)) (aS (cj (wc (bB af AD (eR af b_len A.T.b_len (ao 1 au)) bi (bI _)) (lC [] (ay dH (ay (jO 1 af mP (aF 1)) (ay (jO 1 af mP (aF 1)) (ay (jO 1 af mP (aF 1)) au))))) rO))) bA)
  (aD (cv (bB af su (aF 0) (ph af A.G.g_SIGNS) (by unhygienic rfl)) (aS (cj (wc (bB af AD (eR af b_len A.T.b_len (ao 1 au)) bi (bI _)) (lC [0] (ay dH (ao 0 (ay (jO 1 af mP (aF 1)) (ay (jO 1 af mP (aF 1)) au))))) rO))) bA)
  (aD (cv (gL (dh af (v14 A) (ao 0 (ay (bE af A.G.g_MOST_FIGURES rfl) au)))) (aS (cj (lC [] (ay dH (ay (we af nt A.T.b_int (ao 0 au)) au))))) bA)
  (aS (cj (dh af (v24 A) (ao 0 au))))))) (λ_=>rfl)
def v26:Has P W K mg base 5 "read_rule" ["words"] (spP K fk):=by
 have:=@v25 P W K mg base A;have:=c26.nd;have:=A.T;show Def.qp A.d26.to c26 (m:=cY) ?_ (λ_=>rfl);unfold cY;and_intros
def v27:Has P W K mg base 6 "read_desk" ["row","at"] (spP K fi):=
 Def.qp A.d27.to c27 (m:=e8) (aD (jP 2 (λ_=>c27.nd) (lB af kA (aF 0) (ay dH au)))
  (aD (cv (QW.t (j5 (bB af Df (eR af b_len A.T.b_len (ao 2 au)) bi (bI _)) (j5 (bB af pR (gJ af (aF 2) bi) dH (bI _)) (iJ (dv (gL (dh af (v21 A) (ay (gJ af (aF 2) bi) au)))))))) (aS br) bA)
  (aD (jP 3 (λ_=>c27.nd) (dh af (v26 A) (ay (yS af (aF 2) (kG bi) kF) au)))
  (aD (cv (bB af De (aF 3) rO (bI _)) (aS br) bA)
  (aS (cj (lC [3] (ay (gJ af (aF 2) bi) (ao 3 au))))))))) (λ_=>rfl)
def v28:Has P W K mg base 7 "read_house" ["text"] (spP K cL):=
 Def.qp A.d28.to c28 (m:=ee) (aD (jP 1 (λ_=>c28.nd) (lB af kA (aF 0) (ay dH au)))
  (aD (qC (dh af (v15 A) (ay (gJ af (aF 1) bi) au)) (gK af (aV (bu 2 (λ_=>c28.nd)) (aV (bu 3 (λ_=>c28.nd)) eS))))
  (aD (cv (bB af pQ (eR af b_len A.T.b_len (ao 1 au)) bi (bI _)) (aS br) bA)
  (aD (iI 4 (N':=["text","rows","ways","wheel","desks","house","at","row"]) (f:=[P8,P8,P8,P8,P8,P8,P8,P8]) af (λ_=>c28.nd) (λ_=>Blk.of (by rfl')) (wg af A.T (ao 1 au)) (gK (CK.blk af) (aV (bu 6 (λ_=>j3 (by rfl'))) (aV (bu 7 (λ_=>j3 (by rfl'))) eS))) (rQ (bB (CK.blk af) AE (aF 6) bi (bI _))) (dh (CK.blk af) (v27 A) (ao 7 (ao 6 au))))
  (aD (jP 5 (λ_=>c28.nd) (lC [2,3] (ao 2 (ao 3 (ay (we af b_tuple A.T.b_tuple (ao 4 au)) au)))))
  (aD (kH (dh af (v22 A) (ao 5 au)))
  (aS (cj (aF 5))))))))) (λ_=>rfl)
def v29:Has P W K mg base 27 "law" ["_law_script"] (spP K r_l_law_v14):=by
 have:=@v5 P W K mg base A;have:=@v6 P W K mg base A;have:=@v8 P W K mg base A;have:=@v9 P W K mg base A 24;have:=@v13 P W K mg base A;have:=@v28 P W K mg base A;have:=c29.nd;have:=A.T;show Def.qp A.d29.to c29 (m:=eP) ?_ (λ_=>rfl);unfold eP;and_intros
 .show cR (N':=["_law_script","_law_asked","_law_k","_law_house","_law_text"]) (by ac_nf) (λ_=>Blk.of (by rfl')) ?_ ?_ ?_ ?_<;>and_intros
end
end K07
open PySem PySem.W PyProof.Rows
set_option maxRecDepth 100000 in
set_option maxHeartbeats 0 in
theorem PySem.Challenge.cw_clockhouse_k07_houses_as_texts_holds : PySem.Challenge.rw_clockhouse_k07_houses_as_texts.Holds := by
 show holds_law K07.ws λsaid=>?_;show holds_open (q:=K07.KQ) (loose:=K07.KL) (XP:=XL K07.KQ []) (YP:=K07.KH.says) K07.left K07.KH.of K07.KH.keeps (λs e=>xl_of s (IZ.mp e).1) XL.keeps (by rfl) (by rfl) (by rfl) (λs e=>recFacts_of (IZ.mp e).2) (by rfl) said (by rfl') {Xr,Xr,Xr,Xr,Xr,by decide +kernel} ?hw ?hc
 case hw=>w_witness2
 show L2.walkP (l:=PySem.Challenge.rw_clockhouse_k07_houses_as_texts) (k:=27) (x:="_law_script") (st:=K07.s_law) (run:=L2.r_l_law_v14) (A:=K07.Adr) (K:=K07.KF) rfl rfl {Xr,Xr,by decide,by decide} (λw h Y=>Y) K07.adr0 K07.adr_less (λmg K A=>A.d29.to) (λ_ _ _ _ _ _ s v=>.of_eq rfl) (λw mg K base A=>K07.v29 A) (λns hn=>by have(t,h1,h2):=L2.k07_law (ns:=ns) hn;rw[h1,h2])
