import PyProof.Rows.All
import Wide.All
import OpenK.AllK
import Wide.FinOn
import Lean
import PyProof.EqAt
import PyProof.EqKinds
import PyProof.TupleCall
import KE.KDictOf
import PyProof.AttrMissHeap
import KE.KRevIter
import PyProof.DictWalks
import PyProof.MinMaxWalk
import PyProof.SeqI3
import PyProof.WalkInts
import PyProof.ExcInit
import PyProof.InstStoreFacts
import PyProof.DictCompW
import KE.KItemsList
import KE.KEqDict
import PyProof.Rows.CallKwBuiltin
import PySem.Challenge.RW_errands_k13_whole_apart
set_option Elab.async false
set_option linter.all false
set_option maxRecDepth 100000
set_option maxHeartbeats 0
open PySem renaming wpAny_bind->a9,wpAny_pure->aa,Value->ai,Shared->au,Addr->av,wpAny->ay,model->aD,wpAny_setState_of->aT,starEach->a_,Program->bj,rawInt->bC,wpAny_newObj_type->bD,World->bF,wpAny_call_entry->bH,Expr->bJ,foldedSetIterable->bW,Heap->bZ,compareOp->cj,mainGlobals->cy,wpAny_mono->cz,Around->cD,cellsFrom->cE,wpAny_callSpecial?_slot->cF,boot_len->cG,wpAny_holding->cH,wpAny_rule->dk,codeAny_builtin->dC,wpAny_truthy_bool->dD,setField->dY,wpAny_seqItems->dZ,cLine->eM,mem_of_lookup->eP,wpAny_field->eW,fits_of_scanBound->eX,Stmt->fg,SetTable->fh,sysModules->ft,Scope->fG,wpAny_askSetting->fJ,eval->fO,wpAny_setField->fU,IsTupleKey->fW,wpAny_of_eq->gg,wpAny_isInstance->gE,codeAny->gU,wpAny_storeSet_of->gW,wpAny_standAt->ik,sizeLine_eq->il,plainId_quiet->im,wpAny_pyIter_tuple->iD,binaryOp->iE,FuncData->iF,swapsWith->iN,scanBound->iP,behindInMarks->iU,wpAny_comprehension_free->iX,Builtin->js,pickOrder->jw,strIterType->jI,wpAny_typeNameOfWhole_keyiter->jJ,bootBuiltins->jM,assignEach->jN,wpAny_setField_rec->jP,wpAny_passesOwn->jX,letOwnedTupleGo->jY,wpAny_attempt->ki,backTo->kR,unsupported->kS,wpAny_typeOf->lB,raiseNew->lY,pyNext->ml,IsPair->mn,codeAny_mono->nh,NameKind->ni,firstArgMember->nq,ofAClassStatement->ny,newExc->oF,sliceBounds->pp,pyIter->qp,wpAny_updateSeq->qt,wpAny_setEntries_of->qJ,standAt->qP,collect->qR,tupleKind_room_in1->rM,wpAny_runValue->rN,wpAny_eqBool_tuple->rP,wpAny_pyIter_list->s_,getItem->t4,setNext->t5,wpAny_pyIter_slot->tj,tupleKind->vg,assign->vS,wpAny_execs_nil->wF,wpAny_specialOf->wG,codeAny_of_tree->wH,IsPart->yd,relayAll->ye,isSubtype_type->yf,wpAny_fieldsOf->yg,isSubtype_stop->yh,IsZip->yi,wpAny_updateSeq_pair->yj,Keyword->yY,callerA->yZ,DictEntry->y_,seqItems?->zc,swapsWithSole->A9,swappedStores->Aa,attributeBase->Ab,comprehension->Ac,Walks->Ad,wpAny_onRaise->Af,isTrue->AA,wpAny_load->AC,wpAny_Call_Name_kw->AE,Drawn->Cg,BindsTo->Ci,concat_meets->Cj,valueAt->Ck,newList->Cm,setAddHashed->Co,setNextDrawn->Cr,wpAny_dictEntries->Cy,wpAny_eqBool_str->El,Result->Em,noFill_tuple_add->Eo,strKind->Ep,PyData->Et,wpAny_ite->Eu,wpAny_forIn_list->Ew,subscripted->G3,keywordEach->G5,hashByValue->G9,wpAny_dictEpoch->Gd,setWalk->IX,Paired->J9,GenState->Ja,typeLookup->Jd,atKey->Je,newFunctionEnv->Jf,compPost->Jh,entryFor_alias->Ji,isInstance->Jj,newTuple->Jk,field->Jl,setRelay->Jr,carriedByValue->Jv,assignInOrder->MH,seq_tuple_add->MK,call->MM,wpAny_handled->MO,wpAny_newList->MQ,setSearchFrom->MY,lastMarks->OH,bindL->OJ,bindC->OK,updateSeq->OM,holding->OW,codeAny_compStart_list->OZ,sub_set_self->O_,newSet->P1,firstIterPos->P2,wpAny_isTrue_Compare1->SM,builtinLookup_eq_fast->SQ,wpAny_isOneOf_keyiter->SY,wpAny_eqIsQuiet_tuple->T4,bindName->T9,bindArgs->Ta,backToKw->Tb,wpAny_alloc->Td,entryFor->Tf,wpAny_throw->Tg,setDrawn->Th,setEpoch->Ti,codeAny_extend_loopS->Tj,ZipApart->Tl,wpAny_letGo->To
open PySem.W renaming Frag->af,kia_one->dH,keepIn->gX,fnOf->ip,nsMap_none_of_in->iG,cellsFrom_some->iW,nsIn->iY,mroIn->jo,findIn->oC,codeIn->oE,kitOne->tG,mg_of->vB,isNs_of_in->vW,methodObj->wM,kitx_list->wN,instObj->zK,OpenLaw->zM,lookIn->AD,clsIn->Cv,kitx_tuple->Jb,codeRec_of->Jc,specialIn->Ld,kitx_dict->Le,plainGet->MJ,takesIn->OI,typeIn->P4,nsOkIn->P5,WalkO->SO,subIn->SX
open PySem.Heap renaming get?_push_of_some->ah,lt_size->aB,get?_push_size->aE,SameBut->bK,size_push->cf,get?_update_self->dm,get?_update_other->dE,size_update->sO,IsTuple->IY,ExtBut->Lg,get?_push_ne->P8
open List renaming mem_cons_of_mem->ak,length_map->ao,mem_cons_self->aq,getElem?_set_ne->ax,map_cons->aC,mem_append_right->aF,getElem?_map->aP,getElem?_set_self->aR,length_append->aS,getElem?_append_right->aU,length_cons->aX,size_toArray->ba,mem_cons->bg,getElem?_eq_getElem->bp,mem_map_of_mem->br,not_mem_nil->bt,range->bx,getElem?_append_left->bA,map_append->bI,mem_append_left->bU,mem_of_getElem?->bV,append_nil->cq,all_eq_true->cA,mem_singleton->cC,map_map->cK,find?_cons->cP,mem_append->cQ,mem_filter->cR,getElem?_eq_none->cV,take_append_drop->cW,getElem?_replicate->cX,length_filter_le->dq,length_nil->du,lookup_cons->dU,length_replicate->dX,append_assoc->e8,length_range->eg,length_singleton->eR,foldl_cons->eY,any_cons->fH,map_nil->fK,extract_eq_drop_take'->fL,filter_sublist->fP,any_eq_false->gI,map_congr_left->gP,nodup_nil->i5,getD_eq_getElem?_getD->i6,pairwise_append->iJ,filterMap_cons->iQ,filterMap_map->jq,any_map->jt,forIn_cons->jD,nil_append->jF,perm_ext_iff_of_nodup->kn,mem_erase_of_ne->kq,getElem_mem->kF,length_erase_of_mem->lc,sublist_append_left->lf,nodup_cons->lF,pairwise_cons->lJ,getElem?_cons_succ->lL,mem_map->m6,take_of_length_le->m7,length_pos_of_mem->m8,mem_iff_getElem?->mQ,pairwise_reverse->mR,getElem?_toArray->mS,length_drop->m_,ext_getElem->n5,any_eq_true->n6,getElem_map->n8,mem_reverse->ng,length->nF,mem_of_mem_drop->nI,map->nJ,forIn_nil->pC,drop_drop->pI,getElem?_eq_some_iff->qK,pairwise_iff_getElem->qL,reverse_perm->qU,map_drop->rK,length_take->sL,pairwise_singleton->sP,drop_eq_nil_of_le->tw,all_map->tx,length_zip->tJ,filter_nil->tK,replicate->vw,mem_of_mem_take->vD,erase_cons_head->vF,erase_cons_tail->vG,reverse_append->wI,all_cons->wQ,getElem_range->xZ,getElem?_drop->x_,zip_cons_cons->y0,set_cons_zero->y8,set_cons_succ->y9,nodup_append->z9,ext_getElem?->zd,length_filterMap_eq_countP->zO,zipIdx_cons->Ae,filter_cons->Ai,lookup->AG,map_id->AI,of_mem_zip->Cd,length_eraseIdx_of_lt->Da,perm_append_singleton->Db,drop_eq_getElem_cons->Er,map_take->G8,getElem?_cons_zero->Gb,reverse_singleton->J4,getElem_of_mem->MR,getElem?_range->MS,replicate_succ->MZ,replicate_zero->M_,lookup_append->OL,map_inj_right->OO,map_filterMap->OP,getElem?_take->OQ,mem_filterMap->OR,filter_append->OS,take_add_one->P6,mapM_toArray->P7,filter_congr->Pb,getElem_inj->SL,isEmpty_nil->SW,countP_cons->SZ,map_snd_zip->S_,nodup_range->T3,cons_append->T5,zipIdx_nil->Tn
open Array renaming length_toList->az,getElem?_toList->aW,getElem?_eq_getElem->bq,toList_append->cY,getD_eq_getD_getElem?->d_,getElem?_eq_none->eG,getElem?_eq_some_iff->i3,toList_extract->iH,getElem?_extract->jj,toList_push->jH,replicate->l9,size_map->lZ,eq_empty_of_size_eq_zero->mP,forIn_toList->pv,size_setIfInBounds->qT,toList_reverse->vm,all_toList->zP,toList_inj->zR,toList_setIfInBounds->Cu,toList_filterMap->Gc,toArray_toList->Jm,append_assoc->MG,find?_toList->MI,foldl_toList->MU,size_extract->MV,toList_zip->P9
open Nat renaming le_refl->aA,lt_of_lt_of_le->aK,ne_of_lt->aM,le_trans->c8,zero_le->ca,lt_irrefl->cr,le_of_lt->cB,lt_or_ge->da,not_lt_zero->dR,lt_succ_of_lt->eu,lt_trans->eN,ne_of_gt->eZ,zero_add->e_,lt_succ_self->fk,eq_zero_or_pos->gj,le_succ->jr,add_zero->kJ,mod_lt->nl,min_eq_left->oH,succ_pos->pq,lt_of_le_of_lt->qr,lt_succ_of_le->rE,le_succ_of_le->rJ,le_of_lt_succ->zN,lt_trichotomy->zQ,min_le_right->AF,lt_asymm->Jg,div_div_eq_div_mul->Jn,pow_succ->Jo,mul_comm->Jp,lt_of_succ_lt_succ->Jq,min_self->Jt,sub_self->Ju,not_succ_le_self->MP,add_lt_add_right->MT,pow_le_pow_right->MX,lt_of_le_of_ne->Pa,le_of_succ_le->SU,le_of_not_lt->Tc,le_add_right->Tp,div_eq_of_lt->Tq,succ_lt_succ->Tr,reduceLeDiff->TC,reduceEqDiff->TD
open PyProof.Rows renaming wpS_bind->aG,arrOf->aZ,wpS_pure->b9,boot_tuple->bE,pendingOf->cb,Keyed->cZ,boot_all->dG,wpS_forRange->dS,boot_any->eI,SortSt->fu,wpS_mono->fV,boot_sorted->i7,slot_tuple_getitem->ic,boot_list->iM,callWith_type1->iV,seqObj->kw,SortKind->nu,wpS_get->pi,wpS_modify->rO,AllBare->sZ,StrsAre->tm,wpS_lift->vk,envOfC->vT,failedOf->ym,assignInOrder_cons->AB,boot_str->AJ,mem_zip_self->Cz,minRun'->J5,mirror->Js,subscriptTail->ML,listUpdate_at->MW,subscriptTail_builtinR->OX,IntsAre->OY,seqEpoch_at->Tz
open PySem.PyData renaming str->aN,eqv->bw,bool->bQ,eqvAll->dz,canLayAll0->fD,tuple->gO,canLay0->h_,list->iZ,int->ji,depthAll->sX,dict->I_
open Bool renaming false_eq_true->aV,and_eq_true->bc,false_ne_true->bd,not_true->g_,not_false->ko,eq_iff_iff->lD,or_eq_true->lE,and_self->rG,beq_eq_decide_eq->uw,and_false->vA,true_and->wS,not_eq_true'->zf,noConfusion->Ag,false_and->D8,or_false->G4,or_eq_false_iff->Li
open PySem.Value renaming ref->bi,none->eC,type->gH,str->lH,int->mO,isStrOf->qO,bool->wL
open PySem.Heap.SameBut renaming update->bv
open PySem.SetTable renaming runEnd->bO,sizeAbove->bR,below->bS,bits->b_,turns->fo,leap->gJ,grown->gV,Probe->jK,fits->kG,layClean->lI,insertAt->lK,laid->pE,fill->pH,relaid->z0,has->Dc,orStandIn->IW,road->P3
open Option.some renaming inj->c6,injEq->G7
open PySem.Around renaming under_plainId->cw
open PySem.SetTable.layClean renaming free->cx
open PySem.NameKind renaming free->c_,cell->fj,«local»->tq
open PySem.Obj renaming mapSeq->de,mapFields->df,putSet->ku,data_mapFields->P0
open PySem.Builtin.SmallTypes renaming nextOf->dg,ownedTupleIsFree->g9,ownedTupleHandOut->pG
open Option renaming map_some->dn,getD_none->iO,getD_some->kj,isSome_map->xY,bind_some->ze,isSome_some->Lf
open Ne renaming symm->dO
open PySem.Builtin.List renaming listExtendWith->eS,listSameRef->jW,listLengthHint->wR
open Int renaming toNat_of_nonneg->fQ,toNat_natCast->jV,emod_lt_of_pos->lM,emod_nonneg->oG,reduceLT->Jw
open List.Sublist renaming refl->gd
open Or renaming inr->gy,inl->jC
open PySem.F renaming plain_list_iadd->gN,slot_dict_keyiterator_next->gZ,slot_tuple_iterator_next->kH,entry_proto_collect->nG,plain_proto_collect->nH,args_tuple_add_2->qq,entry_tuple_add->qQ,plainAttrs_list->qS,slot_tuple_add->rL,entry_list_iadd->sM,args_dict_keyiterator_next_1->vj,slot_set_iter->vy,slot_zip_next->vz,entry_dict_keyiterator_next->vC,slot_tuple_lt->vE,slot_list_append->Cs,type_list_append->Ct,args_tuple_iterator_next_1->Es,slot_dict_iter->Ev,entry_tuple_iterator_next->G6,slot_enumerate_next->ON,plain_extend_loop->SS
open PySem.Str renaming ofString->gY
open PySem.AutoSeq1 renaming wpAny_loadPart'->io
open PySem.Builtin.Frozenset renaming sizeOf->jx,updateFrom->lC,oneOther->vh,isAnySet->vi,addrOf->vU,copyOf->vV,newClass->Te,slot1->Tt,baseOf->Tu,merge->Tv,unchanged->Tw
open PySem.Builtin.Slice renaming slicePlaces->jB,sliceAdjust->nj,sliceApplied->wO
open PyProof.Rows.F renaming plain_set_update_loop->jE,entry_set_update_loop->rF
open PySem.MeetsSeq renaming plain_remove_loop->jL,entry_remove_loop->Ah
open PySem.Builtin.Tuple renaming tupleExact->jO,tupleItemsOf->wP
open Sum renaming inr->jU,inl->zJ
open False renaming elim->jZ
open True renaming intro->kh
open ForInStep renaming yield->kE
open PySem.Paired renaming length->kO
open And renaming intro->lX
open PySem.SetTable.below renaming go->nr
open PySem.Builtin.Dict_items renaming ownsTuple->om
open PySem.Calls renaming call_function_entry->qu,Name_function_global->Ch
open Eq renaming trans->qM,refl->Tx
open List.Perm renaming trans->rH,of_eq->Lj
open PySem.SetTable.probe renaming go->tE
open List.Pairwise renaming nil->tH
open PySem.PassesOwn renaming never->yk
open List.cons renaming injEq->yn,inj->AH
open PyProof.Rows.IsTup renaming new->zL
open PySem.Heap.FunFrames renaming mem->Ce
open PySem.pickOrder renaming go->Cq
open PySem.Shared renaming TypeIs->D9,heap->IZ
open PySem.SeqAt.EqAt renaming int_str->G0,str_int->G1
open PySem.Value.type renaming inj->Lh
open PySem.Walks renaming list->MN
local macro_rules|`(tactic|omega)=>`(tactic|first|lia|omega (config:={}))
section
local macro_rules|`(∅)=>`(by omega)
local macro_rules|`(⋯)=>`(by decide)
local macro_rules|`(∎)=>`(by decide +kernel)
namespace L2
open PySem PySem.Spec PyProof.Rows
abbrev iL:=Sum Int Str
def AK:iL->ai->Bool
 |.inl k,v=>Value.isInt k v
 |.inr x,v=>qO x v
def q0q(w:bF):iL->Int
 |.inl k=>hashInt k
 |.inr x=>hashStr w x
def gQ:∀{k:iL}{v:ai},AK k v=true->(∃i t,k=zJ i/\v=mO i t)\/(∃x t,k=jU x/\v=lH x t)
 |.inl i,v,h=>by
  obtain⟨t,e⟩:=Value.isInt_shape (k:=i) (v:=v) h;exact .inl ⟨i,t,rfl,e⟩
 |.inr x,v,h=>by
  obtain⟨t,e⟩:=Value.isStrOf_shape (x:=x) (v:=v) h;exact .inr ⟨x,t,rfl,e⟩
def N0(i:Int)(t:Tok):AK (.inl i) (.int i t)=true:=by simp[AK,Value.isInt]
def N1(x:Str)(t:Tok):AK (.inr x) (.str x t)=true:=by simp[AK,qO]
def WM(a b:Int):decide ((zJ a:iL)=zJ b)=(a==b):=by
 by_cases e:a=b
 ·subst e;simp
 ·have h:¬ (zJ a:iL)=zJ b:=λq=>e (Sum.inl.inj q);rw[decide_eq_false h];exact(beq_eq_false_iff_ne.mpr e).symm
def WN(a b:Str):decide ((jU a:iL)=jU b)=decide (a=b):=by
 by_cases e:a=b
 ·subst e;simp
 ·have h:¬ (jU a:iL)=jU b:=λq=>e (Sum.inr.inj q);rw[decide_eq_false h,decide_eq_false e]
def WO(a:Int)(b:Str):decide ((zJ a:iL)=jU b)=false:=decide_eq_false (λq=>nomatch q)
def WP(a:Str)(b:Int):decide ((jU a:iL)=zJ b)=false:=decide_eq_false (λq=>nomatch q)
def iq(prog:bj)(w:bF):PySem.KeyKind prog w iL where
 is:=AK
 hash:=q0q w
 inj:=λv a b ha hb=>by
  rcases gQ ha with⟨i,t,rfl,rfl⟩|⟨x,t,rfl,rfl⟩
  ·rcases gQ hb with⟨j,u,rfl,e⟩|⟨y,u,rfl,e⟩
   ·injection e with e1 _;rw[e1]
   ·exact nomatch e
  ·rcases gQ hb with⟨j,u,rfl,e⟩|⟨y,u,rfl,e⟩
   ·exact nomatch e
   ·injection e with e1 _;rw[e1]
 byValue:=λk v h=>by
  rcases gQ h with⟨i,t,rfl,rfl⟩|⟨x,t,rfl,rfl⟩<;>rfl
 pyHash:=λhv h=>by
  rcases gQ hv with⟨i,t,rfl,rfl⟩|⟨x,t,rfl,rfl⟩
  ·exact wpAny_pyHash_int h
  ·exact wpAny_pyHash_str h
 eqBool:=λhu hv h=>by
  rcases gQ hu with⟨i,t,rfl,rfl⟩|⟨x,t,rfl,rfl⟩
  ·rcases gQ hv with⟨j,u,rfl,rfl⟩|⟨y,u,rfl,rfl⟩
   ·rw[WM] at h;exact wpAny_eqBool_int h
   ·rw[WO] at h;exact G0 i t y u _ _ _ _ h
  ·rcases gQ hv with⟨j,u,rfl,rfl⟩|⟨y,u,rfl,rfl⟩
   ·rw[WP] at h;exact G1 x t j u _ _ _ _ h
   ·rw[WN] at h;exact El h
 «strs»:=λk x t v h=>by
  rcases gQ h with⟨i,u,rfl,e⟩|⟨y,u,rfl,e⟩
  ·exact nomatch e
  ·injection e with e1 _
   subst e1
   cases v<;>rfl
def Ge(prog:bj)(w:bF)(i:Int)(t:Tok):(iq prog w).is (.inl i) (.int i t)=true:=N0 i t
def Gf(prog:bj)(w:bF)(x:Str)(t:Tok):(iq prog w).is (.inr x) (.str x t)=true:=N1 x t
end L2
namespace L2
open PySem PySem.Spec PyProof.Rows
inductive V where
 |non|bl (b:Bool)|int (i:Int)|str (x:Str)|byt (b:Array UInt8)|flt (b:UInt64)|ref (a:av)|ty (n:String)
 deriving DecidableEq
def eO:V->ai->Prop
 |.non,u=>u=eC
 |.bl b,u=>u=wL b
 |.int i,u=>∃t,u=mO i t
 |.str x,u=>∃t,u=lH x t
 |.byt b,u=>∃t,u=Value.bytes b t
 |.flt b,u=>∃t,u=Value.float b t
 |.ref a,u=>u=bi a
 |.ty n,u=>u=gH n
abbrev eT:List V->List ai->Prop:=J9 eO
def eT.length(r:eT xs us):xs.length=us.length:=kO r
def eT.get(h:eT xs us):∀{i:Nat}{x:V},xs[i]?=some x->∃u,us[i]?=some u/\eO x u:=by
 induction h with
 |nil=>intro i x e;cases e
 |cons r t a=>
  intro i x e;cases i with
  |zero=>cases e;exact⟨_,rfl,r⟩
  |succ i=>have q:=a (i:=i) e;exact q
def eT.append(h:eT xs us)(s:eT ys ws):eT (xs++ys) (us++ws):=by
 induction h with
 |nil=>exact s
 |cons r t a=>exact .cons r a
theorem eT.take:∀{xs:List V}{a:List ai} (n:Nat),eT xs a->eT (xs.take n) (a.take n)
 |_,_,0,_=>.nil
 |_,_,_+1,.nil=>.nil
 |_,_,n+1,.cons r t=>.cons r (eT.take n t)
theorem eT.drop:∀{xs:List V}{a:List ai} (n:Nat),eT xs a->eT (xs.drop n) (a.drop n)
 |_,_,0,r=>r
 |_,_,_+1,.nil=>.nil
 |_,_,n+1,.cons _ t=>eT.drop n t
def AL:Option V->Option ai->Prop
 |some v,some u=>eO v u
 |none,none=>True
 |_,_=>False
def KV{a:Type}:List (a×V)->List (a×ai)->Prop:=J9 λ(p:a×V) (q:a×ai)=>p.1=q.1/\eO p.2 q.2
def kV:iL->V
 |.inl i=>.int i
 |.inr x=>.str x
inductive HO where
 |lst (xs:List V)
 |tup (xs:List V)
 |dK (kvs:List (iL×V))|dT (kvs:List (List iL×V))
 |set (S:Int->Bool) (n:Nat)
 |ins (C dx:av) (fs:List (Str×V))
 |own (x:av)
 |xd (fs:List (Str×V))
 |met (f x:av)
 |rng (lo hi:Int)
 |frz (o:Obj) (u:HO)
 |tbl (ps:Array ai)
 |ext (φ:bZ->Prop)
abbrev Hp:=av->Option HO
def upd(H:Hp)(a:av)(o:HO):Hp:=λb=>if b=a then some o else H b
def bB:upd H a o a=some o:=by unfold upd;rw[if_pos rfl]
def bG(h:b≠a):upd H a o b=H b:=by unfold upd;rw[if_neg h]
def Pc{H:Hp}{a b:av}{o u:HO}(h:H a=some o)(h':H b=some u)(d:o≠u):a≠b:=by
 intro e;subst e;rw[h] at h';exact d (c6 h')
def cu{H:Hp}{a b:av}{o:HO}(h:H a=some o)(h':H b=none):a≠b:=by
 intro e;subst e;rw[h] at h';cases h'
section
variable(P:bj)(w:bF)
def dQ(H:Hp)(h:bZ)(a:av):HO->Prop
 |.lst xs=>xs.length<=sizeLine/\∃(b:List ai) (n:Nat),eT xs b/\h.get? a=some {cls:=.type "list",data:=.seq b.toArray n}
 |.tup xs=>xs.length<=sizeLine/\∃b:List ai,eT xs b/\IsTup h a b.toArray
 |.dK c=>c.length<=sizeLine/\(a==ft)=false/\∃j,KV c j/\h.DictOf (iq P w) a j
 |.dT c=>c.length<=sizeLine/\(a==ft)=false/\∃xs:List (List iL×av×ai),
   J9 (λ(p:List iL×V) (q:List iL×av×ai)=>p.1=q.1/\H q.2.1=some (.tup (p.1.map kV))/\eO p.2 q.2.2) c xs /\
   ∃o es k,h.get? a=some o/\o.ExactDict/\o.data=.dict es k/\es.toList=xs.map (entryOfKey (vg (iq P w)))/\(xs.map (·.1)).Nodup
 |.set S n=>h.SetOf (intKind P w) a S n
 |.ins C e fs=>H e=some (.own a)/\fs.length<=1000/\e≠a/\h.get? a=some (zK C e) /\
   ∃d,h.Ns1 e d/\(∀f,AL (fs.lookup f) (d f))/\PySem.Within d (fs.map (·.1))
 |.own _=>∃o,h.get? a=some o
 |.xd fs=>∃d,h.Ns1 a d/\∀f,AL (fs.lookup f) (d f)
 |.rng lo l=>∃t u v,h.get? a=some {cls:=.type "range",data:=.fields #[.int lo t,.int l u,.int 1 v]}
 |.frz o u=>h.get? a=some o/\dQ H h a u
 |.tbl ps=>h.get? a=some {cls:=.none,data:=.fields ps}
 |.met f x=>h.get? a=some (wM (.ref f) (.ref x))
 |.ext φ=>φ h/\(∃o,h.get? a=some o)/\∀g i:bZ,φ g->(∀o,g.get? a=some o->i.get? a=some o)->φ i
def tF(H:Hp)(h:bZ):Prop:=∀a o,H a=some o->dQ P w H h a o
end
theorem dQ.lt(x:dQ P w H h a o):a<h.objs.size:=by
 cases o with
 |lst xs=>obtain⟨_,_,_,_,e⟩:=x;exact aB e
 |tup xs=>obtain⟨_,_,_,p⟩:=x;exact p.lt
 |dK b=>obtain⟨_,_,_,_,o,_,_,e,_⟩:=x;exact aB e
 |dT b=>obtain⟨_,_,_,_,o,_,_,e,_⟩:=x;exact aB e
 |set S n=>obtain⟨o,_,_,_,e,_⟩:=x;exact aB e
 |ins C c fs=>obtain⟨_,_,_,e,_⟩:=x;exact aB e
 |own y=>obtain⟨_,e⟩:=x;exact aB e
 |xd fs=>obtain⟨_,⟨_,_,_,e,_⟩,_⟩:=x;exact aB e
 |rng lo d=>obtain⟨_,_,_,e⟩:=x;exact aB e
 |frz ob u=>obtain⟨e,_⟩:=x;exact aB e
 |tbl ps=>exact aB (show h.get? a=some _ from x)
 |met f y=>exact aB (show h.get? a=some _ from x)
 |ext φ=>obtain⟨_,⟨_,e⟩,_⟩:=x;exact aB e
def Paired.mapP{e g:Type}{F G:e->g->Prop}{c:List e}{d:List g}(h:J9 F c d)(f:∀a b,F a b->G a b):J9 G c d:=by
 induction h with
 |nil=>exact .nil
 |cons r t i=>exact .cons (f _ _ r) i
def dQ.stay(x:dQ P w H h a o)(k:∀b u,(b=a\/H b=some (.own a))->h.get? b=some u->h'.get? b=some u)
  (ho:∀b,H b=some (.own a)->H' b=some (.own a)) (A:∀b xs,H b=some (.tup xs)->H' b=some (.tup xs)):dQ P w H' h' a o:=by
 induction o with
 |lst xs=>obtain⟨z,i,n,r,e⟩:=x;exact⟨z,i,n,r,k _ _ (.inl rfl) e⟩
 |tup xs=>obtain⟨z,i,r,ob,e,c⟩:=x;exact⟨z,i,r,ob,k _ _ (.inl rfl) e,c⟩
 |dK l=>obtain⟨z,y,E,r,ob,es,g,e,c⟩:=x;exact⟨z,y,E,r,ob,es,g,k _ _ (.inl rfl) e,c⟩
 |dT l=>
  obtain⟨z,y,xs,r,ob,es,g,e,c⟩:=x;exact⟨z,y,xs,Paired.mapP r λp q z=>⟨z.1,A _ _ z.2.1,z.2.2⟩,ob,es,g,k _ _ (.inl rfl) e,c⟩
 |set S n=>obtain⟨ob,es,g,t,e,c⟩:=x;exact⟨ob,es,g,t,k _ _ (.inl rfl) e,c⟩
 |ins C I fs=>
  obtain⟨d,z,ne,e,j,⟨m,es,g,B,c⟩,r⟩:=x;exact⟨ho _ d,z,ne,k _ _ (.inl rfl) e,j,⟨m,es,g,k _ _ (.inr d) B,c⟩,r⟩
 |own y=>obtain⟨ob,e⟩:=x;exact⟨ob,k _ _ (.inl rfl) e⟩
 |xd fs=>obtain⟨j,⟨m,es,g,e,c⟩,r⟩:=x;exact⟨j,⟨m,es,g,k _ _ (.inl rfl) e,c⟩,r⟩
 |rng lo G=>obtain⟨t,u,v,e⟩:=x;exact⟨t,u,v,k _ _ (.inl rfl) e⟩
 |frz ob u s=>obtain⟨e,q⟩:=x;exact⟨k _ _ (.inl rfl) e,s q⟩
 |tbl ps=>
  have e:h.get? a=some {cls:=.none,data:=.fields ps}:=x;show h'.get? a=some {cls:=.none,data:=.fields ps};exact k a _ (.inl rfl) e
 |met f y=>
  have e:h.get? a=some (wM (.ref f) (.ref y)):=x;show h'.get? a=some (wM (.ref f) (.ref y));exact k a _ (.inl rfl) e
 |ext φ=>obtain⟨p,⟨o,e⟩,st⟩:=x;exact⟨st _ _ p λo q=>k _ _ (.inl rfl) q,⟨o,k _ _ (.inl rfl) e⟩,st⟩
theorem tF.lt(x:tF P w H h)(e:H a=some o):a<h.objs.size:=(x a o e).lt
def tF.fresh(x:tF P w H h)(e:h.objs.size<=a):H a=none:=by
 cases q:H a with
 |none=>rfl
 |some u=>exact absurd (aK (x.lt q) e) (cr _)
def tF.kept(x:tF P w H h)(k:∀b u,h.get? b=some u->h'.get? b=some u):tF P w H h':=λa o e=>
 (x a o e).stay (λb u _ q=>k b u q) (λ_ q=>q) λ_ _ q=>q
def tF.laid(x:tF P w H h)(k:∀b u,h.get? b=some u->h'.get? b=some u)(g:h.objs.size<=a)(new:dQ P w (upd H a o) h' a o):tF P w (upd H a o) h':=λb u e=>by
 have d:=x.fresh g;by_cases f:b=a
 ·subst f;rw[bB] at e;cases e;exact new
 ·rw[bG f] at e;exact(x b u e).stay (λc v _ q=>k c v q) (λc q=>by rw[bG (cu q d)];exact q) λc xs q=>by rw[bG (cu q d)];exact q
def Rd(H:Hp)(a:av)(u:HO):Prop:=H a=some u\/∃o,H a=some (.frz o u)
def Rd.of(h:H a=some u):Rd H a u:=.inl h
def Rd.ok(r:Rd H a u)(x:tF P w H h):dQ P w H h a u:=by
 rcases r with r|⟨o,r⟩
 ·exact x a u r
 ·obtain⟨_,q⟩:=x a _ r;exact q
def YH:Option HO->Prop
 |some (.lst _)=>True
 |some (.dK _)=>True
 |some (.dT _)=>True
 |some (.set _ _)=>True
 |some (.ins _ _ _)=>True
 |some (.ext _)=>True
 |_=>False
def tF.write(ok:tF P w H h)(j:YH (H x))(he:e=x\/H e=some (.own x))(k:∀b u,b≠e->h.get? b=some u->h'.get? b=some u)(l:∃u,h'.get? e=some u)
  (new:dQ P w (upd H x o') h' x o'):tF P w (upd H x o') h':=λb u q=>by
 have d:∀c y,H c=some (.own y)->c≠x:=λc y r z=>by subst z;rw[r] at j;exact j
 have f:∀c xs,H c=some (.tup xs)->c≠x:=λc xs r z=>by subst z;rw[r] at j;exact j
 by_cases i:b=x
 ·subst i;rw[bB] at q;cases q;exact new
 ·rw[bG i] at q;by_cases a:b=e
  ·have q':H b=some (.own x):=by
    rcases he with z|z
    ·exact absurd (a.trans z) i
    ·rw[a];exact z
   rw[q] at q';cases q';obtain⟨v,m⟩:=l;exact⟨v,by rw[a];exact m⟩
  ·refine(ok b u q).stay (λc v g r=>k c v ?_ r) (λc r=>by rw[bG (d c b r)];exact r) λc xs r=>by rw[bG (f c xs r)];exact r
   rcases g with rfl|g
   ·exact a
   ·rintro rfl;rcases he with z|z
    ·exact d c b g z
    ·rw[g] at z;cases z;exact i rfl
structure Un (fs ex:List av) (H H':Hp) (h h':bZ):Prop where
 keep:∀b o,h.get? b=some o->H b=none->b∉fs->b∉ex->h'.get? b=some o
 slot:∀b o,h.get? b=some o->H b=none->b∈fs->b∉ex->∃sl,h'.get? b=some {o with slots:=sl}
 free:∀b o,h.get? b=some o->H b=none->b∉ex->H' b=none
 there:∀b o,h.get? b=some o->b∉ex->∃o',h'.get? b=some o'
 tups:∀b xs,H b=some (.tup xs)->H' b=some (.tup xs)
 frzs:∀b o u,H b=some (.frz o u)->H' b=some (.frz o u)
 tbls:∀b ps,H b=some (.tbl ps)->∃more,H' b=some (.tbl (ps++more))
def Un.any(u:Un fs ex H H1 h h1)(q:h.get? b=some ob)(n:H b=none)(a:b∉ex):∃d,h1.get? b=some {ob with slots:=d}:=by
 by_cases c:b∈fs
 ·exact u.slot b ob q n c a
 ·exact⟨ob.slots,u.keep b ob q n c a⟩
def Un.kept(k:∀b u,h.get? b=some u->h'.get? b=some u):Un fs ex H H h h':=
 ⟨λb ob q _ _ _=>k b ob q,λb ob q _ _ _=>⟨ob.slots,k b ob q⟩,λ_ _ _ n _=>n,λb ob q _=>⟨ob,k b ob q⟩,λ_ _ q=>q,λ_ _ _ q=>q,λ_ ps q=>⟨#[],by rw[q];simp⟩⟩
def Un.refl:Un fs ex H H h h:=Un.kept λ_ _ q=>q
def Un.laid(k:∀b u,h.get? b=some u->h'.get? b=some u)(d:h.objs.size<=a)(c:H a=none):Un fs ex H (upd H a o) h h' where
 keep:=λb u q _ _ _=>k b u q
 slot:=λb u q _ _ _=>⟨u.slots,k b u q⟩
 free:=λb u q n _=>by rw[bG (aM (aK (aB q) d))];exact n
 there:=λb u q _=>⟨u,k b u q⟩
 tups:=λb xs q=>by rw[bG (cu q c)];exact q
 frzs:=λb u xs q=>by rw[bG (cu q c)];exact q
 tbls:=λb ps q=>⟨#[],by rw[bG (cu q c),q];simp⟩
def Un.write(c:YH (H x))(he:e=x\/H e=some (.own x))(k:∀b u,b≠e->h.get? b=some u->h'.get? b=some u)(f:∃u,h'.get? e=some u):Un fs ex H (upd H x o) h h':=by
 have g:∀b,H b=none->b≠x:=λb n z=>by subst z;rw[n] at c;exact c
 have i:∀b,H b=none->b≠e:=λb n z=>by
  subst z;rcases he with r|r
  ·exact g b n r
  ·rw[n] at r;cases r
 have d:∀b u,H b=some u->¬ YH (some u)->b≠x:=λb u q j z=>by subst z;rw[q] at c;exact j c
 refine⟨λb u q n _ _=>k b u (i b n) q,λb u q n _ _=>⟨u.slots,k b u (i b n) q⟩,λb u q n _=>by rw[bG (g b n)];exact n,λb u q _=>?_,
  λb xs q=>by rw[bG (d b _ q λz=>z)];exact q,λb u xs q=>by rw[bG (d b _ q λz=>z)];exact q,λb ps q=>⟨#[],by rw[bG (d b _ q λz=>z),q];simp⟩⟩
 by_cases a:b=e
 ·subst a;exact f
 ·exact⟨u,k b u a q⟩
def trk(h:bZ)(H:Hp):List av:=(bx h.objs.size).filter λa=>(H a).isSome
def Ex(h:bZ)(H:Hp):bZ:=PySem.W.hideAll h (trk h H)
def N5(h:bZ)(H:Hp):(Ex h H).objs.size=h.objs.size:=PySem.W.hideAll_size _ _
def Pd(e:h.get? b=some o)(n:H b=none):(Ex h H).get? b=some o:=
 PySem.W.hideAll_get _ e λa=>by
  have q:(H b).isSome=true:=(List.mem_filter.mp a).2;rw[n] at q;simp at q
def TF(e:(Ex h H).get? b=some o):h.get? b=some o/\H b=none:=by
 have a:h.get? b=some o:=PySem.W.of_hideAll (trk h H) e;refine⟨a,?_⟩;cases q:H b with
 |none=>rfl
 |some x=>
  have c:b∈trk h H:=List.mem_filter.mpr ⟨List.mem_range.mpr (aB a),by simp[q]⟩;have z:(Ex h H).get? b=none:=PySem.W.hideAll_none (trk h H) c;rw[z] at e;cases e
def TH(g h:bZ)(L:av):List (av×Obj):=(bx h.objs.size).filterMap λa=>if a=L\/(g.get? a).isSome=true then none else(h.get? a).map λo=>(a,o)
def bM(g h:bZ)(L d:av):List (av×Obj):=(TH g h L).filter λp=>decide (p.1≠d)
end L2
namespace L2
open PySem PySem.Spec PyProof.Rows
structure Mod (K:af) (mg:Str->Option ai) (base:bZ):Prop where
 kin:K.In base
 glob:base.Ns cy mg
 blt:∃mb,base.Ns builtinsNs mb/\∀x:Str,x≠"__name__"->mb x=jM x
 nolimit:base.NoLimit
structure Cx where
 prog:bj
 w:bF
 K:af
 mg:Str->Option ai
 base:bZ
 A:cD
 N:List Str
 s₀:au
 H₀:Hp
 env:Env
 outer:List Env
 stack:List Env
 ex:List av
 fn:Str->Bool
 calm:Bool
 pn:List (av×Obj)
 xe:ai->au->Prop
def Cf(l:List Env):List av:=l.filterMap (·.frame)
abbrev Cx.fs(X:Cx):List av:=Cf X.outer
def T6(a:fG)(x:Str):Prop:=a.names.lookup x=some .local\/a.names.lookup x=some .cell\/a.names.lookup x=some .free
def Vz(a:fG)(x:Str):Prop:=a.names.lookup x=some .local\/a.names.lookup x=some .cell
def q0r(env:Env)(h:bZ)(m:Str->Option ai)(x:Str)(u:ai):Prop:=
 (env.kindOf x=some .local/\m x=some u)\/((env.kindOf x=some .cell\/env.kindOf x=some .free)/\∃c,env.cells.lookup x=some c/\h.IsCell c (some u))
structure Cx.Ok (X:Cx):Prop where
 mod:Mod X.K X.mg X.base
 kind:X.env.scope.kind=.function
 glob:X.env.globals=cy
 blt:X.env.builtins=builtinsNs
 above:X.s₀.heap.objs.size<=X.env.locals
 inj:∀x y c,X.env.cells.lookup x=some c->X.env.cells.lookup y=some c->x=y
 has:∀x,(X.env.kindOf x=some .cell\/X.env.kindOf x=some .free)->∃c,X.env.cells.lookup x=some c
 cab:∀x c,X.fn x=true->X.env.cells.lookup x=some c->X.s₀.heap.objs.size<=c
 hd:X.calm=true->X.A.handled=none
 frames:X.A.frames=some X.stack
 stk:X.stack=X.outer\/(X.stack=X.env::X.outer/\X.env.frame=some X.env.locals)
 exf:∀b∈X.ex,b≠X.env.locals/\∀x c,X.env.cells.lookup x=some c->c≠b
 bs:∀b o,X.base.get? b=some o->X.s₀.heap.get? b=some o/\X.H₀ b=none
 bsz:X.base.objs.size<=X.s₀.heap.objs.size
 noex:∀b o,X.base.get? b=some o->b∉X.ex
 exfs:∀b∈X.ex,b∉X.fs
 funs:X.s₀.heap.FunFrames X.base X.outer
 frf:∀b∈X.fs,X.H₀ b=none
structure ck (X:Cx) (pins:List (av×Obj)) (σ:List (Option V)) (H:Hp) (s:au):Prop where
 ok:X.Ok
 os:s.os=X.s₀.os
 bare:sZ s.gens
 base:Un X.fs X.ex X.H₀ H X.s₀.heap s.heap
 loc:∃m,s.heap.Ns X.env.locals m/\∀(i:Nat) (x:Str) (v:V),X.N[i]?=some x->σ[i]?=some (some v)->T6 X.env.scope x->∃u,eO v u/\q0r X.env s.heap m x u
 cell:∀x c,X.env.cells.lookup x=some c->∃v,s.heap.IsCell c v
 free:H X.env.locals=none
 freeC:∀x c,X.env.cells.lookup x=some c->H c=none
 pin:∀p∈X.pn++pins,s.heap.get? p.1=some p.2/\H p.1=none/\p.1≠X.env.locals/\p.1∉X.fs/\∀v,p.2.data≠.cell v
 hok:tF X.prog X.w H s.heap
 len:σ.length=X.N.length
section
variable{X:Cx}{pins:List (av×Obj)}{σ:List (Option V)}{H H':Hp}{s:au}{h':bZ}
def Cx.Ok.nofr(ok:X.Ok)(e:X.base.get? b=some o):b∉X.fs:=λa=>by
 have:=(ok.funs.mem a).1;rw[e] at this;cases this
theorem ck.bs(I:ck X pins σ H s):∀b o,X.base.get? b=some o->s.heap.get? b=some o/\H b=none:=λb o e=>
 ⟨I.base.keep b o (I.ok.bs b o e).1 (I.ok.bs b o e).2 (I.ok.nofr e) (I.ok.noex b o e),I.base.free b o (I.ok.bs b o e).1 (I.ok.bs b o e).2 (I.ok.noex b o e)⟩
def ck.bk(I:ck X pins σ H s):∀b o,X.base.get? b=some o->s.heap.get? b=some o:=λb o e=>(I.bs b o e).1
theorem ck.mod(I:ck X pins σ H s):Mod X.K X.mg X.base:=I.ok.mod
def ck.kIn(I:ck X pins σ H s):X.K.In s.heap:=I.ok.mod.kin.keeps I.bk
def ck.fr(I:ck X pins σ H s):∃m,Fr X.base X.env.locals s.heap m:=
 let ⟨m,hn,_⟩:=I.loc
 ⟨m,hn,I.bk,c8 I.ok.bsz I.ok.above⟩
theorem ck.lt(I:ck X pins σ H s):X.env.locals<s.heap.objs.size:=let ⟨_,hn,_⟩:=I.loc;hn.lt
def ck.sz(I:ck X pins σ H s):X.s₀.heap.objs.size<=s.heap.objs.size:=c8 I.ok.above (cB I.lt)
def ck.nofs(I:ck X pins σ H s)(h:s.heap.objs.size<=a):a∉X.fs:=λb=>by
 obtain⟨_,o,ho,_⟩:=I.ok.funs.mem b;exact absurd (aK (aB ho) (c8 I.sz h)) (cr _)
def ck.cne(I:ck X pins σ H s):∀x c,X.env.cells.lookup x=some c->c≠X.env.locals:=λx c e z=>by
 obtain⟨v,o,ho,d⟩:=I.cell x c e;obtain⟨m,⟨o',es,f,b,a,_⟩,_⟩:=I.loc;rw[z,b] at ho;cases ho;rw[a] at d;cases d
theorem ck.funs(I:ck X pins σ H s):s.heap.FunFrames X.base X.outer:=by
 have all:∀(l:List Env),(∀b∈Cf l,b∈X.fs)->X.s₀.heap.FunFrames X.base l->s.heap.FunFrames X.base l:=by
  intro l;induction l with
  |nil=>intro _ _;trivial
  |cons env r f=>
   intro hs g;obtain⟨k,⟨L,o,a,i,ho,j⟩,h⟩:=g;have d:L∈X.fs:=hs L (by unfold Cf;rw[iQ,a];exact aq);obtain⟨m,e⟩:=I.base.slot L o ho (I.ok.frf L d) d λz=>I.ok.exfs L z d;exact⟨k,⟨L,_,a,i,e,j⟩,f (λb c=>hs b (by unfold Cf;rw[iQ,a];exact ak _ c)) h⟩
 exact all X.outer (λ_ c=>c) I.ok.funs
def ck.stack(I:ck X pins σ H s):s.heap.FunFrames X.base X.stack:=by
 rcases I.ok.stk with e|⟨e,hf⟩
 ·rw[e];exact I.funs
 ·rw[e];obtain⟨m,a,_⟩:=I.loc;refine .cons (by rw[I.ok.kind];decide) hf a ?_ I.funs;exact Heap.get?_none_of_le (c8 I.ok.bsz I.ok.above)
def ck.stkSub(I:ck X pins σ H s):∀b∈Cf X.stack,b∈X.env.locals::X.fs:=λb a=>by
 rcases I.ok.stk with e|⟨e,hf⟩
 ·rw[e] at a;exact ak _ a
 ·rw[e] at a;unfold Cf at a;rw[iQ,hf] at a;exact a
def ck.stkFree(I:ck X pins σ H s):∀b∈Cf X.stack,H b=none:=λb hb=>by
 rcases List.mem_cons.mp (I.stkSub b hb) with e|hb
 ·rw[e];exact I.free
 ·obtain⟨_,o,ho,_⟩:=I.ok.funs.mem hb;exact I.base.free b o ho (I.ok.frf b hb) λz=>I.ok.exfs b z hb
def ck.step{g':Array Ja}{t':Nat}{d':Cg}{ch:List av}(I:ck X pins σ H s)
  (f:∀b∈ch,(b∈X.ex\/X.s₀.heap.objs.size<=b)/\b≠X.env.locals/\(∀x c,X.env.cells.lookup x=some c->c≠b)/\∀p∈X.pn++pins,p.1≠b)
  (keep:∀b o,b≠X.env.locals->b∉X.fs->b∉ch->s.heap.get? b=some o->H b=none->h'.get? b=some o)
  (slot:∀b o,b≠X.env.locals->b∈X.fs->b∉ch->s.heap.get? b=some o->H b=none->∃P,h'.get? b=some {o with slots:=P}) (free:∀b o,b∉ch->s.heap.get? b=some o->H b=none->H' b=none)
  (there:∀b o,b∉ch->s.heap.get? b=some o->∃o',h'.get? b=some o')
  (B:∀b xs,H b=some (.tup xs)->H' b=some (.tup xs)) (A:∀b o u,H b=some (.frz o u)->H' b=some (.frz o u)) (E:∀b ps,H b=some (.tbl ps)->∃more,H' b=some (.tbl (ps++more)))
  (ns:∀m,s.heap.Ns X.env.locals m->h'.Ns X.env.locals m) (N:tF X.prog X.w H' h') (hg:sZ g'):
  ck X pins σ H' {s with heap:=h',gens:=g',drawn:=d',toks:=t'}:=by
 have G:∀b o,X.s₀.heap.get? b=some o->b≠X.env.locals:=λb o e=>aM (aK (aB e) I.ok.above);have t:∀b o,X.s₀.heap.get? b=some o->b∉X.ex->b∉ch:=λb o e a y=>by
  rcases (f b y).1 with z|z
  ·exact a z
  ·exact absurd (aK (aB e) z) (cr _)
 have g:∀x c,X.env.cells.lookup x=some c->∀v,s.heap.IsCell c v->h'.IsCell c v:=λx c e v L=>by
  obtain⟨o,ho,O⟩:=L;have h:c∉ch:=λz=>(f c z).2.2.1 x c e rfl;by_cases Q:c∈X.fs
  ·obtain⟨P,q⟩:=slot c o (I.cne x c e) Q h ho (I.freeC x c e);exact⟨_,q,O⟩
  ·exact⟨o,keep c o (I.cne x c e) Q h ho (I.freeC x c e),O⟩
 refine⟨I.ok,I.os,hg,⟨λb o e n y a=>?_,λb o e n y a=>?_,λb o e n a=>?_,λb o e a=>?_,λb xs e=>B b xs (I.base.tups b xs e),λb o xs e=>A b o xs (I.base.frzs b o xs e),λb ps e=>?_⟩,?_,λx c e=>?_,?_,λx c e=>?_,λp S=>?_,N,I.len⟩
 ·exact keep b o (G b o e) y (t b o e a) (I.base.keep b o e n y a) (I.base.free b o e n a)
 ·obtain⟨P,j⟩:=I.base.slot b o e n y a;obtain⟨M,K⟩:=slot b _ (G b o e) y (t b o e a) j (I.base.free b o e n a);exact⟨M,K⟩
 ·obtain⟨o',j⟩:=I.base.there b o e a;exact free b o' (t b o e a) j (I.base.free b o e n a)
 ·obtain⟨o',j⟩:=I.base.there b o e a;exact there b o' (t b o e a) j
 ·obtain⟨m1,j⟩:=I.base.tbls b ps e;obtain⟨Y,K⟩:=E b _ j;exact⟨m1++Y,by rw[K,MG]⟩
 ·obtain⟨m,hn,U⟩:=I.loc;refine⟨m,ns m hn,λi x v j K T=>?_⟩;obtain⟨u,r,l⟩:=U i x v j K T;refine⟨u,r,?_⟩;rcases l with l|⟨k,c,e,z⟩
  ·exact .inl l
  ·exact .inr ⟨k,c,e,g x c e _ z⟩
 ·obtain⟨v,z⟩:=I.cell x c e;exact⟨v,g x c e v z⟩
 ·obtain⟨m,⟨o,_,_,ho,_⟩,_⟩:=I.loc;exact free _ o (λz=>(f _ z).2.1 rfl) ho I.free
 ·obtain⟨v,o,ho,O⟩:=I.cell x c e;exact free c o (λz=>(f c z).2.2.1 x c e rfl) ho (I.freeC x c e)
 ·obtain⟨e,n,ne,nf,d⟩:=I.pin p S;have h:p.1∉ch:=λz=>(f p.1 z).2.2.2 p S rfl;exact⟨keep p.1 p.2 ne nf h e n,free p.1 p.2 h e n,ne,nf,d⟩
def ck.un{t':Nat}(I:ck X pins σ H s)(u:Un X.fs [] H H' s.heap h')(f:tF X.prog X.w H' h'):ck X pins σ H' {s with heap:=h',toks:=t'}:=by
 obtain⟨m,⟨o,es,j,ho,r⟩,_⟩:=id I.loc;obtain⟨l,i⟩:=u.any ho I.free (by simp);exact I.step (g':=s.gens) (d':=s.drawn) (ch:=[]) (λ_ z=>nomatch z) (λb o _ c _ e n=>u.keep b o e n c (by simp)) (λb o _ c _ e n=>u.slot b o e n c (by simp)) (λb o _ e n=>u.free b o e n (by simp)) (λb o _ e=>u.there b o e (by simp)) u.tups u.frzs u.tbls (λk g=>by
  obtain⟨o',es',d,a,h⟩:=g;rw[ho] at a;cases a;exact⟨_,es',d,i,h⟩) f I.bare
def ck.call{g':Array Ja}{t':Nat}{d':Cg}{ch:List av}(I:ck X pins σ H s)(u:Un (Cf X.stack) ch H H' s.heap h')(h:tF X.prog X.w H' h')(q:sZ g')
  (d:∀b∈ch,(b∈X.ex\/X.s₀.heap.objs.size<=b)/\b≠X.env.locals/\(∀x c,X.env.cells.lookup x=some c->c≠b)/\∀p∈X.pn++pins,p.1≠b):
  ck X pins σ H' {s with heap:=h',gens:=g',drawn:=d',toks:=t'}:=by
 obtain⟨m,⟨o,es,t,ho,r⟩,_⟩:=id I.loc;obtain⟨y,i⟩:=u.any ho I.free λz=>(d _ z).2.1 rfl;exact I.step (ch:=ch) d (λb o i j a e n=>u.keep b o e n (λz=>(List.mem_cons.mp (I.stkSub b z)).elim i j) a) (λb o _ _ a e n=>u.any e n a) (λb o a e n=>u.free b o e n a) (λb o a e=>u.there b o e a) u.tups u.frzs u.tbls (λv k=>by
  obtain⟨o',es',g,f,l⟩:=k;rw[ho] at f;cases f;exact⟨_,es',g,i,l⟩) h q
def ck.turned{t':Nat}{it:av}(I:ck X pins σ H s)(k:∀b o,b≠it->s.heap.get? b=some o->h'.get? b=some o)(t:H it=none)(f:it≠X.env.locals)
  (g:it∈X.ex\/X.s₀.heap.objs.size<=it) (w:∀x c,X.env.cells.lookup x=some c->c≠it) (h:∀p∈X.pn++pins,p.1≠it):ck X pins σ H {s with heap:=h',toks:=t'}:=by
 have d:∀b u,H b=some u->b≠it:=λb u e z=>by rw[z,t] at e;cases e
 refine I.step (g':=s.gens) (d':=s.drawn) (ch:=[it]) (λb j=>?_) (λb o _ _ a e _=>k b o (λz=>a (by simp[z])) e) (λb o _ _ a e _=>⟨o.slots,k b o (λz=>a (by simp[z])) e⟩) (λ_ _ _ _ n=>n)
  (λb o a e=>⟨o,k b o (λz=>a (by simp[z])) e⟩) (λ_ _ e=>e) (λ_ _ _ e=>e) (λb ps e=>⟨#[],by rw[e];simp⟩) (λm l=>?_) (λb u e=>?_) I.bare
 ·have e:b=it:=by simpa using j
  subst e;exact⟨g,f,w,h⟩
 ·obtain⟨o,es,i,ho,r⟩:=l;exact⟨o,es,i,k _ o (dO f) ho,r⟩
 ·refine(I.hok b u e).stay (λc v a q=>k c v ?_ q) (λ_ q=>q) λ_ _ q=>q;rcases a with z|z
  ·rw[z];exact d b u e
  ·exact d c _ z
theorem ck.tok(I:ck X pins σ H s)(t:Nat):ck X pins σ H {s with toks:=t}:=I.un (h':=s.heap) (t':=t) Un.refl I.hok
theorem ck.kept(I:ck X pins σ H s)(k:∀b u,s.heap.get? b=some u->h'.get? b=some u):ck X pins σ H {s with heap:=h',toks:=t'}:=I.un (Un.kept k) (I.hok.kept k)
theorem ck.laid(I:ck X pins σ H s)(k:∀b u,s.heap.get? b=some u->h'.get? b=some u)(c:s.heap.objs.size<=a)(new:dQ X.prog X.w (upd H a o) h' a o):
  ck X pins σ (upd H a o) {s with heap:=h',toks:=t'}:=I.un (Un.laid k c (I.hok.fresh c)) (I.hok.laid k c new)
theorem ck.write(I:ck X pins σ H s)(c:YH (H x))(he:e=x\/H e=some (.own x))(k:∀b u,b≠e->s.heap.get? b=some u->h'.get? b=some u)(a:∃u,h'.get? e=some u)
  (new:dQ X.prog X.w (upd H x o) h' x o):ck X pins σ (upd H x o) {s with heap:=h',toks:=t'}:=I.un (Un.write c he k a) (I.hok.write c he k a new)
def ck.weak(I:ck X pins σ H s)(b:σ'.length=σ.length)(w:∀(i:Nat) v,σ'[i]?=some (some v)->σ[i]?=some (some v)):ck X pins σ' H s:=
 ⟨I.ok,I.os,I.bare,I.base,let ⟨m,hn,hl'⟩:=I.loc;⟨m,hn,λi x v a c d=>hl' i x v a (w i v c) d⟩,I.cell,I.free,I.freeC,I.pin,I.hok,b.trans I.len⟩
def ck.pins_of(I:ck X pins σ H s)(h:∀p∈pins',s.heap.get? p.1=some p.2/\H p.1=none/\p.1≠X.env.locals/\p.1∉X.fs/\∀v,p.2.data≠.cell v):ck X pins' σ H s:=
 ⟨I.ok,I.os,I.bare,I.base,I.loc,I.cell,I.free,I.freeC,λp a=>(List.mem_append.mp a).elim (λz=>I.pin p (bU _ z)) (h p),I.hok,I.len⟩
def Gg{N:List Str}(c:N.Nodup){i j:Nat}{x:Str}(a:N[i]?=some x)(b:N[j]?=some x):i=j:=by
 obtain⟨f,d⟩:=List.getElem?_eq_some_iff.mp a;obtain⟨g,e⟩:=List.getElem?_eq_some_iff.mp b;exact(SL c).mp (d.trans e.symm)
theorem Dd{M:Model}{A:cD}{E:ai->au->Prop}{i:Nat}{x:Str}{v:V}{u:ai}{Q:Unit->au->Prop}(I:ck X pins σ H s)(hN:X.N.Nodup)(U:X.N[i]?=some x)(t:Vz X.env.scope x)(r:eO v u)
  (h:∀s',ck X pins (σ.set i (some v)) H s'->(∃a,bK a s.heap s'.heap/\(a=X.env.locals\/X.env.cells.lookup x=some a))->Q () s') (hf:X.fn x=true\/X.env.scope.names.lookup x=some .local:=by first|exact .inl rfl|exact .inr rfl|assumption):ay M A (storeName X.env x u) Q E s:=by
 obtain⟨m,hn,hl⟩:=id I.loc;have S:(X.env.scope.kind == .class||(X.env.scope.kind == .module&&X.env.locals != X.env.globals))=false:=by rw[I.ok.kind];rfl
 have K:i<σ.length:=by rw[I.len];exact(List.getElem?_eq_some_iff.mp U).1
 have cne:=I.cne;have g:∀{a:av}{h':bZ},(∃o,s.heap.get? a=some o/\H a=none)->bK a s.heap h'->tF X.prog X.w H h':=λ{a h'} ha hs b ob e=>by
  obtain⟨_,_,B⟩:=ha;refine(I.hok b ob e).stay (λc w' l q=>(hs.2 c ?_).trans q) (λ_ q=>q) λ_ _ q=>q;rintro rfl;rcases l with rfl|l
  ·rw[B] at e;cases e
  ·rw[B] at l;cases l
 rcases t with hk|hk
 ·refine wpAny_storeName_local hk hn (λh' a3 hs=>?_) S;obtain⟨oL,_,_,a2,_⟩:=id hn;refine h _ ⟨I.ok,I.os,I.bare,⟨λb o e n O t=>?_,λb o e n O t=>?_,I.base.free,λb o e t=>?_,I.base.tups,I.base.frzs,I.base.tbls⟩,⟨_,a3,λj y v' f G e3=>?_⟩,λy c e=>?_,I.free,I.freeC,λp hp=>?_,g ⟨oL,a2,I.free⟩ hs,by simpa using I.len⟩ ⟨_,hs,.inl rfl⟩
  ·exact(hs.2 b (aM (aK (aB e) I.ok.above))).trans (I.base.keep b o e n O t)
  ·obtain⟨sl,f⟩:=I.base.slot b o e n O t;exact⟨sl,(hs.2 b (aM (aK (aB e) I.ok.above))).trans f⟩
  ·obtain⟨o',f⟩:=I.base.there b o e t;exact⟨o',(hs.2 b (aM (aK (aB e) I.ok.above))).trans f⟩
  ·by_cases P:j=i
   ·subst P;rw[U] at f;cases f;rw[aR K] at G;cases G;exact⟨u,r,.inl ⟨hk,by simp⟩⟩
   ·rw[ax (dO P)] at G;obtain⟨u',r',q⟩:=hl j y v' f G e3;refine⟨u',r',?_⟩;rcases q with⟨k,e⟩|⟨k,c,e,z⟩
    ·refine .inl ⟨k,?_⟩;have:y≠x:=λe=>P (Gg hN f (e ▸ U))
     simp[this,e]
    ·exact .inr ⟨k,c,e,z.sameBut hs (cne y c e)⟩
  ·obtain⟨w',z⟩:=I.cell y c e;exact⟨w',z.sameBut hs (cne y c e)⟩
  ·obtain⟨e,n,ne,nf,d⟩:=I.pin p hp;exact⟨(hs.2 p.1 ne).trans e,n,ne,nf,d⟩
 ·have L:X.fn x=true:=by
   rcases hf with z|z
   ·exact z
   ·rw[z] at hk;cases hk
  obtain⟨c,l⟩:=I.ok.has x (.inl hk);obtain⟨w',z⟩:=I.cell x c l;refine wpAny_storeName_cell I.ok.kind hk l z (λh' a1 hs=>?_);obtain⟨oc,a0,Y⟩:=id z;refine h {s with heap:=h'} ⟨I.ok,I.os,I.bare,⟨λb o e n O t=>?_,λb o e n O t=>?_,I.base.free,λb o e t=>?_,I.base.tups,I.base.frzs,I.base.tbls⟩,⟨m,hn.sameBut hs (dO (cne x c l)),λj y v' f G e3=>?_⟩,λy c' e=>?_,I.free,I.freeC,λp hp=>?_,g ⟨oc,a0,I.freeC x c l⟩ hs,by simpa using I.len⟩ ⟨c,hs,.inr l⟩
  ·exact(hs.2 b (aM (aK (aB e) (I.ok.cab x c L l)))).trans (I.base.keep b o e n O t)
  ·obtain⟨sl,f⟩:=I.base.slot b o e n O t;exact⟨sl,(hs.2 b (aM (aK (aB e) (I.ok.cab x c L l)))).trans f⟩
  ·obtain⟨o',f⟩:=I.base.there b o e t;exact⟨o',(hs.2 b (aM (aK (aB e) (I.ok.cab x c L l)))).trans f⟩
  ·by_cases P:j=i
   ·subst P;rw[U] at f;cases f;rw[aR K] at G;cases G;exact⟨u,r,.inr ⟨.inl hk,c,l,a1⟩⟩
   ·rw[ax (dO P)] at G;obtain⟨u',r',q⟩:=hl j y v' f G e3;refine⟨u',r',?_⟩;rcases q with q|⟨k,c',e,z'⟩
    ·exact .inl q
    ·refine .inr ⟨k,c',e,z'.sameBut hs ?_⟩;rintro rfl;exact P (Gg hN f (I.ok.inj _ _ _ e l ▸ U))
  ·by_cases T:c'=c
   ·subst T;exact⟨_,a1⟩
   ·obtain⟨w2,z2⟩:=I.cell y c' e;exact⟨w2,z2.sameBut hs T⟩
  ·obtain⟨e,n,ne,nf,d⟩:=I.pin p hp;refine⟨(hs.2 p.1 ?_).trans e,n,ne,nf,d⟩;intro q;rw[q,a0] at e;have q':oc=p.2:=c6 e;exact d w' (by rw[<- q'];exact Y)
def wT(I:ck X pins σ H s)(a:X.N.Nodup)(d:X.N[i]?=some x)(c:Vz X.env.scope x)(r:eO v u)
  (h:∀s',ck X pins (σ.set i (some v)) H s'->Q () s') (e:X.fn x=true\/X.env.scope.names.lookup x=some .local:=by first|exact .inl rfl|exact .inr rfl|assumption):ay M A (storeName X.env x u) Q E s:=
 Dd I a d c r (λs' b _=>h s' b) e
theorem ck.call'(I:ck X pins σ H s)(ho:s'.os=s.os)(u:Un (Cf X.stack) ch H H' s.heap s'.heap)(d:tF X.prog X.w H' s'.heap)(f:sZ s'.gens)
  (a:∀b∈ch,(b∈X.ex\/X.s₀.heap.objs.size<=b)/\b≠X.env.locals/\(∀x c,X.env.cells.lookup x=some c->c≠b)/\∀p∈X.pn++pins,p.1≠b):ck X pins σ H' s':=by
 obtain⟨h',g',d',t',o'⟩:=s';have e:o'=s.os:=ho;subst e;exact I.call (g':=g') (t':=t') (d':=d') u d f a
end
abbrev XK:=ai->Option av->Hp->Prop
abbrev St:=List (Option V)
abbrev VK:=V->Hp->Prop
abbrev TE:=St->Hp->VK->Prop
abbrev TT:=St->Hp->(Bool->Hp->Prop)->Prop
abbrev TA:=St->Hp->(List V->Hp->Prop)->Prop
structure Gh where
 nx:St->Hp->Prop
 rt:VK
 bk:St->Hp->Prop:=λ_ _=>False
 ct:St->Hp->Prop:=λ_ _=>False
abbrev TS:=Gh->St->Hp->Prop
inductive EP (X:Cx) (pins:List (av×Obj)) (σ:St) (Q:VK) (u:ai) (s':au):Prop
 |mk (v H':_) (h0:ck X pins σ H' s') (h1:eO v u) (h2:Q v H'):EP X pins σ Q u s'
inductive TP (X:Cx) (pins:List (av×Obj)) (σ:St) (Q:Bool->Hp->Prop) (b:Bool) (s':au):Prop
 |mk (H':_) (h0:ck X pins σ H' s') (h1:Q b H'):TP X pins σ Q b s'
inductive AP (X:Cx) (pins:List (av×Obj)) (σ:St) (Q:List V->Hp->Prop) (us:List ai) (s':au):Prop
 |mk (vs H':_) (h0:ck X pins σ H' s') (h1:eT vs us) (h2:Q vs H'):AP X pins σ Q us s'
inductive SN (X:Cx) (pins:List (av×Obj)) (k:St->Hp->Prop) (s':au):Prop
 |mk (σ':St) (H':Hp) (I:ck X pins σ' H' s') (q:k σ' H'):SN X pins k s'
inductive SV (X:Cx) (pins:List (av×Obj)) (k:V->Hp->Prop) (u:ai) (s':au):Prop
 |mk (v:V) (σ':St) (H':Hp) (I:ck X pins σ' H' s') (r:eO v u) (q:k v H'):SV X pins k u s'
def SP(X:Cx)(a:List (av×Obj))(D:Gh)(f:Flow)(s':au):Prop:=
 match f with
 |.next=>SN X a D.nx s'
 |.brk=>SN X a D.bk s'
 |.cont=>SN X a D.ct s'
 |.ret u=>SV X a D.rt u s'
def PE(X:Cx)(e:bJ)(t:TE):Prop:=
 ∀(a:List (av×Obj)) (s:au) (b:St) (H:Hp) (Q:VK),ck X a b H s->t b H Q->ay (aD X.prog X.w) X.A (fO e X.env) (EP X a b Q) X.xe s
def PT(X:Cx)(e:bJ)(t:TT):Prop:=
 ∀(a:List (av×Obj)) (s:au) (b:St) (H:Hp) (Q:Bool->Hp->Prop),ck X a b H s->t b H Q->ay (aD X.prog X.w) X.A (AA e X.env (fO e X.env)) (TP X a b Q) X.xe s
def PW(X:Cx)(e:bJ)(t:TT):Prop:=
 ∀(b:Sem ai) (a:List (av×Obj)) (s:au) (c:St) (H:Hp) (Q:Bool->Hp->Prop),ck X a c H s->t c H Q->ay (aD X.prog X.w) X.A (AA e X.env b) (TP X a c Q) X.xe s
def PW.pt(h:PW X e t):PT X e t:=h _
def PA(X:Cx)(es:List bJ)(t:TA):Prop:=
 ∀(c:Pos) (a:List (av×Obj)) (s:au) (b:St) (H:Hp) (Q:List V->Hp->Prop),ck X a b H s->t b H Q->ay (aD X.prog X.w) X.A (spliced (kR c (a_ es X.env))) (AP X a b Q) X.xe s
def PS(X:Cx)(st:fg)(t:TS):Prop:=
 ∀(a:List (av×Obj)) (s:au) (b:St) (H:Hp) (D:Gh),ck X a b H s->t D b H->ay (aD X.prog X.w) X.A (exec st X.env) (SP X a D) X.xe s
def Lk(X:Cx)(st:List fg)(t:TS):Prop:=
 ∀(a:List (av×Obj)) (s:au) (b:St) (H:Hp) (D:Gh),ck X a b H s->t D b H->ay (aD X.prog X.w) X.A (execs st X.env) (SP X a D) X.xe s
def gG{c:Type}{t:Sem c}{Q b:c->au->Prop}{M:Model}{A:cD}{E:ai->au->Prop}{s:au}(h:ay M A t Q E s)(d:∀a s,Q a s->b a s):ay M A t b E s:=cz h d λ_ _ x=>x
end L2
namespace L2
open PySem PySem.Spec PyProof.Rows
section
variable{X:Cx}
inductive VA (i:Nat) (σ:St) (H:Hp) (Q:VK):Prop
 |mk (v:_) (h0:σ[i]?=some (some v)) (h1:Q v H):VA i σ H Q
def YI(i:Nat):TE:=VA i
def tC(v:V):TE:=λ_ H Q=>Q v H
def tL(f:X.N[i]?=some x)(o:T6 X.env.scope x)(d:(x==("__debug__" : Str))=false:=by decide)(b:(x==("__classdict__" : Str))=false:=by decide):PE X (.Name x pos) (YI i):=by
 intro a s j H Q I h;obtain⟨v,e,h⟩:=h;obtain⟨m,n,g⟩:=I.loc;obtain⟨u,r,l⟩:=g i x v f e o;have fin:EP X a j Q u s:=⟨v,H,I,r,h⟩;rcases l with⟨hk,k⟩|⟨hk,c,hc,hcell⟩
 ·exact wpAny_Name (wpAny_loadName_local I.ok.kind hk n k fin) d
 ·rcases hk with hk|hk
  ·exact wpAny_Name (wpAny_loadName_cell I.ok.kind hk hc hcell fin) d
  ·exact wpAny_Name (wpAny_loadName_free I.ok.kind hk hc hcell fin b) d
def WQ{i j pos}:PE X (.Constant (.int i) j pos) (tC (.int i)):=λ_ _ _ H _ I h=>wpAny_Constant_int ⟨.int i,H,I.tok _,⟨_,rfl⟩,h⟩
def YJ{b j pos}:PE X (.Constant (.bool b) j pos) (tC (.bl b)):=λ_ _ _ H _ I h=>Constant_bool ⟨.bl b,H,I,rfl,h⟩
def WR{x j pos}:PE X (.Constant (.str x) j pos) (tC (.str x)):=λ_ _ _ H _ I h=>Calls.Constant_str ⟨.str x,H,I.tok _,⟨_,rfl⟩,h⟩
def Gl(X:Cx)(x:Str):Prop:=X.env.kindOf x=some .globalImplicit
def Ll(I:ck X pins σ H s)(b:Gl X x)(a:X.mg x=some u)(h:Q u s)
  (c:(x==("__debug__" : Str))=false:=by decide):ay (aD X.prog X.w) X.A (fO (.Name x pos) X.env) Q E s:=
 Ch I.ok.kind b (Calls.loadGlobal_global (by rw[I.ok.glob];exact I.mod.glob.keeps I.bk) a h) c
def yo(I:ck X pins σ H s)(e:Gl X x)(b:X.mg x=none)(d:jM x=some u)(h:Q u s)
  (c:x≠"__name__":=by decide) (f:(x==("__debug__" : Str))=false:=by decide):ay (aD X.prog X.w) X.A (fO (.Name x pos) X.env) Q E s:=by
 obtain⟨i,a,g⟩:=I.mod.blt;exact Ch I.ok.kind e (Calls.loadGlobal_builtin (by rw[I.ok.glob];exact I.mod.glob.keeps I.bk) b (by rw[I.ok.blt];exact a.keeps I.bk) ((g x c).trans d) h) f
def TJ(b:Gl X x)(a:X.mg x=some u)(r:eO v u)(c:(x==("__debug__" : Str))=false:=by decide):PE X (.Name x pos) (tC v):=
 λ_ _ _ H _ I h=>Ll I b a ⟨v,H,I,r,h⟩ c
def TK(d:Gl X x)(a:X.mg x=none)(c:jM x=some u)(r:eO v u)(b:x≠"__name__":=by decide)(e:(x==("__debug__" : Str))=false:=by decide):PE X (.Name x pos) (tC v):=
 λ_ _ _ H _ I h=>yo I d a c ⟨v,H,I,r,h⟩ b e
variable{a b:bJ}{ta tb:TE}{pos:Pos}
def PC(X:Cx)(op:CmpOp)(a b:bJ)(t:TE):Prop:=
 ∀(c:List (av×Obj)) (s:au) (f:St) (H:Hp) (Q:VK),ck X c f H s->t f H Q ->
  ay (aD X.prog X.w) X.A (fO a X.env) (λv d=>ay (aD X.prog X.w) X.A (fO b X.env) (λu e=>ay (aD X.prog X.w) X.A (cj op v u) (EP X c f Q) X.xe e) X.xe d) X.xe s
def Pe(b:bJ)(h:op≠.In)(c:op≠.NotIn):iU op b=false:=by
 have e:(op==CmpOp.In)=false:=by cases op<;>first|rfl|exact absurd rfl h
 have d:(op==CmpOp.NotIn)=false:=by cases op<;>first|rfl|exact absurd rfl c
 cases b<;>simp[iU,e,d]
def tB(t:TE):TT:=λd H Q=>t d H λx e=>∃c,x=.bl c/\Q c e
def q0s(h:PC X op a b t)(f:iU op b=false:=by first|exact Pe _ ⋯ ⋯|rfl):PT X (.Compare a [op] [b] pos) (tB t):=by
 intro e s i H Q I k;refine SM (gG (h e s i H _ I k) λv s1 f=>gG f λu o m=>gG m λc s3 ⟨x,g,n,l,j⟩=>?_) f;obtain⟨d,rfl,q⟩:=j;cases l;exact dD ⟨g,n,q⟩
def WS(h:PE X e t)(he:∀c,AA e X.env c=(do let v <- c;qP e.pos;OW [v] (truthy v)):=by intro _;rfl):PT X e (tB t):=by
 intro f s i H Q I k;refine isTrue_plain (gG (h f s i H _ I k) λv s1 ⟨x,g,m,l,j⟩=>?_) (he _);obtain⟨d,rfl,q⟩:=j;cases l;exact dD ⟨g,m,q⟩
variable{tA tB':TT}{bM:List bJ}
def q0t(t u:TT):TT:=λd H Q=>t d H λc e=>if c=true then u d e Q else Q false e
def tOr(t u:TT):TT:=λd H Q=>t d H λc e=>if c=true then Q true e else u d e Q
def q0u(t:TT):TT:=λd H Q=>t d H λc e=>Q (!c) e
def TL(f:PT X a tA):PW X (.BoolOp .And [a] pos) tA:=by
 intro i d s g H Q I h;refine isTrue_and (gG (f d s g H Q I h) λc s1 e=>?_);cases c with
 |true=>exact isTrue_and_nil e
 |false=>exact e
def WT(f:PT X a tA):PW X (.BoolOp .Or [a] pos) tA:=by
 intro i d s g H Q I h;refine isTrue_or (gG (f d s g H Q I h) λc s1 e=>?_);cases c with
 |false=>exact isTrue_or_nil e
 |true=>exact e
def WU(j:PT X a tA)(l:PW X (.BoolOp .And (b::bM) pos) tB'):PW X (.BoolOp .And (a::b::bM) pos) (q0t tA tB'):=by
 intro k d s e H Q I h;refine isTrue_and (gG (j d s e H _ I h) λc s1 ⟨f,i,g⟩=>?_);cases c with
 |true=>exact l k d s1 e f Q i g
 |false=>exact⟨f,i,g⟩
def YK(j:PT X a tA)(l:PW X (.BoolOp .Or (b::bM) pos) tB'):PW X (.BoolOp .Or (a::b::bM) pos) (tOr tA tB'):=by
 intro k d s e H Q I h;refine isTrue_or (gG (j d s e H _ I h) λc s1 ⟨f,i,g⟩=>?_);cases c with
 |true=>exact⟨f,i,g⟩
 |false=>exact l k d s1 e f Q i g
theorem WV(e:PT X a tA):PT X (.UnaryOp .Not a pos) (q0u tA):=by
 intro d s f H Q I h;exact isTrue_not (gG (e d s f H (λc g=>Q (!c) g) I h) λ_ _ x=>by obtain⟨a,b,c⟩:=x;exact⟨a,b,c⟩)
def YL(ta tb:TE):TE:=λd H Q=>ta d H λx e=>∃c,x=.bl c/\if c=true then tb d e Q else Q (.bl false) e
def q0v(ta tb:TE):TE:=λd H Q=>ta d H λx e=>∃c,x=.bl c/\if c=true then Q (.bl true) e else tb d e Q
def YM(ta:TE):TE:=λd H Q=>ta d H λx e=>∃c,x=.bl c/\Q (.bl (!c)) e
def WW{op}(h:PE X a t):PE X (.BoolOp op [a] pos) t:=λc s d H Q I e=>BoolOp_one (h c s d H Q I e)
def WX(k:PE X a ta)(l:PE X (.BoolOp .And (b::bM) pos) tb):PE X (.BoolOp .And (a::b::bM) pos) (YL ta tb):=by
 intro d s g H Q I h;refine BoolOp_and (gG (k d s g H _ I h) λv s1 ⟨x,f,i,j,e⟩=>?_);obtain⟨c,rfl,e⟩:=e;cases j;refine dD ?_;cases c with
 |true=>exact l d s1 g f Q i e
 |false=>exact⟨.bl false,f,i,rfl,e⟩
def YN(k:PE X a ta)(l:PE X (.BoolOp .Or (b::bM) pos) tb):PE X (.BoolOp .Or (a::b::bM) pos) (q0v ta tb):=by
 intro d s g H Q I h;refine BoolOp_or (gG (k d s g H _ I h) λv s1 ⟨x,f,i,j,e⟩=>?_);obtain⟨c,rfl,e⟩:=e;cases j;refine dD ?_;cases c with
 |false=>exact l d s1 g f Q i e
 |true=>exact⟨.bl true,f,i,rfl,e⟩
def WY(f:PE X a ta):PE X (.UnaryOp .Not a pos) (YM ta):=by
 intro d s g H Q I h;refine UnaryOp_ (gG (f d s g H _ I h) λv s1 ⟨x,i,j,k,e⟩=>?_);obtain⟨c,rfl,e⟩:=e;cases k;exact not_of (dD ⟨.bl (!c),i,j,rfl,e⟩)
end
end L2
namespace L2
open PySem PySem.Spec PyProof.Rows
inductive KqL (K:af) (a:av) (xs:List V):Prop
 |mk (o:Obj) (its:Array ai) (n:Nat) (h0:K.lookup a=some o) (h1:o.cls=.type "list") (h2:o.dict=none) (h3:o.data=.seq its n) (h4:its.size<=sizeLine) (h5:eT xs its.toList):KqL K a xs
def sQ(K:af)(H:Hp)(a:av)(xs:List V):Prop:=
 Rd H a (.lst xs)\/KqL K a xs
inductive KqT (K:af) (a:av) (xs:List V):Prop
 |mk (o:Obj) (its:Array ai) (n:Nat) (h0:K.lookup a=some o) (h1:o.cls=.type "tuple") (h3:o.data=.seq its n) (h4:its.size<=sizeLine) (h5:eT xs its.toList):KqT K a xs
def mD(K:af)(H:Hp)(a:av)(xs:List V):Prop:=
 Rd H a (.tup xs)\/KqT K a xs
def q0w:ai->Option V
 |.none=>some .non
 |.bool b=>some (.bl b)
 |.int i _=>some (.int i)
 |.str x _=>some (.str x)
 |.bytes b _=>some (.byt b)
 |.float b _=>some (.flt b)
 |.ref a=>some (.ref a)
 |.type n=>some (.ty n)
 |_=>none
def eO.abs(r:eO x u):q0w u=some x:=by
 cases x with
 |non=>cases r;rfl
 |bl _=>cases r;rfl
 |int _=>obtain⟨t,rfl⟩:=r;rfl
 |str _=>obtain⟨t,rfl⟩:=r;rfl
 |byt _=>obtain⟨t,rfl⟩:=r;rfl
 |flt _=>obtain⟨t,rfl⟩:=r;rfl
 |ref _=>cases r;rfl
 |ty _=>cases r;rfl
def eO.inj(r:eO x u)(q:eO y u):x=y:=c6 (r.abs.symm.trans q.abs)
theorem eT.inj(h:eT xs us):∀{ys:List V},eT ys us->xs=ys:=by
 induction h with
 |nil=>intro ys k;cases k;rfl
 |cons r t a=>intro ys k;cases k with|cons b t'=>rw[r.inj b,a t']
def sQ.of{K:af}(h:H a=some (.lst xs)):sQ K H a xs:=.inl (.inl h)
def mD.of{K:af}(h:H a=some (.tup xs)):mD K H a xs:=.inl (.inl h)
inductive InL (h:bZ) (a:av) (xs:List V):Prop
 |mk (its:List ai) (r:eT xs its) (p:PlainL h a its.toArray) (z:xs.length<=sizeLine):InL h a xs
inductive InT (h:bZ) (a:av) (xs:List V):Prop
 |mk (its:List ai) (r:eT xs its) (p:IsTup h a its.toArray) (z:xs.length<=sizeLine):InT h a xs
inductive InM (h:bZ) (l:av) (xs:List V):Prop
 |mk (z:xs.length<=sizeLine) (its:List ai) (n:Nat) (r:eT xs its) (hl:xs.length=its.length) (e:h.get? l=some {cls:=.type "list",data:=.seq its.toArray n}):InM h l xs
def ck.list(I:ck X pins σ H s)(h:sQ X.K H a xs):InL s.heap a xs:=by
 rcases h with h|⟨o,b,n,hk,hc,hd,hs,hz,r⟩
 ·obtain⟨z,b,n,r,e⟩:=h.ok I.hok;exact⟨b,r,⟨_,n,e,rfl,rfl,rfl⟩,z⟩
 ·refine⟨b.toList,r,⟨o,n,I.kIn a o hk,hc,hd,by simpa using hs⟩,?_⟩;have e:=r.length;simp only[az] at e;omega
def ck.tuple(I:ck X pins σ H s)(h:mD X.K H a xs):InT s.heap a xs:=by
 rcases h with h|⟨o,b,n,hk,hc,hs,hz,r⟩
 ·obtain⟨z,b,r,p⟩:=h.ok I.hok;exact⟨b,r,p,z⟩
 ·refine⟨b.toList,r,⟨o,I.kIn a o hk,hc,n,by simpa using hs⟩,?_⟩;have e:=r.length;simp only[az] at e;omega
def ck.list_inj(I:ck X pins σ H s)(h:sQ X.K H a xs)(h':sQ X.K H a ys):xs=ys:=by
 obtain⟨b,r,⟨o,n,e,_,_,d⟩,_⟩:=I.list h;obtain⟨its',f,⟨o',i,c,_,_,d'⟩,_⟩:=I.list h';rw[e] at c;cases c;rw[d] at d';injection d' with g _;have:b=its':=by simpa using congrArg Array.toList g
 subst this;exact r.inj f
def ck.tuple_inj(I:ck X pins σ H s)(h:mD X.K H a xs)(h':mD X.K H a ys):xs=ys:=by
 obtain⟨b,r,⟨o,e,_,n,d⟩,_⟩:=I.tuple h;obtain⟨its',f,⟨o',c,_,i,d'⟩,_⟩:=I.tuple h';rw[e] at c;cases c;rw[d] at d';injection d' with g _;have:b=its':=by simpa using congrArg Array.toList g
 subst this;exact r.inj f
abbrev Cx.wish(X:Cx)(E:ai->au->Prop):Cx:={X with xe:=E}
abbrev Cx.nox(X:Cx):Cx:=X.wish λ_ _=>False
def Cx.Ok.wish{X:Cx}(ok:X.Ok)(E:ai->au->Prop):(X.wish E).Ok:=
 ⟨ok.mod,ok.kind,ok.glob,ok.blt,ok.above,ok.inj,ok.has,ok.cab,ok.hd,ok.frames,ok.stk,ok.exf,ok.bs,ok.bsz,ok.noex,ok.exfs,ok.funs,ok.frf⟩
def Cx.Ok.unwish{X:Cx}{E:ai->au->Prop}(ok:(X.wish E).Ok):X.Ok:=
 ⟨ok.mod,ok.kind,ok.glob,ok.blt,ok.above,ok.inj,ok.has,ok.cab,ok.hd,ok.frames,ok.stk,ok.exf,ok.bs,ok.bsz,ok.noex,ok.exfs,ok.funs,ok.frf⟩
theorem ck.wish(I:ck X pins σ H s)(E:ai->au->Prop):ck (X.wish E) pins σ H s:=⟨I.ok.wish E,I.os,I.bare,I.base,I.loc,I.cell,I.free,I.freeC,I.pin,I.hok,I.len⟩
theorem ck.unwish(I:ck (X.wish E) pins σ H s):ck X pins σ H s:=⟨I.ok.unwish,I.os,I.bare,I.base,I.loc,I.cell,I.free,I.freeC,I.pin,I.hok,I.len⟩
theorem SP.unwish(h:SP (X.wish E) pins D f s'):SP X pins D f s':=by
 cases f with
 |next=>obtain⟨σ',H',I,q⟩:=h;exact⟨σ',H',I.unwish,q⟩
 |brk=>obtain⟨σ',H',I,q⟩:=h;exact⟨σ',H',I.unwish,q⟩
 |cont=>obtain⟨σ',H',I,q⟩:=h;exact⟨σ',H',I.unwish,q⟩
 |ret u=>obtain⟨v,σ',H',I,r,q⟩:=h;exact⟨v,σ',H',I.unwish,r,q⟩
section
variable{X:Cx}{st:fg}{bM:List fg}{t u:TS}{e:bJ}{te:TE}{pos:Pos}
def YO:TS:=λD a H=>D.nx a H
def q0x(t u:TS):TS:=λD a H=>t {D with nx:=u D} a H
def TM:Lk X [] YO:=λ_ _ a H _ I h=>wF ⟨a,H,I,h⟩
def tM(b:PS X st t)(g:Lk X bM u):Lk X (st::bM) (q0x t u):=by
 intro a s d H D I h;refine wpAny_execs_cons (gG (b a s d H {D with nx:=u D} I h) λf s1 q=>?_);cases f with
 |next=>
  obtain⟨σ',H',c,q⟩:=q;exact g a s1 σ' H' D c q
 |ret v=>exact q
 |brk=>exact q
 |cont=>exact q
def TQ(b:PS X st t):Lk X [st] t:=by
 intro a s c H D I h;refine wpAny_execs_cons (gG (b a s c H D I h) λf s1 q=>?_);cases f with
 |next=>exact wF q
 |ret v=>exact q
 |brk=>exact q
 |cont=>exact q
def ck.quiet(I:ck X pins σ H s):interactive X.env=false:=by simp[interactive,I.ok.kind]
def YQ(te:TE):TS:=λD a H=>te a H λ_ b=>D.nx a b
def Aj(he:PE X e te)(hs:iN e none pos.line X.env=pure false:=by rfl):PS X (.Expr e pos) (YQ te):=by
 intro a s c H D I h;exact wpAny_Expr_any (gG (he a s c H _ I h) λv s1 b=>by obtain⟨x,d,g,i,f⟩:=b;exact⟨c,d,g,f⟩) I.quiet hs
def q0y(te:TE):TS:=λD a H=>te a H D.rt
def WZ(he:PE X e te):PS X (.Return (some e) pos) (q0y te):=by
 intro a s c H D I h;exact wpAny_Return_some (gG (he a s c H _ I h) λv s1 b=>by obtain⟨x,d,g,i,f⟩:=b;exact⟨x,c,d,g,i,f⟩)
def q0z(c:TT)(t u:TS):TS:=λD a H=>c a H λb d=>if b=true then t D a d else u D a d
def YR(m:PT X c tc)(l:Lk X a t)(n:Lk X b u):PS X (.If c a b pos) (q0z tc t u):=by
 intro f s g H D I h;refine wpAny_If (gG (m f s g H _ I h) λd s1 ⟨i,k,j⟩=>?_);cases d with
 |true=>exact l f s1 g i D k j
 |false=>exact n f s1 g i D k j
def W_:TS:=λ_ _ _=>False
def ux:Lk X sts W_:=λ_ _ _ _ _ _ h=>h.elim
end
abbrev TG:=V->St->Hp->(St->Hp->Prop)->Prop
abbrev TU:=List V->St->Hp->(St->Hp->Prop)->Prop
def PG(X:Cx)(a:bJ)(t:TG):Prop:=
 ∀(b:List (av×Obj)) (s:au) (c:St) (H:Hp) (v:V) (u:ai) (Q:St->Hp->Prop),ck X b c H s->eO v u->t v c H Q ->
  ay (aD X.prog X.w) X.A (vS a X.env u) (λ_ s'=>SN X b Q s') X.xe s
def VB(X:Cx)(ts:List bJ)(t:TU):Prop:=
 ∀(a:List (av×Obj)) (s:au) (c:St) (H:Hp) (d:List V) (b:List ai) (Q:St->Hp->Prop),ck X a c H s->eT d b->t d c H Q ->
  ay (aD X.prog X.w) X.A (MH ((jN ts X.env).map (·.2)) b) (λ_ s'=>SN X a Q s') X.xe s
def pJ(i:Nat):TG:=λv a H Q=>Q (a.set i (some v)) H
def cU(b:X.N.Nodup)(e:X.N[i]?=some x)(d:Vz X.env.scope x)(f:X.fn x=true\/X.env.scope.names.lookup x=some .local:=by first|exact .inl rfl|exact .inr rfl|assumption):PG X (.Name x pos) (pJ i):=by
 intro a s g H v u Q I r h;exact wpAny_assign_Name (wT I b e d r (λs' c=>⟨_,H,c,h⟩) f)
def aJ:TU:=λb a H Q=>b=[]/\Q a H
inductive Pf (t:TG) (u:TU) (vs:List V) (σ:St) (H:Hp) (Q:St->Hp->Prop):Prop
 |mk (v r:_) (h0:vs=v::r) (h1:t v σ H λσ' H'=>u r σ' H' Q):Pf t u vs σ H Q
def ag(t:TG)(u:TU):TU:=Pf t u
def Ak:VB X [] aJ:=by
 intro a s b H d c Q I r h;obtain⟨e,h⟩:=h;subst e;cases r;exact assignInOrder_nil ⟨b,H,I,h⟩
def oJ(c:PG X e t)(k:VB X es u)
  (hs:(jN (e::es) X.env).map (·.2)=vS e X.env::(jN es X.env).map (·.2):=by rfl):VB X (e::es) (ag t u):=by
 intro a s f H o n Q I r h;obtain⟨v,m,j,h⟩:=h;subst j;cases r with
 |cons r g=>
  rw[hs];refine AB (gG (c a s f H _ _ _ I r h) λ_ s1 ⟨b,d,l,i⟩=>?_);exact k a s1 b d _ _ Q l g i
inductive VC (K:af) (n:Nat) (t:TU) (v:V) (σ:St) (H:Hp) (Q:St->Hp->Prop):Prop
 |mk (a xs:_) (h0:v=.ref a) (h1:mD K H a xs) (h2:xs.length=n) (h3:t xs σ H Q):VC K n t v σ H Q
def X0(K:af)(n:Nat)(t:TU):TG:=VC K n t
def Ey(m:X.calm=true)(h:VB X es t)
  (w:(jN es X.env).length=n:=by rfl) (d:(jN es X.env).findIdx? (·.1)=none:=by rfl):PG X (.Tuple es k pos) (X0 X.K n t):=by
 intro c s g H v u Q I r f;obtain⟨a,xs,x,p,l,f⟩:=f;subst x;cases r;obtain⟨q,i,j,hz⟩:=I.tuple p;refine assign_Tuple_tuple (I.ok.hd m) j (by simp[w,<- l,i.length]) d λh' y=>?_;have z:ck X c g H {s with heap:=h'}:=I.kept (t':=s.toks) λb o e=>y b o (aM (aB e)) e;exact h c _ g H xs _ Q z (by simpa using i) f
def YS(b:TE)(g:TG):TS:=λD a H=>b a H λx c=>g x a c D.nx
def Ph(he:PE X e te)(l:PG X tg g)(hs:A9 [tg] e pos.line X.env=pure false:=by rfl)(i:Aa [tg] e X.env=pure none:=by rfl)
  (c:(jN [tg] X.env).map (·.2)=[vS tg X.env]:=by rfl):PS X (.Assign [tg] e pos) (YS te g):=by
 intro a s b H D I h;refine wpAny_Assign_stores (gG (he a s b H _ I h) λv s1 ⟨x,d,k,j,f⟩=>?_) hs i;rw[c];exact gG (l a s1 b d x v _ k j f) λ_ m q=>q
def Jx(b:X.N.Nodup)(j:X.N[i]?=some x)(m:Vz X.env.scope x)(he:PE X e te)(hs:iN e (some (.Name x pos')) pos.line X.env=pure false:=by rfl)(g:X.fn x=true\/X.env.scope.names.lookup x=some .local:=by first|exact .inl rfl|exact .inr rfl|assumption):
  PS X (.Assign [.Name x pos'] e pos) (YS te (pJ i)):=by
 intro a s d H D I h;refine wpAny_Assign_Name (gG (he a s d H _ I h) λv s1 ⟨y,c,n,l,f⟩=>?_) hs;exact wT n b j m l (λo k=>⟨_,c,k,f⟩) g
def q0A(i j:Nat)(c:TA):TS:=λD a H=>c a H λd b=>∃v w,d=[v,w]/\D.nx ((a.set i (some v)).set j (some w)) b
def X1{kt k2 pt2}(K:X.calm=true)(n:X.N.Nodup)(M:X.N[i]?=some x)(hj:X.N[j]?=some y)(k:i≠j)
  (E:X.env.scope.names.lookup x=some .local) (t:X.env.scope.names.lookup y=some .local) (L:PA X [a,b] ta)
  (O:Aa [.Tuple [.Name x px,.Name y py] kt pt] (.Tuple [a,b] k2 pt2) X.env=pure (some [x,y]))
  (hs:A9 [.Tuple [.Name x px,.Name y py] kt pt] (.Tuple [a,b] k2 pt2) pos.line X.env=pure false:=by rfl):
  PS X (.Assign [.Tuple [.Name x px,.Name y py] kt pt] (.Tuple [a,b] k2 pt2) pos) (q0A i j ta):=by
 intro c s z H D I h;rw[exec_Assign_arm];refine a9 (ik ?_);rw[hs];refine a9 (aa ?_);rw[if_neg ⋯];refine a9 (Tuple_ (gG (L _ c s z H _ I h) λY s1 ⟨vs,u,I1,S,l⟩=>?_));obtain⟨v,w,Q,l⟩:=l;subst Q;obtain⟨f,d,rfl,U,m⟩:∃f d,Y=[f,d]/\eO v f/\eO w d:=by
  cases S with
  |cons p q=>
   cases q with
   |cons T q'=>
    cases q';exact⟨_,_,rfl,p,T⟩
 refine bD ?_ (by show 2<=sizeLine;decide);have P:ck X c z u {s1 with heap:=s1.heap.push {cls:=.type "tuple",data:=.seq [f,d].toArray}}:=I1.kept (t':=s1.toks) λb o e=>ah _ e;rw[O];refine a9 (aa ?_);show ay (aD X.prog X.w) X.A (do rule "assign.swapped-stores";let items <- unpackItems (.ref s1.heap.objs.size) 2 none;MH [λv=>T9 X.env y v,λv=>T9 X.env x v] items.reverse;pure Flow.next) _ _ _;refine a9 (dk (a9 (unpackItems_tuple (items:=#[f,d]) (I.ok.hd K) (zL s1.heap _) λh' g=>?_)));have G:=P.kept (h':=h') (t':=s1.toks) λb o e=>g b o (aM (aB e)) e;show ay _ _ (MH [λv=>T9 X.env y v,λv=>T9 X.env x v] [d,f]>>=λ_=>pure Flow.next) _ _ _;refine a9 (AB (wpAny_bindName (wT G n hj (.inl t) m (λs2 I4=>?_) (.inr t))));refine AB (wpAny_bindName (wT I4 n M (.inl E) U (λs3 B=>assignInOrder_nil (aa ?_)) (.inr E)));rw[List.set_comm _ _ (dO k)] at B;exact⟨_,u,B,l⟩
def X2(c:TT)(tb:TS):TS:=λD a H=>∃W:Nat->St->Hp->Prop,(∃m,W m a H)/\∀m a H,W m a H ->
 c a H λb d=>if b=true then ∃N:St->Hp->Prop,(∀ σ' H',N σ' H'->∃e,e<m/\W e σ' H')/\tb {D with nx:=N,ct:=N,bk:=D.nx} a d else D.nx a d
def Pi(z:PassesOwn (aD X.prog X.w) X.A X.env X.xe)(K:PT X c tc)(M:Lk X body tb):PS X (.While c body [] pos) (X2 tc tb):=by
 intro d s L H D I h;obtain⟨W,⟨G,E⟩,g⟩:=h;refine wpAny_While (codeAny_whileLoop (λn s'=>∃ σ' H',ck X d σ' H' s'/\W n σ' H') ?_ G ⟨L,H,I,E⟩);rintro n s1 ⟨e,u,P,B⟩;refine jX z (gG (K d s1 e u _ P (g n e u B)) λb O ⟨y,x,j⟩=>?_);cases b with
 |true=>
  obtain⟨N,t,j⟩:=j;rw[if_pos rfl];refine jX z (gG (M d O e y _ x j) λf s3 k=>?_);cases f with
  |next=>
   obtain⟨a,i,l,p⟩:=k;obtain⟨m,o,q⟩:=t a i p;exact⟨m,o,a,i,l,q⟩
  |cont=>
   obtain⟨a,i,l,p⟩:=k;obtain⟨m,o,q⟩:=t a i p;exact⟨m,o,a,i,l,q⟩
  |brk=>exact k
  |ret v=>exact k
 |false=>
  rw[if_neg bd];exact wF ⟨e,y,x,j⟩
structure It where
 go:Nat->Hp->Prop
 yld:Nat->Hp->V->Hp->Prop
 stop:Nat->Hp->Prop
structure vX (X:Cx) (pins:List (av×Obj)) (H:Hp) (b:av):Prop where
 f0:H b=none
 f1:b≠X.env.locals
 f2:b∉X.fs
 f3:b∈X.ex\/X.s₀.heap.objs.size<=b
 f4:∀x c,X.env.cells.lookup x=some c->c≠b
 f5:∀p∈X.pn++pins,p.1≠b
def ck.fpOk(I:ck X pins σ H s)(a:s.heap.objs.size<=b)(f:H' b=none):vX X pins H' b:=by
 refine⟨f,eZ (aK I.lt a),I.nofs a,.inr (c8 I.sz a),λx c e z=>?_,λp d z=>?_⟩
 ·obtain⟨v,q⟩:=I.cell x c e;exact absurd (aK q.lt (by rw[z];exact a)) (cr _)
 ·exact absurd (aK (aB (I.pin p d).1) (by rw[z];exact a)) (cr _)
structure Ez (P:bj) (w:bF) (K:af) (tg:bJ) (J:It) (fp:List av) (it:av) (tn:Nat->bZ->Prop):Prop where
 mem:it∈fp
 obj:∀i h,tn i h->∀b∈fp,∃o,h.get? b=some o/\∀v,o.data≠.cell v
 keep:∀i h h',tn i h->(∀b∈fp,∀o,h.get? b=some o->h'.get? b=some o)->tn i h'
 item:∀(X:Cx),X.prog=P->X.w=w->X.K=K->X.calm=true->∀(i:Nat) (pins:List (av×Obj)) (s:au) (σ:St) (H:Hp) (E:ai->au->Prop),ck X pins σ H s->(∀b∈fp,vX X pins H b)->tn i s.heap->J.go i H ->
  ay (aD P w) X.A (ml (.ref it)) (λr s1=>∃u,r=some u /\
   ay (aD P w) X.A (jY tg (.ref it) u) (λ_ s2=>∃x H',ck X pins σ H' s2/\eO x u/\J.yld i H x H'/\tn (i+1) s2.heap/\∀b∈fp,H' b=none) E s1) E s
 done:∀(X:Cx),X.prog=P->X.w=w->X.K=K->X.calm=true->∀(i:Nat) (pins:List (av×Obj)) (s:au) (σ:St) (H:Hp) (E:ai->au->Prop),ck X pins σ H s->(∀b∈fp,vX X pins H b)->tn i s.heap->J.stop i H ->
  ay (aD P w) X.A (ml (.ref it)) (λr s1=>r=none/\ck X pins σ H s1) E s
 self:∀(A:cD) (i:Nat) (s:au) (Q:ai->au->Prop) (E:ai->au->Prop),tn i s.heap->Q (.ref it) s->ay (aD P w) A (qp (.ref it)) Q E s
abbrev TI:=St->Hp->(It->Hp->Prop)->Prop
inductive PIE (X:Cx) (pins:List (av×Obj)) (σ:St) (tg:bJ) (R:It->Hp->Prop) (itv:ai) (s2:au):Prop
 |mk (it:av) (fp:List av) (tn:Nat->bZ->Prop) (J:It) (H':Hp) (h0:itv=.ref it) (I:ck X pins σ H' s2) (T:Ez X.prog X.w X.K tg J fp it tn) (t0:tn 0 s2.heap) (f:∀b∈fp,vX X pins H' b) (q:R J H'):PIE X pins σ tg R itv s2
inductive FLI (X:Cx) (pins:List (av×Obj)) (tn:Nat->bZ->Prop) (fp:List av) (W:Nat->Nat->St->Hp->Prop) (n:Nat) (s':au):Prop
 |mk (i:Nat) (σ':St) (H':Hp) (I:ck X pins σ' H' s') (t:tn i s'.heap) (f:∀b∈fp,H' b=none) (q:W i n σ' H'):FLI X pins tn fp W n s'
def PI(X:Cx)(tg iter:bJ)(c:TI):Prop:=
 ∀(a:List (av×Obj)) (s:au) (b:St) (H:Hp) (R:It->Hp->Prop),ck X a b H s->c b H R ->
  ay (aD X.prog X.w) X.A (fO iter X.env) (λv s1=>ay (aD X.prog X.w) X.A (qp v) (PIE X a b tg R) X.xe s1) X.xe s
def Pj(ho:s.heap.get? it = some o)(b:o.cls = .type n)(d:o.data = .fields vs)
    (c:["enumerate","zip","dict_itemiterator","dict_reverseitemiterator","odict_iterator","itertools.zip_longest","itertools.pairwise"].contains n = false) (a:Q () s):ay M A (jY tg (.ref it) u) Q E s:= by
  unfold jY;cases tg <;> first
    | exact aa a
    | (cases u <;> first
        | exact aa a
        | (refine a9 (AC ho ?_)
           rw[b,d];show ay M A (if(["enumerate","zip","dict_itemiterator","dict_reverseitemiterator","odict_iterator","itertools.zip_longest","itertools.pairwise"].contains n && vs[0]? == some (bC _)) = true then _ else _) Q E s;rw[if_neg (by intro h; rw[c,D8] at h; cases h)];exact aa a))
def Itl(K:af)(a:av):It:=
 ⟨λi H=>∃xs x,sQ K H a xs/\xs[i]?=some x,λi H x H'=>H'=H/\∀xs,sQ K H a xs->xs[i]?=some x,λi H=>∃xs,sQ K H a xs/\xs.length<=i⟩
def Itt(K:af)(a:av):It:=
 ⟨λi H=>∃xs x,mD K H a xs/\xs[i]?=some x,λi H x H'=>H'=H/\∀xs,mD K H a xs->xs[i]?=some x,λi H=>∃xs,mD K H a xs/\xs.length<=i⟩
def Itr(lo:Int)(n:Nat):It:=⟨λi _=>i<n,λi H x H'=>H'=H/\x=.int (lo+i),λi _=>n<=i⟩
def N6{P:bj}{w:bF}{K:af}{tg:bJ}(a it:av):Ez P w K tg (Itl K a) [it] it (λi h=>h.IsListIter it a i) where
 mem:=by simp
 obj:=λi h st b g=>by
  have e:b=it:=by simpa using g
  subst e;obtain⟨o,e,c,d⟩:=st;exact⟨o,e,λv z=>by rw[d] at z;cases z⟩
 keep:=λi h h' st k=>st.at λo e=>k it (by simp) o e
 item:=by
  intro X B t n S i f s T H E I m st O;subst B t n;obtain⟨xs,x,l,Q⟩:=O;obtain⟨y,M,p,hz⟩:=I.list l;obtain⟨u,Y,ru⟩:=M.get Q;obtain⟨N,L,f2,G,q,A⟩:=m it (by simp);refine wpAny_pyNext_list_item st p.isList (x:=u) (by simpa using Y) λh' j sb=>?_;have I1:ck X f T H {s with heap:=h'}:=I.turned (t':=s.toks) (λb o g e=>(sb.2 b g).trans e) N L G q A;obtain⟨o,e,c,d⟩:=id j;exact⟨u,rfl,Pj (s:={s with heap:=h'}) e c d ⋯ ⟨x,H,I1,ru,⟨rfl,λys U=>by rw[I.list_inj U l];exact Q⟩,j,λb g=>(m b g).1⟩⟩
 done:=by
  intro X B t n S i f s T H E I m st O;subst B t n;obtain⟨xs,l,Q⟩:=O;obtain⟨y,M,p,hz⟩:=I.list l;obtain⟨N,L,f2,G,q,A⟩:=m it (by simp);have hl:=M.length;exact wpAny_pyNext_list_end (I.ok.hd S) st p.isList (by simp;omega) λh' eb=>⟨rfl,I.turned (t':=s.toks) (λb o g e=>eb b o g e) N L G q A⟩
 self:=λ_ _ _ _ _ st h=>wpAny_pyIter_listiter st h
def Jy{P:bj}{w:bF}{K:af}{tg:bJ}(a it:av):Ez P w K tg (Itt K a) [it] it (λi h=>h.IsTupleIter it a i) where
 mem:=by simp
 obj:=λi h st b j=>by
  have e:b=it:=by simpa using j
  subst e;obtain⟨o,e,c,d⟩:=st;exact⟨o,e,λv z=>by rw[d] at z;cases z⟩
 keep:=λi h h' st k=>st.at λo e=>k it (by simp) o e
 item:=by
  intro X B y q S i f s T H E I n st O;subst B y q;obtain⟨xs,x,m,Q⟩:=O;obtain⟨g,M,p,hz⟩:=I.tuple m;obtain⟨u,Y,ru⟩:=M.get Q;obtain⟨N,L,f2,G,t,A⟩:=n it (by simp);refine wpAny_pyNext_tuple_item st (show s.heap.IsTuple a g.toArray from p) (x:=u) (by simpa using Y) λh' l sb=>?_;have I1:ck X f T H {s with heap:=h'}:=I.turned (t':=s.toks) (λb o j e=>(sb.2 b j).trans e) N L G t A;obtain⟨o,e,c,d⟩:=id l;exact⟨u,rfl,Pj (s:={s with heap:=h'}) e c d ⋯ ⟨x,H,I1,ru,⟨rfl,λys U=>by rw[I.tuple_inj U m];exact Q⟩,l,λb j=>(n b j).1⟩⟩
 done:=by
  intro X B y q S i f s T H E I n st O;subst B y q;obtain⟨xs,m,Q⟩:=O;obtain⟨g,M,p,hz⟩:=I.tuple m;obtain⟨N,L,f2,G,t,A⟩:=n it (by simp);have hl:=M.length;exact wpAny_pyNext_tuple_end (I.ok.hd S) st (show s.heap.IsTuple a g.toArray from p) (by simp;omega) λh' eb=>⟨rfl,I.turned (t':=s.toks) (λb o j e=>eb b o j e) N L G t A⟩
 self:=λ_ _ _ _ _ st h=>wpAny_pyIter_tupleiter st h
def Jz{P:bj}{w:bF}{K:af}{tg:bJ}(it:av)(lo:Int)(n:Nat):Ez P w K tg (Itr lo n) [it] it (λi h=>IsRangeIter h it (lo+(i:Nat)*1) ((n:Int)-(i:Nat)) 1) where
 mem:=by simp
 obj:=λi h st b c=>by
  have e:b=it:=by simpa using c
  subst e;exact⟨_,st,λv z=>by
   have N:Data.fields _=Data.cell v:=z;cases N⟩
 keep:=λi h h' st k=>k it (by simp) _ st
 item:=by
  intro X q m g l i a s G H E I f st A;subst q m g;obtain⟨y,x,M,u,j,p⟩:=f it (by simp);have W:=Walks.range (prog:=X.prog) (w:=X.w) (I.ok.hd l) it lo 1 n;refine W.item i s _ _ A st λv h' B Q d L=>?_;obtain⟨t,rfl⟩:=Q;have S:ck X a G H {s with heap:=h',toks:=B}:=I.turned (λb o c e=>L b o (by simpa using c) e) y x u j p;refine⟨_,rfl,Pj (s:={s with heap:=h',toks:=B}) (n:="range_iterator") d rfl rfl ⋯ ⟨.int (lo+i),H,S,⟨t,?_⟩,⟨rfl,rfl⟩,d,λb c=>(f b c).1⟩⟩;rw[Int.mul_one]
 done:=by
  intro X q m g l i a s G H E I f st A;subst q m g;obtain⟨y,x,M,u,j,p⟩:=f it (by simp);exact wpAny_pyNext_range_end (I.ok.hd l) st (by have:n<=i:=A;omega) λh' O=>⟨rfl,I.turned (t':=s.toks) (λb o c e=>O b o c e) y x u j p⟩
 self:=λ_ _ _ _ _ st h=>wpAny_pyIter_rangeiter st h
end L2
namespace L2
open PySem PySem.Spec PyProof.Rows
def YT(K:af)(tl:TE):TI:=λc H R=>tl c H λx b=>∃a,x=.ref a/\(∃xs,sQ K b a xs)/\R (Itl K a) b
def q0B(K:af)(tl:TE):TI:=λc H R=>tl c H λx b=>∃a,x=.ref a/\(∃xs,mD K b a xs)/\R (Itt K a) b
def wU{l:bJ}{tl:TE}(i:PE X l tl):PI X tg l (YT X.K tl):=by
 intro d s k H R I h;refine gG (i d s k H _ I h) λv s1 c=>?_;obtain⟨x,g,f,u,m⟩:=c;obtain⟨a,e,⟨xs,j⟩,q⟩:=m;subst e;cases u;obtain⟨n,w,p,hz⟩:=f.list j;refine s_ p.isList ?_;refine⟨s1.heap.objs.size,[s1.heap.objs.size],_,_,g,rfl,f.kept (t':=s1.toks) λb o e=>ah _ e,N6 a _,⟨_,aE _ rfl,rfl,rfl⟩,λb t=>?_,q⟩;have e:b=s1.heap.objs.size:=by simpa using t
 subst e;exact f.fpOk (aA _) (f.hok.fresh (aA _))
def Pk{l:bJ}{tl:TE}(j:PE X l tl):PI X tg l (q0B X.K tl):=by
 intro c s m H R I h;refine gG (j c s m H _ I h) λv s1 d=>?_;obtain⟨x,i,f,u,n⟩:=d;obtain⟨a,e,⟨xs,k⟩,q⟩:=n;subst e;cases u;obtain⟨g,w,p,hz⟩:=f.tuple k;refine iD (show s1.heap.IsTuple a g.toArray from p) ?_;refine⟨s1.heap.objs.size,[s1.heap.objs.size],_,_,i,rfl,f.kept (t':=s1.toks) λb o e=>ah _ e,Jy a _,⟨_,aE _ rfl,rfl,rfl⟩,λb t=>?_,q⟩;have e:b=s1.heap.objs.size:=by simpa using t
 subst e;exact f.fpOk (aA _) (f.hok.fresh (aA _))
def Pl{c:List (av×Obj)}{d:St}{H:Hp}{s:au}{R:It->Hp->Prop}{E:ai->au->Prop}{lo a:Int}{t u v:Tok}{g:Nat}(I:ck X c d H s)(h:-(2 ^ 62)<=lo)(j:lo<2 ^ 62)(k:-(2 ^ 62)<=a)(l:a<2 ^ 62)
  (q:R (Itr lo (a-lo).toNat) H):ay (aD X.prog X.w) X.A (qp (.ref s.heap.objs.size)) (PIE X c d tg R) E {s with heap:=s.heap.push {cls:=.type "range",data:=.fields #[.int lo t,.int a u,.int 1 v]},toks:=g}:=by
 refine wpAny_pyIter_range (IsRange.new ..) (small_one h j k l) ?_;have f:ck X c d H {s with heap:=s.heap.push {cls:=.type "range",data:=.fields #[.int lo t,.int a u,.int 1 v]},toks:=g}:=I.kept λb o e=>ah _ e;refine⟨(s.heap.push {cls:=.type "range",data:=.fields #[.int lo t,.int a u,.int 1 v]}).objs.size,[(s.heap.push {cls:=.type "range",data:=.fields #[.int lo t,.int a u,.int 1 v]}).objs.size],_,_,H,rfl,
  f.kept (t':=g) λb o e=>ah _ e,Jz _ lo (a-lo).toNat,?_,λb m=>?_,q⟩
 ·have i:lo+((0:Nat):Int)*1=lo:=by simp
  have n:(((a-lo).toNat:Nat):Int)-((0:Nat):Int)=Builtin.Range.rangeSize lo a 1:=by rw[rangeSize_one];split<;>omega
  show IsRangeIter _ _ (lo+((0:Nat):Int)*1) ((((a-lo).toNat:Nat):Int)-((0:Nat):Int)) 1;rw[i,n];exact aE _ rfl
 ·have e:b=(s.heap.push {cls:=.type "range",data:=.fields #[.int lo t,.int a u,.int 1 v]}).objs.size:=by simpa using m
  subst e;exact f.fpOk (aA _) (f.hok.fresh (aA _))
def YU(c:TA):TI:=λa H R=>c a H λd b=>∃j:Int,d=[.int j]/\-(2 ^ 62)<=j/\j<2 ^ 62/\R (Itr 0 j.toNat) b
def N7{a:bJ}{f:TA}{p c:Pos}(u:Gl X "range")(l:X.mg "range"=none)(g:PA X [a] f)(hs:a_ [a] X.env=[(false,fO a X.env)]:=by rfl):PI X tg (.Call (.Name "range" p) [a] [] c) (YU f):=by
 intro b s i H R I h;refine Call_ (yo I u l boot_range (iV (gG (g c b s i H _ I h) λw s1 ⟨x,v,o,m,d⟩=>?_) hs rfl));obtain⟨j,e,d,n,q⟩:=d;subst e;cases m with
 |cons r k=>
  cases k;obtain⟨t,rfl⟩:=r;exact call_range_1 (Pl o ∅ ∅ d n (by simpa using q))
inductive TFI (g:TG) (tb:TS) (D:Gh) (σ:St) (J:It) (H1:Hp):Prop
 |mk (W:Nat->Nat->St->Hp->Prop) (w0:∃m,W 0 m σ H1) (turn:∀i m σ H,W i m σ H ->
 (J.stop i H/\D.nx σ H)\/(J.go i H/\∃N:St->Hp->Prop,(∀ σ' H',N σ' H'->∃m',m'<m/\W (i+1) m' σ' H')/\∀x H',J.yld i H x H'->g x σ H' λσ2 H2=>tb {D with nx:=N,ct:=N,bk:=D.nx} σ2 H2)):TFI g tb D σ J H1
def q0C(b:TI)(g:TG)(tb:TS):TS:=λD a H=>b a H (TFI g tb D a)
def tN(a:List av)(h:bZ):List (av×Obj):=a.filterMap λb=>(h.get? b).map λo=>(b,o)
def jQ(a:b∈fp)(e:h.get? b=some o):(b,o)∈tN fp h:=List.mem_filterMap.mpr ⟨b,a,by rw[e];rfl⟩
def yp(c:p∈tN fp h):p.1∈fp/\h.get? p.1=some p.2:=by
 obtain⟨b,d,e⟩:=List.mem_filterMap.mp c;cases q:h.get? b with
 |none=>rw[q] at e;cases e
 |some o=>
  rw[q] at e;have a:(b,o)=p:=c6 e;subst a;exact⟨d,q⟩
def ck.pinned(I:ck X pins σ H s)(i:∀b∈fp,vX X pins H b)(ho:∀b∈fp,∃o,s.heap.get? b=some o/\∀v,o.data≠.cell v):ck X (pins++tN fp s.heap) σ H s:=
 I.pins_of λp f=>(List.mem_append.mp f).elim (λz=>I.pin p (aF _ z)) λz=>by
  obtain⟨c,e⟩:=yp z;obtain⟨j,g,h,_⟩:=i p.1 c;obtain⟨o,a,d⟩:=ho p.1 c;rw[e] at a;cases a;exact⟨e,j,g,h,d⟩
def ck.unpinned(I:ck X (pins++pl) σ H s):ck X pins σ H s:=I.pins_of λp a=>I.pin p (aF _ (bU _ a))
def Pm(O:PassesOwn (aD X.prog X.w) X.A X.env X.xe)(hc:X.calm=true)(hi:PI X tg iter wi)(hg:PG X tg g)(j:Lk X body tb)
  (hs:∀x,bW iter X.env x=pure x:=by intro _;rfl):PS X (.For tg iter body [] pos) (q0C wi g tb):=by
 intro c s σ H D I h
 refine wpAny_For (gG (hi c s σ H _ I h) λv s1 h1=>gG h1 λa1 s2 h2=>?_) hs
 obtain⟨it,E,tn,J,H2,e,I2,T,Y,B,W,⟨m0,w0⟩,L⟩:=h2
 subst e
 have t:∀{H':Hp},(∀b∈E,H' b=none)->∀b∈E,vX X c H' b:=λhn b j=>⟨hn b j,(B b j).f1,(B b j).f2,(B b j).f3,(B b j).f4,(B b j).f5⟩
 refine codeAny_forLoop_any (FLI X c tn E W) ?_ m0 ⟨0,σ,H2,I2,Y,λb j=>(B b j).1,w0⟩
 rintro n s3 ⟨i,p,Q,I3,P,M,w3⟩
 rcases L i n p Q w3 with⟨K,qn⟩|⟨go,N,hN,step⟩
 ·refine jX O (gG (T.done X rfl rfl rfl hc i c s3 p Q X.xe I3 (t M) P K) λr s4 ⟨hr,I4⟩=>?_)
  subst hr
  exact wF ⟨p,Q,I4,qn⟩
 ·refine jX O (gG (T.item X rfl rfl rfl hc i c s3 p Q X.xe I3 (t M) P go) λr s4 ⟨u,hr,h4⟩=>?_)
  subst hr
  refine jX O (gG h4 λ_ s5 ⟨x,H5,I5,r5,y5,z,a0⟩=>?_)
  have S:=I5.pinned (t a0) (T.obj _ _ z)
  refine jX O (gG (hg _ s5 p H5 x u _ S r5 (step x H5 y5)) λ_ s6 ⟨U,H6,I6,q6⟩=>?_)
  refine jX O (gG (j _ s6 U H6 _ I6 q6) λf s7 y=>?_)
  have l:∀{a:St}{q:Hp},ck X (c++tN E s5.heap) a q s7->N a q->∃m,m<n/\FLI X c tn E W m s7:=λ{a q} k G=>by
   obtain⟨m',hm,w7⟩:=hN a q G
   refine⟨m',hm,i+1,a,q,k.unpinned,T.keep _ _ _ z λb j o e=>(k.pin (b,o) (aF _ (aF _ (jQ j e)))).1,λb j=>?_,w7⟩
   obtain⟨o,e,d⟩:=T.obj _ _ z b j
   exact(k.pin (b,o) (aF _ (aF _ (jQ j e)))).2.1
  cases f with
  |next=>obtain⟨a,q,k,G⟩:=y;exact l k G
  |cont=>obtain⟨a,q,k,G⟩:=y;exact l k G
  |brk=>obtain⟨a,q,k,y⟩:=y;exact⟨a,q,k.unpinned,y⟩
  |ret v=>obtain⟨x7,a,q,k,r7,y⟩:=y;exact⟨x7,a,q,k.unpinned,r7,y⟩
end L2
namespace L2
open PySem PySem.Spec PyProof.Rows
abbrev R2:=V->V->Hp->VK->Prop
def tO(X:Cx)(f:ai->ai->Sem ai)(r:R2):Prop:=
 ∀(a:List (av×Obj)) (s:au) (b:St) (H:Hp) (x y:V) (v u:ai) (Q:VK),ck X a b H s->eO x v->eO y u->r x y H Q ->
  ay (aD X.prog X.w) X.A (f v u) (EP X a b Q) X.xe s
def UnR(X:Cx)(f:ai->Sem ai)(r:V->Hp->VK->Prop):Prop:=
 ∀(a:List (av×Obj)) (s:au) (b:St) (H:Hp) (x:V) (v:ai) (Q:VK),ck X a b H s->eO x v->r x H Q ->
  ay (aD X.prog X.w) X.A (f v) (EP X a b Q) X.xe s
def kL(X:Cx)(f:ai)(r:List V->Hp->VK->Prop):Prop:=
 ∀(a:List (av×Obj)) (s:au) (c:St) (H:Hp) (xs:List V) (b:List ai) (Q:VK),ck X a c H s->eT xs b->r xs H Q ->
  ay (aD X.prog X.w) X.A (call f b) (EP X a c Q) X.xe s
def q0D(X:Cx)(r:V->Hp->(Bool->Hp->Prop)->Prop):Prop:=
 ∀(a:List (av×Obj)) (s:au) (b:St) (H:Hp) (x:V) (v:ai) (Q:Bool->Hp->Prop),ck X a b H s->eO x v->r x H Q ->
  ay (aD X.prog X.w) X.A (truthy v) (TP X a b Q) X.xe s
def YV(r:R2)(d tb:TE):TE:=λa H Q=>d a H λx c=>tb a c λy b=>r x y b Q
def tUn(r:V->Hp->VK->Prop)(c:TE):TE:=λa H Q=>c a H λx b=>r x b Q
inductive rII (C:Int->Int->Prop) (g:Int->Int->V) (x:V) (y:V) (H:Hp) (Q:VK):Prop
 |mk (i j:_) (h0:x=.int i) (h1:y=.int j) (h2:C i j) (h3:Q (g i j) H):rII C g x y H Q
def rI(C:Int->Int->Prop)(g:Int->Int->V):R2:=rII C g
inductive YW (g:Int->Int->V) (x:V) (y:V) (H:Hp) (Q:VK):Prop
 |mk (i j:_) (h0:x=.int i) (h1:y=.int j) (h2:Q (g i j) H):YW g x y H Q
def X3(g:Int->Int->V):R2:=YW g
inductive rUI (g:Int->V) (x:V) (H:Hp) (Q:VK):Prop
 |mk (i:_) (h0:x=.int i) (h1:Q (g i) H):rUI g x H Q
def rU(g:Int->V):V->Hp->VK->Prop:=rUI g
def X4(n:PE X a ta)(q:PE X b tb){c:List (av×Obj)}{s:au}{d:St}{H:Hp}{R:V->V->Hp->Prop}(I:ck X c d H s)
  (h:ta d H λx m=>tb d m λy e=>R x y e) {Q:ai->au->Prop}{f:ai->ai->Sem ai}
  (p:∀v u l x y e,ck X c d e l->eO x v->eO y u->R x y e->ay (aD X.prog X.w) X.A (f v u) Q X.xe l):
  ay (aD X.prog X.w) X.A (fO a X.env) (λv g=>ay (aD X.prog X.w) X.A (fO b X.env) (λu j=>ay (aD X.prog X.w) X.A (f v u) Q X.xe j) X.xe g) X.xe s:=by
 refine gG (n c s d H _ I h) λv s1 i=>?_;obtain⟨x,m,G,z,o⟩:=i;refine gG (q c s1 d m _ G o) λu l k=>?_;obtain⟨y,e,t,E,B⟩:=k;exact p v u l x y e t z E B
def VD{op:Operator}{r:R2}(ho:tO X (iE op) r)(e:PE X a ta)(g:PE X b tb):PE X (.BinOp a op b pos) (YV r ta tb):=by
 intro c s f H Q I h;exact wpAny_BinOp (X4 e g I h λv u l x y j i d k q=>ho c l f j x y v u Q i d k q)
def YX(ho:UnR X (unaryOp op) r)(e:PE X a ta):PE X (.UnaryOp op a pos) (tUn r ta):=by
 intro b s d H Q I h;exact UnaryOp_ (gG (e b s d H _ I h) λv s1 c=>by obtain⟨x,f,i,j,g⟩:=c;exact ho b s1 d f x v Q i j g)
def opI{f:ai->ai->Sem ai}{C:Int->Int->Prop}{g:Int->Int->Int}
  (a:∀(i j:Int) (t u:Tok) (s:au) (Q:ai->au->Prop) (E:ai->au->Prop),C i j->Q (.int (g i j) s.toks) {s with toks:=s.toks+1}->ay (aD X.prog X.w) X.A (f (.int i t) (.int j u)) Q E s):
  tO X f (rI C λi j=>.int (g i j)):=by
 intro b s k H x y v u Q I c e h;obtain⟨i,j,rfl,rfl,d,q⟩:=h;obtain⟨t,rfl⟩:=c;obtain⟨t',rfl⟩:=e;exact a i j t t' s _ _ d ⟨.int (g i j),H,I.tok _,⟨_,rfl⟩,q⟩
def q0E{f:ai->ai->Sem ai}{g:Int->Int->Int}
  (a:∀(i j:Int) (t u:Tok) (s:au) (Q:ai->au->Prop) (E:ai->au->Prop),Q (.int (g i j) s.toks) {s with toks:=s.toks+1}->ay (aD X.prog X.w) X.A (f (.int i t) (.int j u)) Q E s):
  tO X f (X3 λi j=>.int (g i j)):=by
 intro b s e H x y v u Q I c d h;obtain⟨i,j,rfl,rfl,q⟩:=h;obtain⟨t,rfl⟩:=c;obtain⟨t',rfl⟩:=d;exact a i j t t' s _ _ ⟨.int (g i j),H,I.tok _,⟨_,rfl⟩,q⟩
def X5{f:ai->ai->Sem ai}{g:Int->Int->Bool}
  (a:∀(i j:Int) (t u:Tok) (s:au) (Q:ai->au->Prop) (E:ai->au->Prop),Q (.bool (g i j)) s->ay (aD X.prog X.w) X.A (f (.int i t) (.int j u)) Q E s):
  tO X f (X3 λi j=>.bl (g i j)):=by
 intro b s e H x y v u Q I c d h;obtain⟨i,j,rfl,rfl,q⟩:=h;obtain⟨t,rfl⟩:=c;obtain⟨t',rfl⟩:=d;exact a i j t t' s _ _ ⟨.bl (g i j),H,I,rfl,q⟩
def q0F(i j:Int):Prop:=0<j/\j<1073741824
def X6(i j:Int):Prop:=(-(2 ^ 64)<i/\i<2 ^ 64)\/(-(2 ^ 64)<j/\j<2 ^ 64)
def X6.ok(h:X6 i j):IntMulOk i j:=by
 rcases h with⟨a,b⟩|⟨a,b⟩
 ·exact .of_left (intBits_le_64 a b)
 ·exact .of_right (intBits_le_64 a b)
def X7:tO X (iE .Add) (X3 λi j=>.int (i+j)):=q0E λ_ _ _ _ _ _ _ q=>add_int q
def X8:tO X (iE .Mult) (rI X6 λi j=>.int (i*j)):=opI λ_ _ _ _ _ _ _ a q=>mul_int q a.ok
def TV:tO X (iE .FloorDiv) (rI q0F λi j=>.int (i / j)):=opI λi j _ _ _ _ _ a q=>by
 have b:(0:Int)<j:=a.1;have c:j<1073741824:=a.2;exact floordiv_int ∅ (by rw[Int.fdiv_eq_ediv_of_nonneg i ∅];exact q) (.inl (PyProof.noPylong_small ∅))
def X9:tO X (iE .Mod) (rI (λ_ j=>0<j) λi j=>.int (i % j)):=opI λi j _ _ _ _ _ a q=>by
 have b:(0:Int)<j:=a;exact mod_int' ∅ (by rw[Int.fmod_eq_emod_of_nonneg i ∅];exact q)
def unI{f:ai->Sem ai}{g:Int->Int}
  (a:∀(i:Int) (t:Tok) (s:au) (Q:ai->au->Prop) (E:ai->au->Prop),Q (.int (g i) s.toks) {s with toks:=s.toks+1}->ay (aD X.prog X.w) X.A (f (.int i t)) Q E s):
  UnR X f (rU λi=>.int (g i)):=by
 intro b s d H x v Q I c h;obtain⟨i,rfl,q⟩:=h;obtain⟨t,rfl⟩:=c;exact a i t s _ _ ⟨.int (g i),H,I.tok _,⟨_,rfl⟩,q⟩
def Xa:UnR X (unaryOp .USub) (rU λi=>.int (-i)):=unI λ_ _ _ _ _ q=>neg_int q
def Pn(I:ck X pins σ H s)(q:Q (.bl k) H)(e:k=k'):EP X pins σ Q (.bool k') s:=by
 subst e;exact⟨.bl k,H,I,rfl,q⟩
def YY:tO X (cj .Lt) (X3 λi j=>.bl (decide (i<j))):=X5 λ_ _ _ _ _ _ _ q=>lt_int q
def YZ:tO X (cj .LtE) (X3 λi j=>.bl (decide (i<=j))):=X5 λ_ _ _ _ _ _ _ q=>le_int q
def Y_:tO X (cj .Gt) (X3 λi j=>.bl (decide (j<i))):=X5 λ_ _ _ _ _ _ _ q=>gt_int q
def N8:tO X (cj .Lt) (λx y H Q=>∃i j,x=.str i/\y=.str j/\Q (.bl (decide (i.cps.toList<j.cps.toList))) H):=by
 intro a s d H x y v u Q I b c h;obtain⟨i,j,rfl,rfl,q⟩:=h;obtain⟨t,rfl⟩:=b;obtain⟨t',rfl⟩:=c;exact lt_str (Pn I q rfl)
def Po(b:bJ)(h:op≠.In:=by decide)(a:op≠.NotIn:=by decide):iU op b=false:=by
 have d:(op==CmpOp.In)=false:=by cases op<;>first|rfl|exact absurd rfl h
 have c:(op==CmpOp.NotIn)=false:=by cases op<;>first|rfl|exact absurd rfl a
 cases b<;>simp[iU,d,c]
def TW(ho:tO X (cj op) r)(e:PE X a ta)(g:PE X b tb)(i:iU op b=false):PE X (.Compare a [op] [b] pos) (YV r ta tb):=by
 intro c s f H Q I h;exact wpAny_Compare1 (X4 e g I h λv u m x y k j d l q=>ho c m f k x y v u Q j d l q) i
def VE(t:TE):TT:=λa H Q=>t a H λx H'=>∃k,x=.bl k/\Q k H'
def TX(ho:tO X (cj op) r)(j:PE X a ta)(m:PE X b tb)(o:iU op b=false):PT X (.Compare a [op] [b] pos) (VE (YV r ta tb)):=by
 intro d s f H Q I h;refine SM (gG (j d s f H _ I h) λv s1 ⟨x,g,G,t,l⟩=>gG (m d s1 f g _ G l) λu w ⟨y,q,p,B,A⟩=>
  gG (ho d w f q x y v u _ p t B A) λc s3 ⟨z,n,i,E,k,e,K⟩=>?_) o
 subst e;cases E;exact dD ⟨n,i,K⟩
def JA(r g:R2)(e tb tc:TE):TE:=λa H Q=>e a H λx d=>tb a d λy c=>r x y c λz b=>∃k,z=.bl k /\
 (if k=true then tc a b λh f=>g y h f Q else Q (.bl false) b)
def Pp(ho:tO X (cj op) r)(j:tO X (cj op') r')(w:PE X a ta)(E:PE X b tb)(t:PE X c tc)
  (K:OH [op,op'] [b,c]=false:=by with_unfolding_all rfl):PE X (.Compare a [op,op'] [b,c] pos) (JA r r' ta tb tc):=by
 intro f s i H Q I h;refine Compare_chain (gG (w f s i H _ I h) λv s1 ⟨x,p,I1,O,A⟩=>chain_link (gG (E f s1 i p _ I1 A) λu P ⟨y,M,L,n,S⟩=>
  gG (ho f P i M x y v u _ L O n S) λd s3 ⟨z,m,l,U,k,e,o⟩=>?_)) K
 subst e;cases U;refine dD ?_;cases k with
 |false=>exact ite_ff ⟨.bl false,m,l,rfl,o⟩
 |true=>exact ite_tt (chain_last (gG (t f s3 i m _ l o) λY s4 g=>by obtain⟨N,q,T,G,B⟩:=g;exact j f s4 i q y N u Y Q T n G B))
def Pq(ho:tO X (cj op) r)(i:tO X (cj op') r')(t:PE X a ta)(B:PE X b tb)(q:PE X c tc)
  (K:OH [op,op'] [b,c]=false:=by with_unfolding_all rfl):PT X (.Compare a [op,op'] [b,c] pos) (VE (JA r r' ta tb tc)):=by
 intro f s g H Q I h;refine isTrue_chain (gG (t f s g H _ I h) λv s1 ⟨x,o,I1,P,w⟩=>test_link (gG (B f s1 g o _ I1 w) λu S ⟨y,M,L,m,T⟩=>
  gG (ho f S g M x y v u _ L P m T) λd s3 ⟨z,l,j,r3,k,e,n⟩=>?_)) K
 subst e;cases r3;refine dD ?_;cases k with
 |false=>
  obtain⟨k',G,q'⟩:=n;cases G;exact ite_ff ⟨l,j,q'⟩
 |true=>
  refine ite_tt (test_last (gG (q f s3 g l _ j n) λw' s4 ⟨N,p,Y,E,A⟩=>gG (i f s4 g p y N u w' _ Y m E A) λd' s5 ⟨z2,O,U,r5,k2,e2,q5⟩=>?_));subst e2;cases r5;exact dD ⟨O,U,q5⟩
def Z0(K:af)(x:V)(H:Hp)(k:Bool):Prop:=
 match x with
 |.non=>k=false
 |.bl b=>k=b
 |.int i=>k=(i != 0)
 |.str y=>y.length<=sizeLine/\k=((y.length:Int) != 0)
 |.byt y=>y.size<=sizeLine/\k=((y.size:Int) != 0)
 |.ref p=>(∃xs,sQ K H p xs/\k=!xs.isEmpty)\/(∃xs,mD K H p xs/\k=!xs.isEmpty)\/∃a,H p=some (.dK a)/\k=!a.isEmpty
 |_=>False
def JC{b:Type}{a:List (b×V)}{c:List (b×ai)}(r:KV a c):(!c.isEmpty)=!a.isEmpty:=by
 cases r<;>rfl
def AM(r:eT xs its):(!its.toArray.isEmpty)=!xs.isEmpty:=by
 cases r<;>simp
def yq:(sizeLine:Nat)<2 ^ 63:=by rw[il];decide
def Xb:q0D X (λx H Q=>∃k,Z0 X.K x H k/\Q k H):=by
 intro n s A H x v Q I f h;obtain⟨k,e,q⟩:=h;have z:=yq;have hs:sizeLine=16777216:=il;cases x with
 |non=>
  cases f;have a:k=false:=e;subst a;exact truthy_none ⟨H,I,q⟩
 |bl b=>
  cases f;have a:k=b:=e;subst a;exact dD ⟨H,I,q⟩
 |int i=>
  obtain⟨t,rfl⟩:=f;have a:k=(i != 0):=e;subst a;exact PySem.P.truthy_int ⟨H,I,q⟩
 |str y=>
  obtain⟨t,rfl⟩:=f;obtain⟨o,a⟩:y.length<=sizeLine/\k=((y.length:Int) != 0):=e;subst a;exact PySem.P.truthy_str ∅ ⟨H,I.tok _,q⟩
 |byt y=>
  obtain⟨t,rfl⟩:=f;obtain⟨o,a⟩:y.size<=sizeLine/\k=((y.size:Int) != 0):=e;subst a;exact PySem.W.truthy_bytes ∅ ⟨H,I.tok _,q⟩
 |ref p=>
  cases f;have a:(∃xs,sQ X.K H p xs/\k=!xs.isEmpty)\/(∃xs,mD X.K H p xs/\k=!xs.isEmpty)\/∃c,H p=some (.dK c)/\k=!c.isEmpty:=e;rcases a with⟨xs,g,a⟩|⟨xs,g,a⟩|⟨c,g,a⟩
  ·subst a;obtain⟨l,r,pl,hz⟩:=I.list g;have d:=r.length;exact wpAny_truthy_list pl.isList (by simp only[ba];omega) ⟨H,I.tok _,by rw[AM r];exact q⟩
  ·subst a;obtain⟨l,r,pl,hz⟩:=I.tuple g;have d:=r.length;exact truthy_tuple pl (by simp only[ba];omega) ⟨H,I.tok _,by rw[AM r];exact q⟩
  ·subst a;obtain⟨hz,u,j,r,m⟩:c.length<=sizeLine/\(p==ft)=false/\∃j,KV c j/\s.heap.DictOf (iq X.prog X.w) p j:=I.hok p _ g;have d:c.length=j.length:=kO r;exact wpAny_truthy_dict u m ∅ ⟨H,I.tok _,by rw[JC r];exact q⟩
 |_=>exact(show False from e).elim
def Pr(g:PE X a ta)(he:∀b,AA a X.env b=(do let v <- b;qP a.pos;OW [v] (truthy v))):
  PT X a (λe H Q=>ta e H λx H'=>∃k,Z0 X.K x H' k/\Q k H'):=by
 intro c s e H Q I h;exact isTrue_plain (gG (g c s e H _ I h) λv s1 d=>by obtain⟨x,f,l,j,i⟩:=d;exact Xb c s1 e f x v Q l j i) (he _)
def JD:tO X (iE .Add) (λx y H Q=>∃i j,x=.str i/\y=.str j/\i.length+j.length<=sizeLine/\Q (.str (i++j)) H):=by
 intro a s e H x y v u Q I b c h;obtain⟨i,j,rfl,rfl,hz,q⟩:=h;obtain⟨t,rfl⟩:=b;obtain⟨t',rfl⟩:=c;exact add_str (λt' d=>⟨.str (i++j),H,I.tok _,⟨_,rfl⟩,q⟩) hz
def md(r:eT [x] us):∃u,us=[u]/\eO x u:=by
 cases r with
 |cons b a=>cases a;exact⟨_,rfl,b⟩
def VF(r:eT [x,y] us):∃u a,us=[u,a]/\eO x u/\eO y a:=by
 cases r with
 |cons b c=>
  cases c with
  |cons d e=>cases e;exact⟨_,_,rfl,b,d⟩
end L2
namespace L2
open PySem PySem.Spec PyProof.Rows
structure Xc (h:bZ) (x dx C:av) (mA:Str->Option ai):Prop where
 obj:h.get? x=some (zK C dx)
 ns:h.Ns1 dx mA
 ne:dx≠x
def N9{h:bZ}{d:av}{c:Str->Option ai}(n:h.Ns1 d c):∃f,h.get? d=some f/\∀name,AD name f=some (c name):=by
 obtain⟨o,es,m,ho,k,l,_,i⟩:=n;refine⟨o,ho,λname=>?_⟩;have e:=i name;unfold nsFind findBy at e;rw[<- MI] at e;unfold AD;rw[k];dsimp only;split
 ·rename_i y q
  rw[q] at e;exact congrArg some e
 ·rename_i q
  rw[q] at e;have a:es.toList.any (·.refKey)=false:=by
   rw[gI];intro y g;obtain⟨z,t,b⟩:=l y (Array.mem_toList_iff.mp g);simp[DictEntry.refKey,b]
  have j:¬ es.toList.any (·.refKey)=true:=by rw[a];exact bd
  rw[if_neg j];exact congrArg some e
def Xc.look(I:Xc h x dx C mA):∃a,PySem.W.InstAt h x (zK C dx) C (some a)/\∀name,AD name a=some (mA name):=
 let ⟨a,ho,hl⟩:=N9 I.ns
 ⟨a,⟨I.obj,rfl,rfl,ho⟩,hl⟩
def AL.some_of(r:AL (some v) o):∃u,o=some u/\eO v u:=by
 cases o with
 |none=>exact(show False from r).elim
 |some u=>exact⟨u,rfl,r⟩
def TY(c:tF P w H h)(e:H a=some (.ins C dx fs)):∃b,Xc h a dx C b/\(∀f,AL (fs.lookup f) (b f))/\PySem.Within b (fs.map (·.1))/\fs.length<=1000/\H dx=some (.own a):=by
 obtain⟨d,z,ne,ob,b,n,r,q⟩:=(show dQ P w H h a (.ins C dx fs) from c a _ e);exact⟨b,⟨ob,n,ne⟩,r,q,z,d⟩
structure Cls (K:af) (C:av):Prop where
 pg:MJ K C Str.empty=true
 hd:PySem.W.hasDictIn K C=true
 po:PySem.W.plainOver K C=true
 sa:oC K (.ref C) "__setattr__"=some (some (.builtin "object.__setattr__"))
def Cls.get{K:af}{C:av}(c:Cls K C)(f:Str):MJ K C f=true:=c.pg
inductive zS (K:af) (H:Hp):V->ai->Prop where
 |non:zS K H .non (.type "NoneType")
 |bl (x:Bool):zS K H (.bl x) (.type "bool")
 |int (i:Int):zS K H (.int i) (.type "int")
 |str (x:Str):zS K H (.str x) (.type "str")
 |flt (x:UInt64):zS K H (.flt x) (.type "float")
 |lst {a:av}{xs:List V} (e:H a=some (.lst xs)):zS K H (.ref a) (.type "list")
 |frz {a:av}{o:Obj}{xs:List V} (e:H a=some (.frz o (.lst xs))):zS K H (.ref a) (.type "list")
 |tup {a:av}{xs:List V} (e:H a=some (.tup xs)):zS K H (.ref a) (.type "tuple")
 |dK {a:av}{kvs:List (iL×V)} (e:H a=some (.dK kvs)):zS K H (.ref a) (.type "dict")
 |dT {a:av}{kvs:List (List iL×V)} (e:H a=some (.dT kvs)):zS K H (.ref a) (.type "dict")
 |ins {a C dx:av}{fs:List (Str×V)} (e:H a=some (.ins C dx fs)) (cl:Cls K C) (ha:oC K (.ref C) "__class__"=some (some (.builtin "object.__class__")))
   (hn:Ld K (.builtin "object.__class__") "__get__"=some (some (.builtin "getset_descriptor.__get__"))) (htk:OI K (.builtin "object.__class__")=some true)
   (hm:jo K C (.type "object")=some true):zS K H (.ref a) (.ref C)
def uy(I:ck X pins σ H s)(d:eO x u)(ty:zS X.K H x t)(e:tG X.K t c=some b)(h:∀M,Q (.bool b) {s with toks:=M}):
  ay (aD X.prog X.w) A (call (.builtin "isinstance") [u,c]) Q E s:=by
 cases ty with
 |non=>cases(show u=eC from d);exact dH PySem.W.kitx_none I.kIn kh e (λz=>nomatch z) h
 |bl y=>cases(show u=wL y from d);exact dH PySem.W.kitx_bool I.kIn kh e (λz=>nomatch z) h
 |int i=>obtain⟨t,q⟩:=(show ∃t,u=mO i t from d);cases q;exact dH PySem.W.kitx_int I.kIn kh e (λz=>nomatch z) h
 |str y=>obtain⟨t,q⟩:=(show ∃t,u=lH y t from d);cases q;exact dH PySem.W.kitx_str I.kIn kh e (λz=>nomatch z) h
 |flt y=>obtain⟨t,q⟩:=(show ∃t,u=Value.float y t from d);cases q;exact dH PySem.W.kitx_float I.kIn kh e (λz=>nomatch z) h
 | @lst a xs f=>
  cases(show u=bi a from d);obtain⟨_,_,n,_,g⟩:=(show dQ X.prog X.w H s.heap a (.lst xs) from I.hok a _ f);exact dH wN I.kIn ⟨_,g,rfl⟩ e (λz=>nomatch z) h
 | @frz a ob xs f=>
  cases(show u=bi a from d);obtain⟨_,_,_,n,_,g⟩:=(show dQ X.prog X.w H s.heap a (.frz ob (.lst xs)) from I.hok a _ f);exact dH wN I.kIn ⟨_,g,rfl⟩ e (λz=>nomatch z) h
 | @tup a xs f=>
  cases(show u=bi a from d);obtain⟨_,_,_,p⟩:=(show dQ X.prog X.w H s.heap a (.tup xs) from I.hok a _ f);obtain⟨o,g,k,_⟩:=p;exact dH Jb I.kIn ⟨o,g,k⟩ e (λz=>nomatch z) h
 | @dK a j f=>
  cases(show u=bi a from d);obtain⟨_,_,T,_,p⟩:=(show dQ X.prog X.w H s.heap a (.dK j) from I.hok a _ f);obtain⟨o,es,B,g,k,_⟩:=p;exact dH Le I.kIn ⟨o,g,k.1⟩ e (λz=>nomatch z) h
 | @dT a j f=>
  cases(show u=bi a from d);obtain⟨_,_,xs,_,o,es,B,g,k,_⟩:=(show dQ X.prog X.w H s.heap a (.dT j) from I.hok a _ f);exact dH Le I.kIn ⟨o,g,k.1⟩ e (λz=>nomatch z) h
 | @ins a C P fs f m v L l G=>
  cases(show u=bi a from d);obtain⟨N,O,_⟩:=TY I.hok f;obtain⟨S,J,_⟩:=O.look;exact dH (PySem.W.kitx_own (m.get _) m.hd v L l G) I.kIn J e (λz=>nomatch z) h
end L2
namespace L2
open PySem PySem.Spec PyProof.Rows
structure nz (k:Nat) (A:cD):Prop where
 hd:A.handled=none
 dp:A.depth+3*k+5<recursionLimit
 un:A.units+16*k+200<eM
def nz.mono(r:nz k A)(h:j<=k):nz j A:=⟨r.hd,by have:=r.dp;omega,by have:=r.un;omega⟩
def nz.deeper(r:nz (k+1) A)(env:Env):nz k (A.deeper env):=
 ⟨r.hd,by have:=r.dp;show A.depth+1+3*k+5<_;omega,by have:=r.un;show A.units+3+16*k+200<_;omega⟩
def nz.depth(r:nz k A):A.depth<recursionLimit:=by have:=r.dp;omega
def nz.units(r:nz k A):A.units+64<eM:=by have:=r.un;omega
def TZ:TA:=λ_ H Q=>Q [] H
def Lm(d:TE)(e:TA):TA:=λa H Q=>d a H λx c=>e a c λxs b=>Q (x::xs) b
def kU:PA X [] TZ:=λ_ _ _ _ H Q I h=>Calls.spliced_nil ⟨[],H,I,.nil,h⟩
def i_(g:PE X e te)(j:PA X es t)(hs:a_ (e::es) X.env=(false,fO e X.env)::a_ es X.env:=by rfl):PA X (e::es) (Lm te t):=by
 intro c a s d H Q I h;rw[hs];show ay _ _ (spliced ((false,fO e X.env)::kR c (a_ es X.env))) _ _ s;refine Calls.spliced_cons (gG (g a s d H _ I h) λu s1 ⟨x,f,p,m,i⟩=>?_);exact gG (j c a s1 d f _ p i) λv q b=>by obtain⟨xs,l,k,o,n⟩:=b;exact⟨x::xs,l,k,.cons m o,n⟩
def q0G(t:TA):TE:=λb H Q=>t b H λxs a=>xs.length<=sizeLine/\∀p,a p=none->Q (.ref p) (upd a p (.tup xs))
def q0H(t:TA):TE:=λb H Q=>t b H λxs a=>xs.length<=sizeLine/\∀p,a p=none->Q (.ref p) (upd a p (.lst xs))
def Xd{x1}(h:PA X es t):PE X (.Tuple es x1 pos) (q0G t):=by
 intro a s g H Q I f;refine wpAny_Tuple_spliced (gG (h pos a s g H _ I f) λj s1 ⟨xs,c,d,r,z,q⟩=>⟨by rw[<- r.length];exact z,?_⟩);have i:c s1.heap.objs.size=none:=d.hok.fresh (aA _);refine⟨.ref s1.heap.objs.size,upd c s1.heap.objs.size (.tup xs),d.laid (t':=s1.toks) (λb u e=>ah _ e) (aA _) ?_,rfl,q _ i⟩;exact⟨z,j,r,⟨_,aE _ rfl,rfl,_,rfl⟩⟩
def vY(h:PA X es t):PE X (.List es pos) (q0H t):=by
 intro a s g H Q I f;refine wpAny_List_spliced (gG (h pos a s g H _ I f) λj s1 ⟨xs,c,d,r,z,q⟩=>⟨by rw[<- r.length];exact z,?_⟩);have i:c s1.heap.objs.size=none:=d.hok.fresh (aA _);refine⟨.ref s1.heap.objs.size,upd c s1.heap.objs.size (.lst xs),d.laid (t':=s1.toks) (λb u e=>ah _ e) (aA _) ?_,rfl,q _ i⟩;exact⟨z,j,0,r,aE _ rfl⟩
abbrev Sp:=List V->Hp->VK->XK->Prop
abbrev Ps:=List Env->Hp->au->XK->ai->au->Prop
structure T_ (P:bj) (w:bF) (K:af) (mg:Str->Option ai) (base:bZ) (A:cD) (outer:List Env) (s:au) (H:Hp):Prop where
 frames:A.frames=some outer
 mod:Mod K mg base
 bs:∀b o,base.get? b=some o->s.heap.get? b=some o/\H b=none
 bsz:base.objs.size<=s.heap.objs.size
 funs:s.heap.FunFrames base outer
 frf:∀b∈Cf outer,H b=none
 hok:tF P w H s.heap
 bare:sZ s.gens
inductive CE (outer:List Env) (P:bj) (w:bF) (H:Hp) (s:au) (Q:VK) (u:ai) (s':au):Prop
 |mk (v H':_) (h0:s'.os=s.os) (h1:sZ s'.gens) (h2:Un (Cf outer) [] H H' s.heap s'.heap) (h3:tF P w H' s'.heap) (h4:eO v u) (h5:Q v H'):CE outer P w H s Q u s'
def CR(CX:Ps)(outer:List Env)(P:bj)(w:bF)(H:Hp)(s:au)(Q:VK)(E:XK)(r:Em)(s':au):Prop:=
 match r with
 |.ok (.ret u)=>CE outer P w H s Q u s'
 |.ok _=>False
 |.error e=>CX outer H s E e s'
structure vn (P:bj) (w:bF) (K:af) (mg:Str->Option ai) (base:bZ) (CX:Ps) (k:Nat) (f:av) (fd:iF) (ps:List Str) (sp:Sp):Prop where
 len:∀vs H Q E,sp vs H Q E->vs.length=ps.length
 run:∀(A:cD) (outer:List Env) (s:au) (H:Hp) (args:Args) (us:List ai) (vs:List V) (Q:VK) (E:XK),nz k A->T_ P w K mg base A outer s H->Ci s fd args (ps.zip us)->eT vs us->sp vs H Q E ->
  gU (aD P w) A (.call (.ref f) args) (CR CX outer P w H s Q E) s
def vn.imp{P:bj}{w:bF}{K:af}{e:Str->Option ai}{base:bZ}{CX:Ps}{k:Nat}{f:av}{d:iF}{ps:List Str}{sp b:Sp}(F:vn P w K e base CX k f d ps sp)
  (h:∀a H Q E,b a H Q E->sp a H Q E):vn P w K e base CX k f d ps b:=
 ⟨λa H Q E q=>F.len a H Q E (h _ _ _ _ q),λA outer s H c j a Q E g he i l hs=>F.run A outer s H c j a Q E g he i l (h _ _ _ _ hs)⟩
def ck.env0(I:ck X pins σ H s):T_ X.prog X.w X.K X.mg X.base X.A X.stack s H:=
 ⟨I.ok.frames,I.ok.mod,I.bs,c8 I.ok.bsz I.sz,I.stack,I.stkFree,I.hok,I.bare⟩
def ck.after(I:ck X pins σ H s)(h:CE X.stack X.prog X.w H s Q u s'):EP X pins σ Q u s':=by
 obtain⟨v,H',i,a,un,e,r,q⟩:=h;obtain⟨f,g,d,t,c⟩:=s';obtain rfl:c=s.os:=i;exact⟨v,H',I.call (h':=f) (g':=g) (d':=d) (t':=t) (ch:=[]) un e a (λb z=>absurd z (by simp)),r,q⟩
def VG(sp:Sp)(a:List V)(E:XK)(t:TA):TE:=λb H Q=>t b H λd c=>sp (d++a) c Q E
def nK(K:af)(b:iF)(ps:List Str)(ds:List ai):Prop:=
 ∀(s:au) (a:List ai),K.In s.heap->(a++ds).length=ps.length->Ci s b ⟨a,[]⟩ (ps.zip (a++ds))
def nK.all{K:af}{b:iF}{ps:List Str}(h:∀a:List ai,a.length=ps.length->Ta b ⟨a,[]⟩=pure (ps.zip a)):nK K b ps []:=λs a _ c=>by
 rw[cq] at c ⊢;exact .of_eq (h a c)
def vZ(CX:Ps)(X:Cx)(E:XK):Prop:=∀(a:List (av×Obj)) (b:St) (H:Hp) (s:au) (e:ai) (s':au),ck X a b H s->CX X.stack H s E e s'->X.xe e s'
def Xe(F:vn X.prog X.w X.K X.mg X.base CX k f fd ps sp)(d:nz k X.A)(i:nK X.K fd ps ds)(l:eT dvs ds)(g:vZ CX X E)
  (I:ck X pins σ H s) (r:eT vs us) (h:sp (vs++dvs) H Q E):ay (aD X.prog X.w) X.A (call (.ref f) us) (EP X pins σ Q) X.xe s:=by
 have b:eT (vs++dvs) (us++ds):=r.append l;have j:(us++ds).length=ps.length:=by rw[<- b.length];exact F.len _ _ _ _ h
 refine wpAny_call (nh (F.run X.A X.stack s H ⟨us,[]⟩ (us++ds) (vs++dvs) Q E d I.env0 (i s us I.kIn j) b h) λr s' a=>?_);cases r with
 |error e=>exact g pins σ H s e s' I a
 |ok c=>
  cases c with
  |ret u=>exact I.after a
  |next=>exact jZ a
  |brk=>exact jZ a
  |cont=>exact jZ a
def U0(F:vn X.prog X.w X.K X.mg X.base CX k f fd ps sp)(j:nz k X.A)(v:Gl X x)(m:X.mg x=some (.ref f))(o:gX X.K (.ref f)=true)(l:nK X.K fd ps ds)(n:eT dvs ds)(u:vZ CX X E)
  (g:PA X (e::es) t) (b:(x==("__debug__" : Str))=false:=by decide) (he:a_ (e::es) X.env=(false,fO e X.env)::a_ es X.env:=by rfl) (c:(kR pos (a_ es X.env)).any (·.1)=false:=by rfl):
  PE X (.Call (.Name x p) (e::es) [] pos) (VG sp dvs E t):=by
 intro a s i H Q I h;refine AE (Ll I v m ?_ b);refine PySem.W.callWith_K (h₀:=X.base) I.ok.mod.kin o (gG (g pos a s i H _ I h) λz s1 ⟨B,y,d,r,q⟩=>⟨d.kIn,?_⟩) he c;exact Xe F j l n u d r q
structure cg (N P:List Str) (sc:fG):Prop where
 kind:sc.kind=.function
 co:sc.isCoroutine=false
 gen:sc.isGenerator=false
 nd:N.Nodup
 pre:N.take P.length=P
 par:∀x∈P,sc.names.lookup x=some .local\/sc.names.lookup x=some .cell
 nofree:∀y∈sc.names,y.2≠.free
theorem De{a:Str->Option ni}{x:Str}:∀{binds:List (Str×ai)}{m:Str->Option ai},(∀v,(x,v)∉binds)->OJ a binds m x=m x
 |[],_,_=>rfl
 |(n,v)::r,m,h=>by
  unfold OJ;rw[De λw b=>h w (ak _ b)];split
  ·have:x≠n:=by rintro rfl;exact h v aq
   simp[this]
  ·rfl
theorem Df{a:Str->Option ni}{x:Str}:∀{binds:List (Str×ai)}{m:Str->Option ai},(∀v,(x,v)∉binds)->OK a binds m x=m x
 |[],_,_=>rfl
 |(n,v)::r,m,h=>by
  unfold OK;rw[Df λw b=>h w (ak _ b)];split
  ·rfl
  ·have:x≠n:=by rintro rfl;exact h v aq
   simp[this]
theorem Dg{a:Str->Option ni}{x:Str}{v:ai}:∀{P:List Str}{b:List ai}{i:Nat}{m:Str->Option ai},P.Nodup->P[i]?=some x->b[i]?=some v->a x=some .local ->
  OJ a (P.zip b) m x=some v
 |[],_,_,_,_,h,_,_=>by simp at h
 |_::_,[],_,_,_,_,h,_=>by simp at h
 |p::P,w::b,0,m,e,c,d,f=>by
  simp at c d;subst c;subst d;show OJ a ((p,w)::P.zip b) m p=_;unfold OJ;rw[De λv g=>(List.nodup_cons.mp e).1 (Cd g).1,if_pos f];simp
 |p::P,w::b,i+1,m,e,c,d,f=>by
  show OJ a ((p,w)::P.zip b) m x=_;unfold OJ;exact Dg (i:=i) (List.nodup_cons.mp e).2 (by simpa using c) (by simpa using d) f
theorem Dh{a:Str->Option ni}{x:Str}{v:ai}:∀{P:List Str}{b:List ai}{i:Nat}{m:Str->Option ai},P.Nodup->P[i]?=some x->b[i]?=some v->a x≠some .local ->
  OK a (P.zip b) m x=some v
 |[],_,_,_,_,h,_,_=>by simp at h
 |_::_,[],_,_,_,_,h,_=>by simp at h
 |p::P,w::b,0,m,e,c,d,f=>by
  simp at c d;subst c;subst d;show OK a ((p,w)::P.zip b) m p=_;unfold OK;rw[Df λv g=>(List.nodup_cons.mp e).1 (Cd g).1,if_neg f];simp
 |p::P,w::b,i+1,m,e,c,d,f=>by
  show OK a ((p,w)::P.zip b) m x=_;unfold OK;exact Dh (i:=i) (List.nodup_cons.mp e).2 (by simpa using c) (by simpa using d) f
def start(N:List Str)(a:List V):St:=a.map some++vw (N.length-a.length) none
def AN(CX:Ps)(P:bj)(w:bF)(K:af)(mg:Str->Option ai)(base:bZ)(N:List Str)(qual:Str)(scope:fG)(f:av)(cd:ai)(A:cD)(outer:List Env)(s:au)(H:Hp)(E:XK):Cx where
 prog:=P
 w:=w
 K:=K
 mg:=mg
 base:=base
 A:=A.deeper (vT qual scope s.heap.objs.size f cd)
 N:=N
 s₀:=s
 H₀:=H
 env:=vT qual scope s.heap.objs.size f cd
 outer:=outer
 stack:=vT qual scope s.heap.objs.size f cd::outer
 ex:=[]
 calm:=true
 fn:=λ_=>true
 pn:=[]
 xe:=λe s'=>ay (aD P w) (A.deeper (vT qual scope s.heap.objs.size f cd)) (leaving (vT qual scope s.heap.objs.size f cd) e) (λ_ s''=>CX outer H s E e s'') (λe' s''=>CX outer H s E e' s'') s'
def Gi{a:fG}{n:Nat}{x:Str}(h:a.names.lookup x=some .cell):∃c,(cE n a.names []).lookup x=some c:=by
 have q:=iW a.names n [] (.inl h);exact Option.isSome_iff_exists.mp q
def Na{CX:Ps}{P:bj}{w:bF}{K:af}{M:Str->Option ai}{base:bZ}{N ps:List Str}{d:Str}{scope:fG}{f:av}{I:ai}{A:cD}{outer:List Env}{s s1:au}{H:Hp}{E:XK}{O:List ai}{o:List V}
  (S:cg N ps scope) (hd:A.handled=none) (j:T_ P w K M base A outer s H) (hl:o.length=ps.length) (r:eT o O)
  (x:InCallC s s.heap.objs.size (OJ (vT d scope s.heap.objs.size f I).kindOf (ps.zip O) λ_=>none) (cE (s.heap.objs.size+1) scope.names []) (OK (vT d scope s.heap.objs.size f I).kindOf (ps.zip O) λ_=>none) s1):
  ck (AN CX P w K M base N d scope f I A outer s H E) [] (start N o) H s1:=by
 have X:ps.length<=N.length:=by have:=congrArg nF S.pre;rw[sL] at this;omega
 obtain⟨G,tk,rfl,T⟩:=x.done;have m:∀b:av,b∉(AN CX P w K M base N d scope f I A outer s H E).ex:=λb z=>absurd (show b∈([]:List av) from z) (by simp);refine⟨⟨j.mod,S.kind,rfl,rfl,aA _,λy z c G g=>?_,λy l=>?_,λy c _ h=>?_,λ_=>hd,Around.frames_deeper j.frames,.inr ⟨rfl,rfl⟩,λb z=>absurd z (m b),j.bs,j.bsz,λb _ _=>m b,λb z=>absurd z (m b),j.funs,j.frf⟩,
  rfl,j.bare,Un.kept T,⟨_,x.toInCall.ns,λi y v G g h3=>?_⟩,λy c h=>⟨_,x.cell y c h⟩,j.hok.fresh (aA _),λy c h=>?_,λp B=>absurd (show p∈([]:List (av×Obj)) from B) (by simp),j.hok.kept T,?_⟩
 ·exact name_of_addr x.apart (eP G) (eP g)
 ·have l:scope.names.lookup y=some .cell\/scope.names.lookup y=some .free:=l;rcases l with l|l
  ·exact Gi l
  ·exact absurd rfl (S.nofree _ (eP l))
 ·exact cB (x.above y c (eP h))
 ·have L:i<o.length:=by
   unfold start at g;by_cases L:i<o.length
   ·exact L
   ·rw[aU (by simpa using L)] at g;rw[cX] at g;split at g<;>cases g
  have U:o[i]?=some v:=by
   unfold start at g;rw[bA (by simpa using L),aP] at g;cases e:o[i]? with
   |none=>rw[e] at g;cases g
   |some a=>rw[e] at g;cases g;rfl
  obtain⟨u,Q,Y⟩:=r.get U;have B:ps[i]?=some y:=by
   rw[<- S.pre,List.getElem?_take_of_lt ∅];exact G
  have t:ps.Nodup:=by rw[<- S.pre];exact S.nd.sublist (List.take_sublist _ _)
  refine⟨u,Y,?_⟩;rcases S.par y (bV B) with k|k
  ·exact .inl ⟨k,Dg t B Q k⟩
  ·obtain⟨c,e⟩:=Gi (n:=s.heap.objs.size+1) k;refine .inr ⟨.inl k,c,e,?_⟩;have q:=x.cell y c e;rw[Dh t B Q (by show scope.names.lookup y≠_;rw[k];decide)] at q;exact q
 ·exact j.hok.fresh (cB (x.above y c (eP h)))
 ·unfold start;show _=N.length;rw[aS,ao,dX];omega
def Z1{CX:Ps}{P:bj}{w:bF}{K:af}{z:Str->Option ai}{base:bZ}{k:Nat}{f:av}{name a:Str}{d:Arguments}{g:List fg}{scope:fG}{T kV l Y c ct oc:ai}{an od:Option av}
  {L:Array (Option ai)}{N ps:List Str}{sp:Sp} (lk:K.lookup f=some ⟨oc,od,.func (ip name a d g scope T kV l Y an c ct),L⟩) (B:oE K c a=true) (S:cg N ps scope)
  (len:∀h H Q E,sp h H Q E->h.length=ps.length)
  (j:∀(A:cD) (outer:List Env) (s:au) (H:Hp) (h:List V) (Q:VK) (E:XK),nz k (A.deeper (vT a scope s.heap.objs.size f c))->sp h H Q E ->
   ∃t,Lk (AN CX P w K z base N a scope f c A outer s H E) g t/\t {nx:=λ_ H'=>Q .non H',rt:=Q} (start N h) H):
  vn P w K z base CX (k+1) f (ip name a d g scope T kV l Y an c ct) ps sp:=by
 refine⟨len,λA outer s H X us h Q E G m hb r p=>?_⟩;have hl:=len _ _ _ _ p;have U:K.In s.heap:=m.mod.kin.keeps λb o e=>(m.bs b o e).1;have M:s.heap.NoLimit:=m.mod.nolimit.keeps λb o e=>(m.bs b o e).1;have i:∀y∈ps.zip us,scope.names.lookup y.1=some .local\/(scope.names.lookup y.1=some .cell/\((cE (s.heap.objs.size+1) scope.names []).lookup y.1).isSome=true):=λ⟨n,v⟩ hy=>by
  rcases S.par n (Cd hy).1 with q|q
  ·exact .inl q
  ·exact .inr ⟨q,iW _ _ _ (.inl q)⟩
 refine codeAny_call_function G.depth (U _ _ lk) rfl S.co S.gen rfl (Jc U B) (hb _ _ _ _ ?_);refine wpAny_newFunctionEnv_cells S.kind i λenv he s1 x=>?_;subst he;refine⟨M.keeps x.toInCall.keep,codeAny_func ?_⟩;obtain⟨t,ht,hq⟩:=j A outer s H h Q E (G.deeper _) p;have I:ck (AN CX P w K z base N a scope f c A outer s H E) [] (start N h) H s1:=Na S G.hd m hl r x;refine cz (ht [] s1 (start N h) H _ I hq) (λfl s' hs=>?_) λe s' hs=>hs;have fin:∀{σ':St}{H':Hp}{v:V}{u:ai},ck (AN CX P w K z base N a scope f c A outer s H E) [] σ' H' s'->eO v u->Q v H'->CE outer P w H s Q u s':=
  λ{σ' H' v u} J O q=>⟨v,H',J.os,J.bare,J.base,J.hok,O,q⟩
 cases fl with
 |ret u=>
  obtain⟨v,σ',H',J,O,q⟩:=hs;exact fin J O q
 |next=>
  obtain⟨σ',H',J,q⟩:=hs;exact fin (v:=V.non) (u:=eC) J rfl q
 |brk=>
  obtain⟨_,_,_,q⟩:=hs;exact jZ q
 |cont=>
  obtain⟨_,_,_,q⟩:=hs;exact jZ q
end L2
namespace L2
open PySem PySem.Spec PyProof.Rows
section
variable{X:Cx}{x:Str}{p pos:Pos}{e:bJ}{es:List bJ}{t:TA}{id T:String}{r:List V->Hp->VK->Prop}
def Yz(r:List V->Hp->VK->Prop)(t:TA):TE:=λa H Q=>t a H λc b=>r c b Q
def tP(j:kL X (.builtin id) r)(u:Gl X x)(l:X.mg x=none)(q:jM x=some (.builtin id))(i:PA X (e::es) t)(m:x≠"__name__":=by decide)(c:(x==("__debug__" : Str))=false:=by decide)
  (he:a_ (e::es) X.env=(false,fO e X.env)::a_ es X.env:=by rfl) (d:(kR pos (a_ es X.env)).any (·.1)=false:=by rfl):PE X (.Call (.Name x p) (e::es) [] pos) (Yz r t):=by
 intro a s f H Q I h;refine AE (yo I u l q ?_ m c);exact PyProof.Rows.callWith_builtin1 (gG (i pos a s f H _ I h) λo s1 b=>by obtain⟨w,g,v,n,k⟩:=b;exact j a s1 f g w o Q v n k) he d
def Di(j:kL X (.type T) r)(v:Gl X x)(l:X.mg x=none)(q:jM x=some (.type T))(i:PA X (e::es) t)(m:x≠"__name__":=by decide)(c:(x==("__debug__" : Str))=false:=by decide)
  (he:a_ (e::es) X.env=(false,fO e X.env)::a_ es X.env:=by rfl) (d:(kR pos (a_ es X.env)).any (·.1)=false:=by rfl):PE X (.Call (.Name x p) (e::es) [] pos) (Yz r t):=by
 intro a s f H Q I h;refine AE (yo I v l q ?_ m c);exact iV (gG (i pos a s f H _ I h) λo s1 b=>by obtain⟨w,g,u,n,k⟩:=b;exact j a s1 f g w o Q u n k) he d
end
end L2
namespace HT
open PySem PyProof.Rows
def U1(v:IsTup s.heap t vs.toArray)(x:IsTup s.heap b ws.toArray)(q:vs≠[])
  (u:ws=[]->Q (.ref t) s) (y:ws≠[]->Q (.ref s.heap.objs.size) {s with heap:=s.heap.push {cls:=.type "tuple",data:=.seq (vs++ws).toArray}})
  (hsz:vs.length+ws.length<=sizeLine):ay (aD prog w) A (iE .Add (.ref t) (.ref b)) Q E s:=by
 obtain⟨⟨cls,m,data,p⟩,ho,j,n,o⟩:=id v;obtain⟨⟨l,c,i,d⟩,a,f,k,g⟩:=id x;simp only at j o f g;subst j o f g;have e:vs.toArray++ws.toArray=(vs++ws).toArray:=by simp
 by_cases h:ws=[]
 ·exact Cj ⟨_,ho,rfl⟩ ⟨_,a,rfl⟩ Eo MK rL qQ (qq _ _)
   (tuple_addW1 t b vs.toArray ws.toArray n k m c p d (by simpa using q) (by simp[h])) ⟨ho,a,u h⟩
 ·refine Cj ⟨_,ho,rfl⟩ ⟨_,a,rfl⟩ Eo MK rL qQ (qq _ _)
   (tuple_addW2 t b vs.toArray ws.toArray n k m c p d (by simpa using q) (by simpa using h) (by rw[ba,ba];exact hsz)) ⟨ho,a,?_⟩
  rw[e];exact y h
def kr(n d:Nat):Option Int->Nat
 |none=>d
 |some v=>if v<0 then(v+(n:Int)).toNat else min v.toNat n
def Gj(n d:Nat):kr n d none=d:=rfl
def Ln(n d k:Nat):kr n d (some (k:Int))=min k n:=by
 show(if(k:Int)<0 then((k:Int)+(n:Int)).toNat else min (k:Int).toNat n)=min k n;rw[if_neg ∅,jV]
def Xf(n d:Nat)(b:d<=n)(o:Option Int):kr n d o<=n:=by
 cases o with
 |none=>exact b
 |some v=>
  show(if v<0 then(v+(n:Int)).toNat else min v.toNat n)<=n;by_cases a:v<0
  ·rw[if_pos a];omega
  ·rw[if_neg a];exact AF _ _
def Lo(v:Int)(n d:Nat):(if v<0 then max (v+(n:Int)) 0 else min v (n:Int))=((kr n d (some v):Nat):Int):=by
 show(if v<0 then max (v+(n:Int)) 0 else min v (n:Int))=(((if v<0 then(v+(n:Int)).toNat else min v.toNat n):Nat):Int);by_cases a:v<0
 ·simp only[if_pos a];omega
 ·simp only[if_neg a];omega
def JF(lo a:Option Int)(n:Nat):nj lo a 1 (n:Int)=(((kr n 0 lo:Nat):Int),((kr n n a:Nat):Int)):=by
 have b:¬ ((1:Int)<0):=by omega
 unfold nj;simp only[b,if_false];refine Prod.ext ?_ ?_
 ·cases lo with
  |none=>rfl
  |some v=>exact Lo v n 0
 ·cases a with
  |none=>rfl
  |some v=>exact Lo v n n
def JH(i j:Nat):jB (i:Int) (j:Int) 1=j-i:=by
 unfold jB;have a:(1:Int) > 0:=by omega
 simp only[a,if_true,Int.ediv_one];split<;>omega
def AO(p:yd v o)(h:Q o s):ay (aD prog w) A (Builtin.Slice.slicePartIndex v) Q E s:=by
 cases p with
 |none=>exact slicePart_none h
 |int i t=>exact slicePart_int h
def qV{f:av}{e d:ai}{lo c:Option Int}{n:Nat}{Q:Int×Int×Nat->au->Prop}(hs:s.heap.IsSliceOf f e d .none)(pl:yd e lo)(g:yd d c)
  (h:Q (((kr n 0 lo:Nat):Int),1,kr n n c-kr n 0 lo) s):ay (aD prog w) A (wO (.ref f) (pure (n:Int))) Q E s:=by
 obtain⟨j,a,i,b⟩:=id hs;unfold wO Builtin.Slice.sliceFields;refine a9 (a9 (eW a b (x:=e) rfl (a9 (eW a b (x:=d) rfl (a9 (eW a b (x:=.none) rfl (aa ?_)))))));refine a9 (slicePart_none ?_);show ay _ _ (if((1:Int)==0)=true then _ else _) _ _ s;rw[if_neg ⋯];refine a9 (AO pl (a9 (AO g (a9 (aa ?_)))));show ay _ _ (match nj lo c 1 (n:Int) with|(lo,c)=>pure (lo,(1:Int),jB lo c 1)) _ _ s;rw[JF lo c n];show ay _ _ (pure (((kr n 0 lo:Nat):Int),(1:Int),jB ((kr n 0 lo:Nat):Int) ((kr n n c:Nat):Int) 1)) _ _ s;rw[JH];exact aa h
def Pt(xs:Array ai)(i k:Nat):((bx k).filterMap λ(m:Nat)=>xs[((i:Int)+(m:Int)*1).toNat]?).toArray=((xs.toList.drop i).take k).toArray:=by
 have e:(λ(m:Nat)=>xs[((i:Int)+(m:Int)*1).toNat]?)=λm=>xs[i+m]?:=by
  funext m;have:((i:Int)+(m:Int)*1).toNat=i+m:=by omega
  rw[this]
 rw[e];have:=pick_run xs i k;rw[jq] at this;have a:((λx=>xs[x]?)∘λx=>i+x)=λm=>xs[i+m]?:=rfl;rw[a] at this;rw[this]
def wV{t g:av}{items:Array ai}{j k:ai}{lo b:Option Int}{Q:ai->au->Prop}(c:IsTup s.heap t items)(hs:s.heap.IsSliceOf g j k .none)(pl:yd j lo)(p:yd k b)
  (n:¬ (kr items.size 0 lo=0/\kr items.size items.size b=items.size))
  (h:Q (.ref s.heap.objs.size) {s with heap:=s.heap.push {cls:=.type "tuple",data:=.seq ((items.toList.drop (kr items.size 0 lo)).take (kr items.size items.size b-kr items.size 0 lo)).toArray}})
  (hsz:items.size<=sizeLine):ay (aD prog w) A (t4 (.ref t) (.ref g)) Q E s:=by
 have a:sizeOk (.seq ((items.toList.drop (kr items.size 0 lo)).take (kr items.size items.size b-kr items.size 0 lo)).toArray):=by
  show((items.toList.drop (kr items.size 0 lo)).take (kr items.size items.size b-kr items.size 0 lo)).toArray.size<=sizeLine;rw[ba,sL,m_,az];omega
 have x:kr items.size items.size b<=items.size:=Xf _ _ (aA _) b;obtain⟨o,f,d,l⟩:=id hs;have e:s.TypeIs (.ref g) "slice":=⟨o,f,d⟩;unfold t4;try with_reducible refine cH ?_
 first|refine a9 (aa ?_)|skip
 refine a9 (wpAny_sequenceKey c.typeIs ⋯ ?_);refine a9 (cF (name:=gY "__getitem__") c.typeIs ic
  (bH ic c.typeIs entry_tuple_getitem ?_ (args_tuple_getitem _ _)))
 show ay _ _ (wP (.ref t)>>=_) _ _ s;refine a9 (tupleItemsOf_ c ?_);refine a9 (lB e ?_);rw[if_pos ⋯];refine a9 (qV hs pl p ?_);have i:¬ ((((kr items.size 0 lo:Nat):Int)==0&&(1:Int)==1&&(kr items.size items.size b-kr items.size 0 lo)==items.size)=true):=by
  intro q;rw[bc,bc] at q;have u:((kr items.size 0 lo:Nat):Int)=0:=eq_of_beq q.1.1;have v:kr items.size items.size b-kr items.size 0 lo=items.size:=eq_of_beq q.2;exact n ⟨by omega,by omega⟩
 show ay _ _ (if(((kr items.size 0 lo:Nat):Int)==0&&(1:Int)==1&&(kr items.size items.size b-kr items.size 0 lo)==items.size)=true then _ else _) _ _ s;rw[if_neg i,Pt];first
  |exact a9 (m:=jO _) (bD (aa ⟨_,rfl,aa h⟩) a)
  |exact a9 (m:=jO _) (bD (a9 (aa (aa ⟨_,rfl,aa h⟩))) a)
  |exact a9 (a9 (m:=jO _) (bD (aa (aa ⟨_,rfl,aa h⟩)) a))
  |exact a9 (a9 (m:=jO _) (bD (aa ⟨_,rfl,aa h⟩) a))
end HT
namespace L2
open PySem PySem.Spec PyProof.Rows
abbrev TO:=St->Hp->(Option Int->Hp->Prop)->Prop
def PO(X:Cx)(e:Option bJ)(t:TO):Prop:=
 ∀(a:List (av×Obj)) (s:au) (b:St) (H:Hp) (Q:Option Int->Hp->Prop),ck X a b H s->t b H Q ->
  ay (aD X.prog X.w) X.A (evalPart e X.env) (λu s'=>∃o H',ck X a b H' s'/\yd u o/\Q o H') X.xe s
def U2:TO:=λ_ H Q=>Q none H
def Z2(t:TE):TO:=λa H Q=>t a H λx b=>∃i,x=.int i/\Q (some i) b
section
variable{X:Cx}{e:bJ}{te:TE}{lo hi:Option bJ}{tl th:TO}{pos p2:Pos}
def U3:PO X none U2:=by
 intro a s b H Q I h;rw[evalPart_none];exact aa ⟨none,H,I,.none,h⟩
def U4(h:PE X e te):PO X (some e) (Z2 te):=by
 intro b s d H Q I g;rw[evalPart_some];refine gG (h b s d H _ I g) λu s1 a=>?_;obtain⟨x,c,k,j,f⟩:=a;obtain⟨i,rfl,q⟩:=f;obtain⟨t,rfl⟩:=j;exact⟨some i,c,k,.int i t,q⟩
def Z3(X:Cx)(r:V->Option Int->Option Int->Hp->VK->Prop):Prop:=
 ∀(a:List (av×Obj)) (s:au) (c:St) (H:Hp) (x:V) (v f d:ai) (lo hi:Option Int) (b:av) (Q:VK),ck X a c H s->eO x v->s.heap.IsSliceOf b f d .none->yd f lo->yd d hi->r x lo hi H Q ->
  ∃T id,Jd (.type T) "__getitem__"=pure (some (.builtin id))/\s.TypeIs v T/\ay (aD X.prog X.w) X.A (t4 v (.ref b)) (EP X a c Q) X.xe s
def tSl(r:V->Option Int->Option Int->Hp->VK->Prop)(te:TE)(tl th:TO):TE:=λa H Q=>te a H λx d=>tl a d λl c=>th a c λu b=>r x l u b Q
def Pu(p:Z3 X r)(he:PE X e te)(k:PO X lo tl)(n:PO X hi th):PE X (.Subscript e (.Slice lo hi none p2) pos) (tSl r te tl th):=by
 intro a s c H Q I h;refine Subscript_ (gG (he a s c H _ I h) λv s1 ⟨x,i,L,z,o⟩=>?_);refine wpAny_Slice (gG (k a s1 c i _ L o) λd B ⟨l,y,t,pl,E⟩=>gG (n a B c y _ t E) λf s3 ⟨u,g,m,K,N⟩=>?_);rw[evalPart_none];refine aa ?_;have G:ck X a c g {s3 with heap:=s3.heap.push {cls:=.type "slice",data:=.fields #[d,f,.none]}}:=m.kept (t':=s3.toks) λb ob q=>ah _ q;obtain⟨T,id,hT,j,M⟩:=p a {s3 with heap:=s3.heap.push {cls:=.type "slice",data:=.fields #[d,f,.none]}} c g x v d f l u s3.heap.objs.size Q G z (Heap.IsSliceOf.new ..) pl K N;show ay (aD X.prog X.w) X.A (ML e (.Slice lo hi none p2) v (.ref s3.heap.objs.size)) (EP X a c Q) X.xe {s3 with heap:=s3.heap.push {cls:=.type "slice",data:=.fields #[d,f,.none]}};exact tail_any (ops:=[.ref s3.heap.objs.size,v]) j hT M (by with_unfolding_all rfl)
def Gk(xs:List V)(lo hi:Option Int):List V:=(xs.drop (HT.kr xs.length 0 lo)).take (HT.kr xs.length xs.length hi-HT.kr xs.length 0 lo)
def zg(xs:List V)(lo hi:Option Int):(Gk xs lo hi).length<=xs.length:=by
 unfold Gk;rw[sL,m_];omega
def q0I(K:af):V->Option Int->Option Int->Hp->VK->Prop:=λx lo hi H Q=>∃a xs,x=.ref a/\mD K H a xs /\
 ¬ (HT.kr xs.length 0 lo=0/\HT.kr xs.length xs.length hi=xs.length)/\∀p,H p=none->Q (.ref p) (upd H p (.tup (Gk xs lo hi)))
theorem Xg:Z3 X (q0I X.K):=by
 intro g s m H x v n p lo hi t Q I i hs pl k h;obtain⟨a,xs,rfl,l,j,q⟩:=h;cases i;obtain⟨d,r,f,hz⟩:=I.tuple l;have c:d.toArray.size=xs.length:=by rw[ba];exact r.length.symm
 refine⟨"tuple",_,PyProof.Rows.slot_tuple_getitem.lookup,f.typeIs,?_⟩;refine HT.wV f hs pl k (by rw[c];exact j) ?_ (by rw[c];exact hz);rw[c];refine⟨.ref s.heap.objs.size,_,I.laid (t':=s.toks) (o:=.tup (Gk xs lo hi)) (λb ob q=>ah _ q) (aA _) ?_,rfl,q _ (I.hok.fresh (aA _))⟩;exact⟨c8 (zg xs lo hi) hz,_,(r.drop (HT.kr xs.length 0 lo)).take (HT.kr xs.length xs.length hi-HT.kr xs.length 0 lo),zL _ _⟩
inductive Pw (K:af) (x:V) (y:V) (H:Hp) (Q:VK):Prop
 |mk (a b xs ys:_) (h0:x=.ref a) (h1:y=.ref b) (h2:mD K H a xs) (h3:mD K H b ys) (h4:xs≠[]) (h5:xs.length+ys.length<=sizeLine) (h6:(ys=[]->Q (.ref a) H)) (h7:(ys≠[]->∀p,H p=none->Q (.ref p) (upd H p (.tup (xs++ys))))):Pw K x y H Q
def Z4(K:af):R2:=Pw K
def eT.nil_iff(r:eT xs us):us=[]↔xs=[]:=by
 cases r with
 |nil=>simp
 |cons _ _=>simp
theorem U5:tO X (iE .Add) (Z4 X.K):=by
 intro g s B H x y v u Q I i p h;obtain⟨a,b,xs,ys,rfl,rfl,j,m,A,hz,k,t⟩:=h;cases i;cases p;obtain⟨l,d,n,_⟩:=I.tuple j;obtain⟨f,c,p2,_⟩:=I.tuple m;refine HT.U1 n p2 (λz=>A (d.nil_iff.mp z)) (λz=>⟨.ref a,H,I,rfl,k (c.nil_iff.mp z)⟩) (λz=>?_) (by rw[<- d.length,<- c.length];exact hz);refine⟨.ref s.heap.objs.size,_,I.laid (t':=s.toks) (o:=.tup (xs++ys)) (λb ob q=>ah _ q) (aA _) ?_,rfl,t (λw=>z (c.nil_iff.mpr w)) _ (I.hok.fresh (aA _))⟩;exact⟨by rw[aS];exact hz,_,d.append c,zL _ _⟩
end
end L2
namespace L2
open PySem PySem.Spec PyProof.Rows
def Xh(n:Nat)(i:Int):Option Nat:=if 0<=i then(if i<n then some i.toNat else none) else if -(n:Int)<=i then some (i+n).toNat else none
def J6{a:Type}(xs:List a)(i:Int):Option a:=(Xh xs.length i).bind λj=>xs[j]?
def U6(h:Xh n i=some j):seqIndex? i n=some j/\j<n/\-(n:Int)<=i/\i<n:=by
 unfold Xh at h;by_cases b:0<=i
 ·rw[if_pos b] at h;by_cases a:i<n
  ·rw[if_pos a] at h;have e:i.toNat=j:=c6 h;exact⟨by rw[seqIndex_of b a,e],by omega,by omega,a⟩
  ·rw[if_neg a] at h;cases h
 ·rw[if_neg b] at h;by_cases a:-(n:Int)<=i
  ·rw[if_pos a] at h;have e:(i+n).toNat=j:=c6 h;exact⟨by rw[seqIndex_neg ∅ a,e],by omega,a,by omega⟩
  ·rw[if_neg a] at h;cases h
def EA{a:Type}{xs:List a}{i:Int}{v:a}(h:J6 xs i=some v):∃j,seqIndex? i xs.length=some j/\xs[j]?=some v/\j<xs.length/\-(xs.length:Int)<=i/\i<xs.length:=by
 unfold J6 at h;cases e:Xh xs.length i with
 |none=>rw[e] at h;cases h
 |some j=>
  rw[e] at h;obtain⟨b,f,c,d⟩:=U6 e;exact⟨j,b,h,f,c,d⟩
def uz{a:Type}{xs:List a}{j:Nat}{v:a}(h:xs[j]?=some v):J6 xs (j:Int)=some v:=by
 have b:j<xs.length:=(List.getElem?_eq_some_iff.mp h).1;have e:Xh xs.length (j:Int)=some j:=by
  unfold Xh;rw[if_pos ∅,if_pos ∅];simp
 unfold J6;rw[e];exact h
def wW(b:bJ):Prop:=∀o i,G3 b false o i=operate [o,i] (t4 o i)
def Z5(X:Cx)(r:R2):Prop:=
 ∀(c a:bJ) (b:List (av×Obj)) (s:au) (d:St) (H:Hp) (x y:V) (v u:ai) (Q:VK),ck X b d H s->eO x v->eO y u->r x y H Q ->
  G3 a false v u=operate [v,u] (t4 v u)->ay (aD X.prog X.w) X.A (ML c a v u) (EP X b d Q) X.xe s
def MtR(X:Cx)(id:String)(r:V->List V->Hp->VK->Prop):Prop:=
 ∀(a:List (av×Obj)) (s:au) (c:St) (H:Hp) (x:V) (xs:List V) (v:ai) (b:List ai) (Q:VK),ck X a c H s->eO x v->eT xs b->r x xs H Q ->
  ay (aD X.prog X.w) X.A (call (.builtin id) (v::b)) (EP X a c Q) X.xe s
section
variable{X:Cx}{a b:bJ}{ta tb:TE}{pos:Pos}
def VH(g:Z5 X r)(e:PE X a ta)(i:PE X b tb)(hs:wW b):PE X (.Subscript a b pos) (YV r ta tb):=by
 intro c s f H Q I h;exact Subscript_ (X4 e i I h λv u m x y k j d l q=>g a b c m f k x y v u Q j d l q (hs _ _))
inductive VI (K:af) (x:V) (y:V) (H:Hp) (Q:VK):Prop
 |mk (p xs i v:_) (h0:x=.ref p) (h1:y=.int i) (h2:sQ K H p xs) (h3:J6 xs i=some v) (h4:Q v H):VI K x y H Q
def Z6(K:af):R2:=VI K
inductive VJ (K:af) (x:V) (y:V) (H:Hp) (Q:VK):Prop
 |mk (p xs i v:_) (h0:x=.ref p) (h1:y=.int i) (h2:mD K H p xs) (h3:J6 xs i=some v) (h4:Q v H):VJ K x y H Q
def q0J(K:af):R2:=VJ K
inductive VL (x:V) (y:V) (H:Hp) (Q:VK):Prop
 |mk (z i c:_) (h0:x=.str z) (h1:y=.int i) (h2:z.length<=sizeLine) (h3:J6 z.cps.toList i=some c) (h4:Q (.str ⟨#[c]⟩) H):VL x y H Q
def q0K:R2:=VL
def EB:Z5 X (Z6 X.K):=by
 intro e l c s m H x y v u Q I A L h hs;obtain⟨p,xs,i,z,rfl,rfl,E,he,q⟩:=h;cases A;obtain⟨t,rfl⟩:=L;obtain⟨f,r,pl,hz⟩:=I.list E;obtain⟨j,d,N,O,G,M⟩:=EA he;obtain⟨w,n,g⟩:=r.get N;have B:=r.length;have P:=yq;have fin:EP X c m Q w s:=⟨z,H,I,g,q⟩;by_cases o:0<=i
 ·have k:i.toNat=j:=by
   rw[seqIndex_of o M] at d;exact c6 d
  exact item_listR pl.isList o ∅ (by rw[k];simpa using n) fin hs
 ·have k:(i+(f.toArray.size:Int)).toNat=j:=by
   rw[seqIndex_neg ∅ G] at d;rw[ba,<- B];exact c6 d
  exact OX (x:=w) pl.isList.typeIs slot_list_getitem.lookup
   (wpAny_getItem_list_neg (Q:=λr s'=>r=w/\EP X c m Q r s') pl.isList ∅ (by rw[ba]<;>omega) ∅ (by rw[k];simpa using n) ⟨rfl,fin⟩) hs
def Xi:Z5 X (q0J X.K):=by
 intro d f c s g H x y v u Q I l A h hs;obtain⟨p,xs,i,z,rfl,rfl,n,he,q⟩:=h;cases l;obtain⟨t,rfl⟩:=A;obtain⟨o,r,pl,hz⟩:=I.tuple n;obtain⟨j,k,B,G,L,N⟩:=EA he;obtain⟨w,E,e⟩:=r.get B;have m:=r.length;have M:=yq;have fin:EP X c g Q w s:=⟨z,H,I,e,q⟩;exact OX (x:=w) pl.typeIs slot_tuple_getitem.lookup
  (getItem_tuple (j:=j) (Q:=λr s'=>r=w/\EP X c g Q r s') pl ∅ ∅ (by rw[ba,<- m];exact k) (by simpa using E) ⟨rfl,fin⟩) hs
def Xj:Z5 X q0K:=by
 intro d e g s E H x y v u Q I k o h hs;obtain⟨z,i,c,rfl,rfl,hz,he,q⟩:=h;obtain⟨t,rfl⟩:=k;obtain⟨t',rfl⟩:=o;obtain⟨j,f,w,B,m,p⟩:=EA he;have l:z.cps.toList.length=z.length:=by simp[Str.length]
 rw[l] at f m p;have G:=yq;exact tail_any (typeIs_str s z t) slot_str_getitem.lookup (getItem_str (c:=c) (by
  have n:decide (i < -(2 ^ 63:Int))=false:=decide_eq_false ∅;have A:decide (i ≥ 2 ^ 63)=false:=decide_eq_false ∅;rw[n,A,G4]) (by rw[f];simpa using w) ⟨.str ⟨#[c]⟩,H,I.tok _,⟨_,rfl⟩,q⟩) hs
def EC(lo c:Option Int)(n:Nat):(pp lo c none n).1=((HT.kr n 0 lo:Nat):Int)/\(pp lo c none n).2.1=((HT.kr n n c:Nat):Int)/\(pp lo c none n).2.2=1:=by
 refine⟨?_,?_,rfl⟩
 ·cases lo with
  |none=>simp[pp,HT.kr]
  |some i=>
   simp only[pp,HT.kr,iO,show(1:Int) > 0 by decide,if_true];by_cases h:i<0
   ·simp only[h,if_true]<;>omega
   ·simp only[h,if_false]<;>omega
 ·cases c with
  |none=>simp[pp,HT.kr]
  |some i=>
   simp only[pp,HT.kr,iO,show(1:Int) > 0 by decide,if_true];by_cases h:i<0
   ·simp only[h,if_true]<;>omega
   ·simp only[h,if_false]<;>omega
def CA(c:List ai)(lo d:Option Int):slicePick c.toArray lo d none=((c.drop (HT.kr c.length 0 lo)).take (HT.kr c.length c.length d-HT.kr c.length 0 lo)).toArray:=by
 obtain⟨e,g,f⟩:=EC lo d c.toArray.size;unfold slicePick;rw[e,g,f];simp only[sliceRange_one,pick_run,ba]<;>rfl
def q0L(K:af):V->Option Int->Option Int->Hp->VK->Prop:=λx lo c H Q=>∃a xs,x=.ref a/\sQ K H a xs/\∀p,H p=none->Q (.ref p) (upd H p (.lst (Gk xs lo c)))
theorem U7:Z3 X (q0L X.K):=by
 intro f s l H x v m n lo d p Q I g hs pl j h;obtain⟨a,xs,rfl,k,q⟩:=h;cases g;obtain⟨i,r,e,hz⟩:=I.list k;have c:=r.length;refine⟨"list",_,slot_list_getitem.lookup,e.isList.typeIs,?_⟩;refine wpAny_getItem_list_slice e.isList hs pl j .none (by simp) ?_ (by rw[ba]<;>omega);rw[CA,<- c];refine⟨.ref s.heap.objs.size,_,I.laid (t':=s.toks) (o:=.lst (Gk xs lo d)) (λb ob q=>ah _ q) (aA _) ?_,rfl,q _ (I.hok.fresh (aA _))⟩;exact⟨c8 (zg xs lo d) hz,_,0,(r.drop (HT.kr xs.length 0 lo)).take (HT.kr xs.length xs.length d-HT.kr xs.length 0 lo),aE _ rfl⟩
def tQ:V->Bool
 |.non=>true
 |.bl _=>true
 |.int _=>true
 |.str _=>true
 |_=>false
def U8:V->V->Bool
 |.non,.non=>true
 |.bl a,.bl b=>a==b
 |.bl a,.int b=>(if a then 1 else 0)==b
 |.int a,.bl b=>a==(if b then 1 else 0)
 |.int a,.int b=>a==b
 |.str a,.str b=>a==b
 |_,_=>false
theorem Xk(e:eO y u)(c:eO x v)(f:tQ y=true)(d:tQ x=true):SeqAt.EqAt A s u v (U8 y x):=by
 cases y with
 |non=>
  cases e;cases x with
  |non=>cases c;exact SeqAt.EqAt.same _
  |bl b=>cases c;exact SeqAt.EqAt.none_bool b
  |int b=>obtain⟨t,rfl⟩:=c;exact SeqAt.EqAt.none_int b t
  |str b=>obtain⟨t,rfl⟩:=c;exact SeqAt.EqAt.none_str b t
  |_=>exact absurd (show false=true from d) bd
 |bl a=>
  cases e;cases x with
  |non=>cases c;exact SeqAt.EqAt.bool_none a
  |bl b=>cases c;exact SeqAt.EqAt.bool_bool a b
  |int b=>obtain⟨t,rfl⟩:=c;exact SeqAt.EqAt.bool_int a b t
  |str b=>obtain⟨t,rfl⟩:=c;exact SeqAt.EqAt.bool_str a b t
  |_=>exact absurd (show false=true from d) bd
 |int a=>
  obtain⟨t',rfl⟩:=e;cases x with
  |non=>cases c;exact SeqAt.EqAt.int_none a t'
  |bl b=>cases c;exact SeqAt.EqAt.int_bool a t' b
  |int b=>obtain⟨t,rfl⟩:=c;exact SeqAt.EqAt.int_int a t' b t
  |str b=>obtain⟨t,rfl⟩:=c;exact G0 a t' b t
  |_=>exact absurd (show false=true from d) bd
 |str a=>
  obtain⟨t',rfl⟩:=e;cases x with
  |non=>cases c;exact SeqAt.EqAt.str_none a t'
  |bl b=>cases c;exact SeqAt.EqAt.str_bool a t' b
  |int b=>obtain⟨t,rfl⟩:=c;exact G1 a t' b t
  |str b=>obtain⟨t,rfl⟩:=c;exact SeqAt.EqAt.str_str a t' b t
  |_=>exact absurd (show false=true from d) bd
 |_=>exact absurd (show false=true from f) bd
def JJ(x:V)(u:ai):Bool:=match u with
 |.none=>U8 .non x
 |.bool b=>U8 (.bl b) x
 |.int i _=>U8 (.int i) x
 |.str z _=>U8 (.str z) x
 |_=>false
theorem Px(r:eO y u)(f:tQ y=true):JJ x u=U8 y x:=by
 cases y with
 |non=>cases r;rfl
 |bl b=>cases r;rfl
 |int i=>obtain⟨t,rfl⟩:=r;rfl
 |str z=>obtain⟨t,rfl⟩:=r;rfl
 |_=>exact absurd (show false=true from f) bd
theorem wX:∀{xs:List V}{c:List ai},eT xs c->xs.all tQ=true->c.any (JJ x)=xs.any λy=>U8 y x
 |_,_,.nil,_=>rfl
 |y::xs,u::c,.cons r t,f=>by
  rw[wQ,bc] at f;rw[fH,fH,Px r f.1,wX t f.2]
theorem tR(g:eO x v)(e:tQ x=true):∀{xs:List V}{d:List ai},eT xs d->xs.all tQ=true->∀u∈d,SeqAt.EqAt A s u v (JJ x u)
 |_,_,.nil,_=>λu c=>by cases c
 |y::xs,u::d,.cons r t,f=>λh c=>by
  rw[wQ,bc] at f;rcases List.mem_cons.mp c with rfl|c
  ·rw[Px r f.1];exact Xk r g f.1 e
  ·exact tR g e t f.2 h c
def inV(x:V)(xs:List V):Bool:=xs.any λy=>U8 y x
inductive Z7 (K:af) (neg:Bool) (x:V) (y:V) (H:Hp) (Q:VK):Prop
 |mk (p xs:_) (h0:y=.ref p) (h1:(sQ K H p xs\/mD K H p xs)) (h2:tQ x=true) (h3:xs.all tQ=true) (h4:Q (.bl (if neg then !inV x xs else inV x xs)) H):Z7 K neg x y H Q
def rIn(K:af)(c:Bool):R2:=Z7 K c
def Nb:tO X (cj .In) (rIn X.K false):=by
 intro g s k H x y v u Q I f j h;obtain⟨p,xs,rfl,d,i,fs,q⟩:=h;cases j;rcases d with d|d
 ·obtain⟨c,r,pl,hz⟩:=I.list d;refine SeqAt.in_listAt (JJ x) pl.isList (λw e=>tR f i r fs w (by simpa using e)) ⟨.bl _,H,I,rfl,?_⟩;rw[show c.toArray.any (JJ x)=c.any (JJ x) by simp,wX r fs];exact q
 ·obtain⟨c,r,pl,hz⟩:=I.tuple d;refine SeqAt.in_tupleAt (JJ x) pl (λw e=>tR f i r fs w (by simpa using e)) ⟨.bl _,H,I,rfl,?_⟩;rw[show c.toArray.any (JJ x)=c.any (JJ x) by simp,wX r fs];exact q
def ED:tO X (cj .NotIn) (rIn X.K true):=by
 intro g s k H x y v u Q I f j h;obtain⟨p,xs,rfl,d,i,fs,q⟩:=h;cases j;rcases d with d|d
 ·obtain⟨c,r,pl,hz⟩:=I.list d;refine SeqAt.notIn_listAt (JJ x) pl.isList (λw e=>tR f i r fs w (by simpa using e)) ⟨.bl _,H,I,rfl,?_⟩;rw[show c.toArray.any (JJ x)=c.any (JJ x) by simp,wX r fs];exact q
 ·obtain⟨c,r,pl,hz⟩:=I.tuple d;refine SeqAt.notIn_tupleAt (JJ x) pl (λw e=>tR f i r fs w (by simpa using e)) ⟨.bl _,H,I,rfl,?_⟩;rw[show c.toArray.any (JJ x)=c.any (JJ x) by simp,wX r fs];exact q
def wY:kL X (.builtin "len") (λxs H Q=>∃p ys,xs=[.ref p]/\(sQ X.K H p ys\/mD X.K H p ys)/\Q (.int ys.length) H):=by
 intro g s j H xs l Q I r h;obtain⟨p,ys,rfl,d,q⟩:=h;obtain⟨u,rfl,i⟩:=md r;cases i;have k:=yq;rcases d with d|d
 ·obtain⟨e,f,pl,hz⟩:=I.list d;have c:=f.length;exact Calls.call_len_list pl.isList (by simp only[ba]<;>omega) ⟨.int ys.length,H,I.tok _,⟨s.toks+1,by rw[ba,c]⟩,q⟩
 ·obtain⟨e,f,pl,hz⟩:=I.tuple d;have c:=f.length;exact len_tuple pl (by simp only[ba]<;>omega) ⟨.int ys.length,H,I.tok _,⟨s.toks+1,by rw[ba,c]⟩,q⟩
def EE:kL X (.builtin "len") (λxs H Q=>∃z,xs=[.str z]/\z.length<=sizeLine/\Q (.int z.length) H):=by
 intro c s e H xs d Q I r h;obtain⟨z,rfl,hz,q⟩:=h;obtain⟨u,rfl,t,rfl⟩:=md r;have f:=yq;exact len_str ∅ ⟨.int z.length,H,I.tok _,⟨_,rfl⟩,q⟩
theorem wZ:kL X (.type "list") (λxs H Q=>∃p ys,xs=[.ref p]/\(sQ X.K H p ys\/mD X.K H p ys)/\∀l,H l=none->Q (.ref l) (upd H l (.lst ys))):=by
 intro i s v H xs x Q I r h;obtain⟨p,ys,rfl,g,q⟩:=h;obtain⟨u,rfl,t⟩:=md r;cases t;have fin:∀(c:List ai),eT ys c->ys.length<=sizeLine->∀(h':bZ) (d:Nat),(∀b o',s.heap.get? b=some o'->h'.get? b=some o') ->
   h'.get? s.heap.objs.size=some {cls:=.type "list",dict:=none,data:=.seq c.toArray d,slots:=#[]}->EP X i v Q (.ref s.heap.objs.size) {s with heap:=h'}:=λc f hz h' d kp e=>
  ⟨.ref s.heap.objs.size,_,I.laid (t':=s.toks) kp (aA _) (show dQ X.prog X.w _ h' _ (.lst ys) from⟨hz,c,d,f,e⟩),rfl,q _ (I.hok.fresh (aA _))⟩
 rcases g with g|g
 ·obtain⟨c,f,pl,hz⟩:=I.list g;have j:=f.length;obtain⟨o,ho,k,n,m⟩:=pl.isList;exact call_list_seq p (.inl rfl) ho k m (λh' d kp e=>fin c f hz h' d kp e) (by simp only[ba]<;>omega)
 ·obtain⟨c,f,pl,hz⟩:=I.tuple g;have j:=f.length;obtain⟨o,ho,k,n,m⟩:=pl;exact call_list_seq p (.inr rfl) ho k m (λh' d kp e=>fin c f hz h' d kp e) (by simp only[ba]<;>omega)
theorem vH:kL X (.type "tuple") (λxs H Q=>∃p ys,xs=[.ref p]/\((sQ X.K H p ys/\∀l,H l=none->Q (.ref l) (upd H l (.tup ys)))\/(mD X.K H p ys/\Q (.ref p) H))):=by
 intro c s i H xs t Q I r h;obtain⟨p,ys,rfl,h⟩:=h;obtain⟨u,rfl,m⟩:=md r;cases m;rcases h with⟨f,q⟩|⟨f,q⟩
 ·obtain⟨d,g,pl,hz⟩:=I.list f;have j:=g.length;refine call_tuple_list pl.isList (λh' kp=>?_) (by simp only[ba]<;>omega);have k:ck X c i H {s with heap:=h'}:=I.kept (t':=s.toks) kp;have n:ck X c i (upd H h'.objs.size (.tup ys)) {s with heap:=h'.push {cls:=.type "tuple",data:=.seq d.toArray}}:=
   k.laid (t':=s.toks) (λb o e=>ah _ e) (aA _) (show dQ X.prog X.w _ _ _ (.tup ys) from⟨hz,d,g,zL _ _⟩)
  exact⟨.ref h'.objs.size,_,n,rfl,q _ (k.hok.fresh (aA _))⟩
 ·obtain⟨d,g,pl,hz⟩:=I.tuple f;exact call_tuple_same pl ⟨.ref p,H,I,rfl,q⟩
def tyV(K:af)(T:String)(x:V)(H:Hp):Prop:=match x with
 |.str _=>T="str"
 |.int _=>T="int"
 |.ref p=>(T="list"/\∃xs,sQ K H p xs)\/(T="tuple"/\∃o,K.lookup p=some o/\o.cls=.type "tuple"/\o.dict=none) \/
   (T="dict"/\((∃c,H p=some (.dK c))\/∃c,H p=some (.dT c)))\/(T="set"/\∃S n,H p=some (.set S n))
 |_=>False
def Xl(I:ck X pins σ H s)(r:eO x v)(ty:tyV X.K T x H):
  s.TypeIs v T/\∀a,v=.ref a->∃ob,s.heap.get? a=some ob/\ob.dict=none:=by
 cases x with
 |str z=>
  obtain⟨t,rfl⟩:=r;cases(show T="str" from ty);exact⟨typeIs_str s z t,λ_ e=>nomatch e⟩
 |int i=>
  obtain⟨t,rfl⟩:=r;cases(show T="int" from ty);exact⟨typeIs_int s i t,λ_ e=>nomatch e⟩
 |ref p=>
  cases r;rcases ty with⟨rfl,xs,k⟩|⟨rfl,o,d,hc,g⟩|⟨rfl,d⟩|⟨rfl,S,n,d⟩
  ·obtain⟨l,_,pl,_⟩:=I.list k;refine⟨pl.isList.typeIs,λa e=>?_⟩;cases e;obtain⟨o,n,e,c,g,_⟩:=pl;exact⟨o,e,g⟩
  ·refine⟨⟨o,I.kIn p o d,hc⟩,λa e=>?_⟩;cases e;exact⟨o,I.kIn _ o d,g⟩
  ·have z:∃o,s.heap.get? p=some o/\o.ExactDict:=by
    rcases d with⟨h,d⟩|⟨h,d⟩
    ·obtain⟨_,_,_,_,o,_,_,e,f,_⟩:=I.hok p _ d;exact⟨o,e,f⟩
    ·obtain⟨_,_,_,_,o,_,_,e,f,_⟩:=I.hok p _ d;exact⟨o,e,f⟩
   obtain⟨o,e,f⟩:=z;refine⟨⟨o,e,f.1⟩,λa j=>?_⟩;cases j;exact⟨o,e,f.2.1⟩
  ·obtain⟨o,_,_,_,e,f,_⟩:=I.hok p _ d;refine⟨⟨o,e,f.1⟩,λa j=>?_⟩;cases j;exact⟨o,e,f.2.1⟩
 |_=>exact jZ ty
def tBM(K:af)(T:String)(r:V->List V->Hp->VK->Prop)(to:TE)(t:TA):TE:=λc H Q=>to c H λx d=>tyV K T x d/\t c d λxs e=>r x xs e Q
variable{o e:bJ}{es:List bJ}{to:TE}{t:TA}{name:Str}{apos cpos:Pos}{T id:String}{r:V->List V->Hp->VK->Prop}
def Py(L:PlainAttrs T)(slot:Slot T name id)(l:typeOf (.builtin id)=pure (.type "method_descriptor"))(z:MtR X id r)(ho:PE X o to)(w:PA X (e::es) t)
  (g:Ab o name X.env (fO o X.env)=fO o X.env:=by rfl)
  (j:((kR cpos (a_ (e::es) X.env)).all (λx=>!x.1)&&(Tb cpos (G5 [] X.env)).all (λx=>x.1.isSome)
   && decide ((e::es).length+([]:List yY).length+(if([]:List yY).isEmpty then 0 else 1)<30))=true:=by rfl)
  (f:(apos.endLine==cpos.line)=true:=by rfl) (hs:a_ (e::es) X.env=(false,fO e X.env)::a_ es X.env:=by rfl) (d:(kR cpos (a_ es X.env)).any (·.1)=false:=by rfl):
  PE X (.Call (.Attribute o name apos) (e::es) [] cpos) (tBM X.K T r to t):=by
 intro c s k H Q I h;refine wpAny_Call_method_late g j f rfl (gG (ho c s k H _ I h) λv s1 ⟨x,u,p,n,ty,y⟩=>?_);obtain⟨q,M⟩:=Xl p n ty;refine⟨T,id,L,slot,l,q,M,?_⟩;have m:=w cpos c s1 k u _ p y;rw[hs] at m ⊢;refine Calls.callWith_builtin (by show(false||(kR cpos (a_ es X.env)).any (·.1))=false;rw[d]<;>rfl) (Calls.evalArgs_plain ?_);exact gG m λN E i=>by obtain⟨P,B,A,O,G⟩:=i;exact z c E k B x P v N Q A n O G
end
end L2
namespace L2
open PySem PySem.Spec PyProof.Rows
def MtM(X:Cx)(id:String)(r:V->List V->Hp->VK->Prop):Prop:=
 ∀(a:List (av×Obj)) (s:au) (c:St) (H:Hp) (x:V) (xs:List V) (v:ai) (b:List ai) (Q:VK),ck X a c H s->eO x v->eT xs b->r x xs H Q ->
  ay (aD X.prog X.w) X.A (call (.builtin id) (v::b)) (EP X a c Q) X.xe s
def eT.one(h:eT [x] us):∃u,us=[u]/\eO x u:=by
 cases h with|cons r t=>cases t;exact⟨_,rfl,r⟩
def ck.lset{a its':List ai}{n:Nat}{f:Array ai->Array ai}{t':Nat}(I:ck X pins σ H s)(h:H l=some (.lst xs))
  (e:s.heap.get? l=some {cls:=.type "list",data:=.seq a.toArray n}) (d:f a.toArray=its'.toArray) (c:eT ys its') (hz:ys.length<=sizeLine):
  ck X pins σ (upd H l (.lst ys)) {s with heap:=s.heap.update l (de f),toks:=t'}:=by
 have q:=PySem.IsL.update e f;rw[d] at q;refine I.write (x:=l) (e:=l) (by rw[h];exact trivial) (.inl rfl) (λi u g b=>(dE s.heap (de f) (dO g)).trans b) ⟨_,q⟩ ?_;exact⟨hz,its',_,c,q⟩
def ck.lnew(I:ck X pins σ H s)(a:eT ys its)(hz:ys.length<=sizeLine):
  ck X pins σ (upd H s.heap.objs.size (.lst ys)) {s with heap:=s.heap.push {cls:=.type "list",data:=.seq its.toArray},toks:=t'}:=
 I.laid (λ_ _ q=>ah _ q) (aA _) ⟨hz,its,0,a,aE _ rfl⟩
theorem ck.fresh(I:ck X pins σ H s):H s.heap.objs.size=none:=I.hok.fresh (aA _)
def ck.lstM(I:ck X pins σ H s)(b:H l=some (.lst xs)):InM s.heap l xs:=by
 obtain⟨z,a,n,r,e⟩:=I.hok l _ b;exact⟨z,a,n,r,r.length,e⟩
inductive Gm (x:V) (vs:List V) (H:Hp) (Q:VK):Prop
 |mk (l xs y:_) (h0:x=.ref l) (h1:vs=[y]) (h2:H l=some (.lst xs)) (h3:xs.length<sizeLine) (h4:Q .non (upd H l (.lst (xs++[y])))):Gm x vs H Q
def U9:V->List V->Hp->VK->Prop:=Gm
def Dj:MtM X "list.append" U9:=by
 intro b s j H x m v k Q I d f h;obtain⟨l,xs,y,rfl,rfl,c,hz,q⟩:=h;cases d;obtain⟨u,rfl,g⟩:=f.one;obtain⟨z,a,n,r,i,e⟩:=I.lstM c;refine call_meets F.slot_list_append ⟨_,e,rfl⟩ F.entry_list_append (F.args_list_append_2 _ _) (PySem.list_append l a.toArray n u (by rw[ba];omega)) ⟨e,?_⟩;refine⟨.non,_,I.lset (its':=a++[u]) c e (by simp) (r.append (.cons g .nil)) ?_,rfl,q⟩;rw[aS,eR];omega
end L2
namespace Att
open PySem PySem.W PySem.Calls PyProof.Rows
def zT:∀(c:List Int) (d:List ai),WellAll P h d (c.map WData.int)->OY d c:=by
 intro c;induction c with
 |nil=>
  intro d w;rw[fK] at w;cases w;exact .nil
 |cons n c e=>
  intro d w;rw[aC] at w;cases w with
  |cons a b=>
   cases a;exact .cons _ _ (e _ b)
def Nc{l:OpenLaw}{n:Nat}(w:l.most=some n){P:Params}{h:bZ}{args:List WData}{c:List ai}
  (e:l.row.toRowW.claim.pre args=true) (k:WellAll P h c args):
  ∃a p b,c=[bi a]/\args=[WData.list (b.map WData.int)]/\h.get? a=some {cls:=.type "list",data:=.seq p.toArray}/\OY p b/\b.length<=n:=by
 have m:WShape.hasAll [] args [.list .int]=true:=(pre_splitW e).1;have o:l.pre.holds [] {args:=args}=true:=(pre_splitW e).2;obtain⟨d,r,rfl,t,x⟩:=hasAllW_cons m;obtain rfl:=hasAllW_nil x;obtain⟨xs,rfl,v⟩:=hasW_list t;obtain⟨b,rfl⟩:=items_int v;have g:b.length<=n:=by
  unfold OpenLaw.pre at o;have i:(WTm.not (.lt (.lit (.int (n:Int))) (.len (.arg 0)))).holds [] {args:=[.list (b.map .int)]}=true:=by
   have i:=(holds_andW o).1;rw[w] at i;exact i
  have j:=condW_of i (w_not (w_lt w_lit (w_len_list (w_arg rfl))));rw[ao] at j;refine Tc λq=>?_;have q':(n:Int)<((b.length:Nat):Int):=by omega
  first
   |(rw[decide_eq_true q'] at j;exact absurd j ⋯)
   |(simp at j;omega)
 cases k with
 |cons s u=>
  cases u;cases s with
  |list ho f=>exact⟨_,_,b,rfl,rfl,ho,zT b _ f,g⟩
def Nd(l:OpenLaw)(args:List WData):l.row.toRowW.claim.post args (.bool true) args=true:=
 postW_of (r:=l.row.toRowW) (X:=(true==true))
  (show WShape.has [] (.bool true) .bool=true by first|rfl|decide|simp[WShape.has,WShape.arms,WShape.armsAll])
  (show(WTm.eq .res (.lit (.bool true))).value [] {args:=args,res:=some (.bool true),after:=args}=some (.bool (true==true)) from w_eq_bool (w_res rfl) w_lit) rfl
def attach_call{l:OpenLaw}{n:Nat}{q:bj}{c:List Str}{M:(Str->Option ai)->bZ->Prop}{E:bF->bZ->Prop}{d:DefRec}
  (U:l.most=some n) (A:d.params.defaults=[])
  (call:∀(w:bF) (e b:au) (u x:Str->Option ai) (j:av) (o:Obj) (B s g:ai) (a:av) (i:List ai) (t:List Int),
   Ground q c [] M w e u x b.heap->E w b.heap ->
   b.heap.get? j=some o->o.data=.func (docDef d.name d.params d.body d.scope B s g)->b.heap.CodeRec s d.name->u d.name=some (.ref j) ->
   b.heap.get? a=some {cls:=.type "list",data:=.seq i.toArray}->OY i t->t.length<=n->b.gens=#[] ->
   gU (aD l.prog w) yZ (.call (.ref j) ⟨[.ref a],[]⟩) (λr s'=>r=.ok (.ret (.bool true))/\OldK b.heap s'.heap/\s'.os=b.os/\sZ s'.gens) b):
  WalkO q c M E l.row.toRowW d [] (λf i=>MM f i):=by
 intro w e b u x G Y j o B s g N kV ho hd v L z hg K I as k H X y S;obtain rfl:N=.none:=Dflts.none L A;obtain rfl:kV=.none:=Dflts.noKw L;obtain⟨a,i,t,rfl,rfl,m,h,p⟩:=Nc U k y;refine enter_call (nh (call w e b u x j o B s g a i t G Y ho (fd_plain hd) v z m h p hg) λr s' P=>?_);obtain⟨rfl,h2,O,Q⟩:=P;exact⟨.inl ⟨.bool true,.bool true,[],rfl,λ_=>rfl,.bool true,Nd l _,λ_=>⟨tH,λ_ T=>(nomatch T)⟩⟩,h2,O,Q⟩
section
variable{prog:bj}{w:bF}{A:cD}{E:ai->au->Prop}{s:au}{K:Frag}
def q0M(h:bZ)(L d:av):List (av×Obj):=(bx h.objs.size).filterMap λa=>if a=L\/a=d then none else(h.get? a).map λo=>(a,o)
end
end Att
namespace L2
open PySem PySem.Spec PyProof.Rows
def Nf(h:OY vs ns):eT (ns.map V.int) vs:=by
 induction h with
 |nil=>exact .nil
 |cons n t h a=>exact .cons ⟨t,rfl⟩ a
def Xm(H:Hp):Prop:=∀b,H b=none\/∃o xs,H b=some (.frz o (.lst xs))
def Pz{P:bj}{w:bF}{K:af}{E S:Str->Option ai}{CX:Ps}{k:Nat}{T a:av}{fd:iF}{x:Str}{sp:Sp}{c:au}{p:List ai}{y:List Int}
  (KX:K.In c.heap) (I:c.heap.Ns cy E) (g:c.heap.Ns builtinsNs S) (a0:∀x:Str,x≠"__name__"->S x=jM x) (O:c.heap.NoLimit) (hg:c.gens=#[])
  (Q:c.heap.get? a=some {cls:=.type "list",data:=.seq p.toArray}) (hi:OY p y) (hl:y.length<=sizeLine) (hr:nz k yZ)
  (F:∀base:bZ,K.In base->base.Ns cy E->vn P w K E base CX k T fd [x] sp) (l:∀(s:au) (u:ai),Ci s fd ⟨[u],[]⟩ [(x,u)])
  (X:∀H:Hp,Xm H->sQ K H a (y.map V.int)->sp [.ref a] H (λv _=>v=.bl true) λ_ _ _=>False)
  (Y:∀H e s',CX [] H c (λ_ _ _=>False) e s'->False):
  gU (aD P w) yZ (.call (.ref T) ⟨[.ref a],[]⟩) (λr s'=>r=.ok (.ret (.bool true))/\OldK c.heap s'.heap/\s'.os=c.os/\sZ s'.gens) c:=by
 have rv:=Nf hi
 have L:=hi.length
 have j:∀H:Hp,Xm H->sQ K H a (y.map V.int)->tF P w H c.heap->(∀b,H b≠none->b=a)->(H a≠none->K.lookup a=none) ->
   gU (aD P w) yZ (.call (.ref T) ⟨[.ref a],[]⟩) (λr s'=>r=.ok (.ret (.bool true))/\OldK c.heap s'.heap/\s'.os=c.os/\sZ s'.gens) c:=by
  intro H hO hS M hA hK
  have f:∀{b:av}{o:Obj},c.heap.get? b=some o->H b=none->(Ex c.heap H).get? b=some o:=λe n=>Pd e n
  have a1:∀{b:av}{o:Obj}{es:Array y_}{t:Nat},c.heap.get? b=some o->o.data=.dict es t->H b=none:=λ{b o es t} e d=>by
   cases q:H b with
   |none=>rfl
   |some u=>
    have U:b=a:=hA b (by rw[q];simp)
    subst U
    rw[Q] at e;cases e
    have d':Data.seq p.toArray _=Data.dict es t:=d
    cases d'
  have i:∀{b:av}{m:Str->Option ai},c.heap.Ns b m->(Ex c.heap H).Ns b m:=λ{b m} ⟨o,es,t,e,d,r⟩=>⟨o,es,t,f e (a1 e d),d,r⟩
  have A:K.In (Ex c.heap H):=λb o e=>f (KX b o e) (by
   cases q:H b with
   |none=>rfl
   |some u=>
    have U:b=a:=hA b (by rw[q];simp)
    subst U
    rw[hK (by rw[q];simp)] at e;cases e)
  have hM:Mod K E (Ex c.heap H):=⟨A,i I,⟨S,i g,a0⟩,let ⟨mc,h1,h2⟩:=O;⟨mc,i h1,h2⟩⟩
  have e0:T_ P w K E (Ex c.heap H) yZ [] c H:=⟨rfl,hM,λb o e=>TF e,Nat.le_of_eq (N5 _ _),trivial,λb g=>absurd (show b∈([]:List av) from g) (by simp),M,.of_eq hg⟩
  refine nh ((F _ A (i I)).run yZ [] c H ⟨[.ref a],[]⟩ [.ref a] [.ref a] _ _ hr e0 (l c (.ref a)) (.cons rfl .nil) (X H hO hS)) λr s' h=>?_
  cases r with
  |error e=>exact(Y H e s' h).elim
  |ok fl=>
   cases fl with
   |next=>exact jZ h
   |brk=>exact jZ h
   |cont=>exact jZ h
   |ret u=>
    obtain⟨v,H',os,N,un,G,r',q⟩:=h
    have q':v=.bl true:=q
    subst q'
    obtain rfl:u=wL true:=r'
    refine⟨rfl,OldK.of_keep λb o e=>?_,os,N⟩
    cases q:H b with
    |none=>exact un.keep b o e q (by intro z;exact absurd (show b∈([]:List av) from z) (by simp)) (by simp)
    |some u=>
     rcases hO b with z|⟨ob,xs,z⟩
     ·rw[q] at z;cases z
     ·have z2:=un.frzs b ob _ z
      obtain⟨e1,_⟩:=M b _ z
      obtain⟨e2,_⟩:=G b _ z2
      rw[e] at e1;cases e1
      exact e2
 cases hk:K.lookup a with
 |some o=>
  have e:=KX a o hk
  rw[Q] at e
  cases e
  refine j (λ_=>none) (λ_=>.inl rfl) (.inr ⟨_,p.toArray,_,hk,rfl,rfl,rfl,by rw[ba,L];exact hl,by simpa using rv⟩) (λb u z=>by have B:(none:Option HO)=some u:=z;cases B) (λb z=>absurd rfl z) λz=>absurd rfl z
 |none=>
  refine j (λb=>if b=a then some (.frz {cls:=.type "list",data:=.seq p.toArray} (.lst (y.map V.int))) else none) (λb=>?_) (.inl (.inr ⟨{cls:=.type "list",data:=.seq p.toArray},if_pos rfl⟩)) (λb u z=>?_) (λb z=>?_) λ_=>hk
  ·by_cases g:b=a
   ·exact .inr ⟨_,_,if_pos g⟩
   ·exact .inl (if_neg g)
  ·by_cases g:b=a
   ·have B:=(if_pos g).symm.trans z
    cases B
    subst g
    exact⟨Q,by rw[ao];exact hl,p,_,rv,Q⟩
   ·have B:=(if_neg g).symm.trans z
    cases B
  ·by_cases g:b=a
   ·exact g
   ·exact absurd (if_neg g) z
end L2
namespace L2
open PySem PySem.Spec PyProof.Rows
abbrev KOf{K:af}{h:bZ}(_:K.In h):af:=K
def Ua{l:zM}{n k:Nat}{q:bj}{i:List Str}{XP:(Str->Option ai)->bZ->Prop}{N:bF->bZ->Prop}{d:DefRec}{K:Params->af}{CX:bF->Ps}{sp:bF->Sp}{x:Str}
  (hn:l.most=some n) (I:n<=sizeLine) (E:d.params.defaults=[]) (hr:nz k yZ)
  (S:∀(w:bF) (h:bZ),N w h->(K w.params).In h)
  (F:∀(w:bF) (m:Str->Option ai) (y:av) (h:bZ),(K w.params).In h->h.Ns cy m->m d.name=some (.ref y) ->
   ∃A:iF,(∀(s:au) (u:ai),Ci s A ⟨[u],[]⟩ [(x,u)]) /\
    ∀base:bZ,(K w.params).In base->base.Ns cy m->vn l.prog w (K w.params) m base (CX w) k y A [x] (sp w))
  (L:∀(w:bF) (H:Hp) (a:av) (z:List Int),z.length<=n->Xm H->sQ (K w.params) H a (z.map V.int)->sp w [.ref a] H (λv _=>v=.bl true) λ_ _ _=>False)
  (M:∀(w:bF) (H:Hp) (s:au) (e:ai) (s':au),CX w [] H s (λ_ _ _=>False) e s'->False):
  SO q i XP N l.row.toRowW d [] (λf Q=>MM f Q):=by
 refine Att.attach_call hn E λw P p m mb y o pm cd a0 a Q z G Y ho hd X B t j c hg=>?_;have O:=S w _ Y;obtain⟨A,hb,U⟩:=F w m y _ O G.T.g B;exact Pz O G.T.g G.T.b G.T.builtins G.T.nolimit hg t j (c8 c I) hr U hb (λH hO hS=>L w H a z c hO hS) λH e s'=>M w H p e s'
end L2
namespace L2
open PySem PySem.Spec PyProof.Rows
def mE(s:fg):Arguments:=match s with
 |.FunctionDef _ a _ _ _ _ _ _ _ _=>a
 |_=>{posonlyargs:=[],args:=[],vararg:=none,kwonlyargs:=[],kw_defaults:=[],kwarg:=none,defaults:=[]}
def jG(s:fg):List fg:=match s with
 |.FunctionDef _ _ b _ _ _ _ _ _ _=>b
 |_=>[]
def aH(s:fg):fG:=match s with
 |.FunctionDef _ _ _ _ _ _ a _ _ _=>a
 |_=>{kind:=.function,names:=[],isGenerator:=false,isCoroutine:=false}
abbrev E0:XK:=λ_ _ _=>False
structure Ng (K:af) (x qual:Str) (st:fg) (f:av) (fd:iF):Prop where
 ex:∃(oc:ai) (od:Option av) (kV doc pm:ai) (an:Option av) (cdv ct:ai) (osl:Array (Option ai)),
  fd=ip x qual (mE st) (jG st) (aH st) .none kV doc pm an cdv ct/\K.lookup f=some ⟨oc,od,.func fd,osl⟩/\oE K cdv qual=true
 kp:gX K (.ref f)=true
section
variable{P:bj}{w:bF}{K:af}{mg:Str->Option ai}{base:bZ}
def Ng.binds{x a:Str}{st:fg}{f:av}{j:iF}{ps:List Str}(F:Ng K x a st f j)
  (h:∀(kV b d:ai) (g:Option av) (c i:ai) (e:List ai),e.length=ps.length->Ta (ip x a (mE st) (jG st) (aH st) .none kV b d g c i) ⟨e,[]⟩=pure (ps.zip e)):nK K j ps []:=by
 obtain⟨m,o,kV,b,d,g,c,i,l,rfl,n,k⟩:=F.ex;exact .all (h kV b d g c i)
def PB{x a:Str}{st:fg}{f:av}{j:ai}{m h:Option av}{e:Array (Option ai)}{kV d i b g:ai}(l:K.lookup f=some ⟨j,m,.func (ip x a (mE st) (jG st) (aH st) .none kV d i h b g),e⟩)
  (c:oE K b a=true) (k:gX K (.ref f)=true):Ng K x a st f (ip x a (mE st) (jG st) (aH st) .none kV d i h b g):=⟨⟨j,m,kV,d,i,h,b,g,e,rfl,l,c⟩,k⟩
end
def li(a:nz k A):A.units+1<eM:=qr (Nat.add_le_add_left (by decide:1<=64) _) a.units
def fE(h:n<=1000):n<sizeLine:=qr h ⋯
def zU{A B:Prop}(h:B):if false=true then A else B:=by
 rw[if_neg bd];exact h
def zV{A B:Prop}(h:A):if true=true then A else B:=by
 rw[if_pos rfl];exact h
def eD(H H':Hp):Prop:=∀b o,H b=some o->H' b=some o
def eD.refl(H:Hp):eD H H:=λ_ _ h=>h
def eD.trans(a:eD H H1)(b:eD H1 H2):eD H H2:=λc o h=>b c o (a c o h)
def eD.free(e:eD H H')(h:H' l=Option.none):H l=Option.none:=by
 cases q:H l with
 |none=>rfl
 |some o=>
  rw[e l o q] at h;cases h
def eD.seq{K:af}{H H':Hp}{a:av}{xs:List V}(e:eD H H')(h:sQ K H a xs):sQ K H' a xs:=by
 rcases h with (h|⟨o,h⟩)|h
 ·exact .inl (.inl (e _ _ h))
 ·exact .inl (.inr ⟨o,e _ _ h⟩)
 ·exact .inr h
end L2
namespace L2
open PySem PySem.Spec PyProof.Rows
section
variable{κ:Type}[DecidableEq κ]
def qW(a:List (κ×V))(k:κ):Option V:=(a.find? λb=>decide (b.1=k)).map (·.2)
def pz(a:List (κ×V))(k:κ)(v:V):List (κ×V):=
 if(a.any λb=>decide (b.1=k))=true then a.map (λb=>if b.1=k then(b.1,v) else b) else a++[(k,v)]
def PD(a:List (κ×V))(k:κ):List (κ×V):=a.filter λb=>decide (b.1≠k)
def AQ{p:κ×V}{r:List (κ×V)}{k:κ}(e:p.1=k):qW (p::r) k=some p.2:=by simp[qW,cP,e]
def AR{p:κ×V}{r:List (κ×V)}{k:κ}(e:¬ p.1=k):qW (p::r) k=qW r k:=by simp[qW,cP,e]
theorem Gn(k:κ):∀a:List (κ×V),(a.any λb=>decide (b.1=k))=(qW a k).isSome
 |[]=>rfl
 |p::r=>by
  rw[fH];by_cases e:p.1=k
  ·simp only[AQ e,decide_eq_true e,Bool.true_or,Lf]
  ·rw[AR e,decide_eq_false e,Bool.false_or];exact Gn k r
def tS(a:List (κ×V))(k:κ)(v:V):(pz a k v).length<=a.length+1:=by
 unfold pz;split
 ·rw[ao];omega
 ·rw[aS,aX,du];omega
def AL.isSome_eq(r:AL o u):o.isSome=u.isSome:=by
 cases o with
 |none=>cases u with
  |none=>rfl
  |some _=>exact(show False from r).elim
 |some _=>cases u with
  |none=>exact(show False from r).elim
  |some _=>rfl
def KV.val{a:List (κ×V)}{g:List (κ×ai)}(r:KV a g)(k:κ):AL (qW a k) (Ck g k):=by
 unfold KV at r;induction r with
 |nil=>exact kh
 | @cons p q ps d h t i=>
  obtain⟨f,j⟩:=h;by_cases e:p.1=k
  ·have c:q.1=k:=f.symm.trans e;have b:Ck (q::d) k=some q.2:=by simp[Ck,cP,c]
   rw[AQ e,b];exact j
  ·have c:¬ q.1=k:=λz=>e (f.trans z);have b:Ck (q::d) k=Ck d k:=by simp[Ck,cP,c]
   rw[AR e,b];exact i
def KV.any(r:KV kvs vs)(k:κ):(kvs.any λa=>decide (a.1=k))=vs.any λa=>decide (a.1=k):=by
 unfold KV at r;induction r with
 |nil=>rfl
 |cons h t b=>rw[fH,fH,b,h.1]
def KV.repl(r:KV kvs vs)(k:κ)(d:eO y u):
  KV (kvs.map λa=>if a.1=k then(a.1,y) else a) (vs.map λa=>if a.1=k then(a.1,u) else a):=by
 unfold KV at r ⊢;induction r with
 |nil=>exact .nil
 | @cons p q ps g h t c=>
  rw[aC,aC];refine .cons ?_ c;obtain⟨b,f⟩:=h;by_cases e:p.1=k
  ·rw[if_pos e,if_pos (b.symm.trans e)];exact⟨b,d⟩
  ·rw[if_neg e,if_neg (λz=>e (b.trans z))];exact⟨b,f⟩
def KV.put(r:KV kvs vs)(k:κ)(a:eO y u):KV (pz kvs k y) (stored vs k u):=by
 unfold pz stored;rw[r.any k];by_cases e:(vs.any λb=>decide (b.1=k))=true
 ·rw[if_pos e,if_pos e];exact r.repl k a
 ·rw[if_neg e,if_neg e];exact Paired.snoc r ⟨rfl,a⟩
def KV.length(r:KV kvs vs):kvs.length=vs.length:=kO r
end
def Go(r:eO (kV k) u):(iq P w).is k u=true:=by
 cases k with
 |inl i=>obtain⟨t,e⟩:=(show ∃t,u=mO i t from r);subst e;exact Ge P w i t
 |inr x=>obtain⟨t,e⟩:=(show ∃t,u=lH x t from r);subst e;exact Gf P w x t
theorem Dk:∀{a:List iL}{b:List ai},eT (a.map kV) b->ItemsAre (iq P w) a b
 |[],_,r=>by rw[fK] at r;cases r;exact .nil
 |k::a,_,r=>by
  rw[aC] at r;cases r with
  |cons h t=>exact .cons (Go h) (Dk t)
abbrev KT(H:Hp):List (List iL×V)->List (List iL×av×ai)->Prop:=J9 λp q=>p.1=q.1/\H q.2.1=some (.tup (p.1.map kV))/\eO p.2 q.2.2
def KT.val{H:Hp}{a:List (List iL×V)}{xs:List (List iL×av×ai)}(r:KT H a xs)(k:List iL):AL (qW a k) ((Je xs k).map (·.2)):=by
 induction r with
 |nil=>exact kh
 | @cons p q ps d h t g=>
  obtain⟨f,_,i⟩:=h;by_cases e:p.1=k
  ·have c:q.1=k:=f.symm.trans e;have b:Je (q::d) k=some q.2:=by simp[Je,cP,c]
   rw[AQ e,b];exact i
  ·have c:¬ q.1=k:=λz=>e (f.trans z);have b:Je (q::d) k=Je d k:=by simp[Je,cP,c]
   rw[AR e,b];exact g
def KT.repl(r:KT H kvs xs)(k:List iL)(g:eO y u):
  KT H (kvs.map λb=>if b.1=k then(b.1,y) else b) (xs.map (putAt k u)):=by
 induction r with
 |nil=>exact .nil
 | @cons p q ps i h t d=>
  rw[aC,aC];refine .cons ?_ d;obtain⟨a,c,f⟩:=h;unfold putAt;by_cases e:p.1=k
  ·rw[if_pos e,if_pos (a.symm.trans e)];exact⟨a,c,g⟩
  ·rw[if_neg e,if_neg (λz=>e (a.trans z))];exact⟨a,c,f⟩
def KT.put(r:KT H kvs xs)(k:List iL)(d:H b=some (.tup (k.map kV)))(a:eO y u):
  KT H (pz kvs k y) (storedH xs k b u):=by
 have e:(kvs.any λc=>decide (c.1=k))=(Je xs k).isSome:=by
  rw[Gn,(r.val k).isSome_eq,xY]
 unfold pz storedH;rw[e];by_cases q:(Je xs k).isSome=true
 ·rw[if_pos q,if_pos q];exact r.repl k a
 ·rw[if_neg q,if_neg q];exact Paired.snoc r ⟨rfl,d,a⟩
def KT.keeps(r:KT H kvs xs)(a:∀b ys,H b=some (.tup ys)->H' b=some (.tup ys)):KT H' kvs xs:=
 Paired.mapP r λ_ _ z=>⟨z.1,a _ _ z.2.1,z.2.2⟩
def VM(ok:tF P w H h)(e:Rd H a u):dQ P w H h a u:=e.ok ok
def Gp(ok:tF P w H h)(e:Rd H a (.dK kvs)):kvs.length<=sizeLine/\(a==ft)=false/\∃b,KV kvs b/\h.DictOf (iq P w) a b:=
 show dQ P w H h a (.dK kvs) from VM ok e
def Z8(ok:tF P w H h)(e:H a=some (.dK kvs)):kvs.length<=sizeLine/\(a==ft)=false/\∃b,KV kvs b/\h.DictOf (iq P w) a b:=Gp ok (.inl e)
def yr(ok:tF P w H h)(e:H a=some (.tup (ks.map kV))):(vg (iq P w)).is h ks a:=by
 obtain⟨_,b,r,o,c,f,n,d⟩:=(show dQ P w H h a (.tup (ks.map kV)) from ok a _ e);exact⟨o,b.toArray,n,c,f,d,by simpa using Dk r⟩
def Gq(ok:tF P w H h)(e:Rd H a (.dT kvs)):kvs.length<=sizeLine/\(a==ft)=false /\
  ∃xs,KT H kvs xs/\h.DictOfH (vg (iq P w)) a xs:=by
 obtain⟨z,y,xs,r,o,es,j,c,g,i,k,f⟩:=(show dQ P w H h a (.dT kvs) from VM ok e);refine⟨z,y,xs,r,o,es,j,c,g,i,k,λx hx=>?_,f⟩;have all:∀{l:List (List iL×V)}{m:List (List iL×av×ai)},KT H l m->∀x∈m,(vg (iq P w)).is h x.1 x.2.1:=by
  intro l m q;induction q with
  |nil=>intro x hx;exact nomatch hx
  | @cons p q ps n b t d=>
   intro x hx;rcases List.mem_cons.mp hx with e|hx
   ·subst e;exact yr ok (by rw[<- b.1];exact b.2.1)
   ·exact d x hx
 exact all r x hx
def VN(ok:tF P w H h)(e:H a=some (.dT kvs)):kvs.length<=sizeLine/\(a==ft)=false /\
  ∃xs,KT H kvs xs/\h.DictOfH (vg (iq P w)) a xs:=Gq ok (.inl e)
def zW(H:Hp)(a:av)(y:V)(r:Option V):Prop:=
 (∃c k,Rd H a (.dK c)/\y=kV k/\r=qW c k)\/∃c k b,Rd H a (.dT c)/\y=.ref b/\H b=some (.tup (k.map kV))/\r=qW c k
def Gr(H:Hp)(a:av)(y v:V)(H':Hp):Prop:=
 (∃c k,H a=some (.dK c)/\y=kV k/\c.length<sizeLine/\H'=upd H a (.dK (pz c k v))) \/
 ∃c k b,H a=some (.dT c)/\y=.ref b/\H b=some (.tup (k.map kV))/\c.length<sizeLine/\H'=upd H a (.dT (pz c k v))
theorem zW.k{H:Hp}{a:av}{b:List (iL×V)}{k:iL}(e:H a=some (.dK b)):zW H a (kV k) (qW b k):=.inl ⟨b,k,.inl e,rfl,rfl⟩
def zW.t{H:Hp}{a b:av}{c:List (List iL×V)}{k:List iL}(e:H a=some (.dT c))(d:H b=some (.tup (k.map kV))):zW H a (.ref b) (qW c k):=.inr ⟨c,k,b,.inl e,rfl,d,rfl⟩
theorem Gr.k{H:Hp}{a:av}{b:List (iL×V)}{k:iL}{v:V}(e:H a=some (.dK b))(c:b.length<sizeLine):Gr H a (kV k) v (upd H a (.dK (pz b k v))):=.inl ⟨b,k,e,rfl,c,rfl⟩
def Gr.t{H:Hp}{a b:av}{c:List (List iL×V)}{k:List iL}{v:V}(e:H a=some (.dT c))(d:H b=some (.tup (k.map kV)))(f:c.length<sizeLine):
  Gr H a (.ref b) v (upd H a (.dT (pz c k v))):=.inr ⟨c,k,b,e,rfl,d,f,rfl⟩
def ck.big(I:ck X pins σ H s):ft<s.heap.objs.size:=by
 have h:cy<s.heap.objs.size:=(I.mod.glob.keeps I.bk).lt;exact eN ⋯ h
def Nh(x:A.units+1<eM)(I:ck X pins σ H s)(g:zW H a y (some v))(t:eO y u)(h:∀f s',ck X pins σ H s'->eO v f->Q f s'):
  ay (aD X.prog X.w) A (t4 (.ref a) u) Q E s:=by
 rcases g with⟨q,k,e,m,l⟩|⟨q,k,b,e,m,eb,l⟩
 ·subst m;obtain⟨z,B,K,d,j⟩:=Gp I.hok e;obtain⟨f,i,c⟩:=AL.some_of (v:=v) (o:=Ck K k) (by rw[l];exact d.val k);exact wpAny_getItem_of (Go t) j.mapOf i (h f _ (I.tok _) c)
 ·subst m;cases(show u=bi b from t);obtain⟨z,B,xs,d,j⟩:=Gq I.hok e;obtain⟨f,i,c⟩:=AL.some_of (v:=v) (o:=(Je xs k).map (·.2)) (by rw[l];exact d.val k);obtain⟨p,G,n⟩:=Option.map_eq_some_iff.mp i;refine wpAny_getItem_heap (rM x) (yr I.hok eb) j G ?_;rw[n];exact h f _ (I.tok _) c
def d_in(n:A.units+1<eM)(I:ck X pins σ H s)(g:zW H a y o)(m:eO y u)(h:∀s',ck X pins σ H s'->Q (.bool o.isSome) s'):
  ay (aD X.prog X.w) A (cj .In u (.ref a)) Q E s:=by
 rcases g with⟨f,k,e,d,l⟩|⟨f,k,b,e,d,eb,l⟩
 ·subst d;obtain⟨z,j,p,c,i⟩:=Gp I.hok e;refine wpAny_in_of (Go m) j i.mapOf ?_;rw[<- (c.val k).isSome_eq,<- l];exact h _ (I.tok _)
 ·subst d;cases(show u=bi b from m);obtain⟨z,j,xs,c,i⟩:=Gq I.hok e;refine wpAny_in_heap (rM n) (yr I.hok eb) j i ?_;have q:=(c.val k).isSome_eq;rw[xY] at q;rw[<- q,<- l];exact h _ (I.tok _)
def Ub(n:A.units+1<eM)(I:ck X pins σ H s)(g:zW H a y o)(m:eO y u)(h:∀s',ck X pins σ H s'->Q (.bool (!o.isSome)) s'):
  ay (aD X.prog X.w) A (cj .NotIn u (.ref a)) Q E s:=by
 rcases g with⟨f,k,e,d,l⟩|⟨f,k,b,e,d,eb,l⟩
 ·subst d;obtain⟨z,j,p,c,i⟩:=Gp I.hok e;refine wpAny_notIn_of (Go m) j i.mapOf ?_;rw[<- (c.val k).isSome_eq,<- l];exact h _ (I.tok _)
 ·subst d;cases(show u=bi b from m);obtain⟨z,j,xs,c,i⟩:=Gq I.hok e;refine wpAny_notIn_heap (rM n) (yr I.hok eb) j i ?_;have q:=(c.val k).isSome_eq;rw[xY] at q;rw[<- q,<- l];exact h _ (I.tok _)
def EF(I:ck X pins σ H s)(c:YH (H a))(hs:bK a s.heap h')(he:∃q,h'.get? a=some q)(new:dQ X.prog X.w (upd H a ob) h' a ob):
  ck X pins σ (upd H a ob) {s with heap:=h',toks:=t'}:=
 I.write (x:=a) (e:=a) c (.inl rfl) (λb q d z=>(hs.2 b d).trans z) he new
def Xn(z:kvs.length<=sizeLine)(d:(a==ft)=false)(b:KV kvs vs)(c:h'.DictOf (iq P w) a vs):
  dQ P w H' h' a (.dK kvs):=⟨z,d,vs,b,c⟩
def Ni(K:A.units+1<eM)(I:ck X pins σ H s)(g:Gr H a y v H')(x:eO y u)(B:eO v r)(h:∀s',ck X pins σ H' s'->Q () s'):
  ay (aD X.prog X.w) A (setItem (.ref a) u r) Q E s:=by
 rcases g with⟨d,k,e,t,l,n⟩|⟨d,k,b,e,t,eb,l,n⟩
 ·subst t n;obtain⟨z,p,S,f,o⟩:=Z8 I.hok e;have hz:S.length<=sizeLine:=by rw[<- f.length];exact z
  have m:(pz d k v).length<=sizeLine:=by have:=tS d k v;omega
  refine wpAny_setItem_pairs (hsz:=hz) (Go x) o λh' i hs=>h _ ?_;have he:∃q,h'.get? a=some q:=let ⟨q,_,_,j,_⟩:=i;⟨q,j⟩
  exact EF I (by rw[e];exact kh) hs he (Xn m p (f.put k B) i)
 ·subst t n;cases(show u=bi b from x);obtain⟨z,p,xs,f,o⟩:=VN I.hok e;have hz:xs.length<=sizeLine:=by rw[<- kO f];exact z
  have m:(pz d k v).length<=sizeLine:=by have:=tS d k v;omega
  refine wpAny_setItem_heap (hsz:=hz) (rM K) (yr I.hok eb) o λh' i hs=>h _ ?_;obtain⟨q,es,M,j,P,L,N,_,O⟩:=i;refine EF I (by rw[e];exact kh) hs ⟨q,j⟩ ⟨m,p,_,(f.put k eb B).keeps λc ys G=>?_,q,es,M,j,P,L,N,O⟩;rw[bG (Pc G e (λz=>nomatch z))];exact G
def Z9(i:bJ):Prop:=∀b a,G3 i false b a=operate [b,a] (t4 b a)
def Uc{prog:bj}{w:bF}{A:cD}{E:ai->au->Prop}{s:au}{env:Env}{b a:bJ}{k:Pos}{T id:String}{Q:ai->au->Prop}
  (l:Jd (.type T) "__getitem__"=pure (some (.builtin id))) (hs:Z9 a)
  (h:ay (aD prog w) A (fO b env) (λo e=>ay (aD prog w) A (fO a env) (λi c=>c.TypeIs o T/\ay (aD prog w) A (t4 o i) Q E c) E e) E s):
  ay (aD prog w) A (fO (.Subscript b a k) env) Q E s:=by
 refine Subscript_ (cz h (λo e g=>cz g (λi c d=>?_) λ_ _ x=>x) λ_ _ x=>x);obtain⟨hT,d⟩:=d;unfold ML;refine a9 ?_;rw[getitemInPython_of_ne hT.not_modules];refine a9 (wG hT l ?_);have fin:ay (aD prog w) A (G3 a false o i) (λr f=>ay (aD prog w) A (letTemporaryGo b o r>>=λ_=>pure r) Q E f) E c:=by
  rw[hs o i];exact wpAny_operating (cz d (λr f j=>a9 (wpAny_letTemporaryGo (aa j))) λ_ _ x=>x)
 first
  |exact aa (a9 fin)
  |exact a9 (aa (a9 fin))
  |exact a9 fin
def Gs(I:ck X pins σ H s)(g:zW H a y o):s.TypeIs (.ref a) "dict":=by
 rcases g with⟨c,k,e,_,_⟩|⟨c,k,b,e,_,_,_⟩
 ·obtain⟨_,_,f,_,d⟩:=Gp I.hok e;exact d.typeIs
 ·obtain⟨_,_,xs,_,d⟩:=Gq I.hok e;exact d.typeIs
def Za(d ty:TE):TE:=λb H Q=>d b H λx e=>ty b e λy c=>∃a v,x=.ref a/\zW c a y (some v)/\Q v c
def VO(e ty h:TE):TS:=λD b H=>h b H λv g=>e b g λx f=>ty b f λy d=>∃a c,x=.ref a/\Gr d a y v c/\D.nx b c
def Lp(l:X.A.units+1<eM)(ho:PE X o td)(n:PE X i ty)(hs:Z9 i):PE X (.Subscript o i pos) (Za td ty):=by
 intro b s d H Q I h;refine Uc PySem.F.slot_dict_getitem.lookup hs (gG (ho b s d H _ I h) λu s1 ⟨x,j,w,f,m⟩=>gG (n b s1 d j _ w m) λB E ⟨y,p,e,q,a,v,z,g,t⟩=>?_);subst z;obtain rfl:u=bi a:=f;exact⟨Gs e g,Nh l e g q λG s3 k c=>⟨v,p,k,c,t⟩⟩
def Lq(j:X.A.units+1<eM)(ho:PE X o td)(m:PE X i ty)(E:PE X value tv)(hs:iN value (some (.Subscript o i pos')) pos.line X.env=pure false):
  PS X (.Assign [.Subscript o i pos'] value pos) (VO td ty tv):=by
 intro b s c H D I h;refine wpAny_Assign_Subscript (gG (E b s c H _ I h) λr s1 ⟨v,e,G,z,l⟩=>gG (ho b s1 c e _ G l) λu t ⟨x,p,n,d,w⟩=>gG (m b t c p _ n w) λM s3 ⟨y,N,f,q,a,k,K,g,L⟩=>?_) hs;subst K;obtain rfl:u=bi a:=d;exact Ni j f g q z λs4 B=>⟨c,k,B,L⟩
def PF(h:bZ)(a:ft<h.objs.size):dQ P w H (h.push {cls:=.type "dict",data:=.dict #[]}) h.objs.size (.dK []):=
 ⟨ca _,beq_eq_false_iff_ne.mpr (dO (aM a)),[],.nil,Heap.DictOf.new h⟩
def PH(h:bZ)(a:ft<h.objs.size):dQ P w H (h.push {cls:=.type "dict",data:=.dict #[]}) h.objs.size (.dT []):=
 ⟨ca _,beq_eq_false_iff_ne.mpr (dO (aM a)),[],.nil,_,#[],0,aE _ rfl,⟨rfl,rfl,rfl⟩,rfl,rfl,i5⟩
def Xo:TE:=λ_ H Q=>∀p,H p=none->Q (.ref p) (upd H p (.dK []))
def PJ:PE X (.Dict [] [] pos) Xo:=λb s c H Q I h=>
 wpAny_Dict_empty ⟨.ref s.heap.objs.size,_,I.laid (a:=s.heap.objs.size) (o:=.dK []) (t':=s.toks) (λ_ _ q=>ah _ q) (aA _) (PF s.heap I.big),rfl,h _ (I.hok.fresh (aA _))⟩
end L2
namespace L2
open PySem PySem.Spec PyProof.Rows
section
variable{κ:Type}[DecidableEq κ]
theorem EG:∀{l:List κ}{k:κ},l.Nodup->¬ k∈l->(l++[k]).Nodup
 |[],k,_,_=>by simp
 |a::r,k,h,b=>by
  obtain⟨c,d⟩:=List.nodup_cons.mp h;show(a::(r++[k])).Nodup;refine List.nodup_cons.mpr ⟨λm=>?_,EG d λm=>b (List.mem_cons.mpr (gy m))⟩;rcases List.mem_append.mp m with q|q
  ·exact c q
  ·exact b (List.mem_cons.mpr (jC (List.mem_singleton.mp q).symm))
end
end L2
namespace L2
open PySem PySem.Spec PyProof.Rows
def JK(b:List (Str × ni)):∀(d:List (Str × av)),(∀y ∈ b,y.2 = .free -> ∃c,env.cells.lookup y.1 = some c) ->
    (∀x c,d.lookup x = some c -> env.cells.lookup x = some c) ->
    ∃g,(forIn b d λ(x:Str × ni) (d:List (Str × av))=>match x with
        | (name,i)=>if(i == c_) = true then do let a <- cellOf env name; pure (kE ((name,a) :: d)) else pure (kE d):Sem (List (Str × av))) = pure g /\
      (∀x c,g.lookup x = some c -> env.cells.lookup x = some c) /\ (∀y ∈ b,y.2 = .free -> ∃c,g.lookup y.1 = some c) /\ (∀x c,d.lookup x = some c -> ∃B,g.lookup x = some B):= by
  induction b with
  | nil=>intro d _ m; exact⟨d,rfl,m,λ_ h=>absurd h (by simp),λx c h=>⟨c,h⟩⟩
  | cons E r w=>
    obtain⟨n,k⟩:= E;intro d o m;by_cases t:k = .free
    · subst t;obtain⟨a,z⟩:= o (n,.free) aq rfl;have p:∀x c,((n,a) :: d).lookup x = some c -> env.cells.lookup x = some c:= λx c h=>by
        rw[dU] at h;cases e:x == n with
        | true => rw [e] at h; have : x = n := by simpa using e
                  subst this; cases h; exact z
        | false=>rw[e] at h; exact m x c h
      obtain⟨g,q,u,v,j⟩:= w ((n,a) :: d) (λy f=>o y (ak _ f)) p;refine⟨g,?_,u,λy f l=>?_,λx c h=>?_⟩
      · rw[jD];have A:cellOf env n = pure a:= by unfold cellOf; rw[z]
        simp only[beq_self_eq_true,if_true,A];exact q
      · rcases List.mem_cons.mp f with rfl | f
        · exact j n a (by simp)
        · exact v y f l
      · cases e:x == n with
        | true=>exact j x a (by rw[dU,e])
        | false=>exact j x c (by rw[dU,e]; exact h)
    · obtain⟨g,q,u,v,j⟩:= w d (λy f=>o y (ak _ f)) m;refine⟨g,?_,u,λy f l=>?_,j⟩
      · rw[jD];have s:(k == c_) = false:= by simpa using t
        simp only[s,aV,if_false];exact q
      · rcases List.mem_cons.mp f with rfl | f
        · exact absurd l t
        · exact v y f l
def oK(h:∀y∈scope.names,y.2=.free->∃c,env.cells.lookup y.1=some c):∃a,closureFor scope env=pure a /\
  (∀x c,a.lookup x=some c->env.cells.lookup x=some c)/\(∀y∈scope.names,y.2=.free->∃c,a.lookup y.1=some c):=by
 obtain⟨a,b,d,e,_⟩:=JK (env:=env) scope.names [] h (λx c h=>by simp at h);refine⟨a,?_,d,e⟩;simp only[closureFor];rw[show(forIn scope.names ([]:List (Str×av)) λx r=>_)=(pure a:Sem (List (Str×av))) from b];rfl
def bT(X:Cx)(N':List Str)(scope:fG)(a:List (Str×av))(C:av)(s₀:au)(H₀:Hp)(ex:List av)(pn:List (av×Obj)):Cx:=
 {X with N:=N',s₀:=s₀,H₀:=H₀,env:=compEnvC scope a C X.env,outer:=X.stack,stack:=X.stack,ex:=ex,fn:=λy=>scope.names.lookup y==some .cell,pn:=pn,xe:=λ_ _=>False}
def JM(X:Cx)(d:List bJ)(t:TT):Prop:=
 ∀(a:List (av×Obj)) (s:au) (b:St) (H:Hp) (Q:Bool->Hp->Prop),ck X a b H s->t b H Q ->
  ay (aD X.prog X.w) X.A (forIn d true λc r=>if r=true then do let ok <- AA c X.env (fO c X.env);pure (kE ok) else pure (kE r)) (TP X a b Q) X.xe s
def q0N:TT:=λ_ H Q=>Q true H
def Ud:JM X [] q0N:=λa s b H Q I h=>wpAny_tests_nil ⟨H,I,h⟩
def Ue(h:PT X c t):JM X [c] t:=λa s b H Q I d=>wpAny_tests_one (h a s b H Q I d)
structure mo (X:Cx) (scope:fG) (N':List Str) (nt:Nat) (ix:List Nat):Prop where
 kind:scope.kind=.function
 cel:∀y∈scope.names,y.2=.cell->scope.names.lookup y.1=some .cell
 loc:∀y∈scope.names,y.2=.local->scope.names.lookup y.1=some .local
 free:∀y∈scope.names,y.2=.free->X.env.scope.names.lookup y.1=some .cell\/X.env.scope.names.lookup y.1=some .free
 cap:∀k i,ix[k]?=some i->∃x,X.N[i]?=some x/\N'[nt+k]?=some x/\scope.names.lookup x=some .free
 len:N'.length=nt+ix.length
def mT(nt:Nat)(ix:List Nat)(a:St):St:=vw nt none++ix.map λi=>(a[i]?).join
def vo{env:Env}{x:Str}{a:List (Str×ni)}:a.lookup x=some .free ->
  (a.map λ(n,k)=>if(k==c_&&env.scope.kind == .function&&env.kindOf n==some .cell) then(n,fj) else(n,k)).lookup x=some .free \/
  (a.map λ(n,k)=>if(k==c_&&env.scope.kind == .function&&env.kindOf n==some .cell) then(n,fj) else(n,k)).lookup x=some .cell:=by
 induction a with
 |nil=>intro h;simp at h
 |cons e r d=>
  obtain⟨n,k⟩:=e;intro h;show AG x ((if(k==c_&&env.scope.kind == .function&&env.kindOf n==some .cell)=true then(n,fj) else(n,k))::_)=_ \/
   AG x ((if(k==c_&&env.scope.kind == .function&&env.kindOf n==some .cell)=true then(n,fj) else(n,k))::_)=_
  cases b:x==n with
  |true=>
   simp only[dU,b] at h;cases h;by_cases c:(c_==c_&&env.scope.kind == .function&&env.kindOf n==some .cell)=true
   ·rw[if_pos c];right;simp[dU,b]
   ·rw[if_neg c];left;simp[dU,b]
  |false=>
   simp only[dU,b] at h;by_cases c:(k==c_&&env.scope.kind == .function&&env.kindOf n==some .cell)=true
   ·rw[if_pos c];simp only[dU,b];exact d h
   ·rw[if_neg c];simp only[dU,b];exact d h
def w_{env:Env}{x:Str}{a:List (Str×ni)}:
  ((a.map λ(n,k)=>if(k==c_&&env.scope.kind == .function&&env.kindOf n==some .cell) then(n,fj) else(n,k)).lookup x=some .free \/
  (a.map λ(n,k)=>if(k==c_&&env.scope.kind == .function&&env.kindOf n==some .cell) then(n,fj) else(n,k)).lookup x=some .cell) ->
  (x,c_)∈a\/(x,fj)∈a:=by
 induction a with
 |nil=>intro h;simp at h
 |cons f r d=>
  obtain⟨n,k⟩:=f;intro h;have h:AG x ((if(k==c_&&env.scope.kind == .function&&env.kindOf n==some .cell)=true then(n,fj) else(n,k))::_)=_ \/
   AG x ((if(k==c_&&env.scope.kind == .function&&env.kindOf n==some .cell)=true then(n,fj) else(n,k))::_)=_:=h
  cases c:x==n with
  |true=>
   have e:x=n:=by simpa using c
   subst e;by_cases b:(k==c_&&env.scope.kind == .function&&env.kindOf x==some .cell)=true
   ·have:k=.free:=by simp at b;exact b.1.1
    subst this;left;exact aq
   ·rw[if_neg b] at h;simp only[dU,c] at h;rcases h with h|h
    ·cases h;left;exact aq
    ·cases h;right;exact aq
  |false=>
   have h':=d (by
    by_cases b:(k==c_&&env.scope.kind == .function&&env.kindOf n==some .cell)=true
    ·rw[if_pos b] at h;simp only[dU,c] at h;exact h
    ·rw[if_neg b] at h;simp only[dU,c] at h;exact h)
   rcases h' with h' | h'
   ·left;exact ak _ h'
   ·right;exact ak _ h'
inductive VP (nt:Nat) (ix:List Nat) (g:TG) (tt:TT) (te:TE) (σ:St) (Q:VK) (J:It) (H1:Hp):Prop
 |mk (W:Nat->Nat->List V->Hp->Prop) (w0:∃m,W 0 m [] H1) (turn:∀i m acc H,W i m acc H ->
 (J.stop i H/\∀p,H p=none->Q (.ref p) (upd H p (.lst acc))) \/
 (J.go i H/\acc.length<sizeLine/\∀x H',J.yld i H x H'->g x (mT nt ix σ) H' λσ2 H2=>tt σ2 H2 λb H3=>
  if b=true then te σ2 H3 λy H4=>∃m',m'<m/\W (i+1) m' (acc++[y]) H4 else ∃m',m'<m/\W (i+1) m' acc H3)):VP nt ix g tt te σ Q J H1
def PK(nt:Nat)(ix:List Nat)(d:TI)(g:TG)(c:TT)(b:TE):TE:=λa H Q=>d a H (VP nt ix g c b a Q)
theorem kM:∀(b:List (Str×ni)) (n:Nat) (a:List (Str×av)),cE n b a=cE n b []++a
 |[],_,_=>rfl
 |(y,k)::r,n,a=>by
  unfold cE;split
  ·rw[kM r (n+1) ((y,n)::a),kM r (n+1) [(y,n)],e8];rfl
  ·exact kM r n a
theorem qv:∀(a:List (Str×ni)) (n:Nat) (b:List (Str×av)),(x,c)∈cE n a b->(x,fj)∈a\/(x,c)∈b
 |[],_,_,h=>.inr h
 |(y,k)::r,n,b,h=>by
  unfold cE at h;split at h
  ·rename_i d
   have d:k=.cell:=by simpa using d
   rcases qv r _ _ h with z|z
   ·exact .inl (ak _ z)
   ·rcases List.mem_cons.mp z with z|z
    ·cases z;subst d;exact .inl aq
    ·exact .inr z
  ·exact(qv r _ _ h).imp (ak _) id
def oM(h:(cE n names cl).lookup x=some c):
  (x,c)∈cE n names []\/((cE n names []).lookup x=none/\cl.lookup x=some c):=by
 rw[kM,OL] at h;cases e:(cE n names []).lookup x with
 |some d=>rw[e] at h;cases h;exact .inl (eP e)
 |none=>rw[e] at h;exact .inr ⟨rfl,h⟩
def Uf{M:Model}{A:cD}{E:ai->au->Prop}{s:au}{scope:fG}{b:av}{j:List (Str×av)}{e:Str}{f:Option av}{c:ai}{outer:Env}{a:av}{Q:Env->au->Prop}
  (k:∀d,d=pushCells (s.heap.push {cls:=.type "dict",data:=.dict #[]}) scope.names->Q (newEnv scope s.heap.objs.size b (cE (s.heap.objs.size+1) scope.names j) e f c (some outer) a) {s with heap:=d}):
  ay M A (Jf scope b j [] e f c (some outer) a) Q E s:=by
 simp only[Jf,Lf,if_true];refine a9 (Td ?_);refine a9 (wpAny_layCells _ (λname g i=>by cases h:g==fj<;>simp[h]) _ _ _ _ ?_);rw[show({s with heap:=s.heap.push {cls:=.type "dict",data:=.dict #[]}}:au).heap.objs.size=s.heap.objs.size+1 from cf ..];refine a9 ?_;rw[pC];exact aa (aa (k _ rfl))
def Nj(h:bZ)(a:List (Str×ni)):CellsOk (pushCells (h.push {cls:=.type "dict",data:=.dict #[]}) a) (h.objs.size+1) (cE (h.objs.size+1) a []):=by
 have ok:=cellsFrom_ok a (h.push {cls:=.type "dict",data:=.dict #[]}) (h.objs.size+1) [] ⟨λ_ _ b=>(nomatch b),tH⟩ (by rw[cf];exact aA _);rw[cf] at ok;exact ok
def PL{scope:fG}{N':List Str}{nt:Nat}{ix:List Nat}{G:List (Str×av)}{C:av}{fp:List av}{t:bZ}{t':Nat}{m:Str->Option ai}
  (S:mo X scope N' nt ix) (I:ck X pins σ H s) (E:∀x c,G.lookup x=some c->X.env.cells.lookup x=some c) (c2:∀y∈scope.names,y.2=.free->∃c,G.lookup y.1=some c)
  (T:∀b∈fp,vX X pins H b) (ff:∀b∈fp,b<s.heap.objs.size) (O:s.heap.objs.size<=C) (a0:t.Ns C m) (A:∀b o,s.heap.get? b=some o->t.get? b=some o) (ok:CellsOk t (C+1) (cE (C+1) scope.names [])):
  ck (bT X N' scope (cE (C+1) scope.names G) C s H fp (X.pn++pins)) [] (mT nt ix σ) H {s with heap:=t,toks:=t'}:=by
 have g:∀{c v},s.heap.IsCell c v->t.IsCell c v:=λ{c v} ⟨o,ho,hd⟩=>⟨o,A _ _ ho,hd⟩;have L:∀{x c},(x,c)∈cE (C+1) scope.names []->s.heap.objs.size<c:=λ{x c} h=>aK (rE O) (ok.empty x c h).2;have N:∀{x c},G.lookup x=some c->c<s.heap.objs.size:=λ{x c} h=>by
  obtain⟨v,q⟩:=I.cell x c (E x c h);exact q.lt
 refine⟨⟨I.ok.mod,S.kind,I.ok.glob,I.ok.blt,O,λx y c U K=>?_,λx hx=>?_,λx c h K=>?_,I.ok.hd,I.ok.frames,.inl rfl,λb B=>⟨?_,λx c h=>?_⟩,I.bs,c8 I.ok.bsz I.sz,λb o h B=>?_,λb B z=>?_,I.stack,I.stkFree⟩,
  rfl,I.bare,Un.kept A,⟨m,a0,λi x v U K h3=>?_⟩,λx c h=>?_,I.hok.fresh O,λx c h=>?_,λp hp=>?_,I.hok.kept A,?_⟩
 ·rcases oM U with a|⟨_,a⟩<;>rcases oM K with b|⟨_,b⟩
  ·exact name_of_addr ok.apart a b
  ·exact absurd (L a) (Jg (N b))
  ·exact absurd (L b) (Jg (N a))
  ·exact I.ok.inj x y c (E x c a) (E y c b)
 ·have Y:(x,c_)∈scope.names\/(x,fj)∈scope.names:=w_ (env:=X.env) (hx.elim .inr .inl);have hs:((cE (C+1) scope.names G).lookup x).isSome=true:=by
   rcases Y with z|z
   ·obtain⟨c,e⟩:=c2 _ z rfl;exact iW _ _ _ (.inr (by rw[e];rfl))
   ·exact iW _ _ _ (.inl (S.cel _ z rfl))
  exact Option.isSome_iff_exists.mp hs
 ·rcases oM K with a|⟨a,_⟩
  ·exact cB (L a)
  ·have:=iW (x:=x) scope.names (C+1) [] (.inl (by simpa[bT] using h));rw[a] at this;cases this
 ·exact aM (aK (ff b B) O)
 ·rcases oM h with a|⟨_,a⟩
  ·exact eZ (eN (ff b B) (L a))
  ·exact(T b B).f4 x c (E x c a)
 ·rcases (T b B).f3 with z|z
  ·exact I.ok.noex b o h z
  ·exact absurd (aK (aB h) (c8 I.ok.bsz z)) (cr _)
 ·rcases List.mem_cons.mp (I.stkSub b z) with e|e
  ·exact(T b B).f1 e
  ·exact(T b B).f2 e
 ·have M:nt<=i:=by
   refine Tc λQ=>?_;have f:(mT nt ix σ)[i]?=some (some v):=K;unfold mT at f;rw[bA (by simpa using Q),cX,if_pos Q] at f;cases f
  have f:(mT nt ix σ)[i]?=some (some v):=K;unfold mT at f;rw[aU (by simpa using M),dX,aP] at f;cases e:ix[i-nt]? with
  |none=>rw[e] at f;cases f
  |some j=>
   rw[e] at f;have hj:σ[j]?=some (some v):=by
    have q:(σ[j]?).join=some v:=c6 f;cases e3:σ[j]? with
    |none=>rw[e3] at q;cases q
    |some o=>rw[e3] at q;cases o with
     |none=>cases q
     |some v'=>cases q;rfl
   obtain⟨x',n1,n2,fr⟩:=S.cap _ _ e;rw[Nat.add_sub_cancel' M] at n2;have a1:N'[i]?=some x:=U;rw[a1] at n2;cases n2;obtain⟨mm,hn,hl⟩:=I.loc;have w:=S.free (x,.free) (eP fr) rfl;obtain⟨u,r,l⟩:=hl j x v n1 hj (w.elim (λz=>.inr (.inl z)) λz=>.inr (.inr z));refine⟨u,r,?_⟩;rcases l with⟨k,_⟩|⟨k,c,hc,hcell⟩
   ·have k:X.env.scope.names.lookup x=some .local:=k;rcases w with z|z<;>(rw[z] at k;cases k)
   ·obtain⟨c',P⟩:=c2 _ (eP fr) rfl;have:=E x c' P;rw[hc] at this;cases this;have a2:(cE (C+1) scope.names []).lookup x=none:=by
     cases e:(cE (C+1) scope.names []).lookup x with
     |none=>rfl
     |some d=>
      rcases qv _ _ _ (eP e) with z|z
      ·have q:=S.cel _ z rfl;rw[fr] at q;cases q
      ·cases z
    refine .inr ⟨?_,c,by show(cE (C+1) scope.names G).lookup x=some c;rw[kM,OL,a2];exact P,g hcell⟩;rcases vo (env:=X.env) fr with z|z
    ·exact .inr z
    ·exact .inl z
 ·rcases oM h with a|⟨_,a⟩
  ·exact⟨none,(ok.empty x c a).1⟩
  ·obtain⟨v,q⟩:=I.cell x c (E x c a);exact⟨v,g q⟩
 ·rcases oM h with a|⟨_,a⟩
  ·exact I.hok.fresh (cB (L a))
  ·exact I.freeC x c (E x c a)
 ·have hp:p∈X.pn++pins:=(List.mem_append.mp hp).elim id λz=>absurd z (by simp);obtain⟨e,n,ne,nf,d⟩:=I.pin p hp;refine⟨A _ _ e,n,aM (aK (aB e) O),λz=>?_,d⟩;rcases List.mem_cons.mp (I.stkSub p.1 z) with e|e
  ·exact ne e
  ·exact nf e
 ·show(mT nt ix σ).length=N'.length;rw[S.len];simp[mT]
def Un.grow(u:Un fs ex H H1 h h1)(f:bK C h1 h2)(d:h.objs.size<=C)(i:h.objs.size<=D)(c:H1 D=none):Un fs ex H (upd H1 D o) h h2 where
 keep:=λb ob q n g a=>(f.2 b (aM (aK (aB q) d))).trans (u.keep b ob q n g a)
 slot:=λb ob q n g a=>by
  obtain⟨j,e⟩:=u.slot b ob q n g a;exact⟨j,(f.2 b (aM (aK (aB q) d))).trans e⟩
 free:=λb ob q n a=>by rw[bG (aM (aK (aB q) i))];exact u.free b ob q n a
 there:=λb ob q a=>by
  obtain⟨o',e⟩:=u.there b ob q a;exact⟨o',(f.2 b (aM (aK (aB q) d))).trans e⟩
 tups:=λb xs q=>by have z:=u.tups b xs q;rw[bG (cu z c)];exact z
 frzs:=λb ob xs q=>by have z:=u.frzs b ob xs q;rw[bG (cu z c)];exact z
 tbls:=λb ps q=>by
  obtain⟨m,z⟩:=u.tbls b ps q;exact⟨m,by rw[bG (cu z c)];exact z⟩
def PM(k:tF P w H h)(d:H C=none)(f:bK C h h'):tF P w H h':=λb ob e=>by
 refine(k b ob e).stay (λc g a q=>(f.2 c ?_).trans q) (λ_ q=>q) λ_ _ q=>q;rintro rfl;rcases a with rfl|a
 ·rw[d] at e;cases e
 ·rw[d] at a;cases a
def Dl(k:tF P w H h)(d:H D=none)(new:dQ P w (upd H D o) h D o):tF P w (upd H D o) h:=λb ob e=>by
 by_cases a:b=D
 ·subst a;rw[bB] at e;cases e;exact new
 ·rw[bG a] at e;exact(k b ob e).stay (λc g f q=>q) (λc q=>by rw[bG (cu q d)];exact q) λc x q=>by rw[bG (cu q d)];exact q
def nf{M:Model}{A:cD}{a:Type}{t:Sem a}{Q:a->au->Prop}{b:ai->au->Prop}{s:au}(h:ay M A t Q (λ_ _=>False) s):ay M A t Q b s:=
 cz h (λ_ _ q=>q) λ_ _ f=>f.elim
def ck.pin1(I:ck X [] σ H s)(e:s.heap.get? D=some o)(n:H D=none)(ne:D≠X.env.locals)(nf:D∉X.fs)(d:∀v,o.data≠.cell v):ck X [(D,o)] σ H s:=
 I.pins_of λp a=>by
  have:p=(D,o):=by simpa using a
  subst this;exact⟨e,n,ne,nf,d⟩
def Ug(nt:Nat)(g:TG):Prop:=∀x a H (Q:St->Hp->Prop),g x a H Q->g x a H (λb c=>Q b c/\b.length=a.length/\∀j,nt<=j->b[j]?=a[j]?)
def PN(h:i<nt):Ug nt (pJ i):=λx a H Q q=>⟨q,by simp,λj b=>ax ∅⟩
def Uh{nt i k n:Nat}{K:af}(h:i<nt)(h':k<nt):Ug nt (X0 K n (ag (pJ i) (ag (pJ k) aJ))):=by
 rintro x d H Q ⟨a,xs,rfl,e,c,v,r,rfl,b,g,rfl,rfl,q⟩;exact⟨a,_,rfl,e,c,v,_,rfl,b,_,rfl,rfl,q,by simp,λj f=>by rw[ax ∅,ax ∅]⟩
def ck.swap{X:Cx}{pl:List (av×Obj)}{a:St}{H:Hp}{s:au}{D:av}{o o':Obj}{h':bZ}(I:ck X ((D,o)::pl) a H s)(t:bK D s.heap h')(m:h'.get? D=some o')(k:∀v,o'.data≠.cell v)(h:D∈X.ex\/X.s₀.heap.objs.size<=D)(n:∀x c,X.env.cells.lookup x=some c->c≠D)(j:∀p∈X.pn++pl,p.1≠D):ck X ((D,o')::pl) a H {s with heap:=h'}:=by
 obtain⟨u,g,d,i,_⟩:=I.pin (D,o) (aF _ aq)
 have q:ck X pl a H s:=I.pins_of λp hp=>I.pin p (aF _ (ak _ hp))
 have f:ck X pl a H {s with heap:=h',toks:=s.toks}:=q.turned (it:=D) (λb o l e=>t.extBut b o l e) g d h n j
 refine f.pins_of λp hp=>?_
 rcases bg.1 hp with z|hp
 ·rw[z];exact⟨m,g,d,i,k⟩
 ·exact f.pin p (aF _ hp)
abbrev Xp(a:List ai)(b:Nat):Obj:={cls:=.type "list",data:=.seq a.toArray b}
inductive GLI (X:Cx) {α:Type} (P:av->Obj->α->Prop) (pins:List (av×Obj)) (N':List Str) (scope:fG) (cl:List (Str×av)) (C:av) (s2:au) (H2:Hp) (fp:List av) (nt:Nat) (ix:List Nat) (σ:St) (tn:Nat->bZ->Prop) (W:Nat->Nat->α->Hp->Prop) (n:Nat) (s':au):Prop
 |mk (i:Nat) (acc:α) (oD:Obj) (H':Hp) (I:ck (bT X N' scope cl C s2 H2 fp (X.pn++pins)) [(s2.heap.objs.size,oD)] (mT nt ix σ) H' s') (S:P s2.heap.objs.size oD acc) (t:tn i s'.heap) (f:∀b∈fp,H' b=none) (w:W i n acc H'):GLI X P pins N' scope cl C s2 H2 fp nt ix σ tn W n s'
def Gu(X:Cx)(i tg:bJ)(h:List bJ)(it:av)(d:Nat)(Bd:Env->av->(au->Prop)->au->Prop):Prop:=
 ∀(env:Env) (D:av) (R:Em->au->Prop) (I:Nat->au->Prop),(∀n s,I n s->ay (aD X.prog X.w) X.A (ml (.ref it)) (λr a=>match r with
   |none=>R (.ok .next) a
   |some v=>ay (aD X.prog X.w) X.A (jY tg (.ref it) v) (λ_ e=>ay (aD X.prog X.w) X.A (vS tg env v) (λ_ f=>
     ay (aD X.prog X.w) X.A (forIn h true λc r=>if r=true then do let ok <- AA c env (fO c env);pure (kE ok) else pure (kE r)) (λok b=>
      if ok=true then Bd env D (λg=>∃m,m<n/\I m g) b else ∃m,m<n/\I m b) (λ_ _=>False) f) (λ_ _=>False) e) (λ_ _=>False) a) (λ_ _=>False) s) ->
  ∀n s,I n s->gU (aD X.prog X.w) X.A (.compLoop i d (.ref it) (.ref D) env) R s
def Gv{X:Cx}{e0 tg iter:bJ}{ifs:List bJ}{d:Nat}{Bd:Env->av->(au->Prop)->au->Prop}{it:av}{Kt:Env->av->Bool->Sem Fin}
  (hT:∀env D,compTurn e0 d (.ref it) (.ref D) env=(do
   qP iter.pos
   match <- ml (.ref it) with
   |none=>pure (.done .next)
   |some v=>
    jY tg (.ref it) v
    vS tg env v
    let mut ok:=true
    for c in ifs do
     if ok then ok <- AA c env (fO c env)
    Kt env D ok))
  (ht:∀env D K s,Bd env D K s->ay (aD X.prog X.w) X.A (Kt env D true) (λf s5=>f=.again (.compLoop e0 d (.ref it) (.ref D) env)/\K s5) (λ_ _=>False) s)
  (hf:∀env D,Kt env D false=pure (.again (.compLoop e0 d (.ref it) (.ref D) env)):=by intros;rfl) (hA:∀env D,X.A.under (.compLoop e0 d (.ref it) (.ref D) env)=X.A:=by intros;rfl)
  (hD:∀env D,(aD X.prog X.w).den (.compLoop e0 d (.ref it) (.ref D) env)=(compTurn e0 d (.ref it) (.ref D) env).onRaise (λx=>do noteFrame x env;theTreesLotGoes x):=by intros;rfl):Gu X e0 tg ifs it d Bd:=by
 intro env D R I turn n s h
 refine codeAny_loop rfl I (λn s hI=>?_) n h
 rw[hA,hD]
 refine wpAny_noted ?_
 rw[hT]
 refine a9 (ik (a9 (nf (cz (turn n s hI) (λr s₁ h₁=>?_) λ_ _ h'=>h'))))
 cases r with
 |none=>exact aa h₁
 |some v=>
  refine a9 (nf (cz h₁ (λ_ s₁' h₁'=>?_) λ_ _ h'=>h'))
  refine a9 (nf (cz h₁' (λ_ s₂ h₂=>a9 (nf (cz h₂ (λok s₃ h₃=>?_) λ_ _ h'=>h'))) λ_ _ h'=>h'))
  cases ok with
  |false=>rw[hf];exact aa ⟨rfl,h₃⟩
  |true=>
   refine nf (cz (ht _ _ _ _ h₃) (λf s₅ h₅=>?_) λ_ _ h'=>h')
   obtain⟨e,h₅⟩:=h₅
   subst e
   exact⟨rfl,h₅⟩
def Dm(X:Cx){f:Type}(N':List Str)(scope:fG)(M:St->Prop)(P:av->Obj->f->Prop)(L:f->Prop)(U:St->Hp->f->Nat->(Nat->f->Hp->Prop)->Prop)(Bd:Env->av->(au->Prop)->au->Prop):Prop:=
 ∀g C a b j h (D:av) (pl:List (av×Obj)) (o:Obj) (e:f) (i:St) (H:Hp) (s:au) (K:au->Prop) (m:Nat) (V:Nat->f->Hp->Prop),(D∈j\/a.heap.objs.size<=D)->(∀x c,g.lookup x=some c->c≠D)->(∀p∈h++pl,p.1≠D)->M i->L e->P D o e ->
  ck (bT X N' scope g C a b j h) ((D,o)::pl) i H s->U i H e m V->(∀d o' l s8 k,ck (bT X N' scope g C a b j h) ((D,o')::pl) i l s8->P D o' d->k<m->V k d l->K s8)->Bd (bT X N' scope g C a b j h).env D K s
inductive JP (X:Cx) (N':List Str) (scope:fG) (nt nc:Nat) (ix:List Nat) (e0 tg:bJ) (ifs:List bJ) (newA:Sem ai) {α:Type} (O:av->α->HO) (a0:α) (L:α->Prop) (U:St->Hp->α->Nat->(Nat->α->Hp->Prop)->Prop):Prop
 |mk (P:av->Obj->α->Prop) (o0:Obj) (Bd:av->Env->av->(au->Prop)->au->Prop) (M:St->Prop) (nd:∀{D o acc},P D o acc->∀v,o.data≠.cell v) (of:o0.isFreed=false) (p0:∀D,P D o0 a0)
  (tr:∀{H h D o acc},ft<D->P D o acc->h.get? D=some o->dQ X.prog X.w H h D (O D acc))
  (hnew:∀{E s2}{Q:ai->au->Prop},Q (.ref s2.heap.objs.size) {s2 with heap:=s2.heap.push o0}->ay (aD X.prog X.w) X.A newA Q E s2) (loopX:∀it,Gu X e0 tg ifs it 0 (Bd it))
  (hst:∀{it acc env R s},gU (aD X.prog X.w) X.A (.compLoop e0 0 (.ref it) acc env) R s->ay (aD X.prog X.w) X.A (qp (.ref it)) (λit' s'=>gU (aD X.prog X.w) X.A (.compLoop e0 0 it' acc env) R s') (notedBy (aD X.prog X.w) X.A env λx s'=>R (.error x) s') s->gU (aD X.prog X.w) X.A (.compStart e0 0 (.ref it) acc env) R s)
  (hM:nt<=nc/\∀ σ σ6:St,(∀j,nt<=j->σ6[j]?=(mT nc ix σ)[j]?)->M σ6) (hstep:∀it,Dm X N' scope M P L U (Bd it)):JP X N' scope nt nc ix e0 tg ifs newA O a0 L U
def AS{X:Cx}{α:Type}{O:av->α->HO}{a0:α}{a7:Sem ai}{L:α->Prop}{U:St->Hp->α->Nat->(Nat->α->Hp->Prop)->Prop}{e0 tg:bJ}{e5:List bJ}{scope:fG}{g:TG}{tt:TT}{N':List Str}{nt nc:Nat}{ix:List Nat}
  (h0:JP X N' scope nt nc ix e0 tg e5 a7 O a0 L U) (hc:X.calm=true) (S:mo X scope N' nc ix) (lo:Ug nt g)
  (l:∀G C a5 a8 ex pn,PG (bT X N' scope G C a5 a8 ex pn) tg g/\JM (bT X N' scope G C a5 a8 ex pn) e5 tt)
  {G:List (Str×av)} (c1:∀x c,G.lookup x=some c->X.env.cells.lookup x=some c) (c2:∀y∈scope.names,y.2=.free->∃c,G.lookup y.1=some c)
  {h:List (av×Obj)}{σ:St}{I:Hp}{k:au}{it:av}{B:List av}{tn:Nat->bZ->Prop}{J:It}{Q:VK}{E:ai->au->Prop}
  (I2:ck X h σ I k) (T:Ez X.prog X.w X.K tg J B it tn) (d9:tn 0 k.heap) (f2:∀b∈B,vX X h I b)
  {W:Nat->Nat->α->Hp->Prop} (w0:∃m,W 0 m a0 I)
  (d4:∀i m f H,W i m f H->(J.stop i H/\∀p,H p=none->Q (.ref p) (upd H p (O p f))) \/
   (J.go i H/\L f/\∀x H',J.yld i H x H'->g x (mT nc ix σ) H' λe3 I=>tt e3 I λb H3=>
    if b=true then U e3 H3 f m (W (i+1)) else ∃m',m'<m/\W (i+1) m' f H3))
  {RR:ai->av->Em->au->Prop}
  (g0:∀D C m s' (f:α) H',H' D=none->vX X h (upd H' D (O D f)) C->Q (.ref D) (upd H' D (O D f))->s'.heap.Ns C m->(∀h',bK C s'.heap h'->ck X h σ (upd H' D (O D f)) {s' with heap:=h'})->RR (.ref D) C (.ok .next) s'):
  ay (aD X.prog X.w) X.A a7 (λf e9=>ay (aD X.prog X.w) X.A (Jf scope X.env.globals G [] X.env.qual none .none (some X.env)) (λa6 d2=>
   gU (aD X.prog X.w) X.A (.compStart e0 0 (.ref it) f {a6 with scope:=relabel scope X.env}) (RR f a6.locals) d2) E e9) E k:=by
 obtain⟨P,o0,Bd,M,nd,of,p0,tr,d8,b0,g7,⟨h6,hM⟩,c0⟩:=h0
 refine d8 (Uf λs t=>?_);dsimp only at t ⊢;generalize c3:k.heap.push o0=G2 at t ⊢;have hC:G2.objs.size=k.heap.objs.size+1:=by rw[<- c3,cf]
 have c4:k.heap.objs.size≠G2.objs.size:=by rw[hC];exact aM (fk _)
 have N:k.heap.objs.size<=G2.objs.size:=by rw[hC];exact jr _
 have below:∀b,b<k.heap.objs.size->b≠G2.objs.size:=λb l=>by rw[hC];exact aM (eu l)
 have kp:∀b o,G2.get? b=some o->s.get? b=some o:=λb o e=>by rw[t];exact pushCells_keeps _ _ b o (ah _ e)
 have a3:s.Ns G2.objs.size (λ_=>none):=by rw[t];exact(Heap.Ns.new G2 (.type "dict")).keeps (pushCells_keeps _ _)
 have a1:CellsOk s (G2.objs.size+1) (cE (G2.objs.size+1) scope.names []):=by rw[t];exact Nj G2 scope.names
 have cne:∀x c,(cE (G2.objs.size+1) scope.names G).lookup x=some c->X.env.cells.lookup x=some c\/k.heap.objs.size<c:=λx c e=>by
  rcases oM e with a|⟨_,a⟩
  ·exact .inr (aK (rE N) (a1.empty x c a).2)
  ·exact .inl (c1 x c a)
 have e1:∀b o,k.heap.get? b=some o->s.get? b=some o:=λb o e=>kp b o (c3 ▸ ah _ e);have d0:s.get? k.heap.objs.size=some o0:=kp _ _ (c3 ▸ aE _ of);have ff:∀b∈B,b<k.heap.objs.size:=λb l=>by
  obtain⟨o,e,_⟩:=T.obj _ _ d9 b l;exact aB e
 have I3:ck (bT X N' scope (cE (G2.objs.size+1) scope.names G) G2.objs.size k I B (X.pn++h)) [] (mT nc ix σ) I {k with heap:=s,toks:=k.toks}:=PL S I2 c1 c2 f2 ff N a3 e1 a1;obtain⟨pg,pt⟩:=l (cE (G2.objs.size+1) scope.names G) G2.objs.size k I B (X.pn++h);have d5:k.heap.objs.size∉Cf X.stack:=λz=>by
  rcases List.mem_cons.mp (I2.stkSub _ z) with e|e
  ·exact absurd I2.lt (by rw[<- e];exact cr _)
  ·exact I2.nofs (aA _) e
 have d3:tn 0 s:=T.keep _ _ _ d9 λb _ o e=>e1 b o e;have c5:k.heap.objs.size∉B:=λz=>absurd (ff _ z) (cr _);have a2:∀{H':Hp}{pl:List (av×Obj)},(∀p∈pl,p.1∉B)->(∀b∈B,H' b=none)->∀b∈B,vX (bT X N' scope (cE (G2.objs.size+1) scope.names G) G2.objs.size k I B (X.pn++h)) pl H' b:=λh1 hn b l=>by
  obtain⟨f0,f1,g1,f3,f4,f5⟩:=f2 b l;refine⟨hn b l,below b (ff b l),λz=>?_,.inl l,λx c e=>(cne x c e).elim (f4 x c) λq z=>Jg q (by rw[z];exact ff b l),λp hp z=>?_⟩
  ·rcases List.mem_cons.mp (I2.stkSub _ z) with e|e
   ·exact f1 e
   ·exact g1 e
  ·rcases List.mem_append.mp hp with q|q
   ·exact f5 p q z
   ·exact h1 p q (z ▸ l)
 obtain⟨m0,w0⟩:=w0;have a4:gU (aD X.prog X.w) X.A (.compLoop e0 0 (.ref it) (.ref k.heap.objs.size) (compEnvC scope (cE (G2.objs.size+1) scope.names G) G2.objs.size X.env))
    (RR (.ref k.heap.objs.size) G2.objs.size) {k with heap:=s,toks:=k.toks}:=by
  refine b0 it _ _ _ (GLI X P h N' scope (cE (G2.objs.size+1) scope.names G) G2.objs.size k I B nc ix σ tn W) ?_ m0 _
   ⟨0,a0,_,I,I3.pin1 d0 (I2.hok.fresh (aA _)) c4 d5 (nd (p0 k.heap.objs.size)),p0 _,d3,λb l=>(f2 b l).1,w0⟩
  rintro n s3 ⟨i,f,oD,H3,J3,b8,e4,d7,w3⟩;have b7:∀p∈[(k.heap.objs.size,oD)],p.1∉B:=λp hp=>by
   have:p=(k.heap.objs.size,oD):=by simpa using hp
   rw[this];exact c5
  rcases d4 i n f H3 w3 with⟨d1,qn⟩|⟨go,hlt,step⟩
  ·refine gG (T.done (bT X N' scope (cE (G2.objs.size+1) scope.names G) G2.objs.size k I B (X.pn++h)) rfl rfl rfl hc i _ s3 _ H3 _ J3 (a2 b7 d7) e4 d1) λr s4 g3=>?_;obtain⟨hr,I4⟩:=g3;subst hr;obtain⟨pD,pN,_⟩:=I4.pin (k.heap.objs.size,_) (aF _ (List.mem_singleton.mpr rfl));obtain⟨mm,hn,_⟩:=I4.loc;have e6:H3 G2.objs.size=none:=I4.free;refine g0 _ _ mm s4 f H3 pN (I2.fpOk N (by rw[bG (dO c4)];exact e6)) (qn _ pN) hn λh' sb=>?_;have hu:Un (Cf X.stack) B I (upd H3 k.heap.objs.size (O k.heap.objs.size f)) k.heap h':=Un.grow I4.base sb N (aA _) pN;refine I2.call' (s':={s4 with heap:=h'}) (ch:=B) I4.os hu ?_ I4.bare λb l=>?_
   ·exact Dl (PM I4.hok e6 sb) pN (tr I2.big b8 ((sb.2 _ c4).trans pD))
   ·obtain⟨_,f1,_,f3,f4,f5⟩:=f2 b l;exact⟨f3,f1,f4,f5⟩
  ·refine gG (T.item (bT X N' scope (cE (G2.objs.size+1) scope.names G) G2.objs.size k I B (X.pn++h)) rfl rfl rfl hc i _ s3 _ H3 _ J3 (a2 b7 d7) e4 go) λr s4 h3=>?_;obtain⟨u,hr,h4⟩:=h3;subst hr;refine gG h4 λ_ s5 g4=>?_;obtain⟨x,H5,I5,r5,y5,Y,h2⟩:=g4;have f6:=I5.pinned (a2 b7 h2) (T.obj _ _ Y);refine gG (pg _ s5 _ H5 x u _ f6 r5 (lo _ _ _ _ (step x H5 y5))) λ_ s6 g5=>?_;obtain⟨b6,H6,I6,q6,l6,k6⟩:=g5;have hw:∀(j:Nat) v,(mT nc ix σ)[j]?=some (some v)->b6[j]?=some (some v):=λj v e=>by
    by_cases hj:nt<=j
    ·rw[k6 j hj];exact e
    ·unfold mT at e;rw[bA (by simp;omega),cX,if_pos ∅] at e;cases e
   refine gG (pt _ s6 b6 H6 _ I6 q6) λb s7 g8=>?_;obtain⟨H7,I7,q7⟩:=g8;have h5:∀{s8:au}{e2:St}{H8:Hp},ck (bT X N' scope (cE (G2.objs.size+1) scope.names G) G2.objs.size k I B (X.pn++h)) ([(k.heap.objs.size,oD)]++tN B s5.heap) e2 H8 s8 ->
     tn (i+1) s8.heap/\∀b∈B,H8 b=none:=λ{s8 e2 H8} I8=>by
    refine⟨T.keep _ _ _ Y λb l o e=>(I8.pin (b,o) (aF _ (aF _ (jQ l e)))).1,λb l=>?_⟩;obtain⟨o,e,d⟩:=T.obj _ _ Y b l;exact(I8.pin (b,o) (aF _ (aF _ (jQ l e)))).2.1
   cases b with
   |false=>
    simp only[aV,if_false] at q7 ⊢;obtain⟨m',hm,w7⟩:=q7;obtain⟨t7,f7⟩:=h5 I7;exact⟨m',hm,i+1,f,oD,H7,(I7.weak l6.symm hw).unpinned,b8,t7,f7,w7⟩
   |true=>
    simp only[if_true] at q7 ⊢
    refine c0 it _ _ _ _ _ _ _ _ _ _ _ _ _ _ _ _ (.inr (aA _)) (λx c e z=>?_) (λp hp z=>?_) (hM σ b6 k6) hlt b8 I7 q7 λd6 o' H8 s8 m' I8 p8 hm w8=>?_
    ·rcases cne x c e with e|e
     ·obtain⟨v,q⟩:=I2.cell x c e;exact absurd q.lt (by rw[z];exact cr _)
     ·exact absurd e (by rw[z];exact cr _)
    ·rcases cQ.1 hp with hp|hp
     ·exact absurd (aB (I2.pin p hp).1) (by rw[z];exact cr _)
     ·exact c5 (z ▸ (yp hp).1)
    ·obtain⟨t8,f8⟩:tn (i+1) s8.heap/\∀b∈B,H8 b=none:=by
      refine⟨T.keep _ _ _ Y λb l o e=>(I8.pin (b,o) (aF _ (ak _ (jQ l e)))).1,λb l=>?_⟩;obtain⟨o,e,d⟩:=T.obj _ _ Y b l;exact(I8.pin (b,o) (aF _ (ak _ (jQ l e)))).2.1
     exact⟨m',hm,i+1,d6,o',H8,(I8.weak (σ':=mT nc ix σ) l6.symm hw).pins_of λp hp=>I8.pin p (aF _ (by rw[cC.1 hp];exact aq)),p8,t8,f8,w8⟩
 exact g7 a4 (T.self _ 0 _ _ _ d3 a4)
def Xq(_:av)(o:Obj)(b:List V):Prop:=∃a c,o=Xp a c/\eT b a/\b.length<=sizeLine
def Ui(X:Cx)(c:bJ)(env:Env)(D:av)(K:au->Prop)(s:au):Prop:=ay (aD X.prog X.w) X.A (fO c env) (λx a=>ay (aD X.prog X.w) X.A (call (.builtin "list.append") [.ref D,x]) (λ_ b=>K b) (λ_ _=>False) a) (λ_ _=>False) s
def Gw{X:Cx}{d:bJ}{s:TE}{N':List Str}{scope:fG}{M:St->Prop}(x:∀f C c b p h,PE (bT X N' scope f C c b p h) d s):
  Dm X N' scope M Xq (λa=>a.length<sizeLine) (λG H a m V=>s G H λy A=>∃e,e<m/\V e (a++[y]) A) (Ui X d):=by
 intro f C c b p h D pl o a n E s7 K m V v Y B _ hl O L I fin
 obtain⟨k,nn,rfl,t,hz⟩:=O
 refine gG (x f C c b p h _ s7 n E _ L I) λw s8 g=>?_
 obtain⟨y,S,u,T,e,Q,P⟩:=g
 obtain⟨U,pN,_⟩:=u.pin (D,_) (aF _ aq)
 have hv:=t.length
 refine wpAny_list_append_plain ⟨nn,U⟩ (hsz:=by rw[ba];omega) ?_
 intro N i l
 obtain⟨q,e9⟩:=i
 have j:N.get? D=some (Xp (k++[w]) q):=by rw[e9];simp
 exact fin (a++[y]) _ S _ e (u.swap l j (λ_ z=>nomatch z) v Y B) ⟨_,q,rfl,t.append (.cons T .nil),by rw[aS,eR];omega⟩ Q P
def Gx{X:Cx}{b:bJ}{f:Sem Fin}{a:Code}(c:f=pure (.again a))(env:Env)(D:av)(K:au->Prop)(s:au)(h:Ui X b env D K s):ay (aD X.prog X.w) X.A ((do let _ <- call (.builtin "list.append") [.ref D,<- fO b env])>>=λ_=>f) (λf s5=>f=.again a/\K s5) (λ_ _=>False) s:=by
 subst c;exact a9 (a9 (gG h λx s4 d=>a9 (gG d λ_ _ q=>aa (aa ⟨rfl,q⟩))))
def Lr{X:Cx}{g tg iter:bJ}{j:List bJ}{scope:fG}{n:Pos}{p:TE}{N':List Str}{nt:Nat}{ix:List Nat}(t:∀q C k i A s,PE (bT X N' scope q C k i A s) g p):
  JP X N' scope nt nt ix (.ListComp g [⟨tg,iter,j,0⟩] scope n) tg j (Cm []) (λ_=>HO.lst) [] (λf=>f.length<sizeLine) (λv H f m V=>p v H λy u=>∃o,o<m/\V o (f++[y]) u):=
 ⟨Xq,_,λ_=>Ui X g,λ_=>True,λ⟨_,_,h,_⟩ _ z=>(by rw[h] at z;cases z),rfl,λ_=>⟨[],0,rfl,.nil,ca _⟩,λ_ ⟨l,x,h,w,hz⟩ e=>⟨hz,l,x,w,by rw[e,h]⟩,bD,λ_=>Gv (iter:=iter) (λ_ _=>rfl) λa b c d h=>Gx rfl a b c d h,OZ,⟨aA _,λ_ _ _=>trivial⟩,λ_=>Gw t⟩
def Gy
  (P:X.calm=true) (S:mo X scope N' nt ix) (lo:Ug nt g) (U:PI X tg iter wi)
  (t:∀o C j i z p,PG (bT X N' scope o C j i z p) tg g/\JM (bT X N' scope o C j i z p) ifs tt/\PE (bT X N' scope o C j i z p) elt te)
  (hs:∀x,bW iter X.env x=pure x:=by intro _;rfl):PE X (.ListComp elt [⟨tg,iter,ifs,0⟩] scope pos) (PK nt ix wi g tt te):=by
 intro k s E H Q I h;obtain⟨o,B,c1,M⟩:=oK (scope:=scope) (env:=X.env) λy K Y=>I.ok.has y.1 (S.free y K Y);rw[eval_ListComp];refine iX (use:=none) rfl hs B S.kind S.loc (gG (U k s E H _ I h) λv s1 G=>gG G λN s2 h2=>?_);obtain⟨it,fp,tn,J,H2,e,I2,T,u,f2,W,L,n⟩:=h2;subst e;refine AS (RR:=λl C=>Jh (aD X.prog X.w) X.A X.xe none (EP X k E Q) l C) (Lr λa b c d e f=>(t a b c d e f).2.2) P S lo (λa b c d e f=>⟨(t a b c d e f).1,(t a b c d e f).2.1⟩) c1 M I2 T u f2 L n ?_;intro D C m s' l H' hD _ q hn O;exact⟨m,hn,λh' sb=>⟨.ref D,_,O h' sb,rfl,q⟩⟩
def Zb(i:Nat)(b:TE):TS:=λD a H=>b a H λx c=>D.nx (a.set i (some x)) c
def JQ
  (hN:X.N.Nodup) (G:X.N[i]?=some y) (u:X.env.scope.names.lookup y=some .local)
  (hc:X.calm=true) (S:mo X scope N' nt ix) (lo:Ug nt g) (hi:PI X tg iter wi)
  (t:∀B C k l M O,PG (bT X N' scope B C k l M O) tg g/\JM (bT X N' scope B C k l M O) ifs tt/\PE (bT X N' scope B C k l M O) elt te)
  (K:iN (.ListComp elt [⟨tg,iter,ifs,0⟩] scope pos) (some (.Name y py)) spos.line X.env=pure true:=by rfl)
  (hs:∀x,bW iter X.env x=pure x:=by intro _;rfl):PS X (.Assign [.Name y py] (.ListComp elt [⟨tg,iter,ifs,0⟩] scope pos) spos) (Zb i (PK nt ix wi g tt te)):=by
 intro j s U H D I h;obtain⟨B,a0,c1,c2⟩:=oK (scope:=scope) (env:=X.env) λy u hf=>I.ok.has y.1 (S.free y u hf);rw[exec_Assign_Name_used _ _ _ _ K];refine a9 (ik (a9 ?_));show ay _ X.A (do let _ <- Ac (.ListComp elt [⟨tg,iter,ifs,0⟩] scope pos) scope X.env _ (Cm []) false (fO iter X.env) (some (vS (.Name y py) X.env))) _ _ s;refine a9 (cz (iX (use:=some (vS (.Name y py) X.env)) (Q:=λ_ s'=>SP X j D .next s') rfl hs a0 S.kind S.loc
  (gG (hi j s U H _ I h) λv s1 h1=>gG h1 λa1 s2 h2=>?_)) (λ_ s' hq=>aa (aa hq)) λ_ _ e=>e)
 obtain⟨it,fp,tn,J,H2,e,I2,T,Y,f2,W,w0,p⟩:=h2;subst e;refine AS (Q:=λx H1=>D.nx (U.set i (some x)) H1) (RR:=λn C=>Jh (aD X.prog X.w) X.A X.xe (some (vS (.Name y py) X.env)) (λ_ s'=>SP X j D .next s') n C) (Lr λa b c d e f=>(t a b c d e f).2.2) hc S lo (λa b c d e f=>⟨(t a b c d e f).1,(t a b c d e f).2.1⟩) c1 c2 I2 T Y f2 w0 p ?_;intro L C m s' n H' hD fC q hn hI;show ay _ X.A (vS (.Name y py) X.env (.ref L)) _ _ _;have I3:ck X j U (upd H' L (.lst n)) s':=hI s'.heap (.refl ..);refine wpAny_assign_Name (Dd I3 hN G (.inl u) (v:=.ref L) rfl (λs4 I4 ⟨a,sb,ha⟩=>?_) (.inr u));obtain⟨g0,g1,g2,g3,g4,g5⟩:=fC;have E:C≠a:=by
  rcases ha with z|z
  ·rw[z];exact g1
  ·exact λe=>g4 y a z e.symm
 refine⟨m,hn.sameBut sb E,λh5 P=>?_⟩;exact⟨_,_,I4.turned (t':=s4.toks) (λb o t e=>(P.2 b t).trans e) g0 g1 g3 g4 g5,q⟩
def l_(e:Int×ai):Str:=match e.2 with
 |.str x _=>x
 |_=>⟨#[]⟩
def v_(w:bF)(e:Int×ai):Prop:=∃x a,e=(hashStr w x,lH x a)
structure dW (w:bF) (h:bZ) (a:av) (es:Array (Int×ai)) (ep:Nat) (t:fh):Prop where
 at_:h.get? a=some {cls:=.type "set",dict:=none,data:=.set es ep t}
 txt:∀e∈es.toList,v_ w e
 nd:(es.toList.map l_).Nodup
 few:es.size<iP
 fits:t.fits es.size=true
 led:t.led=!w.params.followText "set-order"
 pl:es.size=0\/t.plain=false
inductive nN (w:bF) (h:bZ) (a:av) (ss:List Str):Prop
 |mk (es ep t:_) (h0:dW w h a es ep t) (h1:(es.toList.map l_).Perm ss):nN w h a ss
def JR(t:fh)(es:Array (Int×ai))(h:Int)(x:ai):(layNew t es h x).2.1.led=t.led:=by
 unfold layNew;cases t.freeSlot h with
 |none=>rfl
 |some p=>
  obtain⟨slot,d⟩:=p;show((t.put slot).1.orStandIn _).led=_;unfold IW;split<;>rfl
def EH(t:fh)(es:Array (Int×ai))(h:Int)(x:ai):t.plain=false->(layNew t es h x).2.1.plain=false:=by
 intro a;unfold layNew;cases t.freeSlot h with
 |none=>rfl
 |some p=>
  obtain⟨slot,d⟩:=p;show((t.put slot).1.orStandIn _).plain=_;unfold IW;split
  ·exact a
  ·rfl
def Gz{t t':fh}{hs:Array Int}{n:Nat}{o:Array Nat}(h:t.relaid hs n=some (t',o)):t'.led=t.led/\t'.plain=t.plain:=by
 unfold z0 pE at h;cases e:lI (bR n-1) hs with
 |none=>rw[e] at h;cases h
 |some b=>
  rw[e] at h;have h:=c6 h;have a:=congrArg Prod.fst h;subst a;exact⟨rfl,rfl⟩
def Nk(t:fh)(es:Array (Int×ai))(n:Nat):(ye t es n).2.1.led=t.led/\(t.plain=false->(ye t es n).2.1.plain=false):=by
 unfold ye;cases e:t.relaid (es.map (·.1)) n with
 |none=>exact⟨rfl,λ_=>rfl⟩
 |some p=>
  obtain⟨t',o⟩:=p;obtain⟨a,b⟩:=Gz e;dsimp only;split
  ·exact⟨a,λh=>b.trans h⟩
  ·exact⟨rfl,λ_=>rfl⟩
def PP(h:∀e∈l,v_ w e):ElemsOf (strKind P w) l:=λe he=>by
 obtain⟨x,a,rfl⟩:=h e he;exact⟨⟨x,by simp[Ep,qO],rfl⟩,rfl⟩
def Xr(P:bj)(w:bF)(x:Str)(a:Tok):(strKind P w).is x (.str x a)=true:=by simp[Ep,qO]
def Ls(h:v_ w e)(x:Str):(strKind P w).is x e.2=true↔l_ e=x:=by
 obtain⟨y,a,rfl⟩:=h;constructor
 ·intro q;have:=(strKind P w).inj _ _ _ q (Xr P w y a);rw[this];rfl
 ·rintro rfl;exact Xr P w _ a
def uA(I:dW w h a es ep t):(h.update a (ku es' t')).get? a=some {cls:=.type "set",dict:=none,data:=.set es' (ep+1) t'}:=by
 have q:=dm (ku es' t') I.at_ rfl;exact q
def Do(hS:nN w s.heap a ss)(hr:ss.length+1<iP)
  (h:∀h' n,bK a s.heap h'->nN w h' a (if x∈ss then ss else ss++[x])->Q (!decide (x∈ss)) {s with heap:=h',toks:=n}):
  ay (aD P w) A (Co a (.str x tk) ((strKind P w).hash x)) Q E s:=by
 obtain⟨es,O,t,I,B⟩:=hS
 have a0:es.size=ss.length:=by rw[<- B.length_eq,ao,az]
 have N:ElemsOf (strKind P w) es.toList:=PP I.txt
 unfold Co setAddHashedIn
 refine cH (a9 (aT (s:=s) I.at_ rfl I.fits ?_))
 dsimp only
 rw[byScan_of rfl I.few N]
 rw[if_pos rfl]
 unfold setAddByScan
 refine a9 (a9 (dk (a9 (wpAny_setScan_of (s:=s) (Xr P w x tk) I.at_ rfl I.fits N ?_))))
 have f:x∈ss↔∃e∈es.toList,(strKind P w).is x e.2=true:=by
  rw[<- B.mem_iff,m6]
  constructor
  ·rintro⟨e,he,q⟩;exact⟨e,he,(Ls (I.txt e he) x).mpr q⟩
  ·rintro⟨e,he,q⟩;exact⟨e,he,(Ls (I.txt e he) x).mp q⟩
 cases hf:List.findIdx? (λe=>(strKind P w).is x e.2) es.toList with
 |some j=>
  obtain⟨hj,hp,_⟩:=List.findIdx?_eq_some_iff_getElem.mp hf
  have M:x∈ss:=f.mpr ⟨_,kF hj,hp⟩
  have q:=h s.heap s.toks (.refl ..) (by rw[if_pos M];exact⟨es,O,t,I,B⟩)
  rw[decide_eq_true M] at q
  exact aa (aa q)
 |none=>
  have i:x∉ss:=λz=>by
   obtain⟨e,he,q⟩:=f.mp z
   rw[List.findIdx?_eq_none_iff.mp hf e he] at q
   cases q
  have h:=λh' n sb=>h h' n sb
  rw[decide_eq_false i,if_neg i] at h
  have o:=layNew_perm t es ((strKind P w).hash x) (.str x tk)
  have T:=layNew_fits t es ((strKind P w).hash x) (.str x tk)
  have X:=JR t es ((strKind P w).hash x) (.str x tk)
  have q1:=EH t es ((strKind P w).hash x) (.str x tk)
  generalize layNew t es ((strKind P w).hash x) (.str x tk)=L at o T X q1 ⊢
  obtain⟨c,U,wd,gv⟩:=L
  dsimp only at o T X q1 ⊢
  rw[jH] at o
  have G:∀e∈c.toList,v_ w e:=λe he=>by
   rcases List.mem_append.mp (o.mem_iff.mp he) with z|z
   ·exact I.txt e z
   ·rw[cC] at z;exact⟨x,tk,z⟩
  have km:(c.toList.map l_).Perm (ss++[x]):=(o.map l_).trans (by rw[bI];exact B.append_right _)
  have H:(ss++[x]).Nodup:=by
   rw[z9]
   exact⟨B.nodup_iff.mp I.nd,by simp,λy hy z hz e=>i (by rw[cC] at hz;rw[<- hz,<- e];exact hy)⟩
  have a1:c.size=es.size+1:=by rw[<- az,o.length_eq,aS,az];rfl
  have g:c.size<iP:=by omega
  have gw:∀(b:Bool) {k:au}{Q':Unit->au->Prop},Q' () k->ay (aD P w) A (match b with|true=>rule "set.scan.the-table-gave-way" | false=>pure ()) Q' E k:=
   λb _ _ z=>by cases b<;>first|exact aa z|exact dk z
  have l:∀d:fh,d.fits c.size=true->d.led=t.led->d.plain=false->ay (aD P w) A (do
    storeSet a c d
    if(!wd&&d.tooFull)=true then do
      (match (ye d c (gV c.size)).2.2 with|true=>rule "set.scan.the-table-gave-way" | false=>pure ())
      storeSet a (ye d c (gV c.size)).1 (ye d c (gV c.size)).2.1
      pure (some true)
     else pure (some true)) (λr s'=>r=some true/\Q true s') E s:=λd f2 l2 n2=>by
   refine a9 (gW (s:=s) I.at_ rfl ?_ (eX g))
   have Y:=uA (es':=c) (t':=d) I
   have v:=bv s.heap a (ku c d)
   have I1:dW w (s.heap.update a (ku c d)) a c (O+1) d:=⟨Y,G,km.nodup_iff.mpr H,g,f2,l2.trans I.led,.inr n2⟩
   split
   ·have p:=relayAll_perm d c (gV c.size)
    have f3:=relayAll_fits d c (gV c.size)
    have S:=Nk d c (gV c.size)
    generalize ye d c (gV c.size)=R3 at p f3 S ⊢
    obtain⟨K,t3,a2⟩:=R3
    dsimp only at p f3 S ⊢
    have m:K.size<iP:=by rw[<- az,p.length_eq,az];exact g
    have u:=(p.map l_).trans km
    refine a9 (gw _ (a9 (gW (s:={s with heap:=s.heap.update a (ku c d)}) I1.at_ rfl ?_ (eX m))))
    refine aa ⟨rfl,h _ _ (v.trans (bv _ a _)) ⟨K,O+1+1,t3,⟨uA I1,λe he=>G e (p.mem_iff.mp he),u.nodup_iff.mpr H,m,f3,S.1.trans (l2.trans I.led),.inr (S.2 n2)⟩,u⟩⟩
   ·exact aa ⟨rfl,h _ _ v ⟨c,O+1,d,I1,km⟩⟩
  refine a9 (gw gv ?_)
  cases hp:U.plain with
  |true=>
   simp only[if_true]
   rw[hashByValue_scannable 8 (x:=.str x tk) rfl]
   refine a9 (aa ?_)
   refine cz (l {U with plain:=false} (by cases U;exact T) X rfl) (λr s' z=>?_) λ_ _ z=>z
   obtain⟨rfl,z⟩:=z
   exact aa z
  |false=>
   simp only[aV,if_false]
   refine a9 (aa ?_)
   refine cz (l U T X hp) (λr s' z=>?_) λ_ _ z=>z
   obtain⟨rfl,z⟩:=z
   exact aa z
def GA(d:nN w s.heap a ss)(c:ss.length+1<iP)
  (h:∀h' b,bK a s.heap h'->nN w h' a (if x∈ss then ss else ss++[x])->Q (!decide (x∈ss)) {s with heap:=h',toks:=b}):
  ay (aD P w) A (setAdd a (.str x tk)) Q E s:=by
 unfold setAdd;refine cH (a9 ((strKind P w).pyHash (k:=x) (Xr P w x tk) ?_));exact Do (s:={s with toks:=s.toks+1}) d c h
abbrev i0(w:bF):Obj:={cls:=.type "set",dict:=none,data:=.set #[] 0 (.fresh 0 0 (!w.params.followText "set-order"))}
def Dp(w:bF)(e:h.get? a=some (i0 w)):nN w h a []:=
 ⟨#[],0,_,⟨e,λe he=>by simp at he,by simp,by decide,rfl,rfl,.inl rfl⟩,by simp⟩
def eJ:List Str->List Str->List Str
 |acc,[]=>acc
 |acc,x::r=>eJ (if x∈acc then acc else acc++[x]) r
theorem j_:∀(l a:List Str) (x:Str),x∈eJ a l↔x∈a\/x∈l
 |[],a,x=>by simp[eJ]
 |y::r,a,x=>by
  rw[eJ,j_ r];by_cases h:y∈a
  ·rw[if_pos h];simp only[bg];constructor
   ·exact λz=>z.elim .inl λz=>.inr (.inr z)
   ·rintro (z|z|z)
    ·exact .inl z
    ·exact .inl (z ▸ h)
    ·exact .inr z
  ·rw[if_neg h];simp[cQ,or_assoc]
theorem jR:∀(l c:List Str),c.Nodup->(eJ c l).Nodup
 |[],c,h=>h
 |y::r,c,h=>by
  rw[eJ];refine jR r _ ?_;by_cases d:y∈c
  ·rw[if_pos d];exact h
  ·rw[if_neg d,z9];exact⟨h,by simp,λa g b f e=>d (by rw[cC] at f;rw[<- f,<- e];exact g)⟩
theorem j4:∀(l a:List Str),(eJ a l).length<=a.length+l.length
 |[],a=>by simp[eJ]
 |y::r,a=>by
  rw[eJ];have:=j4 r (if y∈a then a else a++[y]);by_cases b:y∈a
  ·rw[if_pos b] at this ⊢;simp only[aX];omega
  ·rw[if_neg b] at this ⊢;simp only[aX,aS,eR,du] at this ⊢;omega
def nN.keep(x:nN w h a ss)(k:∀o,h.get? a=some o->h'.get? a=some o):nN w h' a ss:=
 let ⟨es,ep,t,I,p⟩:=x;⟨es,ep,t,⟨k _ I.at_,I.txt,I.nd,I.few,I.fits,I.led,I.pl⟩,p⟩
def CB{I:av}{G l:List av}{n:Nat}{E:Nat->ai->Prop}{St:Nat->bZ->Prop}(W:Ad prog w A.in1 I G l n E St)(D:av)(H:D∉G)(xs:List Str)(hx:xs.length=n)
  (hv:∀i v,E i v->∃x t,xs[i]?=some x/\v=.str x t) (c:n+1<iP):
  ∀(k i:Nat) (s:au) (a:List Str),n-i=k->i<=n->a.length<=i->St i s.heap->nN w s.heap D a ->
   (∀h' g,(∀b o,b∉D::l->s.heap.get? b=some o->h'.get? b=some o)->nN w h' D (eJ a (xs.drop i))->R (.ok (.ret .none)) {s with heap:=h',toks:=g}) ->
   gU (aD prog w) A (.builtin "set.update.loop" ⟨[.ref D,.ref I],[]⟩) R s:=by
 have d:D∉l:=λz=>H (W.sub _ z);intro k;induction k with
 |zero=>
  intro i s a X Q O st u B;obtain rfl:i=n:=by omega
  refine dC rF ?_;rw[cw jE _];show ay _ A.in1 (ml (.ref I)>>=_) _ _ s;refine a9 (W.done s _ _ st λh' g kp=>?_);refine aa (B h' g (λb o c e=>kp b o (λz=>c (ak _ z)) e) ?_);rw[List.drop_of_length_le ∅];exact u.keep λo e=>kp D o d e
 |succ k M=>
  intro i s a X Q O st u B;have f:i<n:=by omega
  refine dC rF ?_;rw[cw jE _];show ay _ A.in1 (ml (.ref I)>>=_) _ _ s;refine a9 (W.item i s _ _ f st λv h' g S q kp=>?_);obtain⟨x,t,m,rfl⟩:=hv i v S;have h:nN w h' D a:=u.keep λo e=>kp D o d e;refine a9 (cH (GA (s:={s with heap:=h',toks:=g}) h ∅ λK T L y=>?_));refine aa ⟨im jE _,M (i+1) _ (if x∈a then a else a++[x]) ∅ f ?_ (W.frame _ _ _ q λb c o e=>?_) y λP p Y j=>?_⟩
  ·by_cases z:x∈a
   ·rw[if_pos z];omega
   ·rw[if_neg z,aS,eR];omega
  ·rw[L.2 b λz=>H (z ▸ c)];exact e
  ·refine B P p (λb o c e=>Y b o c ?_) ?_
   ·rw[L.2 b λz=>c (by rw[z];exact aq)];exact kp b o (λz=>c (ak _ z)) e
   ·have U:xs.drop i=x::xs.drop (i+1):=by
     obtain⟨N,K⟩:=List.getElem?_eq_some_iff.mp m;rw[Er N,K]
    rw[U,eJ];exact j
def PQ(a:ai)(h:Q₁ (.ref s.heap.objs.size) {s with heap:=s.heap.push (i0 w)}):
  gU (aD prog w) A (.call (.builtin "set.__new__") ⟨[.type "set",a],[]⟩) (wants Q₁ E) s:=by
 refine wH ?_;show ay _ A.in1 (do checkBuiltinCall "set.__new__" ⟨[.type "set",a],[]⟩;again (.builtin "set.__new__" ⟨[.type "set",a],[]⟩)) _ _ s;refine a9 (gg (F.newCall_set_1 a) (aa ⟨im F.plain_set_new _,dC F.entry_set_new ?_⟩));rw[cw F.plain_set_new _];unfold js.«set.__new__» Te;have b:=O_;obtain⟨c,g,d,f,e⟩:=s;dsimp only;wp_walk;refine fJ (aa ?_);dsimp only;simp only[newObj];refine a9 (Td (aa ?_));exact aa h
structure Xs (prog:bj) (w:bF) (A:cD) (T:String) (l:av) (o:Obj) (items:Array ai):Prop where
 ty:o.cls=.type T
 s1:isSubtype (.type T) (.type "set")=pure false
 s2:isSubtype (.type T) (.type "frozenset")=pure false
 nd:(gH T==gH "dict")=false
 iter:∀(s:au) (Q:ai->au->Prop) (E:ai->au->Prop),s.heap.get? l=some o ->
  (∀ob St,Ad prog w A.in1 s.heap.objs.size [s.heap.objs.size,l] [s.heap.objs.size] items.size (λi v=>items[i]?=some v) St->St 0 (s.heap.push ob)->Q (.ref s.heap.objs.size) {s with heap:=s.heap.push ob})->ay (aD prog w) A (qp (.ref l)) Q E s
def x0{T:String}{l:av}{H:Obj}{items:Array ai}{xs:List Str}{Q:ai->au->Prop}
  (B:Xs prog w A.in1.in1 T l H items) (y:s.heap.get? l=some H) (X:∀(i:Nat) (v:ai),items[i]?=some v->∃x t,xs[i]?=some x/\v=lH x t) (hx:xs.length=items.size) (Y:items.size+1<iP)
  (h:∀(h':bZ) (k:Nat),nN w h' s.heap.objs.size (eJ [] xs)->(∀b o,s.heap.get? b=some o->h'.get? b=some o)->Q (.ref s.heap.objs.size) {s with heap:=h',toks:=k}):
  ay (aD prog w) A (call (.type "set") [.ref l]) Q E s:=by
 obtain⟨c,tl,P⟩:=F.called_set.mro;have G:=F.called_set.made;have O:=F.called_set.sub;refine wpAny_call (wH ?_);show ay _ _ (callAny (.type "set") _) _ _ _;refine aa ⟨Code.quiet_builtin _ ∎,dC F.entry_type_call ?_⟩;rw[Around.under_plain (weight_type_call_type "set" [.ref l] []) rfl];have h1:=F.called_set.notType;have h2:=F.called_set.canCreate;have a0:=F.typeCall_set_1 (.ref l);repeat (any_goals (first|assumption|wp_step))
 refine nh (PQ (.ref l) (E:=E) (Q₁:=λm d=>m=.ref s.heap.objs.size/\d={s with heap:=s.heap.push (i0 w)}) ⟨rfl,rfl⟩) λr d q=>?_;cases r with
 |error e=>exact q
 |ok U=>
  cases U with
  |ret m=>
   obtain⟨rfl,rfl⟩:=q;have N:(s.heap.push (i0 w)).get? s.heap.objs.size=some (i0 w):=aE _ rfl;have hT:D9 {s with heap:=s.heap.push (i0 w)} (.ref s.heap.objs.size) "set":=⟨_,N,rfl⟩;have S:=F.called_set.init.lookup;have a1:=F.called_set.init.bind (.ref s.heap.objs.size);repeat (any_goals (first|assumption|wp_step))
   refine nh (codeAny_call_builtin (R:=wants (λr f=>r=.none/\∃h' k,f={s with heap:=h',toks:=k}/\nN w h' s.heap.objs.size (eJ [] xs) /\
     (∀b o,s.heap.get? b=some o->h'.get? b=some o)) E) F.called_set.init.plain F.entry_set_init (check_set_init_1 hT ?_)) λp f a=>?_
   ·obtain⟨oc,od,I,L⟩:=H;obtain⟨ty,s1,s2,nd,iter⟩:=B;have ty:oc=.type T:=ty;subst ty;have u:(s.heap.push (i0 w)).get? l=some {cls:=.type T,dict:=od,data:=I,slots:=L}:=ah _ y;unfold js.«set.__init__» noKeywords lC;generalize K:qp=PI;wp_walk;subst K;refine iter {s with heap:=s.heap.push (i0 w)} _ _ u λob St W st=>?_;have z:l<s.heap.objs.size:=aB y;refine a9 (rN ?_);have n:(s.heap.push (i0 w)).objs.size=s.heap.objs.size+1:=cf ..;refine CB (A:=A.in1.in1) W s.heap.objs.size (by rw[n];simp only[bg,bt,or_false,not_or];exact⟨aM (fk _),eZ z⟩) xs hx X Y items.size 0 _ [] ∅ (ca _) (aA _) st (Dp w (ah _ N)) λh' k kp j=>?_;show ay _ _ _ _ _ _;refine aa ?_;show ay _ _ (ret eC) _ _ _;refine aa ⟨rfl,h',k,rfl,j,λb o e=>kp b o ?_ (ah _ (ah _ e))⟩;have:=aB e;rw[n];simp only[bg,bt,or_false,not_or];exact⟨aM this,aM (eu this)⟩
   ·cases p with
    |error e=>exact a
    |ok g=>
     cases g with
     |ret r=>
      obtain⟨rfl,h',k,rfl,j,M⟩:=a;repeat (any_goals (first|assumption|wp_step))
      exact h _ _ j M
     |next=>exact a.elim
     |brk=>exact a.elim
     |cont=>exact a.elim
  |next=>exact q.elim
  |brk=>exact q.elim
  |cont=>exact q.elim
def PR{l:av}{o:Obj}{a:List ai}(d:A.handled=none)(b:o.cls=.type "list")(c:∃n,o.data=.seq a.toArray n):Xs prog w A "list" l o a.toArray:=
 ⟨b,F.sub_list_set,F.sub_list_frozenset,by decide,λs Q E e h=>s_ ⟨_,e,b,c⟩
  (h _ _ (MN (by simpa using d) _ l (aM (aB e)) a.toArray) ⟨⟨_,aE _ rfl,rfl,rfl⟩,⟨_,ah _ e,b,c⟩⟩)⟩
def Uj{l:av}{o:Obj}{a:List ai}(d:A.handled=none)(b:o.cls=.type "tuple")(c:∃n,o.data=.seq a.toArray n):Xs prog w A "tuple" l o a.toArray:=
 ⟨b,F.sub_tuple_set,F.sub_tuple_frozenset,by decide,λs Q E e h=>iD ⟨_,e,b,c⟩
  (h _ _ (Walks.tuple (by simpa using d) _ l (aM (aB e)) a.toArray) ⟨⟨_,aE _ rfl,rfl,rfl⟩,⟨_,ah _ e,b,c⟩⟩)⟩
end L2
namespace L2
open PySem PySem.Spec PyProof.Rows
namespace SI
def entry_iter:Tf table "set.__iter__"=some js.«frozenset.__iter__»:=
 Ji (id':="frozenset.__iter__") (by kernel_rfl) rfl ∎ (by kernel_rfl)
def slot_next:Slot "set_iterator" "__next__" "set_iterator.__next__":=by
 refine .of (owner:="set_iterator") (n:="__next__") ?_ ?_ ?_ ?_ ?_ ?_
 ·rw[typeLookup_type,SQ];kernel_rfl
 ·decide +kernel
 ·decide +kernel
 ·decide +kernel
 ·first
   |exact .inl ∎
   |exact .inr ∎
 ·rw[yf];kernel_rfl
def entry_next:Tf table "set_iterator.__next__"=some js.«set_iterator.__next__»:=
 entryFor_of_tree (by kernel_rfl)
def GB:Manifest.owners.lookup (String.ofList ['r','o','t','a','r','e','t','i','_','t','e','s'].reverse)=some Manifest.sig_set_iterator:=by kernel_rfl
def args_next(a:ai):argsOk "set_iterator.__next__" ⟨[a],[]⟩:=by
 unfold argsOk;rw[signature?_of (id:="set_iterator.__next__") (n:=['_','_','t','x','e','n','_','_']) (o:=['r','o','t','a','r','e','t','i','_','t','e','s']) (by kernel_rfl) GB]
 kernel_rfl
def args_iter(a:ai):argsOk "set_iterator.__iter__" ⟨[a],[]⟩:=by
 unfold argsOk;rw[signature?_of (id:="set_iterator.__iter__") (n:=['_','_','r','e','t','i','_','_']) (o:=['r','o','t','a','r','e','t','i','_','t','e','s']) (by kernel_rfl) GB]
 kernel_rfl
def entry_self:Tf table "set_iterator.__iter__"=some js.«dict_keyiterator.__iter__»:=
 Ji (id':="dict_keyiterator.__iter__") (by kernel_rfl) rfl ∎ (by kernel_rfl)
def slot_iter:Slot "set_iterator" "__iter__" "set_iterator.__iter__":=by
 refine .of (owner:="set_iterator") (n:="__iter__") ?_ ?_ ?_ ?_ ?_ ?_
 ·rw[typeLookup_type,SQ];kernel_rfl
 ·decide +kernel
 ·decide +kernel
 ·decide +kernel
 ·first
   |exact .inl ∎
   |exact .inr ∎
 ·rw[yf];kernel_rfl
end SI
end L2
namespace L2
open PySem PySem.Spec PyProof.Rows
theorem w9{a:Type}:∀{l:List a}{i:Nat} (h:i<l.length),(l[i]::l.eraseIdx i).Perm l
 |x::r,0,_=>.refl _
 |x::r,i+1,h=>by
  have q:=w9 (l:=r) (i:=i) (by simpa using h);rw[List.getElem_cons_succ,List.eraseIdx_cons_succ];exact(List.Perm.swap _ _ _).trans (q.cons x)
def Nl(a:n≠0)(h:∀i d,i<n->Q i {s with drawn:=d}):ay M A (choose src n) Q E s:=
 λ_ _ _=>⟨a,h _ _ (nl _ (Nat.pos_of_ne_zero a))⟩
theorem rQ{c:Type}:∀(n:Nat) (xs:List c) (s:au) (Q:List c->au->Prop),n=xs.length->(∀ys d,ys.Perm xs->Q ys {s with drawn:=d})->ay M A (drawOrder n xs) Q E s
 | 0,xs,s,Q,a,h=>by
  obtain rfl:xs=[]:=List.length_eq_zero_iff.mp a.symm;exact aa (h [] s.drawn .nil)
 |n+1,[],s,Q,a,h=>by cases a
 |n+1,x::r,s,Q,a,h=>by
  show ay M A (choose .order (x::r).length>>=_) Q E s;refine a9 (Nl (by simp) λi d b=>?_);rw[bp b];refine a9 (rQ n _ _ _ (by rw[Da b];omega) λys d' p=>aa ?_);exact h _ _ ((p.cons _).trans (w9 b))
theorem EI{b:Type}(next:Nat->Nat):∀(n k:Nat) (left:List b) (out:Array b),n=left.length->(Cq next n k left out).toList.Perm (out.toList++left)
 | 0,k,left,out,hn=>by
  obtain rfl:left=[]:=List.length_eq_zero_iff.mp hn.symm;rw[Cq,cq]
 |n+1,k,left,out,hn=>by
  have a:next k % left.length<left.length:=nl _ ∅
  rw[Cq,bp a];refine(EI next n (k+1) _ _ (by rw[Da a];omega)).trans ?_;rw[jH,e8];exact(w9 a).append_left _
def uB{a:Type}(next:Nat->Nat)(xs:Array a):(jw next xs).toList.Perm xs.toList:=by
 have:=EI next xs.size 0 xs.toList #[] (by simp)
 simpa[jw] using this
def xa(h:bZ)(I S:av)(first:ai)(i n a:Nat):Prop:=h.get? I=some {cls:=.type "set_iterator",data:=.fields #[first,.int i 0,.ref S,.int n 0,.int a 0]}
def xa.put{f c:ai}{j b:Nat}{k:Nat}{x:ai}{h:bZ}(a:xa h I S f j n ep)(e:(#[f,.int j 0,.ref S,.int n 0,.int ep 0]:Array ai).setIfInBounds k x=#[c,.int b 0,.ref S,.int n 0,.int ep 0]):
  xa (h.update I (df (·.setIfInBounds k x))) I S c b n ep:=by
 have q:=dm (df (·.setIfInBounds k x)) a rfl;unfold xa;rw[q];show some ({cls:=.type "set_iterator",data:=.fields ((#[f,.int j 0,.ref S,.int n 0,.int ep 0]:Array ai).setIfInBounds k x)}:Obj)=_;rw[e]
def uC(c:xa s.heap I S first i n ep)(f:dW w s.heap S es ep t)(g:n=es.size)
  (h:ay (aD prog w) A.in1 (do
   if let .int slot _:=first then
    match <- t5 S slot.toNat i ep with
    |some (x,next)=>
     dY (.ref I) 0 (bC next)
     dY (.ref I) 1 (bC (i+1))
     ret x
    |none=>dY (.ref I) 2 .none;lY (<- oF (.type "StopIteration") [])
   else
    let some places <- zc first|kS "internal:set_iterator"
    match places[i]? with
    |some (.int a _)=>
     let x <- Cr S a.toNat ep
     dY (.ref I) 1 (bC (i+1))
     ret x
    |some _=>kS "internal:set_iterator"
    |none=>dY (.ref I) 0 (bC 0);dY (.ref I) 2 .none;lY (<- oF (.type "StopIteration") []))
   (λfin s'=>∃v,fin=.done (.ret v)/\Q (some v) s') (λe s'=>ay (aD prog w) A (Jj e (.type "StopIteration")) (λb d=>b=true/\Q none d) E s') s):
  ay (aD prog w) A (ml (.ref I)) Q E s:=by
 unfold ml;refine a9 (ki ?_);refine cF (name:=gY "__next__") ⟨_,c,rfl⟩ SI.slot_next ?_;refine bH SI.slot_next ⟨_,c,rfl⟩ SI.entry_next ?_ (SI.args_next _);show ay _ _ (fieldsOf (.ref I)>>=_) _ _ s;refine a9 (yg c rfl ?_);show ay _ _ (setEntries S>>=_) _ _ s;refine a9 (qJ f.at_ rfl f.fits ?_);rw[if_neg (by rw[g];simp)];refine cz h (λfin s' z=>?_) λe s' z=>?_
 ·obtain⟨v,rfl,q⟩:=z;exact⟨v,rfl,aa q⟩
 ·refine a9 (cz z (λb d ⟨j,q⟩=>?_) λ_ _ z=>z);subst j;exact aa q
def uD{B:cD}{Q:Option ai->au->Prop}{f:Fin->au->Prop}{o:Obj}{d:Array ai}(g:B.handled=none)(ho:s.heap.get? I=some o)(i:o.data=.fields d)(hz:2<d.size)
  (h:∀h',Lg I s.heap h'->Q none {s with heap:=h'}):
  ay (aD prog w) B (do dY (.ref I) 2 .none;lY (<- oF (.type "StopIteration") []))
   f (λe s'=>ay (aD prog w) A (Jj e (.type "StopIteration")) (λb c=>b=true/\Q none c) E s') s:=by
 refine a9 (fU ho i hz ?_);show ay _ _ (oF (.type "StopIteration") []>>=_) _ _ _;refine a9 ?_;simp only[oF,Jk];refine a9 (bD ?_ (by size_fits));refine a9 (m:=nq _ _) (gg (a:=eC) ?_ ?_)
 ·first
   |rfl
   |(simp only[nq];rfl)
 refine bD ?_ (by size_fits);simp only[lY];refine a9 (MO ?_);rw[g];refine a9 (aa (Tg ?_));refine gE (T:="StopIteration") (b:=true) ⟨_,aE _ rfl,rfl⟩ yh ⟨rfl,?_⟩;exact h _ (((bv ..).extBut.push _).push _)
section
variable{prog:bj}{w:bF}{A:cD}{E:ai->au->Prop}{s:au}{I S:av}{es:Array (Int×ai)}{ep:Nat}{t:fh}{i n:Nat}{first:ai}
def dW.keep(x:dW w h S es ep t)(k:∀o,h.get? S=some o->h'.get? S=some o):dW w h' S es ep t:=⟨k _ x.at_,x.txt,x.nd,x.few,x.fits,x.led,x.pl⟩
def uE{Q:ai->au->Prop}(a:xa s.heap I S first i n ep)(h:Q (.ref I) s):ay (aD prog w) A (qp (.ref I)) Q E s:=by
 refine tj ⟨_,a,rfl⟩ SI.slot_iter (bH SI.slot_iter ⟨_,a,rfl⟩ SI.entry_self ?_ (SI.args_iter _));show ay _ _ (ret (.ref I)) _ _ s;exact aa ⟨_,rfl,"set_iterator",_,⟨_,a,rfl⟩,SI.slot_next.lookup,h⟩
def dv{Q:Bool->au->Prop}{B:cD}(h:Q (w.params.followText "set-order") s):ay (aD prog w) B setsByText Q E s:=by
 unfold setsByText;exact a9 (fJ (aa h))
def EJ{B:cD}{c:Fin->au->Prop}{x:ai}{nx:Nat}{d:ai->au->Prop}(a:xa s.heap I S first i n ep)
  (h:∀h',xa h' I S (.int nx 0) (i+1) n ep->bK I s.heap h'->c (.done (.ret x)) {s with heap:=h'}):
  ay (aD prog w) B (do dY (.ref I) 0 (bC nx);dY (.ref I) 1 (bC (i+1));ret x) c d s:=by
 refine a9 (fU a rfl (by simp) ?_);have b:xa (s.heap.update I (df (·.setIfInBounds 0 (bC nx)))) I S (.int nx 0) i n ep:=a.put (by simp[bC]);refine a9 (fU b rfl (by simp) ?_);have e:xa ((s.heap.update I (df (·.setIfInBounds 0 (bC nx)))).update I (df (·.setIfInBounds 1 (bC (i+1))))) I S (.int nx 0) (i+1) n ep:=b.put (by simp[bC]);exact aa (h _ e ((bv ..).trans (bv ..)))
def oo(f:Nat->Nat)(es:Array (Int×ai)):(jw f es).size=es.size:=by
 rw[<- az,(uB f es).length_eq,az]
theorem JU(u:A.handled=none)(g:w.params.followText "set-order"=true)(j:S≠I):
  Ad prog w A I [I,S] [I] es.size (λi v=>((jw (w.params.setOrder S ep) es).toList.map (·.2))[i]?=some v) (λi h=>xa h I S (.int 0 0) i es.size ep/\dW w h S es ep t) where
 sub:=λb d=>by simp at d;simp[d]
 frame:=λi h h' st k=>⟨k I (by simp) _ st.1,st.2.keep λo e=>k S (by simp) o e⟩
 item:=λi s Q E q st l=>by
  obtain⟨c,a⟩:=st;refine uC c a rfl ?_;dsimp only;unfold t5 IX;refine a9 (a9 (aT a.at_ rfl a.fits (a9 (dv ?_))));rw[g];simp only[if_true,bne_self_eq_false,aV,if_false];refine a9 (a9 (aT a.at_ rfl a.fits (a9 (dv ?_))));rw[g];simp only[if_true];refine a9 (fJ (aa (aa ?_)));have f:i<(jw (w.params.setOrder S ep) es).size:=by rw[oo];exact q
  show ay _ _ (match ((jw (w.params.setOrder S ep) es)[i]?).map λe=>(e.2,(0:Int).toNat) with
   |some (x,next)=>do dY (.ref I) 0 (bC next);dY (.ref I) 1 (bC (i+1));ret x
   |none=>do dY (.ref I) 2 .none;lY (<- oF (.type "StopIteration") [])) _ _ s
  rw[getElem?_pos _ i f];refine EJ (nx:=0) c λh' p m=>⟨_,rfl,l _ h' s.toks ?_ ⟨p,a.keep λo e=>(m.2 S j).trans e⟩ λb o d e=>(m.2 b λz=>d (by simp[z])).trans e⟩;simp[f]
 done:=λs Q E st l=>by
  obtain⟨c,a⟩:=st;refine uC c a rfl ?_;dsimp only;unfold t5 IX;refine a9 (a9 (aT a.at_ rfl a.fits (a9 (dv ?_))));rw[g];simp only[if_true,bne_self_eq_false,aV,if_false];refine a9 (a9 (aT a.at_ rfl a.fits (a9 (dv ?_))));rw[g];simp only[if_true];refine a9 (fJ (aa (aa ?_)));show ay _ _ (match ((jw (w.params.setOrder S ep) es)[es.size]?).map λe=>(e.2,(0:Int).toNat) with
   |some (x,next)=>do dY (.ref I) 0 (bC next);dY (.ref I) 1 (bC (es.size+1));ret x
   |none=>do dY (.ref I) 2 .none;lY (<- oF (.type "StopIteration") [])) _ _ s
  rw[getElem?_neg _ es.size (by rw[oo];exact cr _)];exact uD (by simpa using u) c rfl (by simp) λh' y=>l h' s.toks λb o d e=>y b o (λz=>d (by simp[z])) e
 self:=λi s Q E st h=>uE st.1 h
inductive Zc (h:bZ) (T:av) (ps:List Nat):Prop
 |mk (o k:_) (h0:h.get? T=some o) (h1:o.data=.seq (ps.map λ(p:Nat)=>mO (p:Int) 0).toArray k):Zc h T ps
theorem GC(B:A.handled=none)(u:S≠I)(hT:T≠I)(G:∀p∈ps,p<es.size)(y:ps.length=es.size):
  Ad prog w A I [I,S,T] [I] es.size (λi v=>(ps.map λp=>(es.getD p (0,.none)).2)[i]?=some v) (λi h=>xa h I S (.ref T) i es.size ep/\dW w h S es ep t/\Zc h T ps) where
 sub:=λb f=>by simp at f;simp[f]
 frame:=λi h h' st k=>⟨k I (by simp) _ st.1,st.2.1.keep λo e=>k S (by simp) o e,let ⟨o,q,e,d⟩:=st.2.2;⟨o,q,k T (by simp) o e,d⟩⟩
 item:=λi s Q E K st x=>by
  obtain⟨a,g,o,q,e,d⟩:=st;refine uC a g rfl ?_;dsimp only;refine a9 (dZ e d ?_);have c:i<ps.length:=by omega
  dsimp only;rw[show((ps.map λ(p:Nat)=>mO (p:Int) 0).toArray)[i]?=some (.int (ps[i]:Nat) 0) by simp[c]];dsimp only;unfold Cr;refine a9 (a9 (aT g.at_ rfl g.fits ?_));have l:=G ps[i] (kF c);simp only[bne_self_eq_false,aV,if_false,jV];rw[getElem?_pos es ps[i] l];refine aa ?_;refine a9 (fU a rfl (by simp) ?_);have m:xa (s.heap.update I (df (·.setIfInBounds 1 (bC (i+1))))) I S (.ref T) (i+1) es.size ep:=a.put (by simp[bC]);have j:bK I s.heap (s.heap.update I (df (·.setIfInBounds 1 (bC (i+1))))):=bv ..;refine aa ⟨_,rfl,x _ _ s.toks ?_ ⟨m,g.keep λo e=>(j.2 S u).trans e,o,q,(j.2 T hT).trans e,d⟩ λb o f e=>(j.2 b λz=>f (by simp[z])).trans e⟩;simp[c,l]
 done:=λs Q E st x=>by
  obtain⟨a,g,o,q,e,d⟩:=st;refine uC a g rfl ?_;dsimp only;refine a9 (dZ e d ?_);dsimp only;rw[show((ps.map λ(p:Nat)=>mO (p:Int) 0).toArray)[es.size]?=none by simp[<- y]];dsimp only;refine a9 (fU a rfl (by simp) ?_);have m:xa (s.heap.update I (df (·.setIfInBounds 0 (bC 0)))) I S (.int 0 0) es.size es.size ep:=a.put (by simp[bC]);have j:bK I s.heap (s.heap.update I (df (·.setIfInBounds 0 (bC 0)))):=bv ..;exact uD (s:={s with heap:=s.heap.update I (df (·.setIfInBounds 0 (bC 0)))}) (by simpa using B) m rfl (by simp) λh' H=>x h' s.toks λb o f e=>H b o (λz=>f (by simp[z])) ((j.2 b λz=>f (by simp[z])).trans e)
 self:=λi s Q E st h=>uE st.1 h
def GD(h:p=#[j]):bS p 0=0:=by subst h;simp[bS,nr]
def GE{p:Array Nat}{j:Nat}(h:p=#[j]):bS p (j+1)=1:=by subst h;simp[bS,nr]
theorem Dq(h:t.fits 1 = true):∃j,t.place = #[j]:= by
  have a:t.place.size = 1:= by
    simp only[kG,bc,beq_iff_eq] at h; exact h.1
  exact ⟨t.place[0], by apply Array.ext; · simp [a]
                        · intro i c b; have:i = 0:= by omega
                          subst this; simp⟩
def PU(a:t.led=true)(h:ay (aD prog w) B (k ()) Q E s):
  ay (aD prog w) B ((if(!t.led && !es.isEmpty)=true then kS "set:maker-not-led" else pure ())>>=k) Q E s:=by
 rw[if_neg (by rw[a];simp)];exact a9 (aa h)
def xb{B:cD}{slot g:Nat}{Q:Option (ai×Nat)->au->Prop}(b:w.params.followText "set-order"=false)(a:dW w s.heap S es ep t)(d:es.size<=1)
  (h:Q (match es[bS t.place slot]?,t.place[bS t.place slot]? with|some (_,x),some j=>some (x,j+1)|_,_=>none) s):ay (aD prog w) B (t5 S slot g ep) Q E s:=by
 unfold t5;refine a9 (aT a.at_ rfl a.fits (a9 (dv ?_)));rw[b];simp only[aV,if_false];split
 ·rename_i z
  exact absurd (show(!t.plain&&decide (es.size > 1))=true from z) (by simp;omega)
 ·have c:t.led=true:=by rw[a.led,b];rfl
  exact PU c (aa h)
theorem Nm(K:A.handled=none)(x:w.params.followText "set-order"=false)(q:S≠I)(m:es.size<=1):
  Ad prog w A I [I,S] [I] es.size (λi v=>(es.toList.map (·.2))[i]?=some v)
   (λi h=>∃k,xa h I S (.int (k:Nat) 0) i es.size ep/\dW w h S es ep t/\(i=0->k=0)/\(i=1->es.size=1->∃j,t.place=#[j]/\k=j+1)) where
 sub:=λb f=>by simp at f;simp[f]
 frame:=λi h h' st k=>let ⟨c,a1,a2,a3⟩:=st;⟨c,k I (by simp) _ a1,a2.keep λo e=>k S (by simp) o e,a3⟩
 item:=λi s Q E M st u=>by
  obtain⟨c,a,d,y,B⟩:=st;have p:i=0:=by omega
  subst p;obtain rfl:c=0:=y rfl;have g:es.size=1:=by omega
  obtain⟨j,l⟩:=Dq (t:=t) (by rw[<- g];exact d.fits);refine uC a d rfl ?_;dsimp only;refine a9 (xb x d m ?_);rw[show(((0:Nat):Int).toNat)=0 from rfl,GD l,getElem?_pos es 0 ∅,l];refine EJ (nx:=j+1) a λh' m G=>⟨_,rfl,u _ h' s.toks ?_ ⟨j+1,m,d.keep λo e=>(G.2 S q).trans e,by simp,λ_ _=>⟨j,l,rfl⟩⟩ λb o f e=>(G.2 b λz=>f (by simp[z])).trans e⟩;simp[g]
 done:=λs Q E st u=>by
  obtain⟨c,a,d,y,B⟩:=st;refine uC a d rfl ?_;dsimp only;refine a9 (xb x d m ?_);have hz:es[bS t.place ((c:Nat):Int).toNat]?=none:=by
   rcases gj es.size with z|z
   ·rw[getElem?_neg];omega
   ·have g:es.size=1:=by omega
    obtain⟨j,l,H⟩:=B g g;rw[H,show(((j+1:Nat):Int).toNat)=j+1 from rfl,GE l,getElem?_neg];omega
  rw[hz];exact uD (by simpa using K) a rfl (by simp) λh' L=>u h' s.toks λb o f e=>L b o (λz=>f (by simp[z])) e
 self:=λi s Q E st h=>let ⟨_,a1,_⟩:=st;uE a1 h
theorem JV{Q:ai->au->Prop}(Y:A.handled=none)(g:dW w s.heap S es ep t)
  (h:∀(I:av) (l:List av) (a:List ai) (St:Nat->bZ->Prop) (h':bZ) (d:Cg),s.heap.objs.size<=I->(∀b∈l,b=S\/s.heap.objs.size<=b)->(∀b∈l,b<h'.objs.size)->a.Perm (es.toList.map (·.2))->(∀B:cD,B.handled=none->Ad prog w B I l [I] a.length (λi v=>a[i]?=some v) St)->St 0 h' ->
   (∀b o,s.heap.get? b=some o->h'.get? b=some o)->D9 {s with heap:=h',drawn:=d} (.ref I) "set_iterator"->Q (.ref I) {s with heap:=h',drawn:=d}):ay (aD prog w) A (qp (.ref S)) Q E s:=by
 have hT:s.TypeIs (.ref S) "set":=⟨_,g.at_,rfl⟩;have m:=aB g.at_;refine tj hT vy (bH vy hT SI.entry_iter ?_ (F.args_set_iter_1 _));show ay _ _ (jx S>>=_) _ _ s;unfold jx;refine a9 (a9 (qJ g.at_ rfl g.fits (aa ?_)));show ay _ _ (Th S>>=_) _ _ s;unfold Th;refine a9 (a9 (aT g.at_ rfl g.fits (a9 (dv (aa ?_)))));have fin:∀(first:ai) (l:List av) (a:List ai) (St:Nat->bZ->Prop) (h':bZ) (d:Cg),(∀b o,s.heap.get? b=some o->h'.get? b=some o)->s.heap.objs.size<=h'.objs.size ->
   (∀b∈l,b=S\/b=h'.objs.size\/(s.heap.objs.size<=b/\b<h'.objs.size))->a.Perm (es.toList.map (·.2))->(∀B:cD,B.handled=none->Ad prog w B h'.objs.size l [h'.objs.size] a.length (λi v=>a[i]?=some v) St) ->
   (∀c:bZ,(∀b o,h'.get? b=some o->c.get? b=some o)->xa c h'.objs.size S first 0 es.size ep->St 0 c) ->
   ay (aD prog w) A.in1 (Ti S>>=λe=>newFields "set_iterator" [first,bC 0,.ref S,bC es.size,bC e]>>=λx=>ret x) (λfin s'=>∃v,fin=.done (.ret v)/\∃T r,s'.TypeIs v T/\Jd (.type T) "__next__"=pure (some r)/\Q v s') E {s with heap:=h',drawn:=d}:=by
  intro first l a St h' d kp hsz u K W st
  have G:dW w h' S es ep t:=g.keep λo e=>kp S o e;refine a9 (wpAny_setEpoch_of (s:={s with heap:=h',drawn:=d}) G.at_ rfl G.fits ?_);refine a9 (bD ?_ (by size_fits));have P:∀b o,h'.get? b=some o->(h'.push {cls:=.type "set_iterator",dict:=none,data:=.fields #[first,bC 0,.ref S,bC es.size,bC ep]}).get? b=some o:=λb o e=>ah _ e;have it:(h'.push {cls:=.type "set_iterator",dict:=none,data:=.fields #[first,bC 0,.ref S,bC es.size,bC ep]}).get? h'.objs.size=some {cls:=.type "set_iterator",dict:=none,data:=.fields #[first,bC 0,.ref S,bC es.size,bC ep]}:=aE _ rfl;refine aa ⟨_,rfl,"set_iterator",_,⟨_,it,rfl⟩,SI.slot_next.lookup,h h'.objs.size l a St _ d hsz (λb f=>?_) (λb f=>?_) K W (st _ P it) (λb o e=>P b o (kp b o e)) ⟨_,it,rfl⟩⟩
  ·rcases u b f with z|z|z
   ·exact .inl z
   ·exact .inr (by rw[z];exact hsz)
   ·exact .inr z.1
  ·rw[cf];rcases u b f with z|z|z
   ·rw[z];exact eu (aK m hsz)
   ·rw[z];exact fk _
   ·exact eu z.2
 dsimp only;split
 ·rename_i z
  have z:(!w.params.followText "set-order" && (!t.plain&&decide (es.size > 1)))=true:=z;refine a9 (rQ _ _ _ _ (by simp) λys d K=>?_);simp only[Jk];have L:ys.length=es.size:=by have:=K.length_eq;rwa[eg] at this
  have X:=eX g.few;refine a9 (bD ?_ (by show(ys.map λ(i:Nat)=>bC i).toArray.size<=sizeLine;simp;omega));have q:∀ob:Obj,(s.heap.push ob).objs.size=s.heap.objs.size+1:=λob=>cf ..;refine fin (.ref s.heap.objs.size) [s.heap.objs.size+1,S,s.heap.objs.size] (ys.map λp=>(es.getD p (0,.none)).2)
   (λi h=>xa h (s.heap.objs.size+1) S (.ref s.heap.objs.size) i es.size ep/\dW w h S es ep t/\Zc h s.heap.objs.size ys) (s.heap.push _) d
   (λb o e=>ah _ e) (by rw[q];exact jr _) (λb f=>?_) ?_ (λB M=>?_) (λc k it=>⟨by rw[q] at it;exact it,g.keep λo e=>k S o (ah _ e),_,_,k _ _ (aE _ rfl),rfl⟩)
  ·simp only[bg,bt,or_false] at f;rcases f with y|y|y
   ·exact .inr (.inl (by rw[q];exact y))
   ·exact .inl y
   ·exact .inr (.inr ⟨by rw[y];exact aA _,by rw[q,y];exact fk _⟩)
  ·refine(K.map _).trans (.of_eq ?_);apply n5
   ·simp
   ·intro k N h2;have:k<es.size:=by simpa using N
    simp[this]
  ·rw[ao,L,q];exact GC M (aM (eu m)) (aM (fk _)) (λp U=>List.mem_range.mp (K.mem_iff.mp U)) L
 ·rename_i z
  have z:¬ (!w.params.followText "set-order" && (!t.plain&&decide (es.size > 1)))=true:=z;refine a9 (aa ?_);have H:S≠s.heap.objs.size:=aM m;cases O:w.params.followText "set-order" with
  |true=>
   refine fin (bC 0) [s.heap.objs.size,S] ((jw (w.params.setOrder S ep) es).toList.map (·.2)) (λi h=>xa h s.heap.objs.size S (.int 0 0) i es.size ep/\dW w h S es ep t) s.heap s.drawn (λ_ _ e=>e) (aA _) (λb f=>?_) ((uB _ es).map _) (λB M=>?_) (λc k it=>⟨it,g.keep λo e=>k S o e⟩)
   ·simp only[bg,bt,or_false] at f;exact f.elim (λz=>.inr (.inl z)) .inl
   ·rw[ao,az,oo];exact JU M O H
  |false=>
   have N:es.size<=1:=by
    rw[O] at z;rcases g.pl with y|y
    ·omega
    ·rw[y] at z;simpa using z
   refine fin (bC 0) [s.heap.objs.size,S] (es.toList.map (·.2)) (λi h=>∃k,xa h s.heap.objs.size S (.int (k:Nat) 0) i es.size ep/\dW w h S es ep t/\(i=0->k=0)/\(i=1->es.size=1->∃j,t.place=#[j]/\k=j+1)) s.heap s.drawn (λ_ _ e=>e) (aA _) (λb f=>?_) (.refl _) (λB M=>?_) (λc k it=>⟨0,it,g.keep λo e=>k S o e,λ_=>rfl,λy=>by cases y⟩)
   ·simp only[bg,bt,or_false] at f;exact f.elim (λz=>.inr (.inl z)) .inl
   ·rw[ao,az];exact Nm M O H N
end
def GF(X:A.handled=none)(N:dW w s.heap S es ep t)
  (h:∀(a:List ai) (h':bZ) (d:Cg) (tk:Nat),a.Perm (es.toList.map (·.2))->(∀b o,s.heap.get? b=some o->h'.get? b=some o)->s.heap.objs.size<=h'.objs.size->Q a {s with heap:=h',drawn:=d,toks:=tk}):
  ay (aD prog w) A (qR (.ref S)) Q E s:=by
 have B:=aB N.at_;unfold qR;refine a9 (rN (dC nG ?_));rw[cw nH _];show ay _ A.in1 (Cm []>>=λl=>again (.builtin "list.__iadd__" ⟨[l,.ref S],[]⟩)) _ _ s;refine a9 (bD ?_);refine aa ⟨im gN _,dC sM ?_⟩;rw[cw gN _];let s1:au:={s with heap:=s.heap.push {cls:=.type "list",data:=.seq ([]:List ai).toArray}}
 have p:s1.heap.objs.size=s.heap.objs.size+1:=cf ..;have H:s1.heap.get? s.heap.objs.size=some {cls:=.type "list",data:=.seq ([]:List ai).toArray}:=aE _ rfl;have k:dW w s1.heap S es ep t:=N.keep λo e=>ah _ e;show ay _ A.in1 (eS (.ref s.heap.objs.size) (.ref S) (.ref s.heap.objs.size)) _ _ s1;have K:s1.TypeIs (.ref S) "set":=⟨_,k.at_,rfl⟩;unfold eS;refine a9 (lB K ?_);have e1:jW (.ref s.heap.objs.size) (.ref S)=false:=by simp[jW,eZ B]
 have e2:(gH "set" == gH "list")=false:=by decide
 have e3:(gH "set" == gH "tuple")=false:=by decide
 simp only[e1,e2,e3,G4,aV,if_false];refine a9 (JV (A:=A.in1) (by simpa using X) k λI fp a St h' d hI L a0 Y W st kp tI=>?_);let f:au:={s1 with heap:=h',drawn:=d}
 have O:dW w f.heap S es ep t:=k.keep λo e=>kp S o e;have n:f.TypeIs (.ref S) "set":=⟨_,O.at_,rfl⟩;refine a9 (cH ?_);unfold wR;refine a9 (wG (s:=f) n F.slot_set_len.lookup ?_);dsimp only;rw[show splitId "set.__len__"=some ("set","__len__") from by decide +kernel];dsimp only;refine a9 (gE (b:=true) (s:=f) n (by rw[yf];kernel_rfl) ?_);rw[if_neg ⋯,if_pos ⋯];refine a9 (lB (s:=f) n (aa ?_));rw[if_pos ⋯];refine a9 (dk ?_);have nS:s.heap.objs.size∉fp:=λz=>by
  rcases L _ z with q|q
  ·exact absurd B (by rw[<- q];exact cr _)
  ·rw[p] at q;exact absurd q (MP _)
 have y:f.heap.get? s.heap.objs.size=some {cls:=.type "list",data:=.seq ([]:List ai).toArray}:=kp _ _ H;refine a9 ?_;show ay _ A.in1 (OM s.heap.objs.size (·.push .none)>>=λ_=>OM s.heap.objs.size (·.pop)) _ _ f;refine a9 (qt y rfl ?_);have u:=dm (de (·.push eC)) y rfl;refine qt u rfl ?_;have P:=dm (de (·.pop)) u rfl;have x:∀b o,b≠s.heap.objs.size->f.heap.get? b=some o->((f.heap.update s.heap.objs.size (de (·.push eC))).update s.heap.objs.size (de (·.pop))).get? b=some o:=
  λb o g e=>(dE _ _ (dO g)).trans ((dE _ _ (dO g)).trans e)
 have zl:a.length<=sizeLine:=by rw[Y.length_eq,ao,az];exact eX N.few
 have W1:=W A.in1 (by simpa using X);refine aa ⟨im SS _,Tj (A:=A) W1.toS zl _ nS _ a.length 0 {f with heap:=(f.heap.update s.heap.objs.size (de (·.push eC))).update s.heap.objs.size (de (·.pop))} _ _ rfl (ca _) (W1.frame 0 _ _ st λb g o e=>x b o (λz=>nS (z ▸ g)) e) P (ItemsOf.nil _) λs' c c' G v i=>?_⟩;show ay _ A (load s.heap.objs.size>>=_) _ _ s';refine a9 (AC v (aa ?_));have m:c.toList=a:=by
  apply zd;intro j;rw[aW];by_cases T:j<c.size
  ·have:=i.2 j c[j] (by simp[T]);rw[this];simp[T]
  ·rw[getElem?_neg c j T,cV (by rw[<- i.1];omega)]
 rw[m];obtain⟨M,g3,d3,t3,o3⟩:=s';obtain rfl:g3=s.gens:=G.gens;obtain rfl:d3=d:=G.drawn;obtain rfl:o3=s.os:=G.os;have U:∀b o,s.heap.get? b=some o->M.get? b=some o:=λb o e=>by
  have g:=aB e;refine G.heap b o ?_ (x b o (aM g) (kp b o (ah _ e)));simp only[bg,bt,or_false,not_or];exact⟨aM g,aM (aK g (by have q:=hI;rw[p] at q;exact SU q))⟩
 refine h a M _ t3 Y U ?_;have:=aB (show M.get? s.heap.objs.size=some _ from v);exact cB this
def zh(v:ay (aD prog w) A.in1 (qR x) (λf s1=>∃ss,tm f ss/\f.length<64 /\
   ∀(h':bZ) (g:List ai) (a:List Str) (e:Nat),(∀b o,s1.heap.get? b=some o->h'.get? b=some o)->h'.get? s1.heap.objs.size=some (kw "list" g.toArray e)->tm g a->a.Perm ss->sortedS a=true ->
    Q (.ref s1.heap.objs.size) {s1 with heap:=h'}) E s):ay (aD prog w) A (call (.builtin "sorted") [x]) Q E s:=by
 refine qu kind_sorted plain_sorted entry_sorted (args_sorted1 _) ?_;unfold js.«sorted»;refine a9 (m:=checkCount "sorted" 1 1 _) (aa ?_);refine a9 (cz v (λf s1 z=>?_) λ_ _ z=>z);obtain⟨ss,d,h,y⟩:=z;refine a9 (MQ ?_);have c:(s1.heap.push (kw "list" f.toArray 0)).get? s1.heap.objs.size=some (kw "list" f.toArray 0):=aE _ rfl;show ay _ _ _ _ _ {s1 with heap:=s1.heap.push (kw "list" f.toArray 0)};refine a9 (cH (bH slot_list_sort ⟨_,c,rfl⟩ entry_list_sort (list_sort_treeK strKind_oneLt c d.keysOf (λk n bM e=>keyKind_strs (by rw[<- e];exact d)) h λi p G=>⟨_,rfl,?_⟩) (args_list_sort _)));obtain⟨a,B,t,u⟩:=sorted_out_str d p G;obtain⟨e,j⟩:=sortedHeap_at (out:=(aZ i).map (·.2)) c;refine aa ⟨_,rfl,y _ _ a e (λb o q=>?_) j B t u⟩;have l:=aB q;rw[sortedHeap_old (aM l) (by rw[cf];exact eu l)];exact ah _ q
def qN(x y:Str):Bool:=decide (x.cps.toList<y.cps.toList)
def JX(x:Str):List Str->List Str
 |[]=>[x]
 |y::r=>if qN y x then y::JX x r else x::y::r
def jk:List Str->List Str
 |[]=>[]
 |x::r=>JX x (jk r)
theorem yt(x:Str):∀l,(JX x l).Perm (x::l)
 |[]=>.refl _
 |y::r=>by
  rw[JX];split
  ·exact((yt x r).cons y).trans (.swap ..)
  ·exact .refl _
theorem hG:∀l,(jk l).Perm l
 |[]=>.refl _
 |x::r=>(yt x _).trans ((hG r).cons x)
def mq(x:Str):qN x x=false:=decide_eq_false (List.lt_irrefl _)
def qX(a:qN x y=true)(b:qN y z=true):qN x z=true:=
 decide_eq_true (List.lt_trans (of_decide_eq_true a) (of_decide_eq_true b))
def Al(a:qN x y=false)(b:qN y x=false):x=y:=by
 have a:¬ x.cps.toList<y.cps.toList:=of_decide_eq_false a;have b:¬ y.cps.toList<x.cps.toList:=of_decide_eq_false b;have:x.cps.toList=y.cps.toList:=List.le_antisymm (List.not_lt.mp b) (List.not_lt.mp a)
 cases x;cases y;exact congrArg Str.mk (Array.toList_inj.mp this)
abbrev T7(l:List Str):Prop:=l.Pairwise λa b=>qN b a=false
theorem PV(x:Str):∀l,T7 l->T7 (JX x l)
 |[],_=>by simp[JX,T7]
 |y::r,h=>by
  obtain⟨c,f⟩:=List.pairwise_cons.mp h;rw[JX];split
  ·rename_i b
   refine List.pairwise_cons.mpr ⟨λz hz=>?_,PV x r f⟩;rcases List.mem_cons.mp ((yt x r).mem_iff.mp hz) with e|e
   ·subst e;cases q:qN z y with
    |false=>rfl
    |true=>exact absurd (qX q b) (by rw[mq];decide)
   ·exact c z e
  ·rename_i b
   have b:qN y x=false:=by simpa using b
   refine List.pairwise_cons.mpr ⟨λz hz=>?_,h⟩;rcases List.mem_cons.mp hz with e|e
   ·subst e;exact b
   ·cases q:qN z x with
    |false=>rfl
    |true=>
     have a:=c z e;cases d:qN x y with
     |true=>rw[qX q d] at a;cases a
     |false=>rw[<- Al b d,a] at q;cases q
theorem qY:∀l,T7 (jk l)
 |[]=>.nil
 |x::r=>PV x _ (qY r)
theorem xc:∀(p:Str) (l:List Str),risingS p l=true->T7 (p::l)
 |p,[],_=>by simp[T7]
 |p,x::r,h=>by
  rw[risingS,bc] at h;obtain⟨b,f⟩:=h;have b:qN x p=false:=by
   rw[ltCps_eq] at b;simpa[qN] using b
  have c:=xc x r f;refine List.pairwise_cons.mpr ⟨λz hz=>?_,c⟩;rcases List.mem_cons.mp hz with e|e
  ·rw[e];exact b
  ·have a:=(List.pairwise_cons.mp c).1 z e;cases q:qN z p with
   |false=>rfl
   |true=>
    cases d:qN p x with
    |true=>rw[qX q d] at a;cases a
    |false=>rw[Al d b,a] at q;cases q
def EK:∀(l:List Str),sortedS l=true->T7 l
 |[],_=>.nil
 |x::r,h=>xc x r h
theorem yu:∀{l l':List Str},l.Perm l'->T7 l->T7 l'->l=l'
 |[],l',p,_,_=>by rw[List.nil_perm.mp p]
 |x::r,[],p,_,_=>by have:=p.length_eq;simp at this
 |x::r,y::c,p,h,h'=>by
  obtain⟨b,g⟩:=List.pairwise_cons.mp h;obtain⟨b1,b2⟩:=List.pairwise_cons.mp h';have e:x=y:=by
   have f:x∈y::c:=p.mem_iff.mp aq;have d:y∈x::r:=p.mem_iff.mpr aq;rcases List.mem_cons.mp f with e|e
   ·exact e
   ·rcases List.mem_cons.mp d with a | a
    ·exact a.symm
    ·exact Al (b1 x e) (b y a)
  subst e;rw[yu (List.Perm.cons_inv p) g b2]
def AT(p:l'.Perm l)(h:sortedS l'=true):l'=jk l:=yu (p.trans (hG l).symm) (EK _ h) (qY l)
def yv(h:T7 l)(g:l.Nodup):l.Pairwise λa b=>qN a b=true:=by
 induction l with
 |nil=>exact .nil
 |cons x r d=>
  obtain⟨e,f⟩:=List.pairwise_cons.mp h;obtain⟨i,j⟩:=List.nodup_cons.mp g;refine List.pairwise_cons.mpr ⟨λy c=>?_,d f j⟩;cases q:qN x y with
  |true=>rfl
  |false=>exact absurd (Al q (e y c) ▸ c) i
theorem k7:∀{ss:List Str}{a:List ai},eT (ss.map V.str) a->tm a ss
 |[],_,.nil=>.nil
 |x::r,_,.cons h t=>by obtain⟨b,rfl⟩:=h;exact .cons x b (k7 t)
theorem nO:∀{ss:List Str}{a:List ai},tm a ss->eT (ss.map V.str) a
 |_,_,.nil=>.nil
 |_,_,.cons x t h=>.cons ⟨t,rfl⟩ (nO h)
theorem gm:∀{ss:List Str}{a:List ai},tm a ss->a.length=ss.length
 |_,_,.nil=>rfl
 |_,_,.cons x t h=>by simp[gm h]
def AU(h:tm us ss)(i:Nat)(v:ai)(e:us[i]?=some v):∃x t,ss[i]?=some x/\v=lH x t:=by
 induction h generalizing i with
 |nil=>simp at e
 |cons y t _ a=>
  cases i with
  |zero=>simp at e;exact⟨y,t,by simp,e.symm⟩
  |succ i=>simp at e;simpa using a i e
theorem xf:∀{l:List (Int×ai)},(∀e∈l,v_ w e)->tm (l.map (·.2)) (l.map l_)
 |[],_=>.nil
 |e::r,h=>by
  obtain⟨x,a,rfl⟩:=h e aq;exact .cons x a (xf λe he=>h e (ak _ he))
def EL(h:tm us ss)(p:us'.Perm us):∃a,tm us' a/\a.Perm ss:=by
 refine⟨us'.map strOf,strsAre_map _ λv b=>h.all v (p.mem_iff.mp b),?_⟩;rw[<- h.strs];exact p.map _
def qZ(w:bF)(a:av)(ss:List Str):HO:=.ext λh=>nN w h a ss
def EM(x:nN w h a ss):dQ P w H h a (qZ w a ss):=
 ⟨x,let ⟨_,_,_,I,_⟩:=x;⟨_,I.at_⟩,λ_ _ y k=>y.keep k⟩
def GG(y:X.calm=true):kL X (.type "set") (λxs H Q=>∃p ss,xs=[.ref p]/\(sQ X.K H p (ss.map V.str)\/mD X.K H p (ss.map V.str))/\ss.length+1<iP/\∀a,H a=none->Q (.ref a) (upd H a (qZ X.w a (eJ [] ss)))):=by
 intro f s z H xs E Q I r h;obtain⟨p,ss,rfl,d,hz,q⟩:=h;obtain⟨u,rfl,x⟩:=md r;cases x;have t:=I.ok.hd y;have fin:∀(h':bZ) (j:Nat),nN X.w h' s.heap.objs.size (eJ [] ss)->(∀b o,s.heap.get? b=some o->h'.get? b=some o)->EP X f z Q (.ref s.heap.objs.size) {s with heap:=h',toks:=j}:=λh' j A kp=>
  ⟨.ref s.heap.objs.size,_,I.laid (t':=j) kp (aA _) (EM A),rfl,q _ (I.hok.fresh (aA _))⟩
 rcases d with d|d
 ·obtain⟨l,m,⟨o,n,ho,g,B,k⟩,_⟩:=I.list d;have c:=k7 m;exact x0 (PR (by simpa using t) g ⟨n,k⟩) ho (λi v e=>AU c i v (by simpa using e)) (by simp[gm c]) (by simp[gm c];exact hz) fin
 ·obtain⟨l,m,⟨o,ho,g,n,k⟩,_⟩:=I.tuple d;have c:=k7 m;exact x0 (Uj (by simpa using t) g ⟨n,k⟩) ho (λi v e=>AU c i v (by simpa using e)) (by simp[gm c]) (by simp[gm c];exact hz) fin
def yw:kL X (.builtin "sorted") (λxs H Q=>∃p ss,xs=[.ref p]/\sQ X.K H p (ss.map V.str)/\ss.length<64/\∀l,H l=none->Q (.ref l) (upd H l (.lst ((jk ss).map V.str)))):=by
 intro d s v H xs x Q I r h;obtain⟨p,ss,rfl,k,hz,q⟩:=h;obtain⟨u,rfl,i⟩:=md r;cases i;obtain⟨a,n,pl,j⟩:=I.list k;have c:=k7 n;refine sorted_strs pl.isList c (by rw[gm c];exact hz) λout t g m f=>?_;obtain⟨e,he⟩:=sortedAll_at s.heap a out;have kp:∀b o,s.heap.get? b=some o->(sortedAll s.heap a out).get? b=some o:=λb o=>sortedAll_old;obtain rfl:=AT m f;refine⟨.ref (s.heap.objs.size+1),upd H (s.heap.objs.size+1) (.lst ((jk ss).map V.str)),I.laid (t':=s.toks) kp (jr _) (show dQ X.prog X.w _ _ _ (.lst _) from⟨?_,out.toList,e,nO g,by simpa[kw] using he⟩),rfl,q _ (I.hok.fresh (jr _))⟩;rw[ao,(hG ss).length_eq];have:=j;rw[ao] at this;exact this
def zX(L:X.calm=true):kL X (.builtin "sorted") (λxs H Q=>∃p ss,xs=[.ref p]/\H p=some (qZ X.w p ss)/\ss.length<64/\∀l,H l=none->Q (.ref l) (upd H l (.lst ((jk ss).map V.str)))):=by
 intro x s U H xs us Q I r h;obtain⟨p,ss,rfl,M,hz,q⟩:=h;obtain⟨u,rfl,E⟩:=md r;cases E;have N:=I.ok.hd L;obtain⟨⟨es,Y,t,S,A⟩,_⟩:=(show dQ X.prog X.w H s.heap p (qZ X.w p ss) from I.hok p _ M);refine zh (GF (by simpa using N) S λK h' d B P kp sz=>?_);obtain⟨a,n,y⟩:=EL (xf S.txt) P;have T:a.length=ss.length:=(y.trans A).length_eq;refine⟨a,n,by rw[gm n,T];exact hz,λi c j e f g k G O=>?_⟩;have v:∀b o,s.heap.get? b=some o->i.get? b=some o:=λb o e=>f b o (kp b o e);have es':j=jk ss:=AT (G.trans (y.trans A)) O;subst es';have fr:=I.hok.fresh sz;have m:dQ X.prog X.w (upd H h'.objs.size (.lst ((jk ss).map V.str))) i h'.objs.size (.lst ((jk ss).map V.str)):=
  ⟨by rw[ao,(hG ss).length_eq];exact c8 (cB hz) (by rw[il];decide),c,e,nO k,g⟩
 exact⟨.ref h'.objs.size,_,I.call' (s':={s with heap:=i,drawn:=d,toks:=B}) (ch:=[]) rfl (Un.laid v sz fr) (I.hok.laid v sz m) I.bare (λb z=>absurd z (by simp)),rfl,q _ fr⟩
def zi{prog:bj}{w:bF}{B:cD}{bs:List Bool}{a:List ai}(r:eT (bs.map V.bl) a):TruthOf prog w B (λi v=>a.toArray[i]?=some v) (λi=>bs.getD i false):=by
 intro i v s Q E c b;have c:a[i]?=some v:=by simpa using c
 have f:=r.length;rw[ao] at f;obtain⟨h,_⟩:=List.getElem?_eq_some_iff.mp c;have e:bs[i]?=some bs[i]:=bp ∅;obtain⟨u,d,g⟩:=r.get (i:=i) (x:=.bl bs[i]) (by rw[aP,e];rfl);rw[c] at d;cases d;cases g;have b:Q (bs.getD i false) s:=b;rw[i6,e] at b;exact dD b
def PX(bs:List Bool):(bx bs.length).all (λi=>bs.getD i false)=bs.all id:=by
 rw[lD,cA,cA];constructor
 ·intro h b c;obtain⟨i,a,rfl⟩:=MR c;have:=h i (List.mem_range.mpr a);simpa[i6,a] using this
 ·intro h i a;have a:=List.mem_range.mp a;have:=h bs[i] (kF a);simpa[i6,a] using this
def PY(bs:List Bool):(bx bs.length).any (λi=>bs.getD i false)=bs.any id:=by
 rw[lD,n6,n6];constructor
 ·rintro⟨i,a,h⟩;have a:=List.mem_range.mp a;exact⟨bs[i],kF a,by simpa[i6,a] using h⟩
 ·rintro⟨b,c,h⟩;obtain⟨i,a,rfl⟩:=MR c;exact⟨i,List.mem_range.mpr a,by simpa[i6,a] using h⟩
def AV(i:X.calm=true):kL X (.builtin "all") (λxs H Q=>∃p,∃bs:List Bool,xs=[.ref p]/\sQ X.K H p (bs.map V.bl)/\Q (.bl (bs.all id)) H):=by
 intro c s m H xs n Q I r h;obtain⟨p,bs,rfl,j,q⟩:=h;obtain⟨u,rfl,g⟩:=md r;cases g;obtain⟨a,d,pl,l⟩:=I.list j;have k:a.toArray.size=bs.length:=by have:=d.length;simp at this ⊢;omega
 obtain⟨o,ho,t⟩:=pl.isList;refine call_all_walk (s_ pl.isList ⟨_,_,_,_,_,_,_,rfl,MN (by simpa using I.ok.hd i) _ p (aM (aB ho)) a.toArray,⟨⟨_,aE _ rfl,rfl,rfl⟩,pl.isList.push _⟩,zi d,λh' f kp=>?_⟩);rw[k,PX];refine⟨.bl _,H,I.kept (t':=f) λb o e=>kp b o ?_ (ah _ e),rfl,q⟩;simp only[cC];exact aM (aB e)
def AW(i:X.calm=true):kL X (.builtin "any") (λxs H Q=>∃p,∃bs:List Bool,xs=[.ref p]/\sQ X.K H p (bs.map V.bl)/\Q (.bl (bs.any id)) H):=by
 intro c s m H xs n Q I r h;obtain⟨p,bs,rfl,j,q⟩:=h;obtain⟨u,rfl,g⟩:=md r;cases g;obtain⟨a,d,pl,l⟩:=I.list j;have k:a.toArray.size=bs.length:=by have:=d.length;simp at this ⊢;omega
 obtain⟨o,ho,t⟩:=pl.isList;refine call_any_walk (s_ pl.isList ⟨_,_,_,_,_,_,_,rfl,MN (by simpa using I.ok.hd i) _ p (aM (aB ho)) a.toArray,⟨⟨_,aE _ rfl,rfl,rfl⟩,pl.isList.push _⟩,zi d,λh' f kp=>?_⟩);rw[k,PY];refine⟨.bl _,H,I.kept (t':=f) λb o e=>kp b o ?_ (ah _ e),rfl,q⟩;simp only[cC];exact aM (aB e)
def No:tO X (cj .LtE) (λx y H Q=>∃i j,x=.str i/\y=.str j/\Q (.bl (!decide (j.cps.toList<i.cps.toList))) H):=by
 intro a s d H x y v u Q I b c h;obtain⟨i,j,rfl,rfl,q⟩:=h;obtain⟨t,rfl⟩:=b;obtain⟨t',rfl⟩:=c;exact PySem.P.le_str (Pn I q rfl)
def Zd(x:Str):It:=⟨λi _=>i<x.cps.size,λi H v H'=>H'=H/\∃c,x.cps[i]?=some c/\v=.str ⟨#[c]⟩,λi _=>x.cps.size<=i⟩
def P_{P:bj}{w:bF}{K:af}{tg:bJ}(x:Str)(t:Tok)(it:av):Ez P w K tg (Zd x) [it] it (λi h=>h.IsStrIter it (jI x) x t i) where
 mem:=by simp
 obj:=λi h st b j=>by
  obtain rfl:b=it:=by simpa using j
  obtain⟨o,e,c,d⟩:=st;exact⟨o,e,λv z=>by rw[d] at z;cases z⟩
 keep:=λi h h' st k=>let ⟨o,e,r⟩:=st;⟨o,k it (by simp) o e,r⟩
 item:=by
  intro X Y U S T i a s G H E I L st m;subst Y U S;have m:i<x.cps.size:=m;obtain⟨Q,O,f2,N,B,M⟩:=L it (by simp);have n:x.cps[i]?=some x.cps[i]:=getElem?_pos _ i m;have go:∀(h':bZ) (y g:Nat),h'.IsStrIter it (jI x) x t (i+1)->bK it s.heap h'->∃u,some (lH ⟨#[x.cps[i]]⟩ y)=some u /\
    ay (aD X.prog X.w) X.A (jY tg (.ref it) u) (λ_ s2=>∃v H',ck X a G H' s2/\eO v u/\(Zd x).yld i H v H'/\s2.heap.IsStrIter it (jI x) x t (i+1)/\∀b∈[it],H' b=none) E {s with heap:=h',toks:=g}:=λh' y g f p=>by
   have I1:ck X a G H {s with heap:=h',toks:=g}:=I.turned (λb o j e=>(p.2 b j).trans e) Q O N B M;refine⟨_,rfl,?_⟩;have q:∃v H',ck X a G H' {s with heap:=h',toks:=g}/\eO v (lH ⟨#[x.cps[i]]⟩ y)/\(Zd x).yld i H v H'/\h'.IsStrIter it (jI x) x t (i+1)/\∀b∈[it],H' b=none:=
    ⟨.str ⟨#[x.cps[i]]⟩,H,I1,⟨y,rfl⟩,⟨rfl,_,n,rfl⟩,f,λb j=>(L b j).1⟩
   unfold jY;cases tg<;>exact aa q
  cases l:x.cps.all (·<128)
  ·have ty:jI x="str_iterator":=by unfold jI;rw[l];rfl
   rw[ty] at st;exact wpAny_pyNext_wide_item st n λh' f p=>go h' _ _ (by rw[ty];exact f) p
  ·have ty:jI x="str_ascii_iterator":=by unfold jI;rw[l];rfl
   rw[ty] at st;exact wpAny_pyNext_ascii_item st n λh' f p=>go h' _ _ (by rw[ty];exact f) p
 done:=by
  intro X Y U S T i a s G H E I L st m;subst Y U S;have m:x.cps.size<=i:=m;obtain⟨Q,O,f2,N,B,M⟩:=L it (by simp);have n:x.cps[i]?=none:=getElem?_neg _ i (Nat.not_lt.mpr m);unfold jI at st;cases l:x.cps.all (·<128)
  ·rw[l] at st;exact wpAny_pyNext_wide_end (I.ok.hd T) st n λh' eb=>⟨rfl,I.turned (t':=s.toks) (λb o j e=>eb b o j e) Q O N B M⟩
  ·rw[l] at st;exact wpAny_pyNext_ascii_end (I.ok.hd T) st n λh' eb=>⟨rfl,I.turned (t':=s.toks) (λb o j e=>eb b o j e) Q O N B M⟩
 self:=λ_ _ _ _ _ st h=>by
  unfold jI at st;cases l:x.cps.all (·<128)
  ·rw[l] at st;exact wpAny_pyIter_striter_wide st h
  ·rw[l] at st;exact wpAny_pyIter_striter_ascii st h
def q0O(tl:TE):TI:=λa H R=>tl a H λv b=>∃x,v=.str x/\R (Zd x) b
def Q0{X:Cx}{tg l:bJ}{tl:TE}(g:PE X l tl):PI X tg l (q0O tl):=by
 intro a s i H R I h;refine gG (g a s i H _ I h) λv s1 c=>?_;obtain⟨y,f,d,m,j⟩:=c;obtain⟨x,rfl,q⟩:=j;obtain⟨t,rfl⟩:=m;refine wpAny_pyIter_strU ?_;refine⟨s1.heap.objs.size,[s1.heap.objs.size],_,_,f,rfl,d.kept (t':=s1.toks) λb o e=>ah _ e,P_ x t _,⟨_,aE _ rfl,rfl,rfl⟩,λb k=>?_,q⟩;obtain rfl:b=s1.heap.objs.size:=by simpa using k
 exact d.fpOk (aA _) (d.hok.fresh (aA _))
def ck.turnedL{t':Nat}{ch:List av}(I:ck X pins σ H s)(k:∀b o,b∉ch->s.heap.get? b=some o->h'.get? b=some o)(d:∀b∈ch,vX X pins H b):ck X pins σ H {s with heap:=h',toks:=t'}:=by
 have nt:∀b u,H b=some u->b∉ch:=λb u e z=>by rw[(d b z).1] at e;cases e
 refine I.step (g':=s.gens) (d':=s.drawn) (ch:=ch) (λb h=>?_) (λb o _ _ a e _=>k b o a e) (λb o _ _ a e _=>⟨o.slots,k b o a e⟩) (λ_ _ _ _ n=>n)
  (λb o a e=>⟨o,k b o a e⟩) (λ_ _ e=>e) (λ_ _ _ e=>e) (λb ps e=>⟨#[],by rw[e];simp⟩) (λm l=>?_) (λb u e=>?_) I.bare
 ·obtain⟨w,p,t,j,f,i⟩:=d b h;exact⟨j,p,f,i⟩
 ·obtain⟨o,es,g,ho,r⟩:=l;exact⟨o,es,g,k _ o (λz=>(d _ z).f1 rfl) ho,r⟩
 ·refine(I.hok b u e).stay (λc v a q=>k c v ?_ q) (λ_ q=>q) λ_ _ q=>q;rcases a with z|z
  ·rw[z];exact nt b u e
  ·exact nt c _ z
def ck.track(I:ck X pins σ H s)(f:vX X pins H D)(new:dQ X.prog X.w (upd H D ho) s.heap D ho):ck X pins σ (upd H D ho) s:=by
 obtain⟨a,l,p,i,c,h⟩:=f;have k:ck X pins σ (upd H D ho) {s with heap:=s.heap,gens:=s.gens,drawn:=s.drawn,toks:=s.toks}:=I.step (ch:=[D]) (λb g=>by
   obtain rfl:b=D:=by simpa using g
   exact⟨i,l,c,h⟩) (λb o _ _ _ e _=>e) (λb o _ _ _ e _=>⟨o.slots,e⟩) (λb o d e n=>by rw[bG (λz=>d (by simp[z]))];exact n) (λb o _ e=>⟨o,e⟩)
  (λb xs e=>by rw[bG (cu e a)];exact e) (λb o xs e=>by rw[bG (cu e a)];exact e) (λb ps e=>⟨#[],by rw[bG (cu e a),e];simp⟩) (λm j=>j) (Dl I.hok a new) I.bare
 exact k
def xg(c:s.heap.IsTupleIter it l i)(tl:s.heap.IsTuple l items)(g:items[i]?=some x)
  (q:∀h',h'.IsTupleIter it l (i+1)->bK it s.heap h'->Q x {s with heap:=h'}):ay (aD prog w) A (dg (.ref it)) Q E s:=by
 obtain⟨j,b,e,a⟩:=id c;obtain⟨h,d,_,nt,f⟩:=tl;unfold dg;refine a9 (cF (name:=gY "__next__") c.typeIs kH ?_);refine bH kH c.typeIs G6 ?_ (Es _);show ay _ _ (Jl (.ref it) 0>>=_) _ _ s;refine a9 (eW b a (x:=.ref l) rfl ?_);show ay _ _ (if(bi l==eC)=true then _ else _) _ _ s;rw[if_neg (λz:(bi l==eC)=true=>bd z)];show ay _ _ (Jl (.ref it) 1>>=_) _ _ s;refine a9 (eW b a (x:=.int i 0) rfl ?_);show ay _ _ (zc (.ref l)>>=_) _ _ s;refine a9 (dZ d f ?_);simp only[jV,g];refine a9 (fU b a (by simp) (aa ⟨x,rfl,aa (q _ ?_ (bv ..))⟩));refine⟨_,dm _ b (Obj.isFreed_of_fields (P0 a _)),(Obj.cls_mapFields ..).trans e,?_⟩;rw[P0 a];simp[bC]
def xh(g:A.handled=none)(d:s.heap.IsTupleIter it l i)(tl:s.heap.IsTuple l items)(h:items[i]?=none)
  (q:∀h' e,Lg it s.heap h'->(∃o,h'.get? e=some o/\o.cls=.type "StopIteration")->E (.ref e) {s with heap:=h'}):ay (aD prog w) A (dg (.ref it)) Q E s:=by
 obtain⟨n,b,k,c⟩:=id d;obtain⟨p,f,_,nt,j⟩:=tl;unfold dg;refine a9 (cF (name:=gY "__next__") d.typeIs kH ?_);refine bH kH d.typeIs G6 ?_ (Es _);show ay _ _ (Jl (.ref it) 0>>=_) _ _ s;refine a9 (eW b c (x:=.ref l) rfl ?_);show ay _ _ (if(bi l==eC)=true then _ else _) _ _ s;rw[if_neg (λz:(bi l==eC)=true=>bd z)];show ay _ _ (Jl (.ref it) 1>>=_) _ _ s;refine a9 (eW b c (x:=.int i 0) rfl ?_);show ay _ _ (zc (.ref l)>>=_) _ _ s;refine a9 (dZ f j ?_);simp only[jV,h];refine a9 (dk (a9 (fU b c (by simp) ?_)));show ay _ _ (oF (.type "StopIteration") []>>=_) _ _ _;refine a9 ?_;simp only[oF,Jk];refine a9 (bD ?_ (by size_fits));refine a9 (m:=nq _ _) (gg (a:=eC) ?_ ?_)
 ·first
   |rfl
   |(simp only[nq];rfl)
 refine bD ?_ (by size_fits);simp only[lY];refine a9 (MO ?_);rw[show A.in1.handled=none from g];refine a9 (aa (Tg ?_));exact q _ _ (((bv ..).extBut.push _).push _) ⟨_,aE _ rfl,rfl⟩
def Np(d:A.handled=none)(it l:av)(a:l≠it)(items:Array ai):
  Draws prog w A it [it,l] items.size (λi v=>items[i]?=some v) (λi h=>h.IsTupleIter it l i/\h.IsTuple l items) where
 live:=λi h st=>let ⟨o,e,_⟩:=st.1;⟨o,e⟩
 frame:=λi h h' st k=>⟨let ⟨o,e,r⟩:=st.1;⟨o,k it (by simp) o e,r⟩,let ⟨o,e,r⟩:=st.2;⟨o,k l (by simp) o e,r⟩⟩
 item:=λi s Q E b st q=>xg st.1 st.2 (x:=items[i]) (by simp[b]) λh' t' c=>q _ h' s.toks (by simp[b]) ⟨t',st.2.extBut c.extBut a⟩ c
 done:=λs Q E st q=>xh d st.1 st.2 (by simp) q
def AX(l:av)(items:Array ai)(n:Nat)(b:Option av)(j:Array (Option ai)):
  Meets (js.«enumerate.__new__» ⟨[.type "enumerate",.ref l],[]⟩) (λ_ R s=>s.heap.get? l=some {cls:=.type "tuple",dict:=b,data:=.seq items n,slots:=j} /\
   R (.ok (.ret (.ref (s.heap.push {cls:=.type "tuple_iterator",data:=.fields #[.ref l,.int 0 0]}).objs.size)))
    {s with heap:=(s.heap.push {cls:=.type "tuple_iterator",data:=.fields #[.ref l,.int 0 0]}).push {cls:=.type "enumerate",data:=.fields #[.none,.bool false,.ref s.heap.objs.size,bC 0,.none,.none]}}):=
 .of_wp λprog w A R s h=>by
  obtain⟨k,g,d,m,i⟩:=s;obtain⟨a,h⟩:=h;have f:=PySem.sub_enumerate;have e:IY (IZ ⟨k,g,d,m,i⟩) l items:=⟨_,a,rfl,n,rfl⟩;wp_walk using io a;refine wpAny_stack_any λst=>aa ?_;split
  ·rename_i c _ _ _ _ _
   cases(c==gH "enumerate")
   ·wp_walk using io a,iD e;exact⟨_,rfl,h⟩
   ·wp_walk using io a,iD e;exact⟨_,rfl,h⟩
  ·wp_walk using io a,iD e;exact⟨_,rfl,h⟩
def CC(p:s.heap.IsTuple l items)
  (h:∀h',IsEnum h' (s.heap.objs.size+1) s.heap.objs.size 0 .none->h'.IsTupleIter s.heap.objs.size l 0->(∀b o,s.heap.get? b=some o->h'.get? b=some o)->h'.objs.size=s.heap.objs.size+2 ->
   Q (.ref (s.heap.objs.size+1)) {s with heap:=h'}):ay (aD prog w) A (call (.type "enumerate") [.ref l]) Q E s:=by
 obtain⟨⟨c,g,j,m⟩,f,i,n,k⟩:=p;obtain rfl:c=.type "tuple":=i;obtain rfl:j=.seq items n:=k;refine callType_new F.called_enumerate ⋯ (F.typeCall_enumerate_1 _) (F.newCall_enumerate_1 _) (λa=>F.args_object_init_2 a _) F.entry_enumerate_new (AX l items n g m) ⟨f,?_⟩;have d:(s.heap.push {cls:=.type "tuple_iterator",data:=.fields #[.ref l,.int 0 0]}).objs.size=s.heap.objs.size+1:=cf ..;show _/\_;rw[d];have he:IsEnum ((s.heap.push {cls:=.type "tuple_iterator",data:=.fields #[.ref l,.int 0 0]}).push {cls:=.type "enumerate",data:=.fields #[.none,.bool false,.ref s.heap.objs.size,bC 0,.none,.none]}) (s.heap.objs.size+1) s.heap.objs.size 0 .none:=by
  have q:=aE (s.heap.push {cls:=.type "tuple_iterator",data:=.fields #[.ref l,.int 0 0]}) (o:={cls:=.type "enumerate",data:=.fields #[.none,.bool false,.ref s.heap.objs.size,bC 0,.none,.none]}) rfl;rw[d] at q;exact q
 exact⟨⟨_,he,rfl⟩,h _ he ⟨_,ah _ (aE _ rfl),rfl,rfl⟩ (λb o e=>ah _ (ah _ e)) (by rw[cf,d])⟩
def Ite(K:af)(a:av):It:=
 ⟨λi H=>∃xs x,mD K H a xs/\xs[i]?=some x,λi H v H'=>∃p,H p=none/\v=.ref p/\∀xs,mD K H a xs->∃x,xs[i]?=some x/\H'=upd H p (.tup [.int i,x]),λi H=>∃xs,mD K H a xs/\xs.length<=i⟩
def Nq{P:bj}{w:bF}{K:af}{A:List bJ}{x1}{a6:Pos}(a e it:av)(t:e≠it):Ez P w K (.Tuple A x1 a6) (Ite K a) [e,it] e (λi h=>(∃f,IsEnum h e it i f)/\h.IsTupleIter it a i) where
 mem:=by simp
 obj:=λi h st b c=>by
  simp only[bg,bt,or_false] at c;rcases c with rfl|rfl
  ·obtain⟨⟨f,q⟩,_⟩:=st;exact⟨_,q,λv z=>by cases z⟩
  ·obtain⟨_,o,q,_,d⟩:=st;exact⟨o,q,λv z=>by rw[d] at z;cases z⟩
 keep:=λi h h' st k=>⟨let ⟨f,q⟩:=st.1;⟨f,k e (by simp) _ q⟩,let ⟨o,q,r⟩:=st.2;⟨o,k it (by simp) o q,r⟩⟩
 item:=by
  intro X hP hw Y hc i m s σ H E I O st hg;subst hP hw Y;obtain⟨xs,x,N,hx⟩:=hg;obtain⟨g,rv,p,hz⟩:=I.tuple N;obtain⟨u,hu,ru⟩:=rv.get hx;obtain⟨⟨f,he⟩,j⟩:=st;have B:=j;obtain⟨oi,ei,_⟩:=B;have a1:a≠it:=λz=>by
   obtain⟨o1,y,M,_⟩:=p;obtain⟨o2,U,c2,_⟩:=j;rw[z,U] at y;cases y;rw[c2] at M;exact absurd (Lh M) ⋯
  have a2:a≠e:=λz=>by
   obtain⟨o1,y,M,_⟩:=p;rw[z,he] at y;cases y;exact absurd (Lh (show gH "enumerate"=gH "tuple" from M)) ⋯
  have a3:i<g.toArray.size:=by simp;exact(List.getElem?_eq_some_iff.mp hu).1
  have G:=aB he;refine wpAny_pyNext_enum_itemD (Np (by simpa using I.ok.hd hc) it a a1 g.toArray) he ⟨j,p⟩ a3 t (by simp[t,dO a2]) ?_;intro x' h1 Q a4 eo a0 tup sz k1;have l:g[i]?=some x':=by simpa using a4
  rw[hu] at l;cases l;refine⟨_,rfl,wpAny_letOwnedTupleGo_enum eo λh2 U n=>?_⟩;have S:s.heap.objs.size≠e:=eZ G;have I2:ck X m σ H {s with heap:=h2,toks:=Q+1}:=I.turnedL (ch:=[e,it]) (λb o c q=>by
   simp only[bg,bt,or_false,not_or] at c;exact(n.2 b c.1).trans (k1 b o c.1 c.2 q)) O
  have fT:=I.fpOk (H':=H) (aA _) (I.hok.fresh (aA _));have L:h2.get? s.heap.objs.size=some {cls:=.type "tuple",data:=.seq #[.int i Q,u]}:=(n.2 _ S).trans tup;have I3:=I2.track (ho:=.tup [.int i,x]) fT ⟨by show 2<=sizeLine;decide,[.int i Q,u],.cons ⟨Q,rfl⟩ (.cons ru .nil),⟨_,L,rfl,0,rfl⟩⟩;refine⟨.ref s.heap.objs.size,_,I3,rfl,⟨_,fT.1,rfl,λys hy=>?_⟩,⟨⟨u,?_⟩,?_⟩,λb c=>?_⟩
  ·rw[I.tuple_inj hy N];exact⟨x,hx,rfl⟩
  ·have:(((i+1:Nat):Int))=(i:Int)+1:=by omega
   rw[this];exact U
  ·obtain⟨o,q,r⟩:=a0.1;exact⟨o,(n.2 it (dO t)).trans q,r⟩
  ·rw[bG]
   ·exact(O b c).1
   ·simp only[bg,bt,or_false] at c;rcases c with z|z
    ·rw[z];exact aM G
    ·rw[z];exact aM (aB ei)
 done:=by
  intro X hP hw Y hc i m s σ H E I O st hg;subst hP hw Y;obtain⟨xs,N,hx⟩:=hg;obtain⟨g,rv,p,hz⟩:=I.tuple N;obtain⟨⟨f,he⟩,j⟩:=st;have hl:=rv.length;have hT:s.TypeIs (.ref e) "enumerate":=⟨_,he,rfl⟩;unfold ml;refine a9 (ki (cF (name:=gY "__next__") hT ON ?_));refine bH ON hT F.entry_enumerate_next ?_ (F.args_enumerate_next_1 _);show ay _ _ (Jl (.ref e) 2>>=_) _ _ _;refine a9 (eW he rfl (x:=.ref it) rfl ?_);refine a9 (xh (by simpa using I.ok.hd hc) j (show s.heap.IsTuple a g.toArray from p) (by simp;omega) λh' z eb a5=>?_);obtain⟨o,ho,a7⟩:=a5;refine a9 (gE (T:="StopIteration") (b:=true) ⟨o,ho,a7⟩ yh ?_);exact aa ⟨rfl,I.turnedL (t':=s.toks) (ch:=[e,it]) (λb o c q=>eb b o (by
   simp only[bg,bt,or_false,not_or] at c;exact c.2) q) O⟩
 self:=λ_ _ _ _ _ st h=>let ⟨⟨_,q⟩,_⟩:=st;wpAny_pyIter_enum q h
def Ze(K:af)(d:TA):TI:=λc H R=>d c H λe b=>∃a xs,e=[.ref a]/\mD K b a xs/\R (Ite K a) b
def Uk{X:Cx}{f:List bJ}{x1}{e p g:Pos}{a:bJ}{o:TA}(L:Gl X "enumerate")(A:X.mg "enumerate"=none)(w:PA X [a] o)(hs:a_ [a] X.env=[(false,fO a X.env)]:=by rfl):
  PI X (.Tuple f x1 e) (.Call (.Name "enumerate" p) [a] [] g) (Ze X.K o):=by
 intro c s k H R I h;refine Call_ (yo I L A boot_enumerate (iV (gG (w g c s k H _ I h) λN s1 ⟨O,j,d,E,y⟩=>?_) hs rfl));obtain⟨m,xs,rfl,x,q⟩:=y;obtain⟨u,rfl,t⟩:=md E;cases t;obtain⟨i,M,v,hz⟩:=d.tuple x;refine CC (show s1.heap.IsTuple m i.toArray from v) λh' n G kp sz=>?_;refine wpAny_pyIter_enum n ?_;have B:ck X c k j {s1 with heap:=h'}:=d.kept (t':=s1.toks) kp;refine⟨s1.heap.objs.size+1,[s1.heap.objs.size+1,s1.heap.objs.size],_,_,j,rfl,B,Nq m _ _ (eZ (fk _)),⟨⟨.none,n⟩,G⟩,λb l=>?_,q⟩;simp only[bg,bt,or_false] at l;rcases l with z|z
 ·rw[z];exact d.fpOk (jr _) (d.hok.fresh (jr _))
 ·rw[z];exact d.fpOk (aA _) (d.hok.fresh (aA _))
section
variable{prog:bj}{w:bF}{A:cD}{E:ai->au->Prop}{s:au}{z TI TO i1 i2 l1 l2:av}{k1 k2:Nat}{xs ys:Array ai}{x y a b:ai}
def kW(t:h.IsTupleIter it l k)(d:bK c h h')(ne:it≠c):h'.IsTupleIter it l k:=t.extBut d.extBut ne
def rR(t:h.IsTuple l xs)(d:bK c h h')(ne:l≠c):h'.IsTuple l xs:=t.extBut d.extBut ne
def Q1{Q:ai->au->Prop}(D:Tl z TI TO i1 i2 l1 l2)(g:yi s.heap z TI TO .none)(pa:mn s.heap TI (.ref i1) (.ref i2))(Y:mn s.heap TO a b)
  (u1:s.heap.IsTupleIter i1 l1 k1) (X:s.heap.IsTupleIter i2 l2 k2) (v1:s.heap.IsTuple l1 xs) (v2:s.heap.IsTuple l2 ys) (hx:xs[k1]?=some x) (O:ys[k2]?=some y)
  (q:∀h',yi h' z TI TO (bC s.heap.objs.size)->mn h' TO x y->h'.IsTupleIter i1 l1 (k1+1)->h'.IsTupleIter i2 l2 (k2+1)->mn h' s.heap.objs.size x y ->
   (∀c o,c≠z->c≠TO->c≠i1->c≠i2->s.heap.get? c=some o->h'.get? c=some o)->Q (.ref s.heap.objs.size) {s with heap:=h'}):
  ay (aD prog w) A (js.«zip.__next__» ⟨[.ref z],[]⟩) (λfin s'=>∃v,fin=.done (.ret v)/\Q v s') E s:=by
 show ay _ _ (Jl (.ref z) 2>>=_) _ _ _;refine a9 (eW g rfl (x:=.bool false) rfl ?_);show ay _ _ (Jl (.ref z) 3>>=_) _ _ _;refine a9 (eW g rfl (x:=.ref TI) rfl ?_);refine a9 (dZ pa rfl ?_);show ay _ _ (g9 (.ref z)>>=_) _ _ _;refine a9 ?_;unfold g9;refine a9 (eW g rfl (x:=.none) rfl (aa ?_));simp only[if_true];refine a9 (dk ?_);refine a9 (eW g rfl (x:=.ref TO) rfl ?_);refine a9 (jP g (by simp) λg1 p b1=>?_);replace p:yi g1 z TI TO .ellipsis:=p;refine a9 ?_;simp only[Ae,Tn,jD,pC];refine a9 (a9 (Af ?_));show ay _ _ (dg (.ref i1)>>=_) _ _ _;refine a9 (xg (kW u1 b1 D.i1z) (rR v1 b1 D.l1z) hx λg2 N b2=>aa ?_);have B:mn g2 TO a b:=b2.extBut _ _ D.TOi1 (b1.extBut _ _ D.TOz Y);refine a9 (dZ B rfl (a9 (yj B λS m b3=>?_)));replace m:mn S TO x b:=m;refine a9 (To (aa (a9 (a9 (Af ?_)))));show ay _ _ (dg (.ref i2)>>=_) _ _ _;refine a9 (xg (kW (kW (kW X b1 D.i2z) b2 D.i12.symm) b3 D.TOi2.symm) (rR (rR (rR v2 b1 D.l2z) b2 D.l2i1) b3 D.l2TO) O λg4 T b4=>aa ?_);have G:mn g4 TO x b:=b4.extBut _ _ D.TOi2 m;refine a9 (dZ G rfl (a9 (yj G λd l b5=>?_)));replace l:mn d TO x y:=l;refine a9 (To (aa (aa ?_)));refine a9 (dZ l rfl (a9 (wpAny_newTuple ?_)));have sz:d.objs.size=s.heap.objs.size:=by rw[b5.1,b4.1,b3.1,b2.1,b1.1]
 have M:yi d z TI TO .ellipsis:=b5.extBut _ _ D.TOz.symm (b4.extBut _ _ D.i2z.symm (b3.extBut _ _ D.TOz.symm (b2.extBut _ _ D.i1z.symm p)));have k5:∀c o,c≠z->c≠TO->c≠i1->c≠i2->s.heap.get? c=some o->d.get? c=some o:=λc o f i u n e=>
  b5.extBut _ _ i (b4.extBut _ _ n (b3.extBut _ _ i (b2.extBut _ _ u (b1.extBut _ _ f e))))
 have U:d.IsTupleIter i1 l1 (k1+1):=kW (kW (kW N b3 D.TOi1.symm) b4 D.i12) b5 D.TOi1.symm;have P:d.IsTupleIter i2 l2 (k2+1):=kW T b5 D.TOi2.symm;have K:z<d.objs.size:=aB M;show ay _ _ (pG (.ref z) (.ref d.objs.size)>>=_) _ _ _;refine a9 ?_;unfold pG;have z6:yi (d.push {cls:=.type "tuple",data:=.seq #[x,y]}) z TI TO .ellipsis:=ah _ M;refine a9 (jP z6 (by simp) λg7 t I=>?_);replace t:yi g7 z TI TO (bC d.objs.size):=t;refine jP t (by simp) λj k L=>?_;replace k:yi j z TI TO (bC d.objs.size):=k;have h:∀c o,c≠z->d.get? c=some o->j.get? c=some o:=λc o f e=>L.extBut _ _ f (I.extBut _ _ f (ah _ e));have H:mn j d.objs.size x y:=L.extBut _ _ (eZ K) (I.extBut _ _ (eZ K) (aE _ rfl));rw[sz] at k H;refine aa ⟨_,rfl,?_⟩;show Q (.ref d.objs.size) _;rw[sz];exact q j k (h _ _ D.TOz l) (let ⟨o,e,r⟩:=U;⟨o,h _ o D.i1z e,r⟩) (let ⟨o,e,r⟩:=P;⟨o,h _ o D.i2z e,r⟩) H λc o f i u n e=>h c o f (k5 c o f i u n e)
theorem Q2(G:A.handled=none)(D:Tl z TI TO i1 i2 l1 l2)(h:yi s.heap z TI TO .none)(S:mn s.heap TI (.ref i1) (.ref i2))(P:mn s.heap TO a b)
  (I:s.heap.IsTupleIter i1 l1 k1) (O:s.heap.IsTupleIter i2 l2 k2) (K:s.heap.IsTuple l1 xs) (U:s.heap.IsTuple l2 ys) (g:xs[k1]?=none\/ys[k2]?=none)
  (q:∀h' e,(∀c o,c≠z->c≠TO->c≠i1->c≠i2->s.heap.get? c=some o->h'.get? c=some o)->(∃o,h'.get? e=some o/\o.cls=.type "StopIteration")->E (.ref e) {s with heap:=h'}):
  ay (aD prog w) A (js.«zip.__next__» ⟨[.ref z],[]⟩) Q E s:=by
 show ay _ _ (Jl (.ref z) 2>>=_) _ _ _;refine a9 (eW h rfl (x:=.bool false) rfl ?_);show ay _ _ (Jl (.ref z) 3>>=_) _ _ _;refine a9 (eW h rfl (x:=.ref TI) rfl ?_);refine a9 (dZ S rfl ?_);show ay _ _ (g9 (.ref z)>>=_) _ _ _;refine a9 ?_;unfold g9;refine a9 (eW h rfl (x:=.none) rfl (aa ?_));simp only[if_true];refine a9 (dk ?_);refine a9 (eW h rfl (x:=.ref TO) rfl ?_);refine a9 (jP h (by simp) λT j b1=>?_);replace j:yi T z TI TO .ellipsis:=j;refine a9 ?_;simp only[Ae,Tn,jD,pC];refine a9 (a9 (Af ?_));show ay _ _ (dg (.ref i1)>>=_) _ _ _;cases p:xs[k1]? with
 |none=>
  refine a9 (xh G (kW I b1 D.i1z) (rR K b1 D.l1z) p λg2 e b2 he=>?_);obtain⟨k,d,f⟩:=he;have H:yi g2 z TI TO .ellipsis:=b2 _ _ D.i1z.symm j;have l:e≠z:=λn=>by subst n;rw[H] at d;cases d;simp at f
  refine jP H (by simp) λv _ b3=>q v e (λc o i _ t _ m=>b3.extBut _ _ i (b2 _ _ t (b1.extBut _ _ i m))) ⟨k,b3.extBut _ _ l d,f⟩
 |some x=>
  have L:ys[k2]?=none:=g.resolve_left λn=>by rw[p] at n;cases n
  refine a9 (xg (kW I b1 D.i1z) (rR K b1 D.l1z) p λg2 w1 b2=>aa ?_);have u:mn g2 TO a b:=b2.extBut _ _ D.TOi1 (b1.extBut _ _ D.TOz P);refine a9 (dZ u rfl (a9 (yj u λv p3 b3=>?_)));refine a9 (To (aa (a9 (a9 (Af ?_)))));show ay _ _ (dg (.ref i2)>>=_) _ _ _;refine a9 (xh G (kW (kW (kW O b1 D.i2z) b2 D.i12.symm) b3 D.TOi2.symm) (rR (rR (rR U b1 D.l2z) b2 D.l2i1) b3 D.l2TO) L λX e b4 he=>?_);obtain⟨k,d,f⟩:=he;have B:yi X z TI TO .ellipsis:=b4 _ _ D.i2z.symm (b3.extBut _ _ D.TOz.symm (b2.extBut _ _ D.i1z.symm j));have l:e≠z:=λn=>by subst n;rw[B] at d;cases d;simp at f
  refine jP B (by simp) λY _ b5=>q Y e (λc o i N t M m=>b5.extBut _ _ i (b4 _ _ M (b3.extBut _ _ N (b2.extBut _ _ t (b1.extBut _ _ i m))))) ⟨k,b5.extBut _ _ l d,f⟩
end
abbrev zt1(h:bZ)(a:av):bZ:=h.push {cls:=.type "tuple_iterator",data:=.fields #[.ref a,.int 0 0]}
abbrev zt2(h:bZ)(b a:av):bZ:=(zt1 h b).push {cls:=.type "tuple_iterator",data:=.fields #[.ref a,.int 0 0]}
abbrev zt3(h:bZ)(a b:av):bZ:=(zt2 h a b).push {cls:=.type "tuple",data:=.seq #[.ref h.objs.size,.ref (zt1 h a).objs.size]}
abbrev zt4(h:bZ)(b a:av):bZ:=(zt3 h b a).push {cls:=.type "tuple",data:=.seq #[.none,.none]}
abbrev YA(h:bZ)(b a:av):bZ:=(zt4 h b a).push {cls:=.type "zip",data:=.fields #[.none,.bool false,.bool false,.ref (zt2 h b a).objs.size,.ref (zt3 h b a).objs.size]}
def CD(a b:av)(xs ys:Array ai):
  Meets (js.«zip.__new__» ⟨[.type "zip",.ref a,.ref b],[]⟩) (λ_ R s=>s.heap.IsTuple a xs/\s.heap.IsTuple b ys/\R (.ok (.ret (.ref (zt4 s.heap a b).objs.size))) {s with heap:=YA s.heap a b}):=
 .of_wp λprog w A R s h=>by
  obtain⟨f,g,d,i,c⟩:=s;obtain⟨l,k,h⟩:=h;have e:=PySem.sub_zip;have j:IY (IZ ⟨f,g,d,i,c⟩) a xs:=l;have L2:IY (IZ ⟨f.push {cls:=.type "tuple_iterator",data:=.fields #[.ref a,.int 0 0]},g,d,i,c⟩) b ys:=Heap.IsTuple.push k _;wp_walk using iD j,iD L2;exact⟨_,rfl,h⟩
def EN(p:s.heap.IsTuple l1 xs)(m:s.heap.IsTuple l2 ys)
  (h:∀h',yi h' (s.heap.objs.size+4) (s.heap.objs.size+2) (s.heap.objs.size+3) .none->mn h' (s.heap.objs.size+2) (.ref s.heap.objs.size) (.ref (s.heap.objs.size+1)) ->
   mn h' (s.heap.objs.size+3) .none .none->h'.IsTupleIter s.heap.objs.size l1 0->h'.IsTupleIter (s.heap.objs.size+1) l2 0 ->
   (∀c o,s.heap.get? c=some o->h'.get? c=some o)->Q (.ref (s.heap.objs.size+4)) {s with heap:=h'}):ay (aD prog w) A (call (.type "zip") [.ref l1,.ref l2]) Q E s:=by
 refine callType_new F.called_zip ⋯ (F.typeCall_zip_2 _ _) (F.newCall_zip_2 _ _) (λa=>F.args_object_init_3 a _ _) F.entry_zip_new (CD l1 l2 xs ys) ⟨p,m,?_⟩;have b:(zt1 s.heap l1).objs.size=s.heap.objs.size+1:=cf ..;have d:(zt2 s.heap l1 l2).objs.size=s.heap.objs.size+2:=by rw[cf,b]
 have g:(zt3 s.heap l1 l2).objs.size=s.heap.objs.size+3:=by rw[cf,d]
 have i:(zt4 s.heap l1 l2).objs.size=s.heap.objs.size+4:=by rw[cf,g]
 have f:(YA s.heap l1 l2).get? (zt4 s.heap l1 l2).objs.size=some _:=aE _ rfl;have l:(YA s.heap l1 l2).get? (zt3 s.heap l1 l2).objs.size=some _:=ah _ (aE _ rfl);have k:(YA s.heap l1 l2).get? (zt2 s.heap l1 l2).objs.size=some _:=ah _ (ah _ (aE _ rfl));have j:(YA s.heap l1 l2).get? (zt1 s.heap l1).objs.size=some _:=ah _ (ah _ (ah _ (aE _ rfl)));have n:(YA s.heap l1 l2).get? s.heap.objs.size=some _:=ah _ (ah _ (ah _ (ah _ (aE _ rfl))));show _/\_;rw[d,g,i] at f;rw[b,d] at k;rw[g] at l;rw[b] at j;rw[i];exact⟨⟨_,f,rfl⟩,h _ f k l ⟨_,n,rfl,rfl⟩ ⟨_,j,rfl,rfl⟩ λc o e=>ah _ (ah _ (ah _ (ah _ (ah _ e))))⟩
def mD.ne_fp(I:ck X pins σ H s)(d:mD X.K H a xs)(c:vX X pins H b):a≠b:=by
 rintro rfl;rcases d with (h|⟨o,h⟩)|⟨o,its,n,hk,_⟩
 ·rw[c.1] at h;cases h
 ·rw[c.1] at h;cases h
 ·have e:X.base.get? a=some o:=I.mod.kin a o hk;rcases c.f3 with z|z
  ·exact I.ok.noex a o e z
  ·exact absurd (aK (aB e) (c8 I.ok.bsz z)) (cr _)
def Itz(K:af)(a b:av):It:=
 ⟨λi H=>∃xs ys x y,mD K H a xs/\mD K H b ys/\xs[i]?=some x/\ys[i]?=some y,
  λi H v H'=>∃p,H p=none/\v=.ref p/\∀xs ys,mD K H a xs->mD K H b ys->∃x y,xs[i]?=some x/\ys[i]?=some y/\H'=upd H p (.tup [x,y]),
  λi H=>∃xs ys,mD K H a xs/\mD K H b ys/\(xs.length<=i\/ys.length<=i)⟩
structure q0P (z TI TO i1 i2:av):Prop where
 d1:TI≠z
 d2:TO≠z
 d3:i1≠z
 d4:i2≠z
 d5:TI≠TO
 d6:TI≠i1
 d7:TI≠i2
 d8:TO≠i1
 d9:TO≠i2
 d0:i1≠i2
def Q3{P:bj}{w:bF}{K:af}{O:List bJ}{x1}{a2:Pos}(L G z TI TO g j:av)(Z:q0P z TI TO g j):
  Ez P w K (.Tuple O x1 a2) (Itz K L G) [z,TI,TO,g,j] z (λi h=>yi h z TI TO .none/\mn h TI (.ref g) (.ref j)/\(∃a b,mn h TO a b)/\h.IsTupleIter g L i/\h.IsTupleIter j G i) where
 mem:=by simp
 obj:=λi h st b c=>by
  obtain⟨s1,n,⟨_,_,s3⟩,⟨o4,e4,_,f4⟩,⟨o5,e5,_,f5⟩⟩:=st;simp only[bg,bt,or_false] at c;rcases c with rfl|rfl|rfl|rfl|rfl
  ·exact⟨_,s1,λv q=>by cases q⟩
  ·exact⟨_,n,λv q=>by cases q⟩
  ·exact⟨_,s3,λv q=>by cases q⟩
  ·exact⟨o4,e4,λv q=>by rw[f4] at q;cases q⟩
  ·exact⟨o5,e5,λv q=>by rw[f5] at q;cases q⟩
 keep:=λi h h' st k=>by
  obtain⟨s1,n,⟨u,v,s3⟩,⟨o4,e4,r4⟩,⟨o5,e5,r5⟩⟩:=st;exact⟨k z (by simp) _ s1,k TI (by simp) _ n,⟨u,v,k TO (by simp) _ s3⟩,⟨o4,k g (by simp) _ e4,r4⟩,⟨o5,k j (by simp) _ e5,r5⟩⟩
 item:=by
  intro X hP hw hK hc i p s σ H E I t st hg;subst hP hw hK;obtain⟨xs,ys,x,y,l,m,hx,hy⟩:=hg;obtain⟨M,B,p1,_⟩:=I.tuple l;obtain⟨N,A,U,_⟩:=I.tuple m;obtain⟨u,hu,ru⟩:=B.get hx;obtain⟨v,hv,rv⟩:=A.get hy;obtain⟨s1,n,⟨a,b,s3⟩,s4,s5⟩:=st;have d:∀b∈[z,TI,TO,g,j],L≠b:=λb c=>l.ne_fp I (t b c);have f:∀b∈[z,TI,TO,g,j],G≠b:=λb c=>m.ne_fp I (t b c);have D:Tl z TI TO g j L G:=⟨Z.d1,Z.d2,Z.d3,Z.d4,Z.d5,Z.d6,Z.d7,Z.d8,Z.d9,Z.d0,d z (by simp),d TO (by simp),d g (by simp),d j (by simp),f z (by simp),f TO (by simp),f g (by simp),f j (by simp)⟩;have zl:=aB s1;have hT:s.TypeIs (.ref z) "zip":=⟨_,s1,rfl⟩;unfold ml;refine a9 (ki (cF (name:=gY "__next__") hT vz ?_));refine bH vz hT F.entry_zip_next (Q1 D s1 n s3 s4 s5 p1 U (by simpa using hu) (by simpa using hv) λh1 z1 t1 y1 y2 pr k1=>?_) (F.args_zip_next_1 _);refine aa ⟨_,rfl,wpAny_letOwnedTupleGo_zip z1 λS z2 b2=>?_⟩;have Y:s.heap.objs.size≠z:=eZ zl;have a0:mn h1 TI (.ref g) (.ref j):=k1 TI _ Z.d1 Z.d5 Z.d6 Z.d7 n;have I2:ck X p σ H {s with heap:=S}:=I.turnedL (t':=s.toks) (ch:=[z,TI,TO,g,j]) (λb o c q=>by
   simp only[bg,bt,or_false,not_or] at c;exact(b2.2 b c.1).trans (k1 b o c.1 c.2.2.1 c.2.2.2.1 c.2.2.2.2 q)) t
  have fT:=I.fpOk (H':=H) (aA _) (I.hok.fresh (aA _));have a1:S.get? s.heap.objs.size=some {cls:=.type "tuple",data:=.seq #[u,v]}:=(b2.2 _ Y).trans pr;have I3:=I2.track (ho:=.tup [x,y]) fT ⟨by show 2<=sizeLine;decide,[u,v],.cons ru (.cons rv .nil),⟨_,a1,rfl,0,rfl⟩⟩;refine⟨.ref s.heap.objs.size,_,I3,rfl,⟨_,fT.1,rfl,λa4 a3 h1 S=>?_⟩,⟨z2,(b2.2 TI Z.d1).trans a0,⟨u,v,(b2.2 TO Z.d2).trans t1⟩,kW y1 b2 Z.d3,kW y2 b2 Z.d4⟩,λb c=>?_⟩
  ·rw[I.tuple_inj h1 l,I.tuple_inj S m];exact⟨x,y,hx,hy,rfl⟩
  ·have bl:b<s.heap.objs.size:=by
    simp only[bg,bt,or_false] at c;rcases c with q|q|q|q|q
    ·rw[q];exact zl
    ·rw[q];exact aB n
    ·rw[q];exact aB s3
    ·obtain⟨_,e,_⟩:=s4;rw[q];exact aB e
    ·obtain⟨_,e,_⟩:=s5;rw[q];exact aB e
   rw[bG (aM bl)];exact(t b c).1
 done:=by
  intro X hP hw hK hc i p s σ H E I t st hg;subst hP hw hK;obtain⟨xs,ys,l,m,Q⟩:=hg;obtain⟨M,B,p1,_⟩:=I.tuple l;obtain⟨N,A,U,_⟩:=I.tuple m;obtain⟨s1,n,⟨a,b,s3⟩,s4,s5⟩:=st;have d:∀b∈[z,TI,TO,g,j],L≠b:=λb c=>l.ne_fp I (t b c);have f:∀b∈[z,TI,TO,g,j],G≠b:=λb c=>m.ne_fp I (t b c);have D:Tl z TI TO g j L G:=⟨Z.d1,Z.d2,Z.d3,Z.d4,Z.d5,Z.d6,Z.d7,Z.d8,Z.d9,Z.d0,d z (by simp),d TO (by simp),d g (by simp),d j (by simp),f z (by simp),f TO (by simp),f g (by simp),f j (by simp)⟩;have hT:s.TypeIs (.ref z) "zip":=⟨_,s1,rfl⟩;have n1:=B.length;have n2:=A.length;unfold ml;refine a9 (ki (cF (name:=gY "__next__") hT vz ?_));refine bH vz hT F.entry_zip_next (Q2 (by simpa using I.ok.hd hc) D s1 n s3 s4 s5 p1 U (Q.elim (λq=>.inl (by simp;omega)) λq=>.inr (by simp;omega)) λh' e kp he=>?_) (F.args_zip_next_1 _);obtain⟨o,eo,co⟩:=he;refine a9 (gE (T:="StopIteration") (b:=true) ⟨o,eo,co⟩ yh ?_);exact aa ⟨rfl,I.turnedL (t':=s.toks) (ch:=[z,TI,TO,g,j]) (λb o c q=>by
   simp only[bg,bt,or_false,not_or] at c;exact kp b o c.1 c.2.2.1 c.2.2.2.1 c.2.2.2.2 q) t⟩
 self:=λ_ _ _ _ _ st h=>wpAny_pyIter_zip st.1 h
def q0Q(K:af)(e:TA):TI:=λd H R=>e d H λf c=>∃a b xs ys,f=[.ref a,.ref b]/\mD K c a xs/\mD K c b ys/\R (Itz K a b) c
def Xt{X:Cx}{m:List bJ}{x1}{i p o:Pos}{a b:bJ}{E:TA}(hg:Gl X "zip")(Y:X.mg "zip"=none)(Q:PA X [a,b] E)(hs:a_ [a,b] X.env=[(false,fO a X.env),(false,fO b X.env)]:=by rfl)
  (f:a_ [b] X.env=[(false,fO b X.env)]:=by rfl):PI X (.Tuple m x1 i) (.Call (.Name "zip" p) [a,b] [] o) (q0Q X.K E):=by
 intro c s A H R I h;refine Call_ (yo I hg Y boot_zip (iV (gG (Q o c s A H _ I h) λus s1 ⟨vs,v,t,r1,S⟩=>?_) (by rw[hs,f]) (by rw[f];rfl)));obtain⟨z,G,xs,ys,rfl,x,u,q⟩:=S;obtain⟨u1,u2,rfl,w,y⟩:=VF r1;cases w;cases y;obtain⟨g,T,p1,_⟩:=t.tuple x;obtain⟨l,U,M,_⟩:=t.tuple u;refine EN (show s1.heap.IsTuple z g.toArray from p1) (show s1.heap.IsTuple G l.toArray from M) λh' L P O c4 N kp=>?_;refine wpAny_pyIter_zip L ?_;have I2:ck X c A v {s1 with heap:=h'}:=t.kept (t':=s1.toks) kp;have d:∀k j:Nat,k≠j->s1.heap.objs.size+k≠s1.heap.objs.size+j:=λk j n e=>n (Nat.add_left_cancel e);refine⟨s1.heap.objs.size+4,[s1.heap.objs.size+4,s1.heap.objs.size+2,s1.heap.objs.size+3,s1.heap.objs.size+0,s1.heap.objs.size+1],_,_,v,rfl,I2,
  Q3 z G _ _ _ _ _ ⟨d _ _ ⋯,d _ _ ⋯,d _ _ ⋯,d _ _ ⋯,d _ _ ⋯,d _ _ ⋯,d _ _ ⋯,d _ _ ⋯,d _ _ ⋯,d _ _ ⋯⟩,
  ⟨L,P,⟨_,_,O⟩,c4,N⟩,λb B=>?_,q⟩
 have:∀k:Nat,vX X c v (s1.heap.objs.size+k):=λk=>t.fpOk (Tp _ _) (t.hok.fresh (Tp _ _))
 simp only[bg,bt,or_false] at B;rcases B with q|q|q|q|q<;>(rw[q];exact this _)
mutual
inductive JY (K:af) (H:Hp):V->Et->Prop
 |none:JY K H .non .none
 |bool (b:Bool):JY K H (.bl b) (.bool b)
 |int (i:Int):JY K H (.int i) (.int i)
 |str (x:Str):JY K H (.str x) (.str x)
 |list {a:av}{xs:List V}{ds:List Et}:sQ K H a xs->Reps K H xs ds->JY K H (.ref a) (.list ds)
 |tuple {a:av}{xs:List V}{ds:List Et}:mD K H a xs->Reps K H xs ds->JY K H (.ref a) (.tuple ds)
inductive Reps (K:af) (H:Hp):List V->List Et->Prop
 |nil:Reps K H [] []
 |cons {x:V}{xs:List V}{d:Et}{ds:List Et}:JY K H x d->Reps K H xs ds->Reps K H (x::xs) (d::ds)
end
def eD.tup{K:af}{H H':Hp}{a:av}{xs:List V}(e:eD H H')(h:mD K H a xs):mD K H' a xs:=by
 rcases h with (h|⟨o,h⟩)|h
 ·exact .inl (.inl (e _ _ h))
 ·exact .inl (.inr ⟨o,e _ _ h⟩)
 ·exact .inr h
def Ul(I:ck X pins σ H s)(h:sQ X.K H a xs)(g:∀{f:List ai},eT xs f->∃b,ReadsAll s.heap f ds b)(r:eO (.ref a) u):∃b,Reads s.heap u (.list ds) b:=by
 cases r;obtain⟨i,k,⟨o,n,e,c,_,d⟩,_⟩:=I.list h;obtain⟨b,j⟩:=g k;exact⟨_,.list e c d (by simpa using j)⟩
def Q4(I:ck X pins σ H s)(h:mD X.K H a xs)(g:∀{f:List ai},eT xs f->∃b,ReadsAll s.heap f ds b)(r:eO (.ref a) u):∃b,Reads s.heap u (.tuple ds) b:=by
 cases r;obtain⟨i,k,⟨o,e,c,n,d⟩,_⟩:=I.tuple h;obtain⟨b,j⟩:=g k;exact⟨_,.tuple e c d (by simpa using j)⟩
def uF(I:ck X pins σ H s)(h:JY X.K H v d):∀{u:ai},eO v u->∃c,Reads s.heap u d c:=
 JY.rec (motive_1:=λv d _=>∀{u:ai},eO v u->∃c,Reads s.heap u d c) (motive_2:=λl ds _=>∀{f:List ai},eT l f->∃c,ReadsAll s.heap f ds c)
  (λr=>by cases r;exact⟨_,.none⟩) (λb _ r=>by cases r;exact⟨_,.bool b⟩) (λi _ r=>by obtain⟨t,rfl⟩:=r;exact⟨_,.int i t⟩) (λx _ r=>by obtain⟨t,rfl⟩:=r;exact⟨_,.str x t⟩)
  (λh _ e _ r=>Ul I h e r) (λh _ e _ r=>Q4 I h e r) (λr=>by cases r;exact⟨_,.nil⟩) (λ_ _ a b _ r=>by
   cases r with
   |cons r g=>
    obtain⟨c,k⟩:=a r;obtain⟨bs,j⟩:=b g;exact⟨_,.cons k j⟩) h
inductive VQ (K:af) (neg:Bool) (x:V) (y:V) (H:Hp) (Q:VK):Prop
 |mk (dx dy:_) (h0:JY K H x dx) (h1:JY K H y dy) (h2:dx.canLay0=true) (h3:dy.canLay0=true) (h4:min dx.depth dy.depth<=60) (h5:Q (.bl (if neg then !bw dx dy else bw dx dy)) H):VQ K neg x y H Q
def Xu(K:af)(a:Bool):R2:=VQ K a
def Xv(l:X.A.units+64<eM):tO X (cj .Eq) (Xu X.K false):=by
 intro a s m H x y v u Q I c e h;obtain⟨n,k,i,b,d,j,p,q⟩:=h;obtain⟨o,g⟩:=uF I i c;obtain⟨bs,f⟩:=uF I b e;exact PySem.SeqAt.compareEq_reads g f d j ∅ ⟨.bl _,H,I,rfl,q⟩
def Xw(l:X.A.units+64<eM):tO X (cj .NotEq) (Xu X.K true):=by
 intro a s m H x y v u Q I c e h;obtain⟨n,k,i,b,d,j,p,q⟩:=h;obtain⟨o,g⟩:=uF I i c;obtain⟨bs,f⟩:=uF I b e;exact PySem.SeqAt.compareNe_reads g f d j ∅ ⟨.bl _,H,I,rfl,q⟩
structure Air (P:bj) (w:bF) (l:List Env) (H H':Hp) (h h' B:bZ) (ea C t:av):Prop where
 fly:Heap.FlyingW B l ea (.ref C) (.ref t) h'
 cov:∀b u,H' b=some u->∃o,B.get? b=some o
 old:∀b o,h.get? b=some o->H b=none->b∉Cf l->B.get? b=some o
 all:∀b o,h.get? b=some o->b∉Cf l->∃o',B.get? b=some o'
 un:Un (Cf l) [] H H' h h'
 hok:tF P w H' h'
inductive Zf (P:bj) (w:bF) (outer:List Env) (H:Hp) (s:au) (E:XK) (e:ai) (s':au):Prop
 |mk (ea C t H' B:_) (h0:e=.ref ea) (h1:s'.os=s.os) (h2:sZ s'.gens) (h3:Air P w outer H H' s.heap s'.heap B ea C t) (h4:E (.ref C) none H'):Zf P w outer H s E e s'
def CF(P:bj)(w:bF):Ps:=Zf P w
def Um(he:env∈l)(a:env.frame=some b):b∈Cf l:=List.mem_filterMap.mpr ⟨env,he,a⟩
def Air.kp(x:Air P w l H H' h h' B ea C t)(st:B.StaysIn h'')(b:av)(u:HO)(o:Obj)(e:H' b=some u)(q:h'.get? b=some o):h''.get? b=some o:=by
 obtain⟨o',a⟩:=x.cov b u e;have:=x.fly.1 b o' a;rw[q] at this;cases this;exact st b o a
section
variable{P:bj}{w:bF}{K:af}{mg:Str->Option ai}{base:bZ}{N:List Str}{qual:Str}{scope:fG}{f:av}{cd:ai}{A:cD}{outer:List Env}{s:au}{H:Hp}{E:XK}
def GH(hE:∀c H',E' c none H'->E c none H'):vZ (CF P w) (AN (CF P w) P w K mg base N qual scope f cd A outer s H E) E':=by
 intro Q σ H1 s1 e s' I h;obtain⟨O,C,t,H',B,rfl,os,i,x,q⟩:=h;let X:=AN (CF P w) P w K mg base N qual scope f cd A outer s H E
 have a:∀b:av,b∉X.ex:=λb z=>absurd (show b∈([]:List av) from z) (by simp);have p:∀b o,s.heap.get? b=some o->b∉Cf outer->b∉Cf X.stack:=λb o e n z=>by
  rcases List.mem_cons.mp (I.stkSub b z) with y|y
  ·exact absurd (aB e) (by rw[y];exact Nat.not_lt.mpr I.ok.above)
  ·exact n y
 have sub:∀b∈Cf outer,b∈Cf X.stack:=λb d=>by
  obtain⟨env,he,hf⟩:=List.mem_filterMap.mp d;exact Um (ak _ he) hf
 show ay _ X.A (leaving X.env (.ref O)) _ _ _;refine wpAny_leaves_onW (base:=B) (outer:=outer) (L:=X.env.locals) I.ok.frames rfl x.fly λh2 M T=>?_;have g:=M.1;refine⟨O,C,t,H',B,rfl,os.trans I.os,i,⟨M,x.cov,λb o e n d=>?_,λb o e d=>?_,⟨λb o e n d G=>?_,λb o e n d G=>?_,λb o e n _=>?_,λb o e _=>?_,λb xs e=>x.un.tups b xs (I.base.tups b xs e),λb o xs e=>x.un.frzs b o xs (I.base.frzs b o xs e),λb ps e=>?_⟩,λb u e=>?_⟩,hE _ _ q⟩
 ·exact x.old b o (I.base.keep b o e n d (a b)) (I.base.free b o e n (a b)) (p b o e d)
 ·obtain⟨o',k⟩:=I.base.there b o e (a b);exact x.all b o' k (p b o e d)
 ·exact g b o (x.old b o (I.base.keep b o e n d (a b)) (I.base.free b o e n (a b)) (p b o e d))
 ·obtain⟨sl,k⟩:=I.base.slot b o e n d (a b);obtain⟨S,m⟩:=x.un.slot b _ k (I.base.free b o e n (a b)) (sub b d) (by simp);obtain⟨_,o',l,k3⟩:=Ce x.fly.2.2.1 (sub b d);rw[m] at l;cases l;obtain⟨v,U⟩:=T b _ m k3;exact⟨v,U⟩
 ·obtain⟨o',k⟩:=I.base.there b o e (a b);exact x.un.free b o' k (I.base.free b o e n (a b)) (by simp)
 ·obtain⟨o',k⟩:=I.base.there b o e (a b);by_cases d:b∈Cf outer
  ·obtain⟨_,j,m,_⟩:=Ce M.2.2.1 d;exact⟨j,m⟩
  ·obtain⟨j,l⟩:=x.all b o' k (p b o e d);exact⟨j,g b j l⟩
 ·obtain⟨m1,e1⟩:=I.base.tbls b ps e;obtain⟨m2,e2⟩:=x.un.tbls b _ e1;exact⟨m1++m2,by rw[e2,MG]⟩
 ·exact(x.hok b u e).stay (λc o Y k=>by
   rcases Y with z|z
   ·rw[z] at k ⊢;exact x.kp g b u o e k
   ·exact x.kp g c _ o z k) (λ_ q=>q) λ_ _ q=>q
end
structure q0R (base:bZ) (C:av) (bm:List ai):Prop where
 obj:∃nm q N bs hdct sn sub ab col dd k0 k1 k2 k3 k5 newId,base.get? C=some (excClassObj nm q C N bs bm hdct sn sub ab col dd k0 k1 k2 k3 k5 newId)
 exc:bm.contains (.type "BaseException")=true
def tyD:Et->String
 |.none=>"NoneType" | .bool _=>"bool" | .int _=>"int" | .str _=>"str" | .list _=>"list" | .tuple _=>"tuple" | .dict _=>"dict"
def JZ(I:ck X pins σ H s)(a:eO x u)(r:JY X.K H x d)(e:tG X.K (.type (tyD d)) c=some b)(h:∀l,Q (.bool b) {s with toks:=l}):
  ay (aD X.prog X.w) A (call (.builtin "isinstance") [u,c]) Q E s:=by
 cases r with
 |none=>exact uy I a .non e h
 |bool y=>exact uy I a (.bl y) e h
 |int i=>exact uy I a (.int i) e h
 |str y=>exact uy I a (.str y) e h
 |list f _=>
  cases a;obtain⟨g,k,⟨o,n,ho,c,_,j⟩,_⟩:=I.list f;exact dH wN I.kIn ⟨o,ho,c⟩ e (λz=>nomatch z) h
 |tuple f _=>
  cases a;obtain⟨g,k,⟨o,ho,c,n,j⟩,_⟩:=I.tuple f;exact dH Jb I.kIn ⟨o,ho,c⟩ e (λz=>nomatch z) h
def Q5:kL X (.builtin "isinstance") (λxs H Q=>∃x d T b,xs=[x,.ty T]/\JY X.K H x d/\tG X.K (.type (tyD d)) (.type T)=some b/\Q (.bl b) H):=by
 intro a s j H xs k Q I r h;obtain⟨x,d,T,b,rfl,i,e,q⟩:=h;obtain⟨u,v,rfl,g,f⟩:=VF r;obtain rfl:v=.type T:=f;exact JZ I g i e λc=>⟨.bl b,H,I.tok c,rfl,q⟩
end L2
namespace HT
open PySem PyProof.Rows
def GI{t f:av}{items:Array ai}{k i:ai}{lo c:Option Int}{Q:ai->au->Prop}(a:IsTup s.heap t items)(hs:s.heap.IsSliceOf f k i .none)(pl:yd k lo)(m:yd i c)
  (j:kr items.size 0 lo=0/\kr items.size items.size c=items.size) (h:Q (.ref t) s):ay (aD prog w) A (t4 (.ref t) (.ref f)) Q E s:=by
 obtain⟨n,d,e,l⟩:=id hs;have g:s.TypeIs (.ref f) "slice":=⟨n,d,e⟩;unfold t4;try with_reducible refine cH ?_
 first|refine a9 (aa ?_)|skip
 refine a9 (wpAny_sequenceKey a.typeIs ⋯ ?_);refine a9 (cF (name:=gY "__getitem__") a.typeIs ic
  (bH ic a.typeIs entry_tuple_getitem ?_ (args_tuple_getitem _ _)))
 show ay _ _ (wP (.ref t)>>=_) _ _ s;refine a9 (tupleItemsOf_ a ?_);refine a9 (lB g ?_);rw[if_pos ⋯];refine a9 (qV hs pl m ?_);have b:((((kr items.size 0 lo:Nat):Int)==0&&(1:Int)==1&&(kr items.size items.size c-kr items.size 0 lo)==items.size)=true):=by
  rw[j.1,j.2];simp
 show ay _ _ (if(((kr items.size 0 lo:Nat):Int)==0&&(1:Int)==1&&(kr items.size items.size c-kr items.size 0 lo)==items.size)=true then _ else _) _ _ s;rw[if_pos b];refine a9 ?_;unfold Builtin.Tuple.tupleIsExact;refine a9 (lB a.typeIs (aa ?_));rw[if_pos ⋯];refine a9 (dk ?_);first
  |exact aa (aa ⟨_,rfl,h⟩)
  |exact aa ⟨_,rfl,aa h⟩
  |exact a9 (aa (aa ⟨_,rfl,aa h⟩))
  |exact a9 (aa (aa ⟨_,rfl,h⟩))
end HT
namespace L2
open PySem PySem.Spec PyProof.Rows
inductive Q6 (K:af) (x:V) (lo:Option Int) (hi:Option Int) (H:Hp) (Q:VK):Prop
 |mk (a xs:_) (h0:x=.ref a) (h1:mD K H a xs) (h2:(HT.kr xs.length 0 lo=0/\HT.kr xs.length xs.length hi=xs.length)) (h3:Q (.ref a) H):Q6 K x lo hi H Q
def Zg(K:af):V->Option Int->Option Int->Hp->VK->Prop:=Q6 K
def Uo:Z3 X (Zg X.K):=by
 intro e s k H x v m n lo l o Q I f hs pl i h;obtain⟨a,xs,rfl,j,g,q⟩:=h;cases f;obtain⟨c,r,d,hz⟩:=I.tuple j;have b:c.toArray.size=xs.length:=by rw[ba];exact r.length.symm
 exact⟨"tuple",_,PyProof.Rows.slot_tuple_getitem.lookup,d.typeIs,HT.GI d hs pl i (by rw[b];exact g) ⟨.ref a,H,I,rfl,q⟩⟩
def oN(h:H p=none):eD H (upd H p o):=λb u e=>by rw[bG (cu e h)];exact e
def AY(T:X.calm=true):kL X (.type "list") (λxs H Q=>∃a b,xs=[.ref a]/\H a=some (.dK b)/\∀l,H l=none->Q (.ref l) (upd H l (.lst (b.map λp=>kV p.1)))):=by
 intro E s σ H xs us Q I r h;obtain⟨a,b,rfl,hH,q⟩:=h;obtain⟨u,rfl,P⟩:=md r;cases P;obtain⟨hz,hs,g,rk,hd⟩:=(show dQ X.prog X.w H s.heap a (.dK b) from I.hok a _ hH);obtain⟨n,A⟩:∃n,s.heap.DictAt (iq X.prog X.w) a g n:=by
  obtain⟨o,es,n,z,h2,S,Y⟩:=hd;exact⟨n,o,es,z,h2,S,Y⟩
 have L:b.length=g.length:=kO rk;refine PySem.W.kdl_call (PySem.W.kdl_dict hs) (I.ok.hd T) A ∅ λh' N d U kp e f=>?_;have rv:eT (b.map λp=>kV p.1) d.toList:=by
  have y:∀{b:List (iL×V)}{g:List (iL×ai)} (c:List ai),KV b g->c.length=g.length->(∀(j:Nat) (v:ai),c[j]?=some v->∃k x,g[j]?=some (k,x)/\AK k v=true)->eT (b.map λp=>kV p.1) c:=by
   intro b;induction b with
   |nil=>intro g c rk m _;cases rk;cases c with
    |nil=>exact .nil
    |cons _ _=>simp at m
   |cons p b O=>
    intro g c rk m M;cases rk with
    |cons z t1=>
     cases c with
     |nil=>simp at m
     |cons v c=>
      refine .cons ?_ (O c t1 (by simpa using m) λj v B=>by simpa using M (j+1) v (by simpa using B));obtain⟨k,x,G,e2⟩:=M 0 v rfl;simp only[Gb,G7] at G;subst G;have K:p.1=k:=z.1;rcases gQ e2 with⟨i,t,e,rfl⟩|⟨i,t,e,rfl⟩
      ·show eO (kV p.1) _;rw[K,e];exact⟨t,rfl⟩
      ·show eO (kV p.1) _;rw[K,e];exact⟨t,rfl⟩
  exact y d.toList rk (by rw[az];exact f.1) λj v B=>f.2 j v (by rw[<- aW];exact B)
 exact⟨.ref s.heap.objs.size,_,I.laid (t':=N) kp (aA _) (show dQ X.prog X.w _ h' _ (.lst _) from⟨by simpa using hz,d.toList,U,rv,by rw[Jm];exact e⟩),rfl,q _ (I.hok.fresh (aA _))⟩
def AZ(x:Str):List V:=x.cps.toList.map λc=>V.str ⟨#[c]⟩
def zY(G:X.calm=true):kL X (.type "tuple") (λxs H Q=>∃x,xs=[.str x]/\x.cps.size<=sizeLine/\∀l,H l=none->Q (.ref l) (upd H l (.tup (AZ x)))):=by
 intro d s y H xs O Q I r h;obtain⟨x,rfl,hz,q⟩:=h;obtain⟨u,rfl,E⟩:=md r;obtain⟨t,rfl⟩:=E;refine call_tuple_str (I.ok.hd G) x t (λh' i a kp f=>?_) hz;have A:ck X d y H {s with heap:=h',toks:=i}:=I.kept (t':=i) kp;have L:eT (AZ x) a.toList:=by
  have n:∀(g:List Nat) (a:List ai),a.length=g.length->(∀(j:Nat) (v:ai),a[j]?=some v->∃c u,g[j]?=some c/\v=.str ⟨#[c]⟩ u)->eT (g.map λc=>V.str ⟨#[c]⟩) a:=by
   intro g;induction g with
   |nil=>intro a k _;cases a with
    |nil=>exact .nil
    |cons _ _=>simp at k
   |cons c g B=>
    intro a k z;cases a with
    |nil=>simp at k
    |cons v a=>
     obtain⟨N,u,m,rfl⟩:=z 0 v rfl;simp only[Gb,G7] at m;subst m;exact .cons ⟨u,rfl⟩ (B a (by simpa using k) λj v p=>by simpa using z (j+1) v (by simpa using p))
  refine n x.cps.toList a.toList (by rw[az,az];exact f.1) λj v p=>?_;obtain⟨c,u,m,M⟩:=f.2 j v (by rw[<- aW];exact p);exact⟨c,u,by rw[aW];exact m,M⟩
 have K:ck X d y (upd H h'.objs.size (.tup (AZ x))) {s with heap:=h'.push {cls:=.type "tuple",data:=.seq a},toks:=i}:=
  A.laid (t':=i) (λb o e=>ah _ e) (aA _) (show dQ X.prog X.w _ _ _ (.tup (AZ x)) from⟨by unfold AZ;simpa using hz,a.toList,L,by rw[Jm];exact zL _ _⟩)
 exact⟨.ref h'.objs.size,_,K,rfl,q _ (A.hok.fresh (aA _))⟩
end L2
namespace L2
open PySem PySem.Spec PyProof.Rows
def mf{elt target iter ifs bM scope pos it acc env}
  (c:gU (aD prog w) A (.compLoop (.SetComp elt (⟨target,iter,ifs,0⟩::bM) scope pos) 0 it acc env) R s)
  (h:ay (aD prog w) A (qp it) (λa s'=>gU (aD prog w) A (.compLoop (.SetComp elt (⟨target,iter,ifs,0⟩::bM) scope pos) 0 a acc env) R s')
   (notedBy (aD prog w) A env λx s'=>R (.error x) s') s):
  gU (aD prog w) A (.compStart (.SetComp elt (⟨target,iter,ifs,0⟩::bM) scope pos) 0 it acc env) R s:=by
 refine wH ?_;show ay _ _ ((compStart (.SetComp elt (⟨target,iter,ifs,0⟩::bM) scope pos) 0 it acc env).onRaise (λx=>do noteFrame x env;qP theWindowsPlace)) _ _ s;refine wpAny_notedAt ?_;unfold compStart;show ay _ _ (ask>>=_) _ _ s;refine a9 (fJ (Eu ?_));split
 ·first
   |exact a9 (aa (aa (lX rfl c)))
   |exact aa (lX rfl c)
 ·first
   |exact a9 (dk (a9 (ik (a9 (cz h (λa s' b=>aa (lX rfl b)) λ_ _ x=>x)))))
   |(refine a9 (dk ?_);show ay _ _ (qP iter.pos>>=_) _ _ s;exact a9 (ik (a9 (cz h (λa s' b=>aa (lX rfl b)) λ_ _ x=>x))))
def qw(h:Q (.ref s.heap.objs.size) {s with heap:=s.heap.push (i0 w)}):ay (aD prog w) A (P1 (.type "set")) Q E s:=by
 unfold P1 setsByText;refine a9 (a9 (fJ (aa ?_)));dsimp only;simp only[newObj];exact a9 (Td (aa h))
def CG(d:nN w s.heap a ss)(e:ss.length+1<iP)
  (h:∀h' b,bK a s.heap h'->nN w h' a (if x∈ss then ss else ss++[x])->Q .none {s with heap:=h',toks:=b}):
  ay (aD prog w) A (call (.builtin "set.add") [.ref a,.str x tk]) Q E s:=by
 have hT:s.TypeIs (.ref a) "set":=by obtain⟨es,g,t,I,_⟩:=id d;exact⟨_,I.at_,rfl⟩
 refine bH F.slot_set_add hT F.entry_set_add ?_ (F.args_set_add_2 _ _);unfold js.«set.add» vh;simp only[SW,bind_assoc];unfold vU;refine a9 (aa ?_);try dsimp only
 refine a9 (aa ?_);try dsimp only
 refine a9 ?_;refine GA d e λh' b f c=>?_;exact aa ⟨_,rfl,h h' b f c⟩
def q0S(w:bF)(D:av)(o:Obj)(a:List Str):Prop:=∀h:bZ,h.get? D=some o->nN w h D a
def Q7(X:Cx)(c:bJ)(env:Env)(D:av)(K:au->Prop)(s:au):Prop:=ay (aD X.prog X.w) X.A (fO c env) (λx a=>ay (aD X.prog X.w) X.A (call (.builtin "set.add") [.ref D,x]) (λ_ b=>K b) (λ_ _=>False) a) (λ_ _=>False) s
abbrev Zh(c:TE)(e:St)(H:Hp)(a:List Str)(m:Nat)(V:Nat->List Str->Hp->Prop):Prop:=c e H λy d=>∃z b,y=.str z/\b<m/\V b (if z∈a then a else a++[z]) d
def Q8{X:Cx}{g:bJ}{s:TE}{N':List Str}{scope:fG}{M:St->Prop}(B:∀i C b a q k,PE (bT X N' scope i C b a q k) g s):
  Dm X N' scope M (λD o c=>(∀v,o.data≠.cell v)/\q0S X.w D o c) (λc=>c.length+1<iP) (Zh s) (Q7 X g):=by
 intro i C b a q k D pl o c p L s7 K m V x h2 I _ H P O N fin
 refine gG (B i C b a q k _ s7 p L _ O N) λu8 s8 j=>?_
 obtain⟨y,U,u,Y,z,Q,A,T,S⟩:=j
 obtain⟨pD,pN,_⟩:=u.pin (D,_) (aF _ aq)
 subst A
 obtain⟨tz,rfl⟩:=Y
 refine CG (P.2 _ pD) H λh9 a1 n f=>?_
 obtain⟨G,E,t9,l,a0⟩:=id f
 have d:=l.at_
 exact fin _ _ U _ Q ((u.swap n d (λ_ z=>nomatch z) x h2 I).tok _) ⟨λ_ z=>(nomatch z),λh e=>f.keep λo t=>by rw[d] at t;cases t;exact e⟩ T S
def GJ{X:Cx}{b:bJ}{f:Sem Fin}{a:Code}(c:f=pure (.again a))(env:Env)(D:av)(K:au->Prop)(s:au)(h:Q7 X b env D K s):ay (aD X.prog X.w) X.A ((do let v <- fO b env;qP b.pos;let _ <- call (.builtin "set.add") [.ref D,v])>>=λ_=>f) (λf s5=>f=.again a/\K s5) (λ_ _=>False) s:=by
 subst c;exact a9 (a9 (gG h λx s4 d=>a9 (ik (a9 (gG d λ_ _ q=>aa (aa ⟨rfl,q⟩))))))
def Uq{X:Cx}{f tg iter:bJ}{i:List bJ}{scope:fG}{l:Pos}{m:TE}{N':List Str}{nt:Nat}{ix:List Nat}(p:∀n C j g q o,PE (bT X N' scope n C j g q o) f m):
  JP X N' scope nt nt ix (.SetComp f [⟨tg,iter,i,0⟩] scope l) tg i (P1 (.type "set")) (qZ X.w) [] (λk=>k.length+1<iP) (Zh m):=
 ⟨_,_,λ_=>Q7 X f,λ_=>True,λh=>h.1,rfl,λ_=>⟨λ_ z=>(nomatch z),λ_ e=>Dp X.w e⟩,λ_ h e=>EM (h.2 _ e),qw,λ_=>Gv (iter:=iter) (λ_ _=>rfl) λa b c d h=>GJ rfl a b c d h,mf,⟨aA _,λ_ _ _=>trivial⟩,λ_=>Q8 p⟩
inductive VR (w:bF) (nt:Nat) (ix:List Nat) (g:TG) (tt:TT) (te:TE) (σ:St) (Q:VK) (J:It) (H1:Hp):Prop
 |mk (W:Nat->Nat->List Str->Hp->Prop) (w0:∃m,W 0 m [] H1) (turn:∀i m acc H,W i m acc H ->
 (J.stop i H/\∀p,H p=none->Q (.ref p) (upd H p (qZ w p acc))) \/
 (J.go i H/\acc.length+1<iP/\∀x H',J.yld i H x H'->g x (mT nt ix σ) H' λσ2 H2=>tt σ2 H2 λb H3=>
  if b=true then te σ2 H3 λy H4=>∃z m',y=.str z/\m'<m/\W (i+1) m' (if z∈acc then acc else acc++[z]) H4 else ∃m',m'<m/\W (i+1) m' acc H3)):VR w nt ix g tt te σ Q J H1
def Q9(w:bF)(nt:Nat)(ix:List Nat)(d:TI)(g:TG)(c:TT)(b:TE):TE:=λa H Q=>d a H (VR w nt ix g c b a Q)
def J_{X:Cx}{n tg iter:bJ}{i:List bJ}{scope:fG}{o:Pos}{N:TI}{g:TG}{O:TT}{M:TE}{N':List Str}{nt:Nat}{ix:List Nat}
  (hc:X.calm=true) (S:mo X scope N' nt ix) (lo:Ug nt g) (hi:PI X tg iter N)
  (E:∀u C j k G z,PG (bT X N' scope u C j k G z) tg g/\JM (bT X N' scope u C j k G z) i O/\PE (bT X N' scope u C j k G z) n M)
  (hs:∀x,bW iter X.env x=pure x:=by intro _;rfl):PE X (.SetComp n [⟨tg,iter,i,0⟩] scope o) (Q9 X.w nt ix N g O M):=by
 intro l s L H Q I h;obtain⟨u,K,c1,Y⟩:=oK (scope:=scope) (env:=X.env) λy P hf=>I.ok.has y.1 (S.free y P hf);show ay _ _ (Ac (.SetComp n [⟨tg,iter,i,0⟩] scope o) scope X.env (P2 [⟨tg,iter,i,0⟩] o) (P1 (.type "set")) (firstAsync [⟨tg,iter,i,0⟩]) (firstIter [⟨tg,iter,i,0⟩] X.env)) _ _ _;refine iX (use:=none) rfl hs K S.kind S.loc (gG (hi l s L H _ I h) λv s1 h1=>gG h1 λa0 s2 h2=>?_);obtain⟨it,fp,tn,J,H2,e,I2,T,B,f2,W,U,p⟩:=h2;subst e;refine AS (RR:=λt C=>Jh (aD X.prog X.w) X.A X.xe none (EP X l L Q) t C) (Uq λa b c d e f=>(E a b c d e f).2.2) hc S lo (λa b c d e f=>⟨(E a b c d e f).1,(E a b c d e f).2.1⟩) c1 Y I2 T B f2 U p ?_;intro D C m s' t H' hD _ q hn hI;exact⟨m,hn,λh' sb=>⟨.ref D,_,hI h' sb,rfl,q⟩⟩
def CH:kL X (.builtin "len") (λxs H Q=>∃p ss,xs=[.ref p]/\H p=some (qZ X.w p ss)/\Q (.int ss.length) H):=by
 intro d s j H xs m Q I r h;obtain⟨p,ss,rfl,f,q⟩:=h;obtain⟨u,rfl,e⟩:=md r;cases e;obtain⟨es,k,t,b,g⟩:=(show dQ X.prog X.w H s.heap p (qZ X.w p ss) from I.hok p _ f).1;have a:es.size=ss.length:=by rw[<- g.length_eq,ao,az]
 have c:(es.size:Int)<2 ^ 63:=by
  have i:=b.few;have l:iP<=2 ^ 62:=by decide
  omega
 refine qu kind_len plain_len entry_len (args_len1 _) (wpAny_len_body_set b.at_ ⟨rfl,rfl,rfl⟩ rfl b.fits c ?_);refine⟨.int _,H,I.tok _,⟨_,rfl⟩,?_⟩;rw[a];exact q
end L2
namespace L2
open PySem PySem.Spec PyProof.Rows
end L2
namespace L2
open PySem PySem.Spec PyProof.Rows
def Lu(so:fG)(N:List Str)(scope:fG)(N':List Str)(nt:Nat)(ix:List Nat):Bool:=
 (scope.kind == .function)&&(scope.names.all λy=>y.2 != .cell||scope.names.lookup y.1==some .cell)&&(scope.names.all λy=>y.2 != .local||scope.names.lookup y.1==some .local) &&
 (scope.names.all λy=>y.2 != .free||so.names.lookup y.1==some .cell||so.names.lookup y.1==some .free) &&
 ((bx ix.length).all λk=>match ix[k]? with
  |none=>false
  |some i=>match N[i]? with
   |none=>false
   |some x=>N'[nt+k]? == some x&&scope.names.lookup x==some .free)&&(N'.length==nt+ix.length)
def c9(h:Lu so N scope N' nt ix=true)(j:X.env.scope=so:=by rfl)(n:X.N=N:=by rfl):mo X scope N' nt ix:=by
 unfold Lu at h;simp only[bc,cA] at h;obtain⟨⟨⟨⟨⟨a,b⟩,c⟩,d⟩,e⟩,l⟩:=h;refine⟨by simpa using a,λy f z=>?_,λy f z=>?_,λy f z=>?_,λk i g=>?_,by simpa using l⟩
 ·have:=b y f;simpa[z] using this
 ·have:=c y f;simpa[z] using this
 ·have:=d y f;rw[j];simpa[z] using this
 ·have m:k<ix.length:=(List.getElem?_eq_some_iff.mp g).1;have:=e k (List.mem_range.mpr m);rw[g] at this;rw[n];simp only at this;split at this
  ·cases this
  ·rename_i x o
   simp only[bc] at this;exact⟨x,o,by simpa using this.1,by simpa using this.2⟩
end L2
namespace L2
open PySem PySem.Spec PyProof.Rows
end L2
namespace J
open PySem L2
abbrev D:=Et
inductive R (α:Type) where
 |ok (a:α)
 |ex (c:Str) (n:Option D)
 |no
def R.bind{b d:Type}:R b->(b->R d)->R d
 |.ok a,f=>f a
 |.ex c n,_=>.ex c n
 |.no,_=>.no
@[simp] theorem bind_ok {α β:Type} (a:α) (f:α->R β):(R.ok a).bind f=f a:=rfl
@[simp] theorem bind_ex {α β:Type} (c:Str) (n:Option D) (f:α->R β):(R.ex c n).bind f=.ex c n:=rfl
@[simp] theorem bind_no {α β:Type} (f:α->R β):(R.no:R α).bind f=.no:=rfl
def kD:iL->D
 |.inl i=>.int i
 |.inr x=>.str x
def tD(a:List iL):D:=.tuple (a.map kD)
mutual
inductive RD (K:af) (H:Hp):V->D->Prop
 |none:RD K H .non .none
 |bool (b:Bool):RD K H (.bl b) (.bool b)
 |int (i:Int):RD K H (.int i) (.int i)
 |str (x:Str):RD K H (.str x) (.str x)
 |list {a:av}{xs:List V}{ds:List D}:sQ K H a xs->RDs K H xs ds->RD K H (.ref a) (.list ds)
 |tuple {a:av}{xs:List V}{ds:List D}:H a=some (.tup xs)->RDs K H xs ds->RD K H (.ref a) (.tuple ds)
 |dictK {a:av}{kvs:List (iL×V)}{ds:List (D×D)}:H a=some (.dK kvs)->RDk K H kvs ds->RD K H (.ref a) (.dict ds)
 |dictT {a:av}{kvs:List (List iL×V)}{ds:List (D×D)}:H a=some (.dT kvs)->kvs≠[]->RDt K H kvs ds->RD K H (.ref a) (.dict ds)
 |dictF {a:av}{o:Obj}{kvs:List (List iL×V)}{ds:List (D×D)}:H a=some (.frz o (.dT kvs))->kvs≠[]->RDt K H kvs ds->RD K H (.ref a) (.dict ((.none,.none)::ds))
inductive RDs (K:af) (H:Hp):List V->List D->Prop
 |nil:RDs K H [] []
 |cons {x:V}{xs:List V}{d:D}{ds:List D}:RD K H x d->RDs K H xs ds->RDs K H (x::xs) (d::ds)
inductive RDk (K:af) (H:Hp):List (iL×V)->List (D×D)->Prop
 |nil:RDk K H [] []
 |cons {k:iL}{x:V}{xs:List (iL×V)}{d:D}{ds:List (D×D)}:RD K H x d->RDk K H xs ds->RDk K H ((k,x)::xs) ((kD k,d)::ds)
inductive RDt (K:af) (H:Hp):List (List iL×V)->List (D×D)->Prop
 |nil:RDt K H [] []
 |cons {k:List iL}{x:V}{xs:List (List iL×V)}{d:D}{ds:List (D×D)}:RD K H x d->RDt K H xs ds->RDt K H ((k,x)::xs) ((tD k,d)::ds)
end
def RD.same(e:eD H H')(h:RD K H v d):RD K H' v d:=RD.rec (motive_1:=λv d _=>RD K H' v d) (motive_2:=λv d _=>RDs K H' v d) (motive_3:=λv d _=>RDk K H' v d) (motive_4:=λv d _=>RDt K H' v d) .none .bool .int .str (λh _ r=>.list (e.seq h) r) (λh _ r=>.tuple (e _ _ h) r) (λh _ r=>.dictK (e _ _ h) r) (λh n _ r=>.dictT (e _ _ h) n r) (λh n _ r=>.dictF (e _ _ h) n r) .nil (λ_ _ a b=>.cons a b) .nil (λ_ _ a b=>.cons a b) .nil (λ_ _ a b=>.cons a b) h
def RDs.same(e:eD H H')(h:RDs K H v d):RDs K H' v d:=RDs.rec (motive_1:=λv d _=>RD K H' v d) (motive_2:=λv d _=>RDs K H' v d) (motive_3:=λv d _=>RDk K H' v d) (motive_4:=λv d _=>RDt K H' v d) .none .bool .int .str (λh _ r=>.list (e.seq h) r) (λh _ r=>.tuple (e _ _ h) r) (λh _ r=>.dictK (e _ _ h) r) (λh n _ r=>.dictT (e _ _ h) n r) (λh n _ r=>.dictF (e _ _ h) n r) .nil (λ_ _ a b=>.cons a b) .nil (λ_ _ a b=>.cons a b) .nil (λ_ _ a b=>.cons a b) h
def RDk.same(e:eD H H')(h:RDk K H v d):RDk K H' v d:=RDk.rec (motive_1:=λv d _=>RD K H' v d) (motive_2:=λv d _=>RDs K H' v d) (motive_3:=λv d _=>RDk K H' v d) (motive_4:=λv d _=>RDt K H' v d) .none .bool .int .str (λh _ r=>.list (e.seq h) r) (λh _ r=>.tuple (e _ _ h) r) (λh _ r=>.dictK (e _ _ h) r) (λh n _ r=>.dictT (e _ _ h) n r) (λh n _ r=>.dictF (e _ _ h) n r) .nil (λ_ _ a b=>.cons a b) .nil (λ_ _ a b=>.cons a b) .nil (λ_ _ a b=>.cons a b) h
def RDt.same(e:eD H H')(h:RDt K H v d):RDt K H' v d:=RDt.rec (motive_1:=λv d _=>RD K H' v d) (motive_2:=λv d _=>RDs K H' v d) (motive_3:=λv d _=>RDk K H' v d) (motive_4:=λv d _=>RDt K H' v d) .none .bool .int .str (λh _ r=>.list (e.seq h) r) (λh _ r=>.tuple (e _ _ h) r) (λh _ r=>.dictK (e _ _ h) r) (λh n _ r=>.dictT (e _ _ h) n r) (λh n _ r=>.dictF (e _ _ h) n r) .nil (λ_ _ a b=>.cons a b) .nil (λ_ _ a b=>.cons a b) .nil (λ_ _ a b=>.cons a b) h
mutual
def wJ:D->Bool
 |.dict _=>false
 |.list xs=>noDs xs
 |.tuple xs=>noDs xs
 |_=>true
def noDs:List D->Bool
 |[]=>true
 |x::r=>wJ x&&noDs r
end
def Zi(h:(a&&b)=true):a=true:=(Bool.and_eq_true_iff.mp h).1
def Zj(h:(a&&b)=true):b=true:=(Bool.and_eq_true_iff.mp h).2
def RD.rep(h:RD K H v d):wJ d=true->JY K H v d:=RD.rec (motive_1:=λv d _=>wJ d=true->JY K H v d) (motive_2:=λv d _=>noDs d=true->Reps K H v d) (motive_3:=λ_ _ _=>True) (motive_4:=λ_ _ _=>True) (λ_=>.none) (λb _=>.bool b) (λi _=>.int i) (λx _=>.str x) (λh _ r e=>.list h (r e)) (λh _ r e=>.tuple (.of h) (r e)) (λ_ _ _ e=>Ag e) (λ_ _ _ _ e=>Ag e) (λ_ _ _ _ e=>Ag e) (λ_=>.nil) (λ_ _ a b e=>.cons (a (Zi e)) (b (Zj e))) trivial (λ_ _ _ _=>trivial) trivial (λ_ _ _ _=>trivial) h
def RDs.length:∀{ds:List D},RDs K H vs ds->vs.length=ds.length:=by
 induction vs with
 |nil=>intro ds h;cases h;rfl
 |cons x r c=>intro ds h;cases h with|cons a b=>exact congrArg (· + 1) (c b)
def RDs.get:∀{ds:List D}{i:Nat}{v:V},RDs K H vs ds->vs[i]?=some v->∃d,ds[i]?=some d/\RD K H v d:=by
 induction vs with
 |nil=>intro ds i v _ e;cases e
 |cons x r c=>
  intro ds i v h e;cases h with
  |cons a b=>
   cases i with
   |zero=>cases e;exact⟨_,rfl,a⟩
   |succ i=>have q:=c (i:=i) b e;exact q
def RDs.get':∀{ds:List D}{i:Nat}{d:D},RDs K H vs ds->ds[i]?=some d->∃v,vs[i]?=some v/\RD K H v d:=by
 induction vs with
 |nil=>intro ds i v h e;cases h;cases e
 |cons x r c=>
  intro ds i v h e;cases h with
  |cons a b=>
   cases i with
   |zero=>cases e;exact⟨_,rfl,a⟩
   |succ i=>have q:=c (i:=i) b e;exact q
def RDs.append:∀{ds:List D},RDs K H vs ds->RDs K H ws es->RDs K H (vs++ws) (ds++es):=by
 induction vs with
 |nil=>intro ds h s;cases h;exact s
 |cons x r c=>intro ds h s;cases h with|cons a b=>exact .cons a (c b s)
def RDs.drop:∀{ds:List D} (n:Nat),RDs K H vs ds->RDs K H (vs.drop n) (ds.drop n):=by
 induction vs with
 |nil=>intro ds n h;cases h;cases n<;>exact .nil
 |cons x r c=>
  intro ds n h;cases n with
  |zero=>exact h
  |succ n=>cases h with|cons a b=>exact c n b
def RDs.take:∀{ds:List D} (n:Nat),RDs K H vs ds->RDs K H (vs.take n) (ds.take n):=by
 induction vs with
 |nil=>intro ds n h;cases h;cases n<;>exact .nil
 |cons x r c=>
  intro ds n h;cases n with
  |zero=>exact .nil
  |succ n=>cases h with|cons a b=>exact .cons a (c n b)
theorem tT:∀(ss:List Str),RDs K H (ss.map V.str) (ss.map aN)
 |[]=>.nil
 |x::r=>.cons (.str x) (tT r)
def RD.str_inv(h:RD K H v (.str x)):v=.str x:=by cases h;rfl
def RD.bool_inv(h:RD K H v (.bool x)):v=.bl x:=by cases h;rfl
def RD.int_inv(h:RD K H v (.int x)):v=.int x:=by cases h;rfl
def EO{e:Type}{c:e->D}{k:e->V}(g:∀{v x},RD K H v (c x)->v=k x){ss:List e}:∀{d:List V},RDs K H d (ss.map c)->d=ss.map k:=by
 induction ss with
 |nil=>intro d h;cases h;rfl
 |cons x r f=>intro d h;cases h with|cons a b=>rw[g a,f b];rfl
def j5{ss:List Str}{a:List V}:RDs K H a (ss.map aN)->a=ss.map V.str:=EO RD.str_inv
def CI{ss:List Bool}{a:List V}:RDs K H a (ss.map bQ)->a=ss.map V.bl:=EO RD.bool_inv
def nt:HO->Bool
 |.tup _=>false
 |_=>true
structure db (H Hs H' Hs':Hp):Prop where
 all:eD H H'
 sh:eD Hs Hs'
 sub:eD Hs' H'
 out:∀a o,H a=some o->nt o=true->Hs a=none->Hs' a=none
theorem db.refl(h:eD Hs H):db H Hs H Hs:=⟨.refl _,.refl _,h,λ_ _ _ _ e=>e⟩
theorem db.trans(a:db H Hs H1 Hs1)(b:db H1 Hs1 H2 Hs2):db H Hs H2 Hs2:=
 ⟨a.all.trans b.all,a.sh.trans b.sh,b.sub,λc o e t n=>b.out c o (a.all c o e) t (a.out c o e t n)⟩
def db.new(h:eD Hs H)(n:H p=none):db H Hs (upd H p o) (upd Hs p o):=by
 have d:Hs p=none:=h.free n;refine⟨oN n,oN d,λb u e=>?_,λa u e t z=>?_⟩
 ·by_cases c:b=p
  ·subst c;rw[bB] at e ⊢;exact e
  ·rw[bG c] at e ⊢;exact h b u e
 ·rw[bG (cu e n)];exact z
def db.mine(h:eD Hs H)(n:H p=none):db H Hs (upd H p o) Hs:=by
 refine⟨oN n,.refl _,λb u e=>?_,λa u e t z=>z⟩;have c:=h b u e;rw[bG (cu c n)];exact c
inductive pA (K:af) (Hs:Hp):HO->D->Prop
 |lst {vs:List V}{ds:List D}:RDs K Hs vs ds->pA K Hs (.lst vs) (.list ds)
 |dK {kvs:List (iL×V)}{ds:List (D×D)}:RDk K Hs kvs ds->pA K Hs (.dK kvs) (.dict ds)
 |dT {kvs:List (List iL×V)}{ds:List (D×D)}:kvs≠[]->RDt K Hs kvs ds->pA K Hs (.dT kvs) (.dict ds)
 |dF {o:Obj}{kvs:List (List iL×V)}{ds:List (D×D)}:kvs≠[]->RDt K Hs kvs ds->pA K Hs (.frz o (.dT kvs)) (.dict ((.none,.none)::ds))
theorem pA.same(e:eD Hs Hs')(h:pA K Hs o d):pA K Hs' o d:=by
 cases h with
 |lst r=>exact .lst (r.same e)
 |dK r=>exact .dK (r.same e)
 |dT n r=>exact .dT n (r.same e)
 |dF n r=>exact .dF n (r.same e)
def pA.nt(h:pA K Hs o d):J.nt o=true:=by cases h<;>rfl
def pA.share(n:Hs a=none)(h:pA K Hs o d):RD K (upd Hs a o) (.ref a) d:=by
 have e:eD Hs (upd Hs a o):=oN n;cases h with
 |lst r=>exact .list (.of bB) (r.same e)
 |dK r=>exact .dictK bB (r.same e)
 |dT n r=>exact .dictT bB n (r.same e)
 |dF n r=>exact .dictF bB n (r.same e)
inductive Sl where
 |no
 |shr (d:D)
 |own (d:D)
 |lck (d:D)
 |ow2 (dss:List (List D))
abbrev aI:=List Sl
inductive Dr (K:af) (H Hs:Hp):List av->List (List D)->Prop
 |nil:Dr K H Hs [] []
 |cons {a:av}{as:List av}{vs:List V}{ds:List D}{dss:List (List D)}:H a=some (.lst vs)->RDs K Hs vs ds->Dr K H Hs as dss->Dr K H Hs (a::as) (ds::dss)
def Dr.step(e:eD H H')(a:eD Hs Hs')(h:Dr K H Hs as dss):Dr K H' Hs' as dss:=by
 induction h with
 |nil=>exact .nil
 |cons h r t b=>exact .cons (e _ _ h) (r.same a) b
def Dr.upd(n:b∉as)(h:Dr K H Hs as dss):Dr K (upd H b o) Hs as dss:=by
 induction h with
 |nil=>exact .nil
 |cons h r t a=>exact .cons (by rw[bG (λz=>n (by rw[<- z];exact aq))];exact h) r (a λz=>n (ak _ z))
def Dr.there(h:Dr K H Hs as dss)(hb:b∈as):∃o,H b=some o/\nt o=true:=by
 induction h with
 |nil=>cases hb
 |cons h r t a=>
  rcases List.mem_cons.mp hb with e|hb
  ·exact⟨_,e ▸ h,rfl⟩
  ·exact a hb
structure O2 (K:af) (H0 H Hs:Hp) (ρ:aI) (σ:St) (i:Nat) (dss:List (List D)) (a:av) (as:List av):Prop where
 at_:σ[i]?=some (some (V.ref a))
 ob:H a=some (.lst (as.map V.ref))
 nd:(a::as).Nodup
 out:∀b∈a::as,Hs b=none/\H0 b=none
 dj:∀b∈a::as,∀(j:Nat) (e:D),ρ[j]?=some (Sl.own e)->σ[j]?≠some (some (V.ref b))
 inn:Dr K H Hs as dss
structure Fr (K:af) (H0 Hs0:Hp) (la:Nat->Option av) (ρ:aI) (σ:St) (H Hs:Hp):Prop where
 st:db H0 Hs0 H Hs
 len:ρ.length=σ.length
 sh:∀(i:Nat) (d:D),ρ[i]?=some (Sl.shr d)->∃v,σ[i]?=some (some v)/\RD K Hs v d
 ow:∀(i:Nat) (d:D),ρ[i]?=some (Sl.own d)->∃a o,σ[i]?=some (some (V.ref a))/\H a=some o/\Hs a=none/\H0 a=none/\pA K Hs o d
 lk:∀(i:Nat) (d:D),ρ[i]?=some (Sl.lck d)->∃a o,σ[i]?=some (some (V.ref a))/\la i=some a/\H a=some o/\Hs a=none/\H0 a=some o/\pA K Hs o d
 dj:∀(i j:Nat) (d e:D) (a:av),ρ[i]?=some (Sl.own d)->ρ[j]?=some (Sl.own e)->σ[i]?=some (some (V.ref a))->σ[j]?=some (some (V.ref a))->i=j
 lh:∀(i:Nat) (a:av),la i=some a->∃o,H0 a=some o
 o2:∀(i:Nat) (dss:List (List D)),ρ[i]?=some (Sl.ow2 dss)->∃a as,O2 K H0 H Hs ρ σ i dss a as
 u2:∀(i j:Nat) (d e:List (List D)),ρ[i]?=some (Sl.ow2 d)->ρ[j]?=some (Sl.ow2 e)->i=j
theorem Fr.step(f:Fr K H0 Hs0 la ρ σ H Hs)(s:db H Hs H' Hs'):Fr K H0 Hs0 la ρ σ H' Hs':=by
 refine⟨f.st.trans s,f.len,λi d e=>?_,λi d e=>?_,λi d e=>?_,f.dj,f.lh,λi l e=>?_,f.u2⟩
 ·obtain⟨v,g,c⟩:=f.sh i d e;exact⟨v,g,c.same s.sh⟩
 ·obtain⟨a,o,g,c,j,m,k⟩:=f.ow i d e;exact⟨a,o,g,s.all _ _ c,s.out _ _ c k.nt j,m,k.same s.sh⟩
 ·obtain⟨a,o,g,c,j,m,k,n⟩:=f.lk i d e;exact⟨a,o,g,c,s.all _ _ j,s.out _ _ j n.nt m,k,n.same s.sh⟩
 ·obtain⟨a,q,h⟩:=f.o2 i l e;refine⟨a,q,h.at_,s.all _ _ h.ob,h.nd,λb hb=>⟨?_,(h.out b hb).2⟩,h.dj,h.inn.step s.all s.sh⟩;have there:∃o,H b=some o/\nt o=true:=by
   rcases List.mem_cons.mp hb with rfl|hb
   ·exact⟨_,h.ob,rfl⟩
   ·exact h.inn.there hb
  obtain⟨o,ho,p⟩:=there;exact s.out b o ho p (h.out b (by assumption)).1
inductive Zk (K:af) (H Hs:Hp) (v:V) (d:D):Prop
 |mk (a:av) (o:HO) (h0:v=.ref a) (h1:H a=some o) (h2:Hs a=none) (h3:pA K Hs o d):Zk K H Hs v d
def RB(K:af)(H Hs:Hp)(v:V)(d:D):Prop:=RD K Hs v d\/Zk K H Hs v d
def RB.step(h:RB K H Hs v d)(s:db H Hs H' Hs'):RB K H' Hs' v d:=by
 rcases h with h|⟨a,o,h1,h2,h3,h4⟩
 ·exact .inl (h.same s.sh)
 ·exact .inr ⟨a,o,h1,s.all _ _ h2,s.out _ _ h2 h4.nt h3,h4.same s.sh⟩
def RB.full(sub:eD Hs H)(h:RB K H Hs v d):RD K H v d:=by
 rcases h with h|⟨a,o,rfl,h2,h3,h4⟩
 ·exact h.same sub
 ·have e:eD (upd Hs a o) H:=λb u q=>by
   by_cases c:b=a
   ·subst c;rw[bB] at q;cases q;exact h2
   ·rw[bG c] at q;exact sub b u q
  exact(h4.share h3).same e
theorem RB.list(sub:eD Hs H)(h:RB K H Hs v (.list ds)):∃a b,v=.ref a/\sQ K H a b/\RDs K Hs b ds:=by
 rcases h with h|⟨a,o,rfl,h2,h3,h4⟩
 ·cases h with|list q r=>exact⟨_,_,rfl,sub.seq q,r⟩
 ·cases h4 with|lst r=>exact⟨a,_,rfl,.of h2,r⟩
theorem RB.tuple(sub:eD Hs H)(h:RB K H Hs v (.tuple ds)):∃a b,v=.ref a/\mD K H a b/\RDs K Hs b ds/\Hs a=some (.tup b):=by
 rcases h with h|⟨a,o,rfl,h2,h3,h4⟩
 ·cases h with|tuple q r=>exact⟨_,_,rfl,.of (sub _ _ q),r,q⟩
 ·cases h4
def RB.str(h:RB K H Hs v (.str x)):v=.str x:=by
 rcases h with h|⟨a,o,rfl,h2,h3,h4⟩
 ·exact h.str_inv
 ·cases h4
def RB.int(h:RB K H Hs v (.int i)):v=.int i:=by
 rcases h with h|⟨a,o,rfl,h2,h3,h4⟩
 ·exact h.int_inv
 ·cases h4
def XW(K:af)(cls:Str->av)(E:XK)(c:Str)(n:Option D)(H Hs:Hp):Prop:=match n with
 |none=>E (.ref (cls c)) none H
 |some d=>∀a v,H a=some (.xd [("number",v)])->RD K Hs v d->E (.ref (cls c)) (some a) H
def Fin{b:Type}(K:af)(cls:Str->av)(E:XK)(H Hs:Hp)(r:R b)(q:b->Prop):Prop:=match r with
 |.ok d=>q d
 |.ex c n=>∀H' a,db H Hs H' a->XW K cls E c n H' a
 |.no=>False
inductive TRI (K:af) (cls:Str->av) (E:XK) (ρ:aI) (r:R D) (σ:St) (H:Hp) (Q:VK):Prop
 |mk (H0 Hs0:Hp) (la:Nat->Option av) (Hs:Hp) (f:Fr K H0 Hs0 la ρ σ H Hs) (q:Fin K cls E H Hs r λd=>∀v H' Hs',db H Hs H' Hs'->RD K Hs' v d->Q v H'):TRI K cls E ρ r σ H Q
def TR(K:af)(cls:Str->av)(E:XK)(ρ:aI)(r:R D):TE:=TRI K cls E ρ r
inductive TBI (K:af) (cls:Str->av) (E:XK) (ρ:aI) (r:R D) (σ:St) (H:Hp) (Q:VK):Prop
 |mk (H0 Hs0:Hp) (la:Nat->Option av) (Hs:Hp) (f:Fr K H0 Hs0 la ρ σ H Hs) (q:Fin K cls E H Hs r λd=>∀v H' Hs',db H Hs H' Hs'->RB K H' Hs' v d->Q v H'):TBI K cls E ρ r σ H Q
def TB(K:af)(cls:Str->av)(E:XK)(ρ:aI)(r:R D):TE:=TBI K cls E ρ r
inductive Zl (K:af) (cls:Str->av) (E:XK) (ρ:aI) (r:R Bool) (σ:St) (H:Hp) (Q:Bool->Hp->Prop):Prop
 |mk (H0 Hs0:Hp) (la:Nat->Option av) (Hs:Hp) (f:Fr K H0 Hs0 la ρ σ H Hs) (q:Fin K cls E H Hs r λb=>∀H' Hs',db H Hs H' Hs'->Q b H'):Zl K cls E ρ r σ H Q
def GK(K:af)(cls:Str->av)(E:XK)(ρ:aI)(r:R Bool):TT:=Zl K cls E ρ r
inductive VS (K:af) (H Hs:Hp):List V->List D->Prop
 |nil:VS K H Hs [] []
 |cons {x:V}{xs:List V}{d:D}{ds:List D}:RB K H Hs x d->VS K H Hs xs ds->VS K H Hs (x::xs) (d::ds)
inductive Zm (K:af) (cls:Str->av) (E:XK) (ρ:aI) (r:R (List D)) (σ:St) (H:Hp) (Q:List V->Hp->Prop):Prop
 |mk (H0 Hs0:Hp) (la:Nat->Option av) (Hs:Hp) (f:Fr K H0 Hs0 la ρ σ H Hs) (q:Fin K cls E H Hs r λd=>∀v H' Hs',db H Hs H' Hs'->RDs K Hs' v d->Q v H'):Zm K cls E ρ r σ H Q
def TAs(K:af)(cls:Str->av)(E:XK)(ρ:aI)(r:R (List D)):TA:=Zm K cls E ρ r
inductive Zn (K:af) (cls:Str->av) (E:XK) (ρ:aI) (r:R (List D)) (σ:St) (H:Hp) (Q:List V->Hp->Prop):Prop
 |mk (H0 Hs0:Hp) (la:Nat->Option av) (Hs:Hp) (f:Fr K H0 Hs0 la ρ σ H Hs) (q:Fin K cls E H Hs r λd=>∀v H' Hs',db H Hs H' Hs'->VS K H' Hs' v d->Q v H'):Zn K cls E ρ r σ H Q
def TBs(K:af)(cls:Str->av)(E:XK)(ρ:aI)(r:R (List D)):TA:=Zn K cls E ρ r
structure C where
 X:Cx
 cls:Str->av
 E:XK
structure JE (c:C) (e:bJ) (g:aI->R D):Prop where of ::
 run:∀ ρ,PE c.X e (TR c.X.K c.cls c.E ρ (g ρ))
instance{c:C}{e:bJ}{g:aI->R D}:CoeFun (JE c e g) (λ_=>∀ ρ,PE c.X e (TR c.X.K c.cls c.E ρ (g ρ))):=⟨JE.run⟩
structure JB (c:C) (e:bJ) (g:aI->R D):Prop where of ::
 run:∀ ρ,PE c.X e (TB c.X.K c.cls c.E ρ (g ρ))
instance{c:C}{e:bJ}{g:aI->R D}:CoeFun (JB c e g) (λ_=>∀ ρ,PE c.X e (TB c.X.K c.cls c.E ρ (g ρ))):=⟨JB.run⟩
structure JT (c:C) (e:bJ) (g:aI->R Bool):Prop where of ::
 run:∀ ρ,PT c.X e (GK c.X.K c.cls c.E ρ (g ρ))
instance{c:C}{e:bJ}{g:aI->R Bool}:CoeFun (JT c e g) (λ_=>∀ ρ,PT c.X e (GK c.X.K c.cls c.E ρ (g ρ))):=⟨JT.run⟩
structure JW (c:C) (e:bJ) (g:aI->R Bool):Prop where of ::
 run:∀ ρ,PW c.X e (GK c.X.K c.cls c.E ρ (g ρ))
instance{c:C}{e:bJ}{g:aI->R Bool}:CoeFun (JW c e g) (λ_=>∀ ρ,PW c.X e (GK c.X.K c.cls c.E ρ (g ρ))):=⟨JW.run⟩
structure Nr (c:C) (es:List bJ) (g:aI->R (List D)):Prop where of ::
 run:∀ ρ,PA c.X es (TAs c.X.K c.cls c.E ρ (g ρ))
instance{c:C}{es:List bJ}{g:aI->R (List D)}:CoeFun (Nr c es g) (λ_=>∀ ρ,PA c.X es (TAs c.X.K c.cls c.E ρ (g ρ))):=⟨Nr.run⟩
structure VT (c:C) (es:List bJ) (g:aI->R (List D)):Prop where of ::
 run:∀ ρ,PA c.X es (TBs c.X.K c.cls c.E ρ (g ρ))
instance{c:C}{es:List bJ}{g:aI->R (List D)}:CoeFun (VT c es g) (λ_=>∀ ρ,PA c.X es (TBs c.X.K c.cls c.E ρ (g ρ))):=⟨VT.run⟩
def tU(h:PE X e t)(m:∀a H Q,t' a H Q->t a H Q):PE X e t':=λb s a H Q I q=>h b s a H Q I (m a H Q q)
def YB(h:PT X e t)(m:∀a H Q,t' a H Q->t a H Q):PT X e t':=λb s a H Q I q=>h b s a H Q I (m a H Q q)
def mPW(h:PW X e t)(m:∀a H Q,t' a H Q->t a H Q):PW X e t':=λc b s a H Q I q=>h c b s a H Q I (m a H Q q)
def mPA{X:Cx}{e:List bJ}{t t':TA}(h:PA X e t)(m:∀a H Q,t' a H Q->t a H Q):PA X e t':=λc b s a H Q I q=>h c b s a H Q I (m a H Q q)
def CJ{X:Cx}{e:fg}{t t':TS}(h:PS X e t)(m:∀D a H,t' D a H->t D a H):PS X e t':=λb s a H Q I q=>h b s a H Q I (m Q a H q)
def q0T{X:Cx}{e:List fg}{t t':TS}(h:Lk X e t)(m:∀D a H,t' D a H->t D a H):Lk X e t':=λb s a H Q I q=>h b s a H Q I (m Q a H q)
def JE.bor(h:JE c e g):JB c e g:=.of λρ=>tU (h ρ) λk H Q ⟨j,b,la,Hs,f,q⟩=>⟨j,b,la,Hs,f,by
 cases a:g ρ with
 |ok d=>rw[a] at q;exact λv H' i s r=>q v H' i s (.inl r)
 |ex c n=>rw[a] at q;exact q
 |no=>rw[a] at q;exact q⟩
def one{K:af}{cls:Str->av}{E:XK}{ρ:aI}{r:R D}{i:Type}{k:D->R i}{e:St}{H:Hp}{g b Hs:Hp}{la:Nat->Option av}{Q:V->Hp->Prop}{q:i->Prop}(f:Fr K g b la ρ e H Hs)
  (h:Fin K cls E H Hs (r.bind k) q) (m:∀d v H' a,r=.ok d->db H Hs H' a->Fr K g b la ρ e H' a->RB K H' a v d->Q v H'):TB K cls E ρ r e H Q:=by
 refine⟨g,b,la,Hs,f,?_⟩;cases r with
 |ok d=>exact λv H' a s r=>m d v H' a rfl s (f.step s) r
 |ex c n=>exact h
 |no=>exact h
def CK{K:af}{cls:Str->av}{E:XK}{ρ:aI}{r:R D}{i:Type}{k:D->R i}{e:St}{H:Hp}{g b Hs:Hp}{la:Nat->Option av}{Q:V->Hp->Prop}{q:i->Prop}(f:Fr K g b la ρ e H Hs)
  (h:Fin K cls E H Hs (r.bind k) q) (m:∀d v H' a,r=.ok d->db H Hs H' a->Fr K g b la ρ e H' a->RD K a v d->Q v H'):TR K cls E ρ r e H Q:=by
 refine⟨g,b,la,Hs,f,?_⟩;cases r with
 |ok d=>exact λv H' a s r=>m d v H' a rfl s (f.step s) r
 |ex c n=>exact h
 |no=>exact h
def Nt{K:af}{cls:Str->av}{E:XK}{ρ:aI}{r:R Bool}{i:Type}{k:Bool->R i}{e:St}{H:Hp}{g b Hs:Hp}{la:Nat->Option av}{Q:Bool->Hp->Prop}{q:i->Prop}(f:Fr K g b la ρ e H Hs)
  (h:Fin K cls E H Hs (r.bind k) q) (m:∀d H' a,r=.ok d->db H Hs H' a->Fr K g b la ρ e H' a->Q d H'):GK K cls E ρ r e H Q:=by
 refine⟨g,b,la,Hs,f,?_⟩;cases r with
 |ok d=>exact λH' a s=>m d H' a rfl s (f.step s)
 |ex c n=>exact h
 |no=>exact h
def K0{K:af}{cls:Str->av}{E:XK}{ρ:aI}{r:R (List D)}{i:Type}{k:List D->R i}{e:St}{H:Hp}{g b Hs:Hp}{la:Nat->Option av}{Q:List V->Hp->Prop}{q:i->Prop}(f:Fr K g b la ρ e H Hs)
  (h:Fin K cls E H Hs (r.bind k) q) (m:∀d v H' a,r=.ok d->db H Hs H' a->Fr K g b la ρ e H' a->RDs K a v d->Q v H'):TAs K cls E ρ r e H Q:=by
 refine⟨g,b,la,Hs,f,?_⟩;cases r with
 |ok d=>exact λv H' a s r=>m d v H' a rfl s (f.step s) r
 |ex c n=>exact h
 |no=>exact h
def Qa{K:af}{cls:Str->av}{E:XK}{ρ:aI}{r:R (List D)}{i:Type}{k:List D->R i}{e:St}{H:Hp}{g b Hs:Hp}{la:Nat->Option av}{Q:List V->Hp->Prop}{q:i->Prop}(f:Fr K g b la ρ e H Hs)
  (h:Fin K cls E H Hs (r.bind k) q) (m:∀d v H' a,r=.ok d->db H Hs H' a->Fr K g b la ρ e H' a->VS K H' a v d->Q v H'):TBs K cls E ρ r e H Q:=by
 refine⟨g,b,la,Hs,f,?_⟩;cases r with
 |ok d=>exact λv H' a s r=>m d v H' a rfl s (f.step s) r
 |ex c n=>exact h
 |no=>exact h
def Fin.on{e:Type}{K:af}{cls:Str->av}{E:XK}{H Hs H' b:Hp}{r:R e}{q q':e->Prop}(h:Fin K cls E H Hs r q)(s:db H Hs H' b)(m:∀a,q a->q' a):Fin K cls E H' b r q':=by
 cases r with
 |ok a=>exact m a h
 |ex c n=>exact λf d g=>h f d (s.trans g)
 |no=>exact h
def J7(ρ:aI)(i:Nat):R D:=match ρ[i]? with
 |some (Sl.shr d)=>.ok d
 |_=>.no
def J8(ρ:aI)(i:Nat):R D:=match ρ[i]? with
 |some (Sl.shr d)=>.ok d
 |some (Sl.own d)=>.ok d
 |some (Sl.lck d)=>.ok d
 |_=>.no
section
variable{c:C}{e a b:bJ}{g ga gb:aI->R D}{pos:Pos}
def aw(i:Nat)(l:c.X.N[i]?=some x:=by rfl)(p:T6 c.X.env.scope x:=by first|exact jC rfl|exact gy (jC rfl)|exact gy (gy rfl))(n:(x==("__debug__" : Str))=false:=by decide)
  (k:(x==("__classdict__" : Str))=false:=by decide):JE c (.Name x pos) (λρ=>J7 ρ i):=.of λρ=>tU (tL l p n k) λu H Q j=>by
 obtain⟨w,t,la,Hs,f,q⟩:=j;cases h:ρ[i]? with
 |none=>simp only[J7,h] at q;exact q.elim
 |some s=>
  cases s with
  |shr d=>
   obtain⟨v,m,o⟩:=f.sh i d h;simp only[J7,h] at q;exact⟨v,m,q v H Hs (.refl f.st.sub) o⟩
  |no=>simp only[J7,h] at q;exact q.elim
  |own d=>simp only[J7,h] at q;exact q.elim
  |lck d=>simp only[J7,h] at q;exact q.elim
  |ow2 d=>simp only[J7,h] at q;exact q.elim
theorem ar(i:Nat)(u:c.X.N[i]?=some x:=by rfl)(z:T6 c.X.env.scope x:=by first|exact jC rfl|exact gy (jC rfl)|exact gy (gy rfl))(y:(x==("__debug__" : Str))=false:=by decide)
  (l:(x==("__classdict__" : Str))=false:=by decide):JB c (.Name x pos) (λρ=>J8 ρ i):=.of λρ=>tU (tL u z y l) λB H Q n=>by
 obtain⟨E,A,la,Hs,f,q⟩:=n;cases h:ρ[i]? with
 |none=>simp only[J8,h] at q;exact q.elim
 |some s=>
  cases s with
  |shr d=>
   obtain⟨v,j,k⟩:=f.sh i d h;simp only[J8,h] at q;exact⟨v,j,q v H Hs (.refl f.st.sub) (.inl k)⟩
  |no=>simp only[J8,h] at q;exact q.elim
  |own d=>
   obtain⟨a,o,j,k,m,p,t⟩:=f.ow i d h;simp only[J8,h] at q;exact⟨_,j,q _ H Hs (.refl f.st.sub) (.inr ⟨a,o,rfl,k,m,t⟩)⟩
  |lck d=>
   obtain⟨a,o,j,k,m,p,t,w⟩:=f.lk i d h;simp only[J8,h] at q;exact⟨_,j,q _ H Hs (.refl f.st.sub) (.inr ⟨a,o,rfl,m,p,w⟩)⟩
  |ow2 d=>simp only[J8,h] at q;exact q.elim
def xi(h:PE c.X e (tC v))(r:∀Hs,RD c.X.K Hs v d):JE c e (λ_=>.ok d):=.of λρ=>tU h λk H Q i=>by obtain⟨l,j,la,Hs,f,q⟩:=i;exact q v H Hs (.refl f.st.sub) (r Hs)
def aQ:JE c (.Constant (.int i) j pos) (λ_=>.ok (.int i)):=xi WQ λ_=>.int i
def mh:JE c (.Constant (.bool i) j pos) (λ_=>.ok (.bool i)):=xi YJ λ_=>.bool i
def EQ:JE c (.Constant (.str i) j pos) (λ_=>.ok (.str i)):=xi WR λ_=>.str i
def xj(f:Gl c.X x)(d:∃t,c.X.mg x=some (.int i t))(h:(x==("__debug__" : Str))=false:=by decide):JE c (.Name x pos) (λ_=>.ok (.int i)):=by
 obtain⟨t,d⟩:=d;exact xi (TJ f d (v:=.int i) ⟨t,rfl⟩ h) λ_=>.int i
inductive rDI (K:af) (h:D->D->R D) (x:V) (y:V) (H:Hp) (Q:VK):Prop
 |mk (Hs dx dy:_) (h0:eD Hs H) (h1:RB K H Hs x dx) (h2:RB K H Hs y dy) (h3:∃d,h dx dy=.ok d/\∀v H' Hs',db H Hs H' Hs'->RD K Hs' v d->Q v H'):rDI K h x y H Q
def rD(K:af)(h:D->D->R D):R2:=rDI K h
def Am(X:Cx)(f:ai->ai->Sem ai)(h:D->D->R D):Prop:=tO X f (rD X.K h)/\∀x y c n,h x y≠.ex c n
def g2(ga gb:aI->R D)(h:D->D->R D):aI->R D:=λρ=>(ga ρ).bind λx=>(gb ρ).bind λy=>h x y
def two(G:∀x y c n,h x y≠.ex c n)(q:TR K cls E ρ (g2 ga gb h ρ) σ H Q):YV (rD K h) (TB K cls E ρ (ga ρ)) (TB K cls E ρ (gb ρ)) σ H Q:=by
 obtain⟨N,I,la,Hs,f,q⟩:=q;refine one f q λx v M o t s1 s z=>?_;unfold g2 at q;rw[t,bind_ok] at q;refine one s (q.on s1 (q':=λ_=>True) λ_ _=>trivial) λy u O k L l m A=>?_;rw[L,bind_ok] at q;cases i:h x y with
 |ok d=>
  rw[i] at q;exact⟨k,x,y,m.st.sub,z.step l,A,d,i,λw p j s3 B=>q w p j (s1.trans (l.trans s3)) B⟩
 |ex c n=>exact(G x y c n i).elim
 |no=>rw[i] at q;exact q.elim
def cJ(ho:Am c.X (iE op) h)(d:JB c a ga)(f:JB c b gb):JE c (.BinOp a op b pos) (g2 ga gb h):=.of λρ=>tU (VD ho.1 (d ρ) (f ρ)) λi H Q q=>two ho.2 q
def ms(ho:Am c.X (cj op) h)(f:JB c a ga)(i:JB c b gb)(d:iU op b=false:=by first|exact Po _|rfl):JE c (.Compare a [op] [b] pos) (g2 ga gb h):=.of λρ=>tU (TW ho.1 (f ρ) (i ρ) d) λj H Q q=>two ho.2 q
def fF(g:aI->R D):aI->R Bool:=λρ=>(g ρ).bind λd=>match d with
 |.bool b=>.ok b
 |_=>.no
theorem YC(q:GK K cls E ρ (fF g ρ) σ H Q):TR K cls E ρ (g ρ) σ H λx H'=>∃k,x=.bl k/\Q k H':=by
 obtain⟨o,m,la,Hs,f,q⟩:=q;refine CK f q λd v i h j s1 n l=>?_;unfold fF at q;rw[j,bind_ok] at q;cases l with
 |bool b=>exact⟨b,rfl,q i h s1⟩
 |_=>exact q.elim
def eV(ho:Am c.X (cj op) h)(f:JB c a ga)(i:JB c b gb)(d:iU op b=false:=by first|exact Po _|rfl):JT c (.Compare a [op] [b] pos) (fF (g2 ga gb h)):=.of λρ=>YB (TX ho.1 (f ρ) (i ρ) d) λj H Q q=>two ho.2 (YC q)
def fX(h:JE c e g)(he:∀d,AA e c.X.env d=(do let v <- d;qP e.pos;OW [v] (truthy v)):=by intro _;rfl):JT c e (fF g):=.of λρ=>YB (WS (h ρ) he) λf H Q q=>YC q
def j6(g:aI->R Bool):aI->R Bool:=λρ=>(g ρ).bind λb=>.ok (!b)
def K1(g h:aI->R Bool):aI->R Bool:=λρ=>(g ρ).bind λb=>if b then h ρ else .ok false
def yc(g h:aI->R Bool):aI->R Bool:=λρ=>(g ρ).bind λb=>if b then .ok true else h ρ
variable{gt gu:aI->R Bool}{bM:List bJ}
def hJ(h:JT c e gt):JT c (.UnaryOp .Not e pos) (j6 gt):=.of λρ=>YB (WV (h ρ)) λm H Q q=>by
 obtain⟨o,l,la,Hs,f,q⟩:=q;refine Nt f q λd j i k s1 n=>?_;unfold j6 at q;rw[k,bind_ok] at q;exact q j i s1
def ER(h:JT c a gt):JW c (.BoolOp .And [a] pos) gt:=.of λρ=>TL (h ρ)
def lN(h:JT c a gt):JW c (.BoolOp .Or [a] pos) gt:=.of λρ=>WT (h ρ)
def K2(h:JT c a gt)(u:JW c (.BoolOp .And (b::bM) pos) gu):JW c (.BoolOp .And (a::b::bM) pos) (K1 gt gu):=.of λρ=>mPW (WU (h ρ) (u ρ)) λv H Q q=>by
 obtain⟨n,l,la,Hs,f,q⟩:=q;refine Nt f q λd m i s s1 o=>?_;unfold K1 at q;rw[s,bind_ok] at q;cases d with
 |true=>exact zV ⟨n,l,la,i,o,q.on s1 λb k p j t=>k p j (s1.trans t)⟩
 |false=>exact zU (q m i s1)
def mU(h:JT c a gt)(u:JW c (.BoolOp .Or (b::bM) pos) gu):JW c (.BoolOp .Or (a::b::bM) pos) (yc gt gu):=.of λρ=>mPW (YK (h ρ) (u ρ)) λv H Q q=>by
 obtain⟨n,l,la,Hs,f,q⟩:=q;refine Nt f q λd m i s s1 o=>?_;unfold yc at q;rw[s,bind_ok] at q;cases d with
 |false=>exact zU ⟨n,l,la,i,o,q.on s1 λb k p j t=>k p j (s1.trans t)⟩
 |true=>exact zV (q m i s1)
def JW.t(h:JW c e gt):JT c e gt:=.of λρ=>(h ρ).pt
def xk(g:aI->R D):aI->R D:=λρ=>(fF g ρ).bind λb=>.ok (.bool (!b))
def ES(h:JE c e g):JE c (.UnaryOp .Not e pos) (xk g):=.of λρ=>tU (WY (h ρ)) λm H Q q=>by
 refine YC ?_;obtain⟨o,l,la,Hs,f,q⟩:=q;refine Nt f q λd j i k s1 n=>?_;unfold xk at q;rw[k,bind_ok] at q;exact q _ j i s1 (.bool _)
def q_(g h:aI->R D):aI->R D:=λρ=>(fF g ρ).bind λb=>if b then h ρ else .ok (.bool false)
def K3(g h:aI->R D):aI->R D:=λρ=>(fF g ρ).bind λb=>if b then .ok (.bool true) else h ρ
def tV(h:JE c a g):JE c (.BoolOp op [a] pos) g:=.of λρ=>WW (h ρ)
def wa(h:JE c a ga)(u:JE c (.BoolOp .And (b::bM) pos) gb):JE c (.BoolOp .And (a::b::bM) pos) (q_ ga gb):=.of λρ=>tU (WX (h ρ) (u ρ)) λx H Q q=>by
 refine YC ?_;obtain⟨n,l,la,Hs,f,q⟩:=q;refine Nt f q λd m i s s1 o=>?_;unfold q_ at q;rw[s,bind_ok] at q;cases d with
 |true=>exact zV ⟨n,l,la,i,o,q.on s1 λb k v p j t w=>k v p j (s1.trans t) w⟩
 |false=>exact zU (q _ m i s1 (.bool _))
def Zo(h:JE c a ga)(u:JE c (.BoolOp .Or (b::bM) pos) gb):JE c (.BoolOp .Or (a::b::bM) pos) (K3 ga gb):=.of λρ=>tU (YN (h ρ) (u ρ)) λx H Q q=>by
 refine YC ?_;obtain⟨n,l,la,Hs,f,q⟩:=q;refine Nt f q λd m i s s1 o=>?_;unfold K3 at q;rw[s,bind_ok] at q;cases d with
 |false=>exact zU ⟨n,l,la,i,o,q.on s1 λb k v p j t w=>k v p j (s1.trans t) w⟩
 |true=>exact zV (q _ m i s1 (.bool _))
def tW(ga gb d:aI->R D)(h h':D->D->R D):aI->R D:=λρ=>(ga ρ).bind λx=>(gb ρ).bind λy=>(h x y).bind λz=>match z with
 |.bool true=>(d ρ).bind λw=>h' y w
 |.bool false=>.ok (.bool false)
 |_=>.no
def ag(g:aI->R D)(f:aI->R (List D)):aI->R (List D):=λρ=>(g ρ).bind λd=>(f ρ).bind λds=>.ok (d::ds)
def aJ:aI->R (List D):=λ_=>.ok []
def aY:Nr c [] aJ:=.of λρ=>mPA kU λi H Q d=>by obtain⟨j,h,la,Hs,f,q⟩:=d;exact q [] H Hs (.refl f.st.sub) .nil
def cm:VT c [] aJ:=.of λρ=>mPA kU λi H Q d=>by obtain⟨j,h,la,Hs,f,q⟩:=d;exact q [] H Hs (.refl f.st.sub) .nil
def aj(h:JE c e g)(l:Nr c es gs)(hs:a_ (e::es) c.X.env=(false,fO e c.X.env)::a_ es c.X.env:=by rfl):Nr c (e::es) (ag g gs):=.of λρ=>mPA (i_ (h ρ) (l ρ) hs) λy H Q i=>by
 obtain⟨z,u,la,Hs,f,q⟩:=i;refine CK f q λd v x m p s1 n s=>?_;unfold ag at q;rw[p,bind_ok] at q;refine K0 n (q.on s1 (q':=λ_=>True) λ_ _=>trivial) λds B o j w k A t=>?_;rw[w,bind_ok] at q;exact q _ o j (s1.trans k) (.cons (s.same k.sh) t)
def bL(h:JB c e g)(l:VT c es gs)(hs:a_ (e::es) c.X.env=(false,fO e c.X.env)::a_ es c.X.env:=by rfl):VT c (e::es) (ag g gs):=.of λρ=>mPA (i_ (h ρ) (l ρ) hs) λy H Q i=>by
 obtain⟨z,u,la,Hs,f,q⟩:=i;refine one f q λd v x m p s1 n s=>?_;unfold ag at q;rw[p,bind_ok] at q;refine Qa n (q.on s1 (q':=λ_=>True) λ_ _=>trivial) λds B o j w k A t=>?_;rw[w,bind_ok] at q;exact q _ o j (s1.trans k) (.cons (s.step k) t)
def fv(d:aI->R (List D))(k:List D->D):aI->R D:=λρ=>(d ρ).bind λds=>if ds.length<=1000 then .ok (k ds) else .no
def mv{x1}(h:Nr c es gs):JE c (.Tuple es x1 pos) (fv gs .tuple):=.of λρ=>tU (Xd (h ρ)) λt H Q d=>by
 obtain⟨u,o,la,Hs,f,q⟩:=d;refine K0 f q λds v s m n s1 j k=>?_;unfold fv at q;rw[n,bind_ok] at q;by_cases i:ds.length<=1000
 ·rw[if_pos i] at q;refine⟨cB (fE (by rw[k.length];exact i)),λp l=>q _ _ _ (s1.trans (.new j.st.sub l)) (.tuple bB (k.same (db.new j.st.sub l).sh))⟩
 ·rw[if_neg i] at q;exact q.elim
def oO(h:Nr c es gs):JE c (.List es pos) (fv gs .list):=.of λρ=>tU (vY (h ρ)) λt H Q d=>by
 obtain⟨u,o,la,Hs,f,q⟩:=d;refine K0 f q λds v s m n s1 j k=>?_;unfold fv at q;rw[n,bind_ok] at q;by_cases i:ds.length<=1000
 ·rw[if_pos i] at q;refine⟨cB (fE (by rw[k.length];exact i)),λp l=>q _ _ _ (s1.trans (.new j.st.sub l)) (.list (.of bB) (k.same (db.new j.st.sub l).sh))⟩
 ·rw[if_neg i] at q;exact q.elim
end
end J
namespace J
open PySem PySem.Spec PyProof.Rows L2
def fY:D->D->R D
 |.int i,.int j=>.ok (.int (i+j))
 |.str x,.str y=>if x.length+y.length<=1000 then .ok (.str (x++y)) else .no
 |.tuple xs,.tuple ys=>if xs.length+ys.length<=1000 then .ok (.tuple (xs++ys)) else .no
 |.list xs,.list ys=>if xs.length+ys.length<=1000 then .ok (.list (xs++ys)) else .no
 |_,_=>.no
inductive Qb (K:af) (x:V) (y:V) (H:Hp) (Q:VK):Prop
 |mk (l b xs zs:_) (h0:x=.ref l) (h1:y=.ref b) (h2:sQ K H l xs) (h3:sQ K H b zs) (h4:xs.length+zs.length<=sizeLine) (h5:∀p,H p=none->Q (.ref p) (upd H p (.lst (xs++zs)))):Qb K x y H Q
def Zp(K:af):R2:=Qb K
def Ur:tO X (iE .Add) (Zp X.K):=by
 intro k s Y H x y v u Q I A M h;obtain⟨l,b,xs,T,rfl,rfl,w,O,hz,q⟩:=h;cases A;cases M;obtain⟨c,r,⟨o,n,e,p,i,g⟩,z⟩:=I.list w;obtain⟨a,t,⟨B,L,f,d,j,m⟩,z2⟩:=I.list O;obtain⟨U,S,k3,G⟩:=o;obtain⟨m1,m2,P,N⟩:=B;simp only at p i g d j m;subst p i g d j m;refine Cj ⟨_,e,rfl⟩ ⟨_,f,rfl⟩ noFill_list_add seq_list_add PySem.F.slot_list_add PySem.F.entry_list_add (PySem.F.args_list_add_2 _ _) (PyProof.Rows.list_addW l b _ _ n L _ _ G N (by rw[ba,ba,<- r.length,<- t.length];exact hz)) ⟨e,f,?_⟩;have E:c.toArray++a.toArray=(c++a).toArray:=by simp
 rw[E];exact⟨.ref _,_,I.lnew (t':=s.toks) (r.append t) (by rw[aS];omega),rfl,q _ I.fresh⟩
inductive Qc (K:af) (x:V) (y:V) (H:Hp) (Q:VK):Prop
 |mk (a b ys:_) (h0:x=.ref a) (h1:y=.ref b) (h2:mD K H a []) (h3:mD K H b ys) (h4:Q (.ref b) H):Qc K x y H Q
def Zq(K:af):R2:=Qc K
def Us:tO X (iE .Add) (Zq X.K):=by
 intro g s M H x y v u Q I m w h;obtain⟨a,b,ys,rfl,rfl,l,B,q⟩:=h;cases m;cases w;obtain⟨p,r,⟨⟨L,G,S,o⟩,e,j,n,d⟩,z⟩:=I.tuple l;obtain⟨f,P,⟨⟨T,N,E,A⟩,k,c,t,i⟩,O⟩:=I.tuple B;simp only at j d c i;subst j d c i;cases r;exact Cj ⟨_,e,rfl⟩ ⟨_,k,rfl⟩ Eo MK rL qQ (qq _ _)
  (PyProof.Rows.tuple_addW0 a b _ _ n t _ _ o A rfl) ⟨e,k,⟨.ref b,H,I,rfl,q⟩⟩
def e7:Am X (iE .Add) fY:=by
 refine⟨λf s w H x y v u Q I z A ⟨Hs,M,K,sub,i,l,d,g,q⟩=>?_,λx y c n=>?_⟩
 ·unfold fY at g;split at g
  ·cases g;exact X7 f s w H x y v u Q I z A ⟨_,_,i.int,l.int,q _ H Hs (.refl sub) (.int _)⟩
  ·split at g
   ·rename_i hz
    cases g;exact JD f s w H x y v u Q I z A ⟨_,_,i.str,l.str,cB (fE hz),q _ H Hs (.refl sub) (.str _)⟩
   ·cases g
  ·split at g
   ·rename_i xs ys hz
    cases g;obtain⟨a,t,rfl,E,o,_⟩:=i.tuple sub;obtain⟨b,k,rfl,G,m,_⟩:=l.tuple sub;have j:t.length+k.length<=sizeLine:=by rw[o.length,m.length];exact cB (fE hz)
    have big:∀p,H p=none->Q (.ref p) (upd H p (.tup (t++k))):=λp B=>q _ _ _ (.new sub B) (.tuple bB ((o.append m).same (db.new sub B).sh));cases t with
    |nil=>
     cases o;refine Us f s w H _ _ v u Q I z A ⟨a,b,k,rfl,rfl,E,G,?_⟩;rcases l with l|⟨_,_,_,_,_,ow⟩
     ·exact q _ H Hs (.refl sub) (by simpa using l)
     ·cases ow
    |cons N L=>
     refine U5 f s w H _ _ v u Q I z A ⟨a,b,_,k,rfl,rfl,E,G,by simp,j,λe=>?_,λ_=>big⟩;subst e;cases m;rcases i with i|⟨_,_,_,_,_,ow⟩
     ·exact q _ H Hs (.refl sub) (by simpa using i)
     ·cases ow
   ·cases g
  ·split at g
   ·rename_i xs ys hz
    cases g;obtain⟨a,t,rfl,E,o⟩:=i.list sub;obtain⟨b,k,rfl,G,m⟩:=l.list sub;have j:t.length+k.length<=sizeLine:=by rw[o.length,m.length];exact cB (fE hz)
    exact Ur f s w H _ _ v u Q I z A ⟨a,b,t,k,rfl,rfl,E,G,j,λp B=>q _ _ _ (.new sub B) (.list (.of bB) ((o.append m).same (db.new sub B).sh))⟩
   ·cases g
  ·cases g
 ·unfold fY;split<;>(try split)<;>exact λh=>by cases h
def K4(C:Int->Int->Bool)(k:Int->Int->D):D->D->R D
 |.int i,.int j=>if C i j then .ok (k i j) else .no
 |_,_=>.no
def K5{f:ai->ai->Sem ai}{C:Int->Int->Bool}{P:Int->Int->Prop}{k:Int->Int->D}{e:Int->Int->V}(h:tO X f (rI P e))(w:∀i j,C i j=true->P i j)(z:∀Hs i j,RD X.K Hs (e i j) (k i j)):Am X f (K4 C k):=by
 refine⟨λb s m H x y v u Q I p t ⟨Hs,B,A,sub,g,o,d,a,q⟩=>?_,λx y c n=>?_⟩
 ·unfold K4 at a;split at a
  ·split at a
   ·rename_i l
    cases a;exact h b s m H x y v u Q I p t ⟨_,_,g.int,o.int,w _ _ l,q _ H Hs (.refl sub) (z _ _ _)⟩
   ·cases a
  ·cases a
 ·unfold K4;split<;>(try split)<;>exact λh=>by cases h
def Ds(i j:Int):Bool:=(decide (-(2 ^ 64)<i)&&decide (i<2 ^ 64))||(decide (-(2 ^ 64)<j)&&decide (j<2 ^ 64))
def zZ:=K4 Ds λi j=>.int (i*j)
def Nu:=K4 (λ_ j=>decide (0<j)) λi j=>.int (i % j)
def Qd:=K4 (λ_ j=>decide (0<j)&&decide (j<1073741824)) λi j=>.int (i / j)
def tX:Am X (iE .Mult) zZ:=K5 X8 (λi j h=>by
 unfold Ds at h;simp only[lE,bc,decide_eq_true_eq] at h;exact h) λ_ _ _=>.int _
def ET:Am X (iE .Mod) Nu:=K5 X9 (λi j h=>of_decide_eq_true h) λ_ _ _=>.int _
def Ut:Am X (iE .FloorDiv) Qd:=K5 TV (λi j h=>by
 simp only[bc,decide_eq_true_eq] at h;exact h) λ_ _ _=>.int _
def pj(a:Bool)(x y:D):R D:=if x.canLay0&&y.canLay0&&decide (min x.depth y.depth<=60) then .ok (.bool (if a then !bw x y else bw x y)) else .no
mutual
theorem An:∀d:D,d.canLay0=true->wJ d=true
 |.none,_=>rfl
 |.bool _,_=>rfl
 |.int _,_=>rfl
 |.str _,_=>rfl
 |.list xs,h=>by
  simp only[h_] at h;simp only[wJ];exact lays_noD xs h
 |.tuple xs,h=>by
  simp only[h_] at h;simp only[wJ];exact lays_noD xs h
 |.dict _,h=>by simp[h_] at h
theorem lays_noD:∀d:List D,fD d=true->noDs d=true
 |[],_=>rfl
 |x::r,h=>by
  simp only[fD,bc] at h;simp only[noDs,bc];exact⟨An x h.1,lays_noD r h.2⟩
end
def Qe(h:tO X f (Xu X.K neg)):Am X f (pj neg):=by
 refine⟨λb s j H x y v u Q I m o ⟨Hs,k,g,sub,i,l,d,e,q⟩=>?_,λx y c n=>?_⟩
 ·unfold pj at e;split at e
  ·rename_i a
   simp only[bc,decide_eq_true_eq] at a;cases e;exact h b s j H x y v u Q I m o ⟨k,g,(i.full sub).rep (An _ a.1.1),(l.full sub).rep (An _ a.1.2),a.1.1,a.1.2,a.2,q _ H Hs (.refl sub) (.bool _)⟩
  ·cases e
 ·unfold pj;split<;>exact λh=>by cases h
def zj(a:X.A.units+64<eM):Am X (cj .Eq) (pj false):=Qe (Xv a)
def zk(a:X.A.units+64<eM):Am X (cj .NotEq) (pj true):=Qe (Xw a)
def Nv(k:Int->Int->Bool)(t:Str->Str->Bool):D->D->R D
 |.int i,.int j=>.ok (.bool (k i j))
 |.str x,.str y=>.ok (.bool (t x y))
 |_,_=>.no
def Qf(p:tO X f (X3 λi j=>.bl (k i j)))(w:tO X f (λx y H Q=>∃i j,x=.str i/\y=.str j/\Q (.bl (t i j)) H)):Am X f (Nv k t):=by
 refine⟨λa s g H x y v u Q I m o ⟨Hs,A,z,sub,e,l,d,b,q⟩=>?_,λx y c n=>?_⟩
 ·unfold Nv at b;split at b
  ·cases b;exact p a s g H x y v u Q I m o ⟨_,_,e.int,l.int,q _ H Hs (.refl sub) (.bool _)⟩
  ·cases b;exact w a s g H x y v u Q I m o ⟨_,_,e.str,l.str,q _ H Hs (.refl sub) (.bool _)⟩
  ·cases b
 ·unfold Nv;split<;>exact λh=>by cases h
def K6:=Nv (λi j=>decide (i<j)) qN
def VU:=Nv (λi j=>decide (i<=j)) λx y=>!qN y x
def YD:D->D->R D
 |.int i,.int j=>.ok (.bool (decide (j<i)))
 |_,_=>.no
def Dt:Am X (cj .Lt) K6:=Qf YY N8
def Du:Am X (cj .LtE) VU:=Qf YZ No
def VV:Am X (cj .Gt) YD:=by
 refine⟨λa s f H x y v u Q I i j ⟨Hs,l,k,sub,e,g,d,b,q⟩=>?_,λx y c n=>?_⟩
 ·unfold YD at b;split at b
  ·cases b;exact Y_ a s f H x y v u Q I i j ⟨_,_,e.int,g.int,q _ H Hs (.refl sub) (.bool _)⟩
  ·cases b
 ·unfold YD;split<;>exact λh=>by cases h
def nL:D->Bool
 |.none=>true
 |.bool _=>true
 |.int _=>true
 |.str _=>true
 |_=>false
def r6(a:Bool):D->D->R D
 |x,.list ys=>if nL x&&ys.all nL then .ok (.bool (if a then !(ys.any λy=>bw y x) else ys.any λy=>bw y x)) else .no
 |x,.tuple ys=>if nL x&&ys.all nL then .ok (.bool (if a then !(ys.any λy=>bw y x) else ys.any λy=>bw y x)) else .no
 |_,_=>.no
def Lv{K:af}{H:Hp}{v:V}{d:D}(h:RD K H v d)(f:nL d=true):tQ v=true:=by
 cases h<;>first|rfl|cases f
def GL{K:af}{H Hs:Hp}{v:V}{d:D}(h:RB K H Hs v d)(f:nL d=true):tQ v=true:=by
 rcases h with h|⟨a,o,rfl,_,_,h⟩
 ·exact Lv h f
 ·cases h<;>cases f
def GM{K:af}{H:Hp}{a:List V}:∀{ds:List D},RDs K H a ds->ds.all nL=true->a.all tQ=true:=by
 induction a with
 |nil=>intro ds _ _;rfl
 |cons x r b=>
  intro ds h f;cases h with
  |cons h t=>
   rw[wQ,bc] at f ⊢;exact⟨Lv h f.1,b t f.2⟩
def Xx{K:af}{H k Hs:Hp}{v u:V}{d e:D}(h:RD K H v d)(j:RB K k Hs u e)(f:nL d=true)(g:nL e=true):U8 v u=bw d e:=by
 have c:RD K Hs u e:=by
  rcases j with j|⟨a,o,rfl,_,_,j⟩
  ·exact j
  ·cases j<;>cases g
 cases h with
 |list _ _=>cases f
 |tuple _ _=>cases f
 |dictK _ _=>cases f
 |dictT _ _ _=>cases f
 |dictF _ _ _=>cases f
 |none=>cases c<;>first|rfl|cases g
 |bool b=>cases c<;>first|rfl|cases g
 |int i=>cases c<;>first|rfl|cases g
 |str x=>cases c<;>first|rfl|cases g
theorem K7{K:af}{H d Hs:Hp}{u:V}{e:D}(a:RB K d Hs u e)(b:nL e=true):∀{c:List V}{ds:List D},RDs K H c ds->ds.all nL=true->inV u c=ds.any λy=>bw y e
 |_,_,.nil,_=>rfl
 |_,_,.cons h t,f=>by
  rw[wQ,bc] at f;have:=K7 a b t f.2;unfold inV at this ⊢;rw[fH,fH,this,Xx h a f.1 b]
def Qg(h:tO X f (rIn X.K neg)):Am X f (r6 neg):=by
 refine⟨λg s m H x y v u Q I p t ⟨Hs,z,w,sub,j,o,d,e,q⟩=>?_,λx y c n=>?_⟩
 ·unfold r6 at e;split at e
  ·split at e
   ·rename_i a
    simp only[bc] at a;cases e;obtain⟨b,l,rfl,k,i⟩:=o.list sub;refine h g s m H _ _ v u Q I p t ⟨b,l,rfl,.inl k,GL j a.1,GM i a.2,?_⟩;rw[K7 j a.1 i a.2];exact q _ H Hs (.refl sub) (.bool _)
   ·cases e
  ·split at e
   ·rename_i a
    simp only[bc] at a;cases e;obtain⟨b,l,rfl,k,i,_⟩:=o.tuple sub;refine h g s m H _ _ v u Q I p t ⟨b,l,rfl,.inr k,GL j a.1,GM i a.2,?_⟩;rw[K7 j a.1 i a.2];exact q _ H Hs (.refl sub) (.bool _)
   ·cases e
  ·cases e
 ·unfold r6;split<;>(try split)<;>exact λh=>by cases h
def r9:Am X (cj .In) (r6 false):=Qg Nb
def tY:Am X (cj .NotIn) (r6 true):=Qg ED
end J
namespace J
open PySem L2
section
variable{c:C}{e a b:bJ}{g ga gb:aI->R D}{pos:Pos}
def K8:D->D->R D
 |.list xs,.int i=>match J6 xs i with
  |some d=>.ok d
  |none=>.no
 |.tuple xs,.int i=>match J6 xs i with
  |some d=>.ok d
  |none=>.no
 |.str x,.int i=>if x.length<=1000 then(match J6 x.cps.toList i with
  |some k=>.ok (.str ⟨#[k]⟩)
  |none=>.no) else .no
 |_,_=>.no
def Lw(h:RDs K H vs ds)(e:J6 ds i=some d):∃v,J6 vs i=some v/\RD K H v d:=by
 unfold J6 at e ⊢;rw[h.length];cases f:Xh ds.length i with
 |none=>rw[f] at e;cases e
 |some j=>
  rw[f] at e;exact h.get' e
def q0U:Z5 X (rD X.K K8):=by
 intro t E i s n H x y v u Q I A B h;obtain⟨Hs,N,M,sub,m,z,d,f,q⟩:=h;unfold K8 at f;split at f
 ·split at f
  ·rename_i d' he
   cases f;obtain⟨p,L,rfl,l,G⟩:=m.list sub;obtain⟨w,o,j⟩:=Lw G he;exact EB t E i s n H _ _ v u Q I A B ⟨p,L,_,w,rfl,z.int,l,o,q _ H Hs (.refl sub) j⟩
  ·cases f
 ·split at f
  ·rename_i d' he
   cases f;obtain⟨p,L,rfl,l,G,_⟩:=m.tuple sub;obtain⟨w,o,j⟩:=Lw G he;exact Xi t E i s n H _ _ v u Q I A B ⟨p,L,_,w,rfl,z.int,l,o,q _ H Hs (.refl sub) j⟩
  ·cases f
 ·split at f
  ·rename_i hz
   split at f
   ·rename_i k he
    cases f;exact Xj t E i s n H _ _ v u Q I A B ⟨_,_,k,m.str,z.int,cB (fE hz),he,q _ H Hs (.refl sub) (.str _)⟩
   ·cases f
  ·cases f
 ·cases f
def Xy(x y:D)(c:Str)(n:Option D):K8 x y≠.ex c n:=by
 unfold K8;split<;>(try split)<;>(try split)<;>exact λh=>by cases h
def Zr(d:JB c a ga)(f:JB c b gb)(hs:wW b:=by exact λ_ _=>rfl):JE c (.Subscript a b pos) (g2 ga gb K8):=.of λρ=>tU (VH q0U (d ρ) (f ρ) hs) λh H Q q=>two Xy q
def z_(ds:List D)(lo d:Option Int):List D:=(ds.drop (HT.kr ds.length 0 lo)).take (HT.kr ds.length ds.length d-HT.kr ds.length 0 lo)
def Lx(h:RDs K H vs ds)(lo d:Option Int):RDs K H (Gk vs lo d) (z_ ds lo d):=by
 unfold Gk z_;rw[h.length];exact(h.drop _).take _
def Ly:D->Option Int->Option Int->R D
 |.list xs,lo,d=>.ok (.list (z_ xs lo d))
 |.tuple xs,lo,d=>.ok (.tuple (z_ xs lo d))
 |_,_,_=>.no
inductive VW (K:af) (x:V) (lo:Option Int) (hi:Option Int) (H:Hp) (Q:VK):Prop
 |mk (Hs dx:_) (h0:eD Hs H) (h1:RB K H Hs x dx) (h2:∃d,Ly dx lo hi=.ok d/\∀v H' Hs',db H Hs H' Hs'->RD K Hs' v d->Q v H'):VW K x lo hi H Q
def q0V(K:af):V->Option Int->Option Int->Hp->VK->Prop:=VW K
def q0W{X:Cx}:Z3 X (q0V X.K):=by
 intro f s y H x v z A lo j B Q I w hs pl E h;obtain⟨Hs,G,sub,n,d,m,q⟩:=h;unfold Ly at m;split at m
 ·cases m;obtain⟨p,i,rfl,t,o⟩:=n.list sub;exact U7 f s y H _ v z A lo j B Q I w hs pl E ⟨p,i,rfl,t,λl k=>q _ _ _ (.new sub k) (.list (.of bB) ((Lx o lo j).same (db.new sub k).sh))⟩
 ·cases m;obtain⟨p,i,rfl,t,o,_⟩:=n.tuple sub;by_cases u:HT.kr i.length 0 lo=0/\HT.kr i.length i.length j=i.length
  ·refine Uo f s y H _ v z A lo j B Q I w hs pl E ⟨p,i,rfl,t,u,?_⟩;rcases n with n|⟨_,_,_,_,_,ow⟩
   ·refine q _ H Hs (.refl sub) ?_;unfold z_;rw[<- o.length,u.1,u.2,o.length];simpa using n
   ·cases ow
  ·exact Xg f s y H _ v z A lo j B Q I w hs pl E ⟨p,i,rfl,t,u,λl k=>q _ _ _ (.new sub k) (.tuple bB ((Lx o lo j).same (db.new sub k).sh))⟩
 ·cases m
inductive Zt (K:af) (cls:Str->av) (E:XK) (ρ:aI) (r:R (Option Int)) (σ:St) (H:Hp) (Q:Option Int->Hp->Prop):Prop
 |mk (H0 Hs0:Hp) (la:Nat->Option av) (Hs:Hp) (f:Fr K H0 Hs0 la ρ σ H Hs) (q:Fin K cls E H Hs r λd=>∀H' Hs',db H Hs H' Hs'->Q d H'):Zt K cls E ρ r σ H Q
def TOr(K:af)(cls:Str->av)(E:XK)(ρ:aI)(r:R (Option Int)):TO:=Zt K cls E ρ r
structure JO (c:C) (e:Option bJ) (g:aI->R (Option Int)):Prop where of ::
 run:∀ ρ,PO c.X e (TOr c.X.K c.cls c.E ρ (g ρ))
instance{c:C}{e:Option bJ}{g:aI->R (Option Int)}:CoeFun (JO c e g) (λ_=>∀ ρ,PO c.X e (TOr c.X.K c.cls c.E ρ (g ρ))):=⟨JO.run⟩
def mPO{X:Cx}{e:Option bJ}{t t':TO}(h:PO X e t)(m:∀d H Q,t' d H Q->t d H Q):PO X e t':=λf s d H Q I q=>h f s d H Q I (m d H Q q)
def Ao:aI->R (Option Int):=λ_=>.ok none
def yx(g:aI->R D):aI->R (Option Int):=λρ=>(g ρ).bind λd=>match d with
 |.int i=>.ok (some i)
 |_=>.no
def uG:JO c none Ao:=.of λρ=>mPO U3 λi H Q d=>by obtain⟨j,h,la,Hs,f,q⟩:=d;exact q H Hs (.refl f.st.sub)
def pK(h:JE c e g):JO c (some e) (yx g):=.of λρ=>mPO (U4 (h ρ)) λp H Q k=>by
 obtain⟨s,o,la,Hs,f,q⟩:=k;refine CK f q λd v l j m s1 t n=>?_;unfold yx at q;rw[m,bind_ok] at q;cases n with
 |int i=>exact⟨i,rfl,q l j s1⟩
 |_=>exact q.elim
theorem Zu{K:af}{cls:Str->av}{E:XK}{ρ:aI}{r:R (Option Int)}{p:Type}{k:Option Int->R p}{l:St}{H:Hp}{o j Hs:Hp}{la:Nat->Option av}{Q:Option Int->Hp->Prop}{q:p->Prop}(f:Fr K o j la ρ l H Hs)
  (h:Fin K cls E H Hs (r.bind k) q) (m:∀d H' i,r=.ok d->db H Hs H' i->Fr K o j la ρ l H' i->Q d H'):TOr K cls E ρ r l H Q:=by
 refine⟨o,j,la,Hs,f,?_⟩;cases r with
 |ok d=>exact λH' i s=>m d H' i rfl s (f.step s)
 |ex c n=>exact h
 |no=>exact h
def zm(g:aI->R D)(d f:aI->R (Option Int)):aI->R D:=λρ=>(g ρ).bind λx=>(d ρ).bind λl=>(f ρ).bind λh=>Ly x l h
def oP{lo t:Option bJ}{p s:aI->R (Option Int)}{u:Pos}(he:JB c e g)(y:JO c lo p)(N:JO c t s):JE c (.Subscript e (.Slice lo t none u) pos) (zm g p s):=.of λρ=>tU (Pu q0W (he ρ) (y ρ) (N ρ)) λU H Q j=>by
 obtain⟨X,P,la,Hs,f,q⟩:=j;refine one f q λd v T E M s1 K O=>?_;unfold zm at q;rw[M,bind_ok] at q;refine Zu K (q.on s1 (q':=λ_=>True) λ_ _=>trivial) λl H2 L S o B=>?_;rw[S,bind_ok] at q;refine Zu B (q.on (s1.trans o) (q':=λ_=>True) λ_ _=>trivial) λh Y k x s3 I=>?_;rw[x,bind_ok] at q;cases i:Ly d l h with
 |ok z=>rw[i] at q;exact⟨k,d,I.st.sub,(O.step o).step s3,z,i,λw A m s4 G=>q w A m (s1.trans (o.trans (s3.trans s4))) G⟩
 |ex c n=>unfold Ly at i;split at i<;>cases i
 |no=>rw[i] at q;exact q.elim
inductive rCI (K:af) (h:List D->R D) (xs:List V) (H:Hp) (Q:VK):Prop
 |mk (Hs ds:_) (h0:eD Hs H) (h1:VS K H Hs xs ds) (h2:∃d,h ds=.ok d/\∀v H' Hs',db H Hs H' Hs'->RD K Hs' v d->Q v H'):rCI K h xs H Q
def rC(K:af)(h:List D->R D):List V->Hp->VK->Prop:=rCI K h
def Nw(X:Cx)(f:ai)(h:List D->R D):Prop:=kL X f (rC X.K h)/\∀x c n,h x≠.ex c n
def bX(d:aI->R (List D))(h:List D->R D):aI->R D:=λρ=>(d ρ).bind h
def VX{K:af}{cls:Str->av}{E:XK}{h:List D->R D}{m:aI->R (List D)}{ρ:aI}{l:St}{H:Hp}{Q:VK}(v:∀x c n,h x≠.ex c n)(q:TR K cls E ρ (bX m h ρ) l H Q):Yz (rC K h) (TBs K cls E ρ (m ρ)) l H Q:=by
 obtain⟨A,y,la,Hs,f,q⟩:=q;refine Qa f q λds B z k s s1 p t=>?_;unfold bX at q;rw[s,bind_ok] at q;cases i:h ds with
 |ok d=>
  rw[i] at q;exact⟨k,ds,p.st.sub,t,d,i,λw o j s3 u=>q w o j (s1.trans s3) u⟩
 |ex c n=>exact(v ds c n i).elim
 |no=>rw[i] at q;exact q.elim
variable{es:List bJ}{gs:aI->R (List D)}{x:Str}{p:Pos}{id T:String}{h:List D->R D}
def cc(i:Nw c.X (.builtin id) h)(n:Gl c.X x)(j:c.X.mg x=none)(m:jM x=some (.builtin id))(k:VT c (e::es) gs)(l:x≠"__name__":=by decide)(d:(x==("__debug__" : Str))=false:=by decide)
  (he:a_ (e::es) c.X.env=(false,fO e c.X.env)::a_ es c.X.env:=by rfl) (f:(kR pos (a_ es c.X.env)).any (·.1)=false:=by rfl):JE c (.Call (.Name x p) (e::es) [] pos) (bX gs h):=.of λρ=>tU (tP i.1 n j m (k ρ) l d he f) λo H Q q=>VX i.2 q
def gz(i:Nw c.X (.type T) h)(n:Gl c.X x)(j:c.X.mg x=none)(m:jM x=some (.type T))(k:VT c (e::es) gs)(l:x≠"__name__":=by decide)(d:(x==("__debug__" : Str))=false:=by decide)
  (he:a_ (e::es) c.X.env=(false,fO e c.X.env)::a_ es c.X.env:=by rfl) (f:(kR pos (a_ es c.X.env)).any (·.1)=false:=by rfl):JE c (.Call (.Name x p) (e::es) [] pos) (bX gs h):=.of λρ=>tU (Di i.1 n j m (k ρ) l d he f) λo H Q q=>VX i.2 q
end
def VS.one(h:VS K H Hs xs [d]):∃x,xs=[x]/\RB K H Hs x d:=by
 cases h with|cons a t=>cases t;exact⟨_,rfl,a⟩
def i8(h:D->R D):List D->R D
 |[d]=>h d
 |_=>.no
def tZ(m:∀d c n,h d≠.ex c n)
  (j:∀a s e H x u Q Hs d d',ck X a e H s->eO x u->eD Hs H->RB X.K H Hs x d->h d=.ok d'->(∀v H' b,db H Hs H' b->RD X.K b v d'->Q v H')->ay (aD X.prog X.w) X.A (call f [u]) (EP X a e Q) X.xe s):Nw X f (i8 h):=by
 refine⟨λa s e H xs o Q I r ⟨Hs,ds,sub,l,d,g,q⟩=>?_,λx c n=>?_⟩
 ·unfold i8 at g;split at g
  ·obtain⟨x,rfl,i⟩:=l.one;obtain⟨u,rfl,k⟩:=md r;exact j a s e H x u Q Hs _ _ I k sub i g q
  ·cases g
 ·unfold i8;split
  ·exact m _ _ _
  ·exact λh=>by cases h
def nA:D->R D
 |.list xs=>.ok (.int xs.length)
 |.tuple xs=>.ok (.int xs.length)
 |.str x=>if x.length<=1000 then .ok (.int x.length) else .no
 |_=>.no
def RDk.length:∀{ds:List (D×D)},RDk K H vs ds->vs.length=ds.length:=by
 induction vs with
 |nil=>intro ds h;cases h;rfl
 |cons x r c=>intro ds h;cases h with|cons a b=>exact congrArg (· + 1) (c b)
theorem RDt.length:∀{a:List (List iL×V)}{ds:List (D×D)},RDt K H a ds->a.length=ds.length
 |_,_,.nil=>rfl
 |_,_,.cons _ t=>by simp[RDt.length t]
def RB.dict(sub:eD Hs H)(h:RB K H Hs v (.dict ds)):∃a,v=.ref a/\((∃b,H a=some (.dK b)/\RDk K Hs b ds)\/(∃b,H a=some (.dT b)/\b≠[]/\RDt K Hs b ds)\/∃o b es,ds=(.none,.none)::es/\H a=some (.frz o (.dT b))/\b≠[]/\RDt K Hs b es):=by
 rcases h with h|⟨a,o,rfl,h2,h3,h4⟩
 ·cases h with
  |dictK q r=>exact⟨_,rfl,.inl ⟨_,sub _ _ q,r⟩⟩
  |dictT q n r=>exact⟨_,rfl,.inr (.inl ⟨_,sub _ _ q,n,r⟩)⟩
  |dictF q n r=>exact⟨_,rfl,.inr (.inr ⟨_,_,_,rfl,sub _ _ q,n,r⟩)⟩
 ·cases h4 with
  |dK r=>exact⟨a,rfl,.inl ⟨_,h2,r⟩⟩
  |dT n r=>exact⟨a,rfl,.inr (.inl ⟨_,h2,n,r⟩)⟩
  |dF n r=>exact⟨a,rfl,.inr (.inr ⟨_,_,_,rfl,h2,n,r⟩)⟩
def jS:Nw X (.builtin "len") (i8 nA):=by
 refine tZ (λd c n=>?_) λb s i H x u Q Hs d d' I j sub g e q=>?_
 ·unfold nA;split<;>(try split)<;>exact λh=>by cases h
 ·unfold nA at e;split at e
  ·cases e;obtain⟨a,l,rfl,f,k⟩:=g.list sub;refine wY b s i H _ _ Q I (.cons j .nil) ⟨a,l,rfl,.inl f,?_⟩;rw[k.length];exact q _ H Hs (.refl sub) (.int _)
  ·cases e;obtain⟨a,l,rfl,f,k,_⟩:=g.tuple sub;refine wY b s i H _ _ Q I (.cons j .nil) ⟨a,l,rfl,.inr f,?_⟩;rw[k.length];exact q _ H Hs (.refl sub) (.int _)
  ·split at e
   ·rename_i hz
    cases e;exact EE b s i H _ _ Q I (.cons j .nil) ⟨_,by rw[g.str],cB (fE hz),q _ H Hs (.refl sub) (.int _)⟩
   ·cases e
  ·cases e
def GN(T:String)(d:D):Bool:=match T,d with
 | "str",.str _=>true
 | "int",.int _=>true
 | "int",.bool _=>true
 | "bool",.bool _=>true
 | "list",.list _=>true
 | "tuple",.tuple _=>true
 |_,_=>false
def rT(g:aI->R D)(T:String):aI->R D:=λρ=>(g ρ).bind λd=>if wJ d then .ok (.bool (GN T d)) else .no
def Uu(T:String)(hT:T="str"\/T="int"\/T="bool"\/T="list"\/T="tuple")(h:wJ d=true):tG K (.type (tyD d)) (.type T)=some (GN T d):=by
 rcases hT with rfl|rfl|rfl|rfl|rfl<;>cases d<;>first|rfl|simp[wJ] at h
def qx(h:JB c e g)(i:Gl c.X "isinstance")(s:c.X.mg "isinstance"=none)(m:Gl c.X T)(hT:c.X.mg T=none)(y:jM T=some (.type Ts))
  (k:Ts="str"\/Ts="int"\/Ts="bool"\/Ts="list"\/Ts="tuple")
  (u:T≠"__name__":=by decide) (j:(T==("__debug__" : Str))=false:=by decide)
  (he:a_ [e,.Name T p2] c.X.env=(false,fO e c.X.env)::a_ [.Name T p2] c.X.env:=by rfl) (n:(kR pos (a_ [.Name T p2] c.X.env)).any (·.1)=false:=by rfl):
  JE c (.Call (.Name "isinstance" p) [e,.Name T p2] [] pos) (rT g Ts):=.of λρ=>by
 refine tU (tP Q5 i s PyProof.Rows.boot_isinstance (i_ (h ρ) (i_ (TK m hT y (v:=.ty Ts) rfl u j) kU) he) ⋯ ⋯ he n) λA H Q b=>?_;obtain⟨B,z,la,Hs,f,q⟩:=b;refine one f q λd v o l w s1 t x=>?_;unfold rT at q;rw[w,bind_ok] at q;by_cases a:wJ d=true
 ·rw[if_pos a] at q;exact⟨v,d,Ts,_,rfl,(x.full t.st.sub).rep a,Uu Ts k a,q _ o l s1 (.bool _)⟩
 ·rw[if_neg a] at q;exact q.elim
def pM:List D->Option (List Bool)
 |[]=>some []
 |.bool b::r=>(pM r).map (b::·)
 |_::_=>none
def EU:∀{bs:List Bool},pM ds=some bs->ds=bs.map bQ:=by
 induction ds with
 |nil=>intro bs h;cases h;rfl
 |cons d r c=>
  intro bs h;cases d with
  |bool b=>
   have h:(pM r).map (b::·)=some bs:=h;cases a:pM r with
   |none=>rw[a] at h;cases h
   |some z=>rw[a] at h;cases h;rw[c a];rfl
  |_=>cases h
def eA(k:List Bool->Bool):D->R D
 |.list ds=>match pM ds with
  |some bs=>.ok (.bool (k bs))
  |none=>.no
 |_=>.no
def GO{id:String}{k:List Bool->Bool}(h:kL X (.builtin id) (λxs H Q=>∃p,∃bs:List Bool,xs=[.ref p]/\sQ X.K H p (bs.map V.bl)/\Q (.bl (k bs)) H)):Nw X (.builtin id) (i8 (eA k)):=by
 refine tZ (λd c n=>?_) λe s j H x u Q Hs d d' I m sub i b q=>?_
 ·unfold eA;split<;>(try split)<;>exact λh=>by cases h
 ·unfold eA at b;split at b
  ·split at b
   ·rename_i bs l
    cases b;obtain⟨a,o,rfl,f,g⟩:=i.list sub;rw[EU l] at g;rw[CI g] at f;exact h e s j H _ _ Q I (.cons m .nil) ⟨a,bs,rfl,f,q _ H Hs (.refl sub) (.bool _)⟩
   ·cases b
  ·cases b
def rV(a:X.calm=true):Nw X (.builtin "all") (i8 (eA λbs=>bs.all id)):=GO (AV a)
def t_(a:X.calm=true):Nw X (.builtin "any") (i8 (eA λbs=>bs.any id)):=GO (AW a)
def qy(x:Str):List D:=x.cps.toList.map λc=>aN ⟨#[c]⟩
def Nx(x:Str):RDs K H (AZ x) (qy x):=by
 unfold AZ qy;induction x.cps.toList with
 |nil=>exact .nil
 |cons a r b=>exact .cons (.str _) b
def ig:D->R D
 |.list xs=>.ok (.tuple xs)
 |.tuple xs=>.ok (.tuple xs)
 |.str x=>if x.cps.size<=1000 then .ok (.tuple (qy x)) else .no
 |_=>.no
def kN(p:X.calm=true):Nw X (.type "tuple") (i8 ig):=by
 refine tZ (λd c n=>?_) λb s j H x u Q Hs d d' I k sub f e q=>?_
 ·unfold ig;split<;>(try split)<;>exact λh=>by cases h
 ·unfold ig at e;split at e
  ·cases e;obtain⟨a,m,rfl,i,o⟩:=f.list sub;exact vH b s j H _ _ Q I (.cons k .nil) ⟨a,m,rfl,.inl ⟨i,λl g=>q _ _ _ (.new sub g) (.tuple bB (o.same (db.new sub g).sh))⟩⟩
  ·cases e;obtain⟨a,m,rfl,i,o,_⟩:=f.tuple sub;refine vH b s j H _ _ Q I (.cons k .nil) ⟨a,m,rfl,.inr ⟨i,?_⟩⟩;rcases f with f|⟨_,_,_,_,_,ow⟩
   ·exact q _ H Hs (.refl sub) f
   ·cases ow
  ·split at e
   ·rename_i hz
    cases e;exact zY p b s j H _ _ Q I (.cons k .nil) ⟨_,by rw[f.str],cB (fE hz),λl g=>q _ _ _ (.new sub g) (.tuple bB (Nx _))⟩
   ·cases e
  ·cases e
def zo:D->R D
 |.list xs=>.ok (.list xs)
 |.tuple xs=>.ok (.list xs)
 |_=>.no
def Uv:Nw X (.type "list") (i8 zo):=by
 refine tZ (λd c n=>?_) λb s m H x u Q Hs d d' I o sub k f q=>?_
 ·unfold zo;split<;>exact λh=>by cases h
 ·unfold zo at f;split at f
  ·cases f;obtain⟨a,j,rfl,g,i⟩:=k.list sub;exact wZ b s m H _ _ Q I (.cons o .nil) ⟨a,j,rfl,.inl g,λl e=>q _ _ _ (.new sub e) (.list (.of bB) (i.same (db.new sub e).sh))⟩
  ·cases f;obtain⟨a,j,rfl,g,i,_⟩:=k.tuple sub;exact wZ b s m H _ _ Q I (.cons o .nil) ⟨a,j,rfl,.inr g,λl e=>q _ _ _ (.new sub e) (.list (.of bB) (i.same (db.new sub e).sh))⟩
  ·cases f
def fw:List D->Option (List Str)
 |[]=>some []
 |.str b::r=>(fw r).map (b::·)
 |_::_=>none
def mV:∀{bs:List Str},fw ds=some bs->ds=bs.map aN:=by
 induction ds with
 |nil=>intro bs h;cases h;rfl
 |cons d r c=>
  intro bs h;cases d with
  |str b=>
   have h:(fw r).map (b::·)=some bs:=h;cases a:fw r with
   |none=>rw[a] at h;cases h
   |some z=>rw[a] at h;cases h;rw[c a];rfl
  |_=>cases h
@[simp] theorem strsOf_map:∀bs:List Str,fw (bs.map aN)=some bs
 |[]=>rfl
 |b::r=>by show(fw (r.map aN)).map (b::·)=_;rw[strsOf_map r];rfl
def uH:D->R D
 |.list ds=>match fw ds with
  |some ss=>if ss.length<64 then .ok (.list ((jk ss).map .str)) else .no
  |none=>.no
 |_=>.no
def Ny:Nw X (.builtin "sorted") (i8 uH):=by
 refine tZ (λd c n=>?_) λe s k H x u Q Hs d d' I m sub i b q=>?_
 ·unfold uH;split<;>(try split)<;>(try split)<;>exact λh=>by cases h
 ·unfold uH at b;split at b
  ·split at b
   ·split at b
    ·rename_i ss hs hz
     cases b;obtain⟨a,o,rfl,f,g⟩:=i.list sub;rw[mV hs] at g;rw[j5 g] at f;exact yw e s k H _ _ Q I (.cons m .nil) ⟨a,ss,rfl,f,hz,λl j=>q _ _ _ (.new sub j) (.list (.of bB) (tT _))⟩
    ·cases b
   ·cases b
  ·cases b
inductive Zv (K:af) (cls:Str->av) (n:Nat) (F:List D->R D) (vs:List V) (H:Hp) (Q:VK) (E:XK):Prop
 |mk (Hs ds:_) (h0:eD Hs H) (h1:ds.length=n) (h2:RDs K Hs vs ds) (h3:Fin K cls E H Hs (F ds) λd=>∀v H' Hs',db H Hs H' Hs'->RD K Hs' v d->Q v H'):Zv K cls n F vs H Q E
def VY(K:af)(cls:Str->av)(n:Nat)(F:List D->R D):Sp:=Zv K cls n F
structure Fn (P:bj) (w:bF) (K:af) (mg:Str->Option ai) (base:bZ) (cls:Str->av) (x:Str) (k n:Nat) (F:List D->R D):Prop where
 ex:∃f fd ps,vn P w K mg base (CF P w) k f fd ps (VY K cls n F)/\mg x=some (.ref f)/\gX K (.ref f)=true/\nK K fd ps []
def f9(n:Nat)(F:List D->R D)(a:aI->R (List D)):aI->R D:=λρ=>(a ρ).bind λds=>if ds.length=n then F ds else .no
def Uw(G:Fn c.X.prog c.X.w c.X.K c.X.mg c.X.base c.cls x k n F)(m:nz k c.X.A)(O:Gl c.X x)(N:vZ (CF c.X.prog c.X.w) c.X c.E)(l:Nr c (e::es) gs)
  (b:(x==("__debug__" : Str))=false:=by decide) (he:a_ (e::es) c.X.env=(false,fO e c.X.env)::a_ es c.X.env:=by rfl) (j:(kR pos (a_ es c.X.env)).any (·.1)=false:=by rfl):
  JE c (.Call (.Name x p) (e::es) [] pos) (f9 n F gs):=.of λρ=>by
 obtain⟨f,U,ps,o,t,L,s⟩:=G.ex;refine tU (U0 (E:=c.E) o m O t L s .nil N (l ρ) b he j) λY H Q a=>?_;obtain⟨H0,P,la,Hs,fr,q⟩:=a;refine K0 fr q λds S T g z s1 u B=>?_;unfold f9 at q;rw[z,bind_ok] at q;by_cases h:ds.length=n
 ·rw[if_pos h] at q;show VY _ _ _ _ (S++[]) _ _ _;rw[cq];exact⟨g,ds,u.st.sub,h,B,q.on s1 λd k v y i I M=>k v y i (s1.trans I) M⟩
 ·rw[if_neg h] at q;exact q.elim
inductive Fl where
 |nx (ρ:aI)
 |rt (d:D)
 |bk (ρ:aI)
 |ct (ρ:aI)
def rc(K:af)(cls:Str->av)(E:XK)(f e:Hp)(la:Nat->Option av)(D:Gh)(r:R Fl):Prop:=match r with
 |.ok (.nx b)=>∀ σ' H' a,Fr K f e la b σ' H' a->D.nx σ' H'
 |.ok (.bk b)=>∀ σ' H' a,Fr K f e la b σ' H' a->D.bk σ' H'
 |.ok (.ct b)=>∀ σ' H' a,Fr K f e la b σ' H' a->D.ct σ' H'
 |.ok (.rt d)=>∀v H' a,db f e H' a->RD K a v d->D.rt v H'
 |.ex c n=>∀H' a,db f e H' a->XW K cls E c n H' a
 |.no=>False
inductive SRI (K:af) (cls:Str->av) (E:XK) (ρ:aI) (r:R Fl) (D:Gh) (σ:St) (H:Hp):Prop
 |mk (H0 Hs0:Hp) (la:Nat->Option av) (Hs:Hp) (f:Fr K H0 Hs0 la ρ σ H Hs) (q:rc K cls E H0 Hs0 la D r):SRI K cls E ρ r D σ H
def SR(K:af)(cls:Str->av)(E:XK)(ρ:aI)(r:R Fl):TS:=SRI K cls E ρ r
structure JS (c:C) (s:fg) (g:aI->R Fl):Prop where of ::
 run:∀ ρ,PS c.X s (SR c.X.K c.cls c.E ρ (g ρ))
instance{c:C}{s:fg}{g:aI->R Fl}:CoeFun (JS c s g) (λ_=>∀ ρ,PS c.X s (SR c.X.K c.cls c.E ρ (g ρ))):=⟨JS.run⟩
structure Lz (c:C) (s:List fg) (g:aI->R Fl):Prop where of ::
 run:∀ ρ,Lk c.X s (SR c.X.K c.cls c.E ρ (g ρ))
instance{c:C}{s:List fg}{g:aI->R Fl}:CoeFun (Lz c s g) (λ_=>∀ ρ,Lk c.X s (SR c.X.K c.cls c.E ρ (g ρ))):=⟨Lz.run⟩
theorem Fr.set(f:Fr K H0 Hs0 la ρ σ H Hs)(i:Nat)(r:RD K Hs v d):Fr K H0 Hs0 la (ρ.set i (.shr d)) (σ.set i (some v)) H Hs:=by
 have u:=f.len;have nx:∀{j:Nat}{s:Sl},(∀d,s≠.shr d)->(ρ.set i (.shr d))[j]?=some s->ρ[j]?=some s/\i≠j:=λ{j s} hs e=>by
  by_cases c:i=j
  ·subst c;by_cases l:i<ρ.length
   ·rw[aR l] at e;exact absurd (c6 e).symm (hs d)
   ·rw[cV (by simpa using l)] at e;cases e
  ·rw[ax c] at e;exact⟨e,c⟩
 refine⟨f.st,by simp[u],λj e h=>?_,λj e h=>?_,λj e h=>?_,λj k n o a g m q t=>?_,f.lh,λj e h=>?_,λj k n o g m=>?_⟩
 ·by_cases c:i=j
  ·subst c;by_cases l:i<ρ.length
   ·rw[aR l] at h;cases h;exact⟨v,aR ∅,r⟩
   ·rw[cV (by simpa using l)] at h;cases h
  ·rw[ax c] at h ⊢;exact f.sh j e h
 ·obtain⟨h,c⟩:=nx (λ_ z=>by cases z) h;rw[ax c];exact f.ow j e h
 ·obtain⟨h,c⟩:=nx (λ_ z=>by cases z) h;rw[ax c];exact f.lk j e h
 ·obtain⟨g,w⟩:=nx (λ_ z=>by cases z) g;obtain⟨m,x⟩:=nx (λ_ z=>by cases z) m;rw[ax w] at q;rw[ax x] at t;exact f.dj j k n o a g m q t
 ·obtain⟨h,c⟩:=nx (λ_ z=>by cases z) h;obtain⟨a,B,O⟩:=f.o2 j e h;refine⟨a,B,by rw[ax c];exact O.at_,O.ob,O.nd,O.out,λb y k A p=>?_,O.inn⟩;obtain⟨p,E⟩:=nx (λ_ z=>by cases z) p;rw[ax E];exact O.dj b y k A p
 ·exact f.u2 j k n o (nx (λ_ z=>by cases z) g).1 (nx (λ_ z=>by cases z) m).1
def Fr.setO(f:Fr K H0 Hs0 la ρ σ H Hs)(i:Nat)(n:H a=none)(r:pA K Hs o d):Fr K H0 Hs0 la (ρ.set i (.own d)) (σ.set i (some (.ref a))) (upd H a o) Hs:=by
 have y:=f.step (db.mine (o:=o) f.st.sub n);have G:=f.len;have M:H0 a=none:=f.st.all.free n;have I:Hs a=none:=f.st.sub.free n;have nx:∀{j:Nat}{s:Sl},(∀d,s≠.own d)->(ρ.set i (.own d))[j]?=some s->ρ[j]?=some s/\i≠j:=λ{j s} hs e=>by
  by_cases g:i=j
  ·subst g;by_cases p:i<ρ.length
   ·rw[aR p] at e;exact absurd (c6 e).symm (hs d)
   ·rw[cV (by simpa using p)] at e;cases e
  ·rw[ax g] at e;exact⟨e,g⟩
 have ne:∀j e,ρ[j]?=some (Sl.own e)->σ[j]?≠some (some (V.ref a)):=λj e h z=>by
  obtain⟨b,o',m,l,_⟩:=f.ow j e h;rw[z] at m;cases m;rw[n] at l;cases l
 refine⟨y.st,by simp[G],λj e h=>?_,λj e h=>?_,λj e h=>?_,λj k v x b m l u t=>?_,f.lh,λj e h=>?_,λj k v x m l=>?_⟩
 ·obtain⟨h,g⟩:=nx (λ_ z=>by cases z) h;rw[ax g];exact y.sh j e h
 ·by_cases g:i=j
  ·subst g;by_cases p:i<ρ.length
   ·rw[aR p] at h;cases h;exact⟨a,o,aR ∅,bB,I,M,r⟩
   ·rw[cV (by simpa using p)] at h;cases h
  ·rw[ax g] at h ⊢;exact y.ow j e h
 ·obtain⟨h,g⟩:=nx (λ_ z=>by cases z) h;rw[ax g];exact y.lk j e h
 ·by_cases g:i=j
  ·by_cases q:i=k
   ·exact g.symm.trans q
   ·rw[ax q] at l t;subst g;by_cases p:i<ρ.length
    ·rw[aR ∅] at u;cases u;exact(ne k x l t).elim
    ·rw[cV (by simpa using p)] at m;cases m
  ·rw[ax g] at m u;by_cases q:i=k
   ·subst q;by_cases p:i<ρ.length
    ·rw[aR ∅] at t;cases t;exact(ne j v m u).elim
    ·rw[cV (by simpa using p)] at l;cases l
   ·rw[ax q] at l t;exact f.dj j k v x b m l u t
 ·obtain⟨h,g⟩:=nx (λ_ z=>by cases z) h;obtain⟨b,B,O⟩:=f.o2 j e h;have A:∀c∈b::B,c≠a:=λc w z=>by
   subst z;rcases List.mem_cons.mp w with z|z
   ·have:=O.ob;rw[<- z,n] at this;cases this
   ·obtain⟨o,ho,_⟩:=O.inn.there z;rw[n] at ho;cases ho
  refine⟨b,B,by rw[ax g];exact O.at_,by rw[bG (A b aq)];exact O.ob,O.nd,O.out,λc w k L q=>?_,O.inn.upd λz=>A a (ak _ z) rfl⟩;by_cases E:i=k
  ·subst E;intro z;by_cases p:i<ρ.length
   ·rw[aR ∅] at z;cases z;exact A _ w rfl
   ·rw[cV (by simp;omega)] at q;cases q
  ·rw[ax E] at q ⊢;exact O.dj c w k L q
 ·exact f.u2 j k v x (nx (λ_ z=>by cases z) m).1 (nx (λ_ z=>by cases z) l).1
def Fr.write(f:Fr K H0 Hs0 la ρ σ H Hs)(i:Nat)(m:ρ[i]?=some (Sl.own d))(hs:σ[i]?=some (some (V.ref a)))(r:pA K Hs o d'):Fr K H0 Hs0 la (ρ.set i (.own d')) σ (upd H a o) Hs:=by
 obtain⟨Y,o',l,n,w,q,h5⟩:=f.ow i d m;rw[hs] at l;cases l;have S:=f.len;have p:i<ρ.length:=(List.getElem?_eq_some_iff.mp m).1;have nx:∀{j:Nat}{s:Sl},(∀d,s≠.own d)->(ρ.set i (.own d'))[j]?=some s->ρ[j]?=some s/\i≠j:=λ{j s} hs e=>by
  by_cases g:i=j
  ·subst g;rw[aR p] at e;exact absurd (c6 e).symm (hs d')
  ·rw[ax g] at e;exact⟨e,g⟩
 refine⟨⟨λb u e=>?_,f.st.sh,λb u e=>?_,f.st.out⟩,by simp[S],λj e h=>?_,λj e h=>?_,λj e h=>?_,λj k I M b l n w q=>?_,f.lh,λj e h=>?_,λj k I M l n=>?_⟩
 ·rw[bG (cu e q)];exact f.st.all b u e
 ·rw[bG (cu e w)];exact f.st.sub b u e
 ·obtain⟨h,g⟩:=nx (λ_ z=>by cases z) h;exact f.sh j e h
 ·by_cases g:i=j
  ·subst g;rw[aR p] at h;cases h;exact⟨a,o,hs,bB,w,q,r⟩
  ·rw[ax g] at h;obtain⟨b,u,v,A,G,B,y⟩:=f.ow j e h;refine⟨b,u,v,?_,G,B,y⟩;rw[bG (λz=>g ?_)]
   ·exact A
   ·subst z;exact f.dj i j d e b m h hs v
 ·obtain⟨h,g⟩:=nx (λ_ z=>by cases z) h;obtain⟨b,u,v,A,G,B,y,T⟩:=f.lk j e h;refine⟨b,u,v,A,?_,B,y,T⟩;rw[bG (cu y q)];exact G
 ·have t:∀{j:Nat}{e:D},(ρ.set i (.own d'))[j]?=some (Sl.own e)->∃E,ρ[j]?=some (Sl.own E):=λ{j e} h=>by
   by_cases g:i=j
   ·subst g;exact⟨d,m⟩
   ·rw[ax g] at h;exact⟨e,h⟩
  obtain⟨U,l⟩:=t l;obtain⟨X,n⟩:=t n;exact f.dj j k U X b l n w q
 ·obtain⟨h,g⟩:=nx (λ_ z=>by cases z) h;obtain⟨b,N,O⟩:=f.o2 j e h;have L:∀c∈b::N,c≠a:=λc x z=>by
   subst z;exact O.dj c x i d m hs
  refine⟨b,N,O.at_,by rw[bG (L b aq)];exact O.ob,O.nd,O.out,λc x k E P=>?_,O.inn.upd λz=>L a (ak _ z) rfl⟩;by_cases Q:i=k
  ·subst Q;exact O.dj c x i d m
  ·rw[ax Q] at P;exact O.dj c x k E P
 ·exact f.u2 j k I M (nx (λ_ z=>by cases z) l).1 (nx (λ_ z=>by cases z) n).1
def fz(ρ:aI):aI:=ρ.map λs=>match s with
 |.own d=>.shr d
 |.ow2 a=>.shr (.list (a.map .list))
 |s=>s
open Classical in
theorem Fr.share(f:Fr K H0 Hs0 la ρ σ H Hs):∃c,Fr K H0 Hs0 la (fz ρ) σ H c/\db H Hs H c\/Fr K H0 Hs0 la (fz ρ) σ H c:=by
 let P:av->Prop:=λb=>(∃(i:Nat) (d:D),ρ[i]?=some (Sl.own d)/\σ[i]?=some (some (V.ref b)))\/∃(i:Nat) (g:List (List D)) (a:av) (E:List av),ρ[i]?=some (Sl.ow2 g)/\O2 K H0 H Hs ρ σ i g a E/\b∈a::E
 let c:Hp:=λb=>if P b then H b else Hs b
 have A:∀b,P b->c b=H b:=λb h=>if_pos h;have w:∀b,¬ P b->c b=Hs b:=λb h=>if_neg h;have G:eD Hs c:=λb o e=>by
  by_cases h:P b
  ·rw[A b h];exact f.st.sub b o e
  ·rw[w b h];exact e
 have l:∀b o,H0 b=some o->¬ P b:=λb o e hP=>by
  rcases hP with⟨i,d,B,M⟩|⟨i,g,a,E,B,O,p⟩
  ·obtain⟨a,o',x,_,_,L,_⟩:=f.ow i d B;rw[M] at x;cases x;rw[e] at L;cases L
  ·have:=(O.out b p).2;rw[e] at this;cases this
 have un:∀{j:Nat}{s:Sl},(fz ρ)[j]?=some s->(∃d,s=.shr d/\ρ[j]?=some (Sl.own d))\/(∃g:List (List D),s=.shr (.list (g.map .list))/\ρ[j]?=some (Sl.ow2 g))\/((∀d,s≠.own d)/\(∀d,s≠.ow2 d)/\ρ[j]?=some s):=λ{j s} e=>by
  unfold fz at e;rw[aP] at e;cases h:ρ[j]? with
  |none=>rw[h] at e;cases e
  |some t=>
   rw[h] at e;cases t with
   |own d=>cases e;exact .inl ⟨d,rfl,rfl⟩
   |no=>cases e;exact .inr (.inr ⟨λ_ z=>(by cases z),λ_ z=>(by cases z),rfl⟩)
   |shr d=>cases e;exact .inr (.inr ⟨λ_ z=>(by cases z),λ_ z=>(by cases z),rfl⟩)
   |lck d=>cases e;exact .inr (.inr ⟨λ_ z=>(by cases z),λ_ z=>(by cases z),rfl⟩)
   |ow2 d=>cases e;exact .inr (.inl ⟨d,rfl,rfl⟩)
 refine⟨c,.inr ⟨⟨f.st.all,f.st.sh.trans G,λb o e=>?_,λa o e t z=>?_⟩,by simp[fz,f.len],λj d h=>?_,λj d h=>?_,λj d h=>?_,λj k S X a B M _ _=>?_,f.lh,λj d h=>?_,λj k S X B M=>?_⟩⟩
 ·by_cases h:P b
  ·rw[A b h] at e;exact e
  ·rw[w b h] at e;exact f.st.sub b o e
 ·rw[w a (l a o e)];exact f.st.out a o e t z
 ·rcases un h with⟨d',e,h'⟩|⟨g,e,h'⟩|⟨_,_,h'⟩
  ·cases e;obtain⟨a,o,x,I,T,L,N⟩:=f.ow j d h';refine⟨_,x,?_⟩;have Q:c a=some o:=by rw[A a (.inl ⟨j,d,h',x⟩)];exact I
   have e:eD (upd Hs a o) c:=λb u q=>by
    by_cases p:b=a
    ·subst p;rw[bB] at q;cases q;exact Q
    ·rw[bG p] at q;exact G b u q
   exact(N.share T).same e
  ·cases e;obtain⟨a,E,O⟩:=f.o2 j g h';refine⟨_,O.at_,?_⟩;have Q:∀b∈a::E,∀o,H b=some o->c b=some o:=λb p o ho=>by rw[A b (.inr ⟨j,g,a,E,h',O,p⟩)];exact ho
   refine .list (.of (Q a aq _ O.ob)) ?_;have go:∀{y:List av}{m:List (List D)},(∀b∈y,b∈a::E)->Dr K H Hs y m->RDs K c (y.map V.ref) (m.map .list):=λ{y m} hs hi=>by
    induction hi with
    |nil=>exact .nil
    |cons B M _ U=>exact .cons (.list (.of (Q _ (hs _ aq) _ B)) (M.same G)) (U λb p=>hs b (ak _ p))
   exact go (λb p=>ak _ p) O.inn
  ·obtain⟨v,x,I⟩:=f.sh j d h';exact⟨v,x,I.same G⟩
 ·rcases un h with⟨d',e,h'⟩|⟨d',e,h'⟩|⟨n,_,h'⟩
  ·cases e
  ·cases e
  ·exact(n d rfl).elim
 ·rcases un h with⟨d',e,h'⟩|⟨d',e,h'⟩|⟨_,_,h'⟩
  ·cases e
  ·cases e
  ·obtain⟨a,o,x,I,T,L,N,Y⟩:=f.lk j d h';exact⟨a,o,x,I,T,by rw[w a (l a o N)];exact L,N,Y.same G⟩
 ·rcases un B with⟨d',e,h'⟩|⟨d',e,h'⟩|⟨n,_,h'⟩
  ·cases e
  ·cases e
  ·exact(n S rfl).elim
 ·rcases un h with⟨d',e,h'⟩|⟨d',e,h'⟩|⟨_,n,h'⟩
  ·cases e
  ·cases e
  ·exact(n d rfl).elim
 ·rcases un B with⟨d',e,h'⟩|⟨d',e,h'⟩|⟨_,n,h'⟩
  ·cases e
  ·cases e
  ·exact(n S rfl).elim
def Fr.shared(f:Fr K H0 Hs0 la ρ σ H Hs):∃a,Fr K H0 Hs0 la (fz ρ) σ H a:=by
 obtain⟨a,h|h⟩:=f.share
 ·exact⟨a,h.1⟩
 ·exact⟨a,h⟩
section
variable{c:C}{e a b:bJ}{g ga gb:aI->R D}{pos:Pos}{x:Str}{st:fg}{bM:List fg}{gs gr:aI->R Fl}
def bh(g h:aI->R Fl):aI->R Fl:=λρ=>(g ρ).bind λf=>match f with
 |.nx d=>h d
 |f=>.ok f
def eE:Lz c [] (λρ=>.ok (.nx ρ)):=.of λρ=>q0T TM λD h H d=>by obtain⟨j,i,la,Hs,f,q⟩:=d;exact q h H Hs f
def bf(h:JS c st gs):Lz c [st] gs:=.of λρ=>TQ (h ρ)
theorem aO(h:JS c st gs)(w:Lz c bM gr):Lz c (st::bM) (bh gs gr):=.of λρ i s o H D I p=>by
 obtain⟨m,j,la,Hs,f,q⟩:=p;unfold bh at q;cases k:gs ρ with
 |no=>rw[k] at q;exact q.elim
 |ex x n=>
  rw[k] at q;refine tM (h ρ) (ux (X:=c.X) (sts:=bM)) i s o H D I ⟨m,j,la,Hs,f,?_⟩;rw[k];exact q
 |ok v=>
  rw[k,bind_ok] at q;cases v with
  |nx l=>
   refine tM (h ρ) (w l) i s o H D I ⟨m,j,la,Hs,f,?_⟩;rw[k];exact λσ' H' t u=>⟨m,j,la,t,u,q⟩
  |rt d=>
   refine tM (h ρ) (ux (X:=c.X) (sts:=bM)) i s o H D I ⟨m,j,la,Hs,f,?_⟩;rw[k];exact q
  |bk l=>
   refine tM (h ρ) (ux (X:=c.X) (sts:=bM)) i s o H D I ⟨m,j,la,Hs,f,?_⟩;rw[k];exact q
  |ct l=>
   refine tM (h ρ) (ux (X:=c.X) (sts:=bM)) i s o H D I ⟨m,j,la,Hs,f,?_⟩;rw[k];exact q
theorem sE(f:Fr K H0 Hs0 la ρ σ H Hs)
  (h:rc K cls E H0 Hs0 la D' (r.bind k)) (m:∀d v H' i,r=.ok d->db H Hs H' i->Fr K H0 Hs0 la ρ σ H' i->RD K i v d->Q v H'):TR K cls E ρ r σ H Q:=by
 refine⟨H0,Hs0,la,Hs,f,?_⟩;cases r with
 |ok d=>exact λv H' i s r=>m d v H' i rfl s (f.step s) r
 |ex c n=>exact λH' i s=>h H' i (f.st.trans s)
 |no=>exact h
theorem sT(f:Fr K H0 Hs0 la ρ σ H Hs)
  (h:rc K cls E H0 Hs0 la D' (r.bind k)) (m:∀d H' i,r=.ok d->db H Hs H' i->Fr K H0 Hs0 la ρ σ H' i->Q d H'):GK K cls E ρ r σ H Q:=by
 refine⟨H0,Hs0,la,Hs,f,?_⟩;cases r with
 |ok d=>exact λH' i s=>m d H' i rfl s (f.step s)
 |ex c n=>exact λH' i s=>h H' i (f.st.trans s)
 |no=>exact h
def eL(g:aI->R D):aI->R Fl:=λρ=>(g (fz ρ)).bind λd=>.ok (.rt d)
theorem cn(h:JE c e g):JS c (.Return (some e) pos) (eL g):=.of λρ=>CJ (WZ (h (fz ρ))) λD t H i=>by
 obtain⟨u,s,la,Hs,f,q⟩:=i;obtain⟨l,o⟩:=f.shared;refine sE o q λd v k j n s1 m p=>?_;unfold eL at q;rw[n,bind_ok] at q;exact q v k j m.st p
def gF(t:aI->R Bool)(g h:aI->R Fl):aI->R Fl:=λρ=>(t ρ).bind λb=>if b then g ρ else h ρ
def iK(n:JT c t gt)(m:Lz c A gA)(p:Lz c B gB):JS c (.If t A B pos) (gF gt gA gB):=.of λρ=>CJ (YR (n ρ) (m ρ) (p ρ)) λD u H j=>by
 obtain⟨k,i,la,Hs,f,q⟩:=j;refine sT f q λd s h o s1 l=>?_;unfold gF at q;rw[o,bind_ok] at q;cases d with
 |true=>exact zV ⟨k,i,la,h,l,q⟩
 |false=>exact zU ⟨k,i,la,h,l,q⟩
def ir(i:Nat)(g:aI->R D):aI->R Fl:=λρ=>(g ρ).bind λd=>.ok (.nx (ρ.set i (.shr d)))
def gn(i:Nat)(h:JE c e g)(l:c.X.N.Nodup)(o:c.X.N[i]?=some x:=by rfl)(u:Vz c.X.env.scope x:=by first|exact jC rfl|exact gy rfl)(hs:iN e (some (.Name x pos')) pos.line c.X.env=pure false:=by rfl)
  (n:c.X.fn x=true\/c.X.env.scope.names.lookup x=some .local:=by first|exact .inl rfl|exact .inr rfl|assumption):JS c (.Assign [.Name x pos'] e pos) (ir i g):=.of λρ=>CJ (Jx l o u (h ρ) hs n) λD y H j=>by
 obtain⟨z,w,la,Hs,f,q⟩:=j;refine sE f q λd v m k s s1 p t=>?_;unfold ir at q;rw[s,bind_ok] at q;exact q _ m k (p.set i t)
def sR(g:aI->R D):aI->R Fl:=λρ=>(g ρ).bind λ_=>.ok (.nx ρ)
def xl(h:JE c e g)(hs:iN e none pos.line c.X.env=pure false:=by rfl):JS c (.Expr e pos) (sR g):=.of λρ=>CJ (Aj (h ρ) hs) λD o H i=>by
 obtain⟨p,n,la,Hs,f,q⟩:=i;refine sE f q λd v k j m s1 l s=>?_;unfold sR at q;rw[m,bind_ok] at q;exact q _ k j l
def TGq(K:af)(h f:Hp)(la:Nat->Option av)(H Hs:Hp)(Q:St->Hp->Prop)(r:R aI):Prop:=match r with
 |.ok d=>∀ σ',Fr K h f la d σ' H Hs->Q σ' H
 |_=>False
inductive Zw (K:af) (ρ:aI) (d:D) (r:R aI) (v:V) (σ:St) (H:Hp) (Q:St->Hp->Prop):Prop
 |mk (H0 Hs0:Hp) (la:Nat->Option av) (Hs:Hp) (f:Fr K H0 Hs0 la ρ σ H Hs) (rd:RD K Hs v d) (q:TGq K H0 Hs0 la H Hs Q r):Zw K ρ d r v σ H Q
def Xz(K:af)(ρ:aI)(d:D)(r:R aI):TG:=Zw K ρ d r
inductive VZ (K:af) (ρ:aI) (ds:List D) (r:R aI) (vs:List V) (σ:St) (H:Hp) (Q:St->Hp->Prop):Prop
 |mk (H0 Hs0:Hp) (la:Nat->Option av) (Hs:Hp) (f:Fr K H0 Hs0 la ρ σ H Hs) (rd:RDs K Hs vs ds) (q:TGq K H0 Hs0 la H Hs Q r):VZ K ρ ds r vs σ H Q
def Zx(K:af)(ρ:aI)(ds:List D)(r:R aI):TU:=VZ K ρ ds r
structure JG (c:C) (t:bJ) (k:D->aI->R aI):Prop where of ::
 run:∀ ρ d,PG c.X t (Xz c.X.K ρ d (k d ρ))
instance{c:C}{t:bJ}{k:D->aI->R aI}:CoeFun (JG c t k) (λ_=>∀ ρ d,PG c.X t (Xz c.X.K ρ d (k d ρ))):=⟨JG.run⟩
structure YE (c:C) (t:List bJ) (k:List D->aI->R aI):Prop where of ::
 run:∀ ρ d,VB c.X t (Zx c.X.K ρ d (k d ρ))
instance{c:C}{t:List bJ}{k:List D->aI->R aI}:CoeFun (YE c t k) (λ_=>∀ ρ d,VB c.X t (Zx c.X.K ρ d (k d ρ))):=⟨YE.run⟩
def mPG(h:PG X e t)(m:∀v d H Q,t' v d H Q->t v d H Q):PG X e t':=λf s d H v u Q I r q=>h f s d H v u Q I r (m v d H Q q)
def q0X{X:Cx}{e:List bJ}{t t':TU}(h:VB X e t)(m:∀v d H Q,t' v d H Q->t v d H Q):VB X e t':=λf s d H v u Q I r q=>h f s d H v u Q I r (m v d H Q q)
def bN(i:Nat):D->aI->R aI:=λd ρ=>.ok (ρ.set i (.shr d))
def dw(i:Nat)(j:c.X.N.Nodup)(l:c.X.N[i]?=some x:=by rfl)(k:Vz c.X.env.scope x:=by first|exact jC rfl|exact gy rfl)(m:c.X.fn x=true\/c.X.env.scope.names.lookup x=some .local:=by first|exact .inl rfl|exact .inr rfl|assumption):
  JG c (.Name x pos) (bN i):=.of λρ d=>mPG (cU j l k m) λv o H Q h=>by obtain⟨p,n,la,Hs,f,r,q⟩:=h;exact q _ (f.set i r)
def nB:List D->aI->R aI:=λds ρ=>match ds with
 |[]=>.ok ρ
 |_=>.no
def cO(k:D->aI->R aI)(h:List D->aI->R aI):List D->aI->R aI:=λds ρ=>match ds with
 |d::r=>(k d ρ).bind λf=>h r f
 |_=>.no
def nP:YE c [] nB:=.of λρ ds=>q0X Ak λk h H Q d=>by
 obtain⟨j,i,la,Hs,f,r,q⟩:=d;cases r with
 |nil=>exact⟨rfl,q h f⟩
 |cons _ _=>exact q.elim
theorem dI(h:JG c t kt)(w:YE c ts kts)(hs:(jN (t::ts) c.X.env).map (·.2)=vS t c.X.env::(jN ts c.X.env).map (·.2):=by rfl):YE c (t::ts) (cO kt kts):=.of λρ ds j s u H K E Q I B i=>by
 obtain⟨o,k,la,Hs,f,r,q⟩:=i;cases r with
 |nil=>exact q.elim
 | @cons v p d y A G=>
  unfold cO at q;cases l:kt d ρ with
  |ok m=>
   simp only[l,bind_ok] at q;refine oJ (h ρ d) (w m y) hs j s u H _ E Q I B ⟨v,p,rfl,o,k,la,Hs,f,A,?_⟩;rw[l];exact λσ' z=>⟨o,k,la,Hs,z,G,q⟩
  |ex x n=>simp only[l,bind_ex] at q;exact q.elim
  |no=>simp only[l,bind_no] at q;exact q.elim
def mw(n:Nat)(f:List D->aI->R aI):D->aI->R aI:=λd ρ=>match d with
 |.tuple ds=>if ds.length=n then f ds ρ else .no
 |_=>.no
theorem rW(A:c.X.calm=true)(h:YE c ts kts)(z:(jN ts c.X.env).length=n:=by rfl)(m:(jN ts c.X.env).findIdx? (·.1)=none:=by rfl):JG c (.Tuple ts k pos) (mw n kts):=.of λρ d=>by
 cases d with
 |tuple ds=>
  refine mPG (Ey A (h ρ ds) z m) λv B H Q l=>?_;obtain⟨w,j,la,Hs,f,r,q⟩:=l;cases r with
  | @tuple p xs _ E t=>
   unfold mw at q;by_cases o:ds.length=n
   ·simp only[if_pos o] at q;exact⟨p,xs,rfl,(mD.of (f.st.sub _ _ E)),by rw[t.length];exact o,w,j,la,Hs,f,t,q⟩
   ·simp only[if_neg o] at q;exact q.elim
 |_=>exact λy s B H v u Q I G i=>by obtain⟨w,j,la,Hs,f,r,q⟩:=i;exact q.elim
def A1(g:aI->R D)(k:D->aI->R aI):aI->R Fl:=λρ=>(g ρ).bind λd=>match k d ρ with
 |.ok f=>.ok (.nx f)
 |_=>.no
theorem A_(h:JE c e g)(N:JG c t kt)(hs:A9 [t] e pos.line c.X.env=pure false:=by rfl)(K:Aa [t] e c.X.env=pure none:=by rfl)(A:(jN [t] c.X.env).map (·.2)=[vS t c.X.env]:=by rfl):
  JS c (.Assign [t] e pos) (A1 g kt):=.of λρ=>by
 cases o:g ρ with
 |ok d=>
  refine CJ (Ph (h ρ) (N ρ d) hs K A) λD E H m=>?_;obtain⟨y,j,la,Hs,f,q⟩:=m;refine sE (k:=λd=>match kt d ρ with | .ok w=>.ok (.nx w)|_=>.no) f q λd' v B i u s1 L M=>?_;rw[o] at u;cases u;unfold A1 at q;rw[o,bind_ok] at q;refine⟨y,j,la,i,L,M,?_⟩;cases z:kt d ρ with
  |ok w=>rw[z] at q;exact λσ' O=>q σ' B i O
  |ex x n=>rw[z] at q;exact q.elim
  |no=>rw[z] at q;exact q.elim
 |ex x n=>
  refine CJ (Ph (h ρ) (N ρ .none) hs K A) λD E H l=>?_;obtain⟨y,j,la,Hs,f,q⟩:=l;refine sE (k:=λ_=>.no) (D':=D) f (by unfold A1 at q;rw[o] at q ⊢;exact q) λd' v B i u s1 L M=>?_;rw[o] at u;cases u
 |no=>
  refine λG s E H D I p=>?_;obtain⟨y,j,la,Hs,f,q⟩:=p;unfold A1 at q;rw[o] at q;exact q.elim
end
def T8(K:af)(J:It)(ds:List D)(f Hs:Hp):Prop:=∀b a,eD f b->eD Hs a->eD a b ->
 (∀i,i<ds.length->J.go i b)/\(∀i,ds.length<=i->J.stop i b)/\∀i x e,i<ds.length->J.yld i b x e->∃d c,ds[i]?=some d/\db b a e c/\RD K c x d
def EV(h:sQ K Hn a vs)(r:RDs K Hs vs ds):T8 K (Itl K a) ds Hn Hs:=λn e f j k=>by
 have q:=f.seq h;refine⟨λi b=>?_,λi b=>⟨vs,q,by rw[r.length];exact b⟩,λi x m b y=>?_⟩
 ·have c:i<vs.length:=by rw[r.length];exact b
  exact⟨vs,vs[i],q,bp c⟩
 ·obtain⟨rfl,y⟩:=y;obtain⟨d,l,g⟩:=r.get (y vs q);exact⟨d,e,l,.refl k,g.same j⟩
def Qh(h:mD K Hn a vs)(r:RDs K Hs vs ds):T8 K (Itt K a) ds Hn Hs:=λn e f j k=>by
 have q:=f.tup h;refine⟨λi b=>?_,λi b=>⟨vs,q,by rw[r.length];exact b⟩,λi x m b y=>?_⟩
 ·have c:i<vs.length:=by rw[r.length];exact b
  exact⟨vs,vs[i],q,bp c⟩
 ·obtain⟨rfl,y⟩:=y;obtain⟨d,l,g⟩:=r.get (y vs q);exact⟨d,e,l,.refl k,g.same j⟩
def Qi(x:Str):T8 K (Zd x) (qy x) Hn Hs:=λh b j k e=>by
 have d:(qy x).length=x.cps.size:=by simp[qy]
 refine⟨λi a=>by rw[d] at a;exact a,λi a=>by rw[d] at a;exact a,λi v g a y=>?_⟩;obtain⟨rfl,c,f,rfl⟩:=y;refine⟨.str ⟨#[c]⟩,b,?_,.refl e,.str _⟩;unfold qy;rw[aP,aW,f];rfl
def u0(lo:Int)(n:Nat):List D:=(bx n).map λ(k:Nat)=>ji (lo+k)
def Qj(lo:Int)(n:Nat):T8 K (Itr lo n) (u0 lo n) Hn Hs:=λf b g h d=>by
 have c:(u0 lo n).length=n:=by simp[u0]
 refine⟨λi a=>by rw[c] at a;exact a,λi a=>by rw[c] at a;exact a,λi v e a y=>?_⟩;obtain⟨rfl,rfl⟩:=y;refine⟨.int (lo+i),b,?_,.refl d,.int _⟩;rw[c] at a;unfold u0;rw[aP,MS a];rfl
def mi(n:Nat):List D->List D
 |[]=>[]
 |d::r=>.tuple [.int n,d]::mi (n+1) r
theorem Dv:∀(ds:List D) (n i:Nat),(mi n ds)[i]?=(ds[i]?).map λd=>gO [.int ((n+i:Nat):Int),d]
 |[],_,_=>by simp[mi]
 |d::r,n,0=>by simp[mi]
 |d::r,n,i+1=>by
  simp only[mi,lL];rw[Dv r (n+1) i,show n+1+i=n+(i+1) by omega]
theorem Dw:∀(ds:List D) (n:Nat),(mi n ds).length=ds.length
 |[],_=>rfl
 |d::r,n=>by simp[mi,Dw r]
def Ux(h:mD K Hn a vs)(r:RDs K Hs vs ds):T8 K (Ite K a) (mi 0 ds) Hn Hs:=λu j k m n=>by
 have q:=k.tup h;have s:=Dw ds 0;refine⟨λi c=>?_,λi c=>⟨vs,q,by rw[r.length];omega⟩,λi x t c y=>?_⟩
 ·have b:i<vs.length:=by rw[r.length];omega
  exact⟨vs,vs[i],q,bp b⟩
 ·obtain⟨p,l,rfl,y⟩:=y;obtain⟨x,g,rfl⟩:=y vs q;obtain⟨d,f,e⟩:=r.get g;have st:=db.new (o:=.tup [.int i,x]) n l;refine⟨.tuple [.int i,d],_,?_,st,.tuple bB (.cons (.int _) (.cons ((e.same m).same st.sh) .nil))⟩;rw[Dv,f];simp
def A2:List D->List D->List D
 |x::xs,y::ys=>.tuple [x,y]::A2 xs ys
 |_,_=>[]
theorem GQ:∀(xs ys:List D) (i:Nat) (x y:D),xs[i]?=some x->ys[i]?=some y->(A2 xs ys)[i]?=some (.tuple [x,y])
 |x::xs,y::ys,0,_,_,a,b=>by simp at a b;subst a b;rfl
 |_::xs,_::ys,i+1,x,y,a,b=>by
  simp only[lL] at a b;simp only[A2,lL];exact GQ xs ys i x y a b
 |[],_,_,_,_,a,_=>by simp at a
 |_::_,[],_,_,_,_,b=>by simp at b
theorem GR:∀(xs ys:List D),(A2 xs ys).length=min xs.length ys.length
 |x::xs,y::ys=>by simp[A2,GR xs ys]
 |[],_=>by simp[A2]
 |_::_,[]=>by simp[A2]
def XA(h:mD K Hn a vs)(r:RDs K Hs vs ds)(h':mD K Hn b ws)(f:RDs K Hs ws es):T8 K (Itz K a b) (A2 ds es) Hn Hs:=λG u k l A=>by
 have q:=k.tup h;have q':=k.tup h';have B:=GR ds es;refine⟨λi j=>?_,λi j=>⟨vs,ws,q,q',by rw[r.length,f.length];omega⟩,λi x E j y=>?_⟩
 ·have m:i<vs.length:=by rw[r.length];omega
  have v:i<ws.length:=by rw[f.length];omega
  exact⟨vs,ws,vs[i],ws[i],q,q',bp m,bp v⟩
 ·obtain⟨p,w,rfl,y⟩:=y;obtain⟨x,z,t,c,rfl⟩:=y vs ws q q';obtain⟨d,s,n⟩:=r.get t;obtain⟨d',g,e⟩:=f.get c;have st:=db.new (o:=.tup [x,z]) A w;exact⟨.tuple [d,d'],_,GQ ds es i d d' s g,st,.tuple bB (.cons ((n.same l).same st.sh) (.cons ((e.same l).same st.sh) .nil))⟩
inductive Zy (K:af) (cls:Str->av) (E:XK) (ρ:aI) (r:R (List D)) (σ:St) (H:Hp) (Q:It->Hp->Prop):Prop
 |mk (H0 Hs0:Hp) (la:Nat->Option av) (Hs:Hp) (f:Fr K H0 Hs0 la ρ σ H Hs) (q:Fin K cls E H Hs r λds=>∀J H' Hs' Hn,db H Hs H' Hs'->eD Hn H'->T8 K J ds Hn Hs'->Q J H'):Zy K cls E ρ r σ H Q
def XB(K:af)(cls:Str->av)(E:XK)(ρ:aI)(r:R (List D)):TI:=Zy K cls E ρ r
inductive ZA (K:af) (cls:Str->av) (E:XK) (ρ:aI) (r:R (List D)) (σ:St) (H:Hp) (Q:It->Hp->Prop):Prop
 |mk (H0 Hs0:Hp) (la:Nat->Option av) (Hs:Hp) (f:Fr K H0 Hs0 la ρ σ H Hs) (q:Fin K cls E H Hs r λds=>∀J H' Hs',db H Hs H' Hs'->T8 K J ds Hs' Hs'->Q J H'):ZA K cls E ρ r σ H Q
def TIs(K:af)(cls:Str->av)(E:XK)(ρ:aI)(r:R (List D)):TI:=ZA K cls E ρ r
structure JI (c:C) (tg it:bJ) (g:aI->R (List D)):Prop where of ::
 run:∀ ρ,PI c.X tg it (XB c.X.K c.cls c.E ρ (g ρ))
instance{c:C}{tg it:bJ}{g:aI->R (List D)}:CoeFun (JI c tg it g) (λ_=>∀ ρ,PI c.X tg it (XB c.X.K c.cls c.E ρ (g ρ))):=⟨JI.run⟩
structure OT (c:C) (tg it:bJ) (g:aI->R (List D)):Prop where of ::
 run:∀ ρ,PI c.X tg it (TIs c.X.K c.cls c.E ρ (g ρ))
instance{c:C}{tg it:bJ}{g:aI->R (List D)}:CoeFun (OT c tg it g) (λ_=>∀ ρ,PI c.X tg it (TIs c.X.K c.cls c.E ρ (g ρ))):=⟨OT.run⟩
def OU(h:PI X tg e t)(m:∀a H Q,t' a H Q->t a H Q):PI X tg e t':=λb s a H Q I q=>h b s a H Q I (m a H Q q)
def u4:D->R (List D)
 |.list ds=>.ok ds
 |.tuple ds=>.ok ds
 |.str x=>.ok (qy x)
 |_=>.no
def gC(g:aI->R D):aI->R (List D):=λρ=>(g ρ).bind u4
def fi(h:JB c l g):JI c tg l (gC g):=.of λρ=>by
 cases j:g ρ with
 |no=>exact λe s o H Q I y=>by obtain⟨p,b,la,Hs,f,q⟩:=y;exact by unfold gC at q;rw[j] at q;exact q.elim
 |ex x n=>
  refine OU (wU (h ρ)) λo H Q M=>?_;obtain⟨p,b,la,Hs,f,q⟩:=M;refine one f q λd v m i k s1 w t=>?_;rw[j] at k;cases k
 |ok d=>
  cases d with
  |list ds=>
   refine OU (wU (h ρ)) λo H Q z=>?_;obtain⟨p,b,la,Hs,f,q⟩:=z;refine one f q λd v m i k s1 w t=>?_;rw[j] at k;cases k;unfold gC at q;rw[j,bind_ok] at q;obtain⟨a,O,rfl,u,N⟩:=t.list w.st.sub;exact⟨a,rfl,⟨O,u⟩,q _ m i m s1 (.refl _) (EV u N)⟩
  |tuple ds=>
   refine OU (Pk (h ρ)) λo H Q A=>?_;obtain⟨p,b,la,Hs,f,q⟩:=A;refine one f q λd v m i k s1 w t=>?_;rw[j] at k;cases k;unfold gC at q;rw[j,bind_ok] at q;obtain⟨a,O,rfl,u,N,_⟩:=t.tuple w.st.sub;exact⟨a,rfl,⟨O,u⟩,q _ m i m s1 (.refl _) (Qh u N)⟩
  |str x=>
   refine OU (Q0 (h ρ)) λo H Q L=>?_;obtain⟨p,b,la,Hs,f,q⟩:=L;refine one f q λd v m i k s1 w t=>?_;rw[j] at k;cases k;unfold gC at q;rw[j,bind_ok] at q;exact⟨x,t.str,q _ m i m s1 (.refl _) (Qi x)⟩
  |none=>exact λe s o H Q I B=>by obtain⟨p,b,la,Hs,f,q⟩:=B;exact by unfold gC at q;rw[j] at q;exact q.elim
  |bool _=>exact λe s o H Q I E=>by obtain⟨p,b,la,Hs,f,q⟩:=E;exact by unfold gC at q;rw[j] at q;exact q.elim
  |int _=>exact λe s o H Q I G=>by obtain⟨p,b,la,Hs,f,q⟩:=G;exact by unfold gC at q;rw[j] at q;exact q.elim
  |dict _=>exact λe s o H Q I K=>by obtain⟨p,b,la,Hs,f,q⟩:=K;exact by unfold gC at q;rw[j] at q;exact q.elim
def xm(h:JE c l g):OT c tg l (gC g):=.of λρ=>by
 cases i:g ρ with
 |no=>exact λb s k H Q I L=>by obtain⟨m,a,la,Hs,f,q⟩:=L;exact by unfold gC at q;rw[i] at q;exact q.elim
 |ex x n=>
  refine OU (wU (h ρ)) λk H Q E=>?_;obtain⟨m,a,la,Hs,f,q⟩:=E;refine CK f q λd v o e j s1 B p=>?_;rw[i] at j;cases j
 |ok d=>
  cases d with
  |list ds=>
   refine OU (wU (h ρ)) λk H Q K=>?_;obtain⟨m,a,la,Hs,f,q⟩:=K;refine CK f q λd v o e j s1 B p=>?_;rw[i] at j;cases j;unfold gC at q;rw[i,bind_ok] at q;cases p with
   |list t M=>exact⟨_,rfl,⟨_,B.st.sub.seq t⟩,q _ o e s1 (EV t M)⟩
  |tuple ds=>
   refine OU (Pk (h ρ)) λk H Q y=>?_;obtain⟨m,a,la,Hs,f,q⟩:=y;refine CK f q λd v o e j s1 B p=>?_;rw[i] at j;cases j;unfold gC at q;rw[i,bind_ok] at q;cases p with
   |tuple t M=>exact⟨_,rfl,⟨_,(mD.of (B.st.sub _ _ t))⟩,q _ o e s1 (Qh (.of t) M)⟩
  |str x=>
   refine OU (Q0 (h ρ)) λk H Q z=>?_;obtain⟨m,a,la,Hs,f,q⟩:=z;refine CK f q λd v o e j s1 B p=>?_;rw[i] at j;cases j;unfold gC at q;rw[i,bind_ok] at q;cases p with
   |str _=>exact⟨x,rfl,q _ o e s1 (Qi x)⟩
  |none=>exact λb s k H Q I G=>by obtain⟨m,a,la,Hs,f,q⟩:=G;exact by unfold gC at q;rw[i] at q;exact q.elim
  |bool _=>exact λb s k H Q I A=>by obtain⟨m,a,la,Hs,f,q⟩:=A;exact by unfold gC at q;rw[i] at q;exact q.elim
  |int _=>exact λb s k H Q I w=>by obtain⟨m,a,la,Hs,f,q⟩:=w;exact by unfold gC at q;rw[i] at q;exact q.elim
  |dict _=>exact λb s k H Q I u=>by obtain⟨m,a,la,Hs,f,q⟩:=u;exact by unfold gC at q;rw[i] at q;exact q.elim
theorem OT.i(h:OT c tg l gs):JI c tg l gs:=.of λρ=>OU (h ρ) λg H Q ⟨e,d,la,Hs,f,q⟩=>⟨e,d,la,Hs,f,by
 cases b:gs ρ with
 |ok ds=>rw[b] at q;exact λJ H' a s i=>q J H' a a s s.sub i
 |ex x n=>rw[b] at q;exact q
 |no=>rw[b] at q;exact q⟩
def K9:List D->R (List D)
 |[.int j]=>if -(2 ^ 62)<=j/\j<2 ^ 62 then .ok (u0 0 j.toNat) else .no
 |_=>.no
def Dx(a:aI->R (List D)):aI->R (List D):=λρ=>(a ρ).bind K9
def wc(n:Gl c.X "range")(k:c.X.mg "range"=none)(i:VT c [a] gs)(hs:a_ [a] c.X.env=[(false,fO a c.X.env)]:=by rfl):OT c tg (.Call (.Name "range" p) [a] [] pos) (Dx gs):=.of λρ=>OU (N7 n k (i ρ) hs) λs H Q b=>by
 obtain⟨t,o,la,Hs,f,q⟩:=b;refine Qa f q λds v h e l s1 u m=>?_;unfold Dx at q;rw[l,bind_ok] at q;unfold K9 at q;split at q
 ·rename_i j
  by_cases d:-(2 ^ 62)<=j/\j<2 ^ 62
  ·rw[if_pos d] at q;obtain⟨x,rfl,g⟩:=m.one;exact⟨j,by rw[g.int],d.1,d.2,q _ h e s1 (Qj 0 _)⟩
  ·rw[if_neg d] at q;exact q.elim
 ·exact q.elim
def enm:List D->R (List D)
 |[.tuple ds]=>.ok (mi 0 ds)
 |_=>.no
def yy(a:aI->R (List D)):aI->R (List D):=λρ=>(a ρ).bind enm
def RDs.one(h:RDs K H xs [d]):∃x,xs=[x]/\RD K H x d:=by
 cases h with|cons a t=>cases t;exact⟨_,rfl,a⟩
def RDs.two{K:af}{H:Hp}{xs:List V}{d e:D}(h:RDs K H xs [d,e]):∃x y,xs=[x,y]/\RD K H x d/\RD K H y e:=by
 cases h with|cons a t=>cases t with|cons b t=>cases t;exact⟨_,_,rfl,a,b⟩
def u5{x1}(o:Gl c.X "enumerate")(j:c.X.mg "enumerate"=none)(i:Nr c [a] gs)(hs:a_ [a] c.X.env=[(false,fO a c.X.env)]:=by rfl):OT c (.Tuple elts x1 tpos) (.Call (.Name "enumerate" p) [a] [] pos) (yy gs):=.of λρ=>OU (Uk o j (i ρ) hs) λt H Q b=>by
 obtain⟨u,s,la,Hs,f,q⟩:=b;refine K0 f q λds v h d l s1 k m=>?_;unfold yy at q;rw[l,bind_ok] at q;unfold enm at q;split at q
 ·obtain⟨x,rfl,g⟩:=m.one;cases g with
  |tuple e n=>exact⟨_,_,rfl,(mD.of (k.st.sub _ _ e)),q _ h d s1 (Ux (.of e) n)⟩
 ·exact q.elim
def zp:List D->R (List D)
 |[.tuple ds,.tuple es]=>.ok (A2 ds es)
 |_=>.no
def Uy(a:aI->R (List D)):aI->R (List D):=λρ=>(a ρ).bind zp
def Uz{x1}(w:Gl c.X "zip")(n:c.X.mg "zip"=none)(m:Nr c [a,b] gs)(hs:a_ [a,b] c.X.env=[(false,fO a c.X.env),(false,fO b c.X.env)]:=by rfl)(e:a_ [b] c.X.env=[(false,fO b c.X.env)]:=by rfl):
  OT c (.Tuple elts x1 tpos) (.Call (.Name "zip" p) [a,b] [] pos) (Uy gs):=.of λρ=>OU (Xt w n (m ρ) hs e) λA H Q d=>by
 obtain⟨B,z,la,Hs,f,q⟩:=d;refine K0 f q λds E l g o s1 j t=>?_;unfold Uy at q;rw[o,bind_ok] at q;unfold zp at q;split at q
 ·obtain⟨x,y,rfl,k,s⟩:=t.two;cases k with
  |tuple h v=>
   cases s with
   |tuple i u=>exact⟨_,_,_,_,rfl,(mD.of (j.st.sub _ _ h)),(mD.of (j.st.sub _ _ i)),q _ l g s1 (XA (.of h) v (.of i) u)⟩
 ·exact q.elim
inductive TNI (K:af) (cls:Str->av) (E:XK) (ρ:aI) (r:R D) (σ:St) (H:Hp) (Q:VK):Prop
 |mk (H0 Hs0:Hp) (la:Nat->Option av) (Hs:Hp) (f:Fr K H0 Hs0 la ρ σ H Hs) (q:Fin K cls E H Hs r λd=>∀a o H' Hs',db H Hs H' Hs'->H' a=none->pA K Hs' o d->Q (.ref a) (upd H' a o)):TNI K cls E ρ r σ H Q
def TN(K:af)(cls:Str->av)(E:XK)(ρ:aI)(r:R D):TE:=TNI K cls E ρ r
structure JN (c:C) (e:bJ) (g:aI->R D):Prop where of ::
 run:∀ ρ,PE c.X e (TN c.X.K c.cls c.E ρ (g ρ))
instance{c:C}{e:bJ}{g:aI->R D}:CoeFun (JN c e g) (λ_=>∀ ρ,PE c.X e (TN c.X.K c.cls c.E ρ (g ρ))):=⟨JN.run⟩
section
variable{c:C}{e a b l tg:bJ}{g ga gb:aI->R D}{pos p:Pos}{gs:aI->R (List D)}{es:List bJ}{x:Str}
theorem q0Y(q:TR K cls E ρ r σ H Q):TN K cls E ρ r σ H Q:=by
 obtain⟨i,h,la,Hs,f,q⟩:=q;refine⟨i,h,la,Hs,f,?_⟩;cases r with
 |ok d=>exact λa o H' j s n r=>q _ _ _ (s.trans (.new s.sub n)) (r.share (s.sub.free n))
 |ex x n=>exact q
 |no=>exact q
def JN.je(h:JN c e g):JE c e g:=.of λρ=>tU (h ρ) λd H Q q=>q0Y q
theorem B0(h:Nr c es gs):JN c (.List es pos) (fv gs .list):=.of λρ=>tU (vY (h ρ)) λt H Q d=>by
 obtain⟨u,s,la,Hs,f,q⟩:=d;refine K0 f q λds w m j n s1 v k=>?_;unfold fv at q;rw[n,bind_ok] at q;by_cases i:ds.length<=1000
 ·rw[if_pos i] at q;exact⟨cB (fE (by rw[k.length];exact i)),λp o=>q p _ m j s1 o (.lst k)⟩
 ·rw[if_neg i] at q;exact q.elim
theorem LA:JN c (.Dict [] [] pos) (λ_=>.ok (.dict [])):=.of λρ=>tU PJ λj H Q d=>by obtain⟨k,i,la,Hs,f,q⟩:=d;exact λp h=>q p _ H Hs (.refl f.st.sub) h (.dK .nil)
def i9(i:Nat)(g:aI->R D):aI->R Fl:=λρ=>(g ρ).bind λd=>.ok (.nx (ρ.set i (.own d)))
theorem sN(f:Fr K H0 Hs0 la ρ σ H Hs)
  (h:rc K cls E H0 Hs0 la D' (r.bind k)) (m:∀d a o H' i,r=.ok d->Fr K H0 Hs0 la ρ σ H' i->H' a=none->pA K i o d->Q (.ref a) (upd H' a o)):TN K cls E ρ r σ H Q:=by
 refine⟨H0,Hs0,la,Hs,f,?_⟩;cases r with
 |ok d=>exact λa o H' i s n r=>m d a o H' i rfl (f.step s) n r
 |ex c n=>exact λH' i s=>h H' i (f.st.trans s)
 |no=>exact h
theorem nQ(i:Nat)(h:JN c e g)(m:c.X.N.Nodup)(t:c.X.N[i]?=some x:=by rfl)(y:Vz c.X.env.scope x:=by first|exact jC rfl|exact gy rfl)(hs:iN e (some (.Name x pos')) pos.line c.X.env=pure false:=by rfl)
  (s:c.X.fn x=true\/c.X.env.scope.names.lookup x=some .local:=by first|exact .inl rfl|exact .inr rfl|assumption):JS c (.Assign [.Name x pos'] e pos) (i9 i g):=.of λρ=>CJ (Jx m t y (h ρ) hs s) λD B H j=>by
 obtain⟨E,z,la,Hs,f,q⟩:=j;refine sN f q λd a o A k v u n w=>?_;unfold i9 at q;rw[v,bind_ok] at q;exact q _ _ k (u.setO i n w)
def EW{d:Type}:R d->R d
 |.ex _ _=>.no
 |r=>r
def xn{d:Type}{r:R d}{a:d}(h:EW r=.ok a):r=.ok a:=by
 cases r<;>first|exact h|cases h
def gD(f:D->R (Option D)):List D->R (List D)
 |[]=>.ok []
 |d::r=>(f d).bind λo=>(gD f r).bind λys=>.ok (match o with
  |some y=>y::ys
  |none=>ys)
theorem rX(h:gD f (d::r)=.ok ys):∃o i,f d=.ok o/\gD f r=.ok i/\ys=o.toList++i:=by
 unfold gD at h;cases j:f d with
 |ok o=>
  rw[j,bind_ok] at h;cases k:gD f r with
  |ok i=>
   rw[k,bind_ok] at h;cases h;cases o<;>exact⟨_,i,rfl,rfl,rfl⟩
  |ex x n=>rw[k] at h;cases h
  |no=>rw[k] at h;cases h
 |ex x n=>rw[j] at h;cases h
 |no=>rw[j] at h;cases h
def UA:Sl->Sl
 |.own d=>.lck d
 |.ow2 _=>.no
 |s=>s
def m5(nt:Nat)(ix:List Nat)(ρ:aI):aI:=vw nt Sl.no++ix.map λi=>UA ((ρ[i]?).getD .no)
def V_(nt:Nat):D->aI->R aI:=match nt with
 | 1=>bN 0
 | 2=>mw 2 (cO (bN 0) (cO (bN 1) nB))
 |_=>λ_ _=>.no
def jl(nt:Nat)(ρ:aI)(gt:aI->R Bool)(ge:aI->R D):D->R (Option D):=λd=>EW ((V_ nt d ρ).bind λf=>(gt f).bind λb=>if b then(ge f).bind λy=>.ok (some y) else .ok none)
def dh(nt:Nat)(ix:List Nat)(d:aI->R (List D))(gt:aI->R Bool)(ge:aI->R D):aI->R D:=λρ=>(d ρ).bind λds=>if ds.length<=1000 then(gD (jl nt (m5 nt ix ρ) gt ge) ds).bind λys=>.ok (.list ys) else .no
structure XC (c:C) (ifs:List bJ) (g:aI->R Bool):Prop where of ::
 run:∀ ρ,JM c.X ifs (GK c.X.K c.cls c.E ρ (g ρ))
instance{c:C}{ifs:List bJ}{g:aI->R Bool}:CoeFun (XC c ifs g) (λ_=>∀ ρ,JM c.X ifs (GK c.X.K c.cls c.E ρ (g ρ))):=⟨XC.run⟩
def fc:XC c [] (λ_=>.ok true):=.of λρ d s i H Q I h=>by obtain⟨k,j,la,Hs,f,q⟩:=h;exact Ud d s i H Q I (q H Hs (.refl f.st.sub))
def nR(h:JT c e gt):XC c [e] gt:=.of λρ=>Ue (h ρ)
def EX(K:af)(nt:Nat):TG:=match nt with
 | 1=>pJ 0
 |_=>X0 K 2 (L2.ag (pJ 0) (L2.ag (pJ 1) L2.aJ))
def xo{K:af}{nt:Nat}(h:nt=1\/nt=2):Ug nt (EX K nt):=by
 rcases h with rfl|rfl
 ·exact PN ⋯
 ·exact Uh ⋯ ⋯
theorem xp{K:af}{nt:Nat}{s k H Hs:Hp}{la:Nat->Option av}{ρ j:aI}{o:St}{v:V}{d:D}{Q:St->Hp->Prop}(m:nt=1\/nt=2)(f:Fr K s k la ρ o H Hs)(r:RD K Hs v d)(h:V_ nt d ρ=.ok j)
  (q:∀ σ',Fr K s k la j σ' H Hs->Q σ' H):EX K nt v o H Q:=by
 rcases m with rfl|rfl
 ·cases h;exact q _ (f.set 0 r)
 ·unfold V_ mw at h;simp only at h;cases r with
  | @tuple p xs ds t i=>
   simp only at h;split at h
   ·rename_i n
    cases i with
    |nil=>cases n
    |cons u i=>
     cases i with
     |nil=>cases n
     |cons w i=>
      cases i with
      |nil=>
       cases h;exact⟨p,_,rfl,(mD.of (f.st.sub _ _ t)),rfl,_,_,rfl,_,_,rfl,rfl,q _ ((f.set 0 u).set 1 w)⟩
      |cons _ _=>simp at n
   ·cases h
  |none=>cases h
  |bool _=>cases h
  |int _=>cases h
  |str _=>cases h
  |list _ _=>cases h
  |dictK _ _=>cases h
  |dictT _ _ _=>cases h
  |dictF _ _ _=>cases h
theorem Fr.block(f:Fr K H0 Hs0 la ρ σ H Hs)(nt:Nat)(ix:List Nat):∃E,Fr K H Hs E (m5 nt ix ρ) (L2.mT nt ix σ) H Hs:=by
 have I:∀(j:Nat) (d:D),(m5 nt ix ρ)[j]?=some (Sl.lck d)->∃a o,(L2.mT nt ix σ)[j]?=some (some (V.ref a))/\H a=some o/\Hs a=none/\pA K Hs o d:=λj d h=>by
  unfold m5 at h;by_cases m:j<nt
  ·rw[bA (by simpa using m),cX,if_pos m] at h;cases h
  ·have m:nt<=j:=by omega
   rw[aU (by simpa using m),dX,aP] at h;cases t:ix[j-nt]? with
   |none=>rw[t] at h;cases h
   |some i=>
    rw[t] at h;have z:∀v,σ[i]?=some (some v)->(L2.mT nt ix σ)[j]?=some (some v):=λv u=>by
     unfold L2.mT;rw[aU (by simpa using m),dX,aP,t];simp[u]
    cases n:ρ[i]? with
    |none=>simp only[dn,n,iO,UA] at h;cases h
    |some s=>
     simp only[dn,n,kj] at h;cases s with
     |own d'=>
      cases h;obtain⟨a,o,u,w,A,B,L⟩:=f.ow i d n;exact⟨a,o,z _ u,w,A,L⟩
     |lck d'=>
      cases h;obtain⟨a,o,u,w,A,B,L,O⟩:=f.lk i d n;exact⟨a,o,z _ u,A,B,O⟩
     |no=>cases h
     |shr _=>cases h
     |ow2 _=>cases h
 have y:∀(j:Nat) (d:List (List D)),¬ (m5 nt ix ρ)[j]?=some (Sl.ow2 d):=λj d h=>by
  unfold m5 at h;by_cases m:j<nt
  ·rw[bA (by simpa using m),cX,if_pos m] at h;cases h
  ·have m:nt<=j:=by omega
   rw[aU (by simpa using m),dX,aP] at h;cases t:ix[j-nt]? with
   |none=>rw[t] at h;cases h
   |some i=>
    rw[t] at h;cases n:ρ[i]? with
    |none=>simp only[dn,n,iO,UA] at h;cases h
    |some s=>
     simp only[dn,n,kj] at h;cases s<;>cases h
 refine⟨λj=>match (m5 nt ix ρ)[j]?,(L2.mT nt ix σ)[j]? with
  |some (Sl.lck _),some (some (V.ref a))=>some a
  |_,_=>none,.refl f.st.sub,by simp[m5,L2.mT],λj d h=>?_,λj d h=>?_,λj d h=>?_,λj k G N a q M _ _=>?_,λj a h=>?_,λj d h=>(y j d h).elim,λj k G N q _=>(y j G q).elim⟩
 case refine_3=>
  obtain⟨a,o,u,w,A,B⟩:=I j d h;exact⟨a,o,u,by rw[h,u],w,A,w,B⟩
 case refine_5=>
  split at h
  ·rename_i d P q M
   cases h;obtain⟨P,o,u,w,_⟩:=I j d q;rw[M] at u;cases u;exact⟨o,w⟩
  ·cases h
 all_goals
  unfold m5 at *
 ·have h:=h;by_cases m:j<nt
  ·rw[bA (by simpa using m),cX,if_pos m] at h;cases h
  ·have m:nt<=j:=by omega
   rw[aU (by simpa using m),dX,aP] at h;cases t:ix[j-nt]? with
   |none=>rw[t] at h;cases h
   |some i=>
    rw[t] at h;cases n:ρ[i]? with
    |none=>simp only[dn,n,iO,UA] at h;cases h
    |some s=>
     simp only[dn,n,kj] at h;cases s with
     |shr d'=>
      cases h;obtain⟨v,u,w⟩:=f.sh i d n;refine⟨v,?_,w⟩;unfold L2.mT;rw[aU (by simpa using m),dX,aP,t];simp[u]
     |no=>cases h
     |own _=>cases h
     |lck _=>cases h
     |ow2 _=>cases h
 ·have h:=h;by_cases m:j<nt
  ·rw[bA (by simpa using m),cX,if_pos m] at h;cases h
  ·have m:nt<=j:=by omega
   rw[aU (by simpa using m),dX,aP] at h;cases t:ix[j-nt]? with
   |none=>rw[t] at h;cases h
   |some i=>
    rw[t] at h;cases n:ρ[i]? with
    |none=>simp only[dn,n,iO,UA] at h;cases h
    |some s=>
     simp only[dn,n,kj] at h;cases s<;>cases h
 ·have q:=q;by_cases m:j<nt
  ·rw[bA (by simpa using m),cX,if_pos m] at q;cases q
  ·have m:nt<=j:=by omega
   rw[aU (by simpa using m),dX,aP] at q;cases t:ix[j-nt]? with
   |none=>rw[t] at q;cases q
   |some i=>
    rw[t] at q;cases n:ρ[i]? with
    |none=>simp only[dn,n,iO,UA] at q;cases q
    |some s=>
     simp only[dn,n,kj] at q;cases s<;>cases q
theorem xq(h:∀d c n,f d≠.ex c n):∀(ds:List D) (c:Str) (n:Option D),gD f ds≠.ex c n
 |[],c,n=>λe=>by cases e
 |d::r,c,n=>λe=>by
  unfold gD at e;cases j:f d with
  |ok o=>
   rw[j,bind_ok] at e;cases i:gD f r with
   |ok m=>rw[i,bind_ok] at e;cases e
   |ex x k=>exact xq h r x k i
   |no=>rw[i] at e;cases e
  |ex x k=>exact h d x k j
  |no=>rw[j] at e;cases e
theorem B4(nt:Nat)(ρ:aI)(gt:aI->R Bool)(ge:aI->R D)(d:D)(c:Str)(n:Option D):jl nt ρ gt ge d≠.ex c n:=by
 unfold jl EW;split<;>first|exact λe=>by cases e|skip
 rename_i h
 exact λe=>h c n e
inductive cnI (K:af) (f:D->R (Option D)) (ds ys:List D) (H1 Hs1:Hp) (i m:Nat) (acc:List V) (H':Hp):Prop
 |mk (done bM zs ya Hs':_) (h0:ds=done++bM) (h1:done.length=i) (h2:bM.length=m) (h3:db H1 Hs1 H' Hs') (h4:RDs K Hs' acc ya) (h5:ya.length<=i) (h6:gD f bM=.ok zs) (h7:ys=ya++zs):cnI K f ds ys H1 Hs1 i m acc H'
theorem LB{K:af}{cls:Str->av}{E:XK}{nt:Nat}{ix:List Nat}{Y:aI->R (List D)}{gt:aI->R Bool}{ge:aI->R D}{ρ:aI}{u:St}{H:Hp}{Q:VK}(U:nt=1\/nt=2)
  (q:TN K cls E ρ (dh nt ix Y gt ge ρ) u H Q):
  PK nt ix (XB K cls E ρ (Y ρ)) (EX K nt) (λu H Q=>∃h,GK K cls E0 h (gt h) u H Q) (λu H Q=>∃h,TR K cls E0 h (ge h) u H Q) u H Q:=by
 obtain⟨H0,a4,la,Hs,f,q⟩:=q;refine⟨H0,a4,la,Hs,f,?_⟩;unfold dh at q;cases hi:Y ρ with
 |no=>rw[hi] at q;exact q
 |ex x n=>rw[hi] at q;exact q
 |ok ds=>
  rw[hi,bind_ok] at q;intro J H1 I Hn s1 sn it;by_cases hl:ds.length<=1000
  ·rw[if_pos hl] at q;cases T:gD (jl nt (m5 nt ix ρ) gt ge) ds with
   |no=>rw[T] at q;exact q.elim
   |ex x n=>exact(xq (B4 _ _ _ _) _ _ _ T).elim
   |ok ys=>
    rw[T,bind_ok] at q;obtain⟨lb,fb⟩:=(f.step s1).block nt ix;refine⟨cnI K (jl nt (m5 nt ix ρ) gt ge) ds ys H1 I,
     ⟨ds.length,[],ds,ys,[],I,rfl,rfl,rfl,.refl s1.sub,.nil,ca _,T,rfl⟩,?_⟩
    rintro i m a6 H' ⟨done,bM,zs,ya,L,k,s,N,st,P,yl,hz,O⟩;obtain⟨a3,t,w⟩:=it H' L (sn.trans st.all) st.sh st.sub;cases bM with
    |nil=>
     left;cases hz;rw[cq] at k O;subst O k;exact⟨t i ∅,λp hp=>q p _ H' L (s1.trans st) hp (.lst P)⟩
    |cons d bM=>
     right;have B:i<ds.length:=by rw[k,aS,aX];omega
     refine⟨a3 i B,fE (by rw[P.length];omega),λx H2 a1=>?_⟩;obtain⟨d',a0,hd,M,r2⟩:=w i x H2 B a1;have a2:d'=d:=by
      rw[k,aU ∅] at hd;simp[s] at hd;exact hd.symm
     subst a2;obtain⟨o,z,j,G,rfl⟩:=rX hz;have j:=xn j;cases S:V_ nt d' (m5 nt ix ρ) with
     |no=>rw[S] at j;cases j
     |ex x n=>rw[S] at j;cases j
     |ok h=>
      rw[S,bind_ok] at j;refine xp U ((fb.step st).step M) r2 S λa5 f2=>⟨h,?_⟩;refine⟨_,_,_,a0,f2,?_⟩;cases ht:gt h with
      |no=>rw[ht] at j;cases j
      |ex x n=>rw[ht] at j;cases j
      |ok b=>
       rw[ht,bind_ok] at j;intro H3 A s3;cases b with
       |false=>
        rw[if_neg bd] at j;cases j;refine zU ⟨bM.length,by rw[<- N];simp,done++[d'],bM,z,ya,A,by rw[k];simp,by simp[s],rfl,(st.trans M).trans s3,P.same (M.trans s3).sh,by omega,G,by simpa using O⟩
       |true=>
        rw[if_pos rfl] at j;refine zV ⟨h,_,_,_,A,f2.step s3,?_⟩;cases he:ge h with
        |no=>rw[he] at j;cases j
        |ex x n=>rw[he] at j;cases j
        |ok y=>
         rw[he,bind_ok] at j;cases j;intro v H4 X s4 r4;exact⟨bM.length,by rw[<- N];simp,done++[d'],bM,z,ya++[y],X,by rw[k];simp,by simp[s],rfl,((st.trans M).trans s3).trans s4,(P.same ((M.trans s3).trans s4).sh).append (.cons r4 .nil),by simp;omega,G,by rw[O];simp⟩
  ·rw[if_neg hl] at q;exact q.elim
def C.comp(c:C)(N':List Str)(scope:fG)(h:List (Str×av))(A:av)(d:au)(f:Hp)(j:List av)(i:List (av×Obj)):C:=⟨bT c.X N' scope h A d f j i,c.cls,E0⟩
variable{elt iter:bJ}{ifs:List bJ}{scope:fG}{N':List Str}{nt:Nat}{ix:List Nat}{gi:aI->R (List D)}{gt:aI->R Bool}{ge:aI->R D}
def uI(c:C)(N':List Str)(scope:fG)(nt:Nat)(tg:bJ)(ifs:List bJ)(elt:bJ)(gt:aI->R Bool)(ge:aI->R D):Prop:=
 ∀h A d f j i,PG (c.comp N' scope h A d f j i).X tg (EX c.X.K nt)/\XC (c.comp N' scope h A d f j i) ifs gt/\JE (c.comp N' scope h A d f j i) elt ge
def uI.at(h:uI c N' scope nt tg ifs elt gt ge):∀m A i f o n,PG (bT c.X N' scope m A i f o n) tg (EX c.X.K nt)/\JM (bT c.X N' scope m A i f o n) ifs (λk H Q=>∃d,GK c.X.K c.cls E0 d (gt d) k H Q) /\
  PE (bT c.X N' scope m A i f o n) elt (λk H Q=>∃d,TR c.X.K c.cls E0 d (ge d) k H Q):=λm A i f o n=>by
 obtain⟨v,y,w⟩:=h m A i f o n;exact⟨v,λj s k H Q I u=>by obtain⟨d,q⟩:=u;exact y d j s k H Q I q,λj s k H Q I t=>by obtain⟨d,q⟩:=t;exact w d j s k H Q I q⟩
def fR(nt:Nat)(d:nt=1\/nt=2)(f:c.X.calm=true)(S:mo c.X scope N' nt ix)(h:JI c tg iter gi)(i:uI c N' scope nt tg ifs elt gt ge)(hs:∀x,bW iter c.X.env x=pure x:=by intro _;rfl):
  JN c (.ListComp elt [⟨tg,iter,ifs,0⟩] scope pos) (dh nt ix gi gt ge):=.of λρ=>tU (Gy f S (xo d) (h ρ) i.at hs) λj H Q q=>LB d q
theorem kX(i:Nat){h u:Pos}(nt:Nat)(j:nt=1\/nt=2)(v:c.X.N.Nodup)(y:c.X.calm=true)(S:mo c.X scope N' nt ix)(B:JI c tg iter gi)(E:uI c N' scope nt tg ifs elt gt ge)
  (s:c.X.N[i]?=some x:=by rfl) (w:c.X.env.scope.names.lookup x=some .local:=by rfl)
  (n:iN (.ListComp elt [⟨tg,iter,ifs,0⟩] scope pos) (some (.Name x u)) h.line c.X.env=pure true:=by rfl)
  (hs:∀x,bW iter c.X.env x=pure x:=by intro _;rfl):JS c (.Assign [.Name x u] (.ListComp elt [⟨tg,iter,ifs,0⟩] scope pos) h) (i9 i (dh nt ix gi gt ge)):=.of λρ=>CJ (JQ v s w y S (xo j) (B ρ) E.at n hs) λD z H k=>by
 obtain⟨M,L,la,Hs,f,q⟩:=k;refine LB (Q:=λx t=>D.nx (z.set i (some x)) t) j (sN f q λd a o t m I G A K=>?_);unfold i9 at q;rw[I,bind_ok] at q;exact q _ _ m (G.setO i A K)
end
def Qk(h:PS X.nox st t):PS X st t:=λa s b H D I c=>
 cz (h a s b H D (I.wish _) c) (λ_ _ q=>q.unwish) λ_ _ z=>jZ z
def C.nox(c:C):C:=⟨c.X.nox,c.cls,E0⟩
def lO(k:D->aI->R aI)(b:aI->R Fl):List D->aI->R Fl
 |[],ρ=>.ok (.nx ρ)
 |d::r,ρ=>match k d ρ with
  |.ok ρ1=>match b ρ1 with
   |.ok (.nx a)=>lO k b r a
   |.ok (.ct a)=>lO k b r a
   |.ok (.bk a)=>.ok (.nx a)
   |.ok (.rt d)=>.ok (.rt d)
   |_=>.no
  |_=>.no
def EY(i:Nat)(ρ:aI):aI:=match ρ[i]? with
 |some (Sl.own d)=>ρ.set i (.lck d)
 |_=>ρ
def B5(i:Nat)(a ρ:aI):aI:=match a[i]?,ρ[i]? with
 |some (Sl.own _),some (Sl.lck d)=>ρ.set i (.own d)
 |_,_=>ρ
def unl(i:Nat)(a:aI):R Fl->R Fl
 |.ok (.nx ρ)=>.ok (.nx (B5 i a ρ))
 |.ok (.bk ρ)=>.no
 |.ok (.ct ρ)=>.no
 |r=>r
inductive fgI (K:af) (cls:Str->av) (E:XK) (H0 Hs0:Hp) (la:Nat->Option av) (D':Gh) (kt:D->aI->R aI) (gb:aI->R Fl) (ds:List D) (i m:Nat) (σ:St) (H:Hp):Prop
 |mk (done bM ρ Hs:_) (h0:ds=done++bM) (h1:done.length=i) (h2:bM.length=m) (h3:Fr K H0 Hs0 la ρ σ H Hs) (h4:rc K cls E H0 Hs0 la D' (lO kt gb bM ρ)):fgI K cls E H0 Hs0 la D' kt gb ds i m σ H
def Ql
  (it:T8 K J ds Hn Hs0) (O:eD Hn H0) (f:Fr K H0 Hs0 la ρ g H Hs)
  (B:∀ ρ d v g H Q,Xz K ρ d (kt d ρ) v g H Q->tg v g H Q) (s:∀ ρ D g H,SR K cls E0 ρ (gb ρ) D g H->tb D g H)
  (q:rc K cls E H0 Hs0 la D' (lO kt gb ds ρ)):
  TFI tg tb D' g J H:=by
 refine⟨fgI K cls E H0 Hs0 la D' kt gb ds,⟨ds.length,[],ds,ρ,Hs,rfl,rfl,rfl,f,q⟩,?_⟩;rintro i m g H ⟨done,bM,ρ,Hs,e,o,G,f,q⟩;obtain⟨u,h,k⟩:=it H Hs (O.trans f.st.all) f.st.sh f.st.sub;cases bM with
 |nil=>
  rw[cq] at e;subst e;exact .inl ⟨h i ∅,q g H Hs f⟩
 |cons d bM=>
  have l:i<ds.length:=by rw[e,aS,aX];omega
  refine .inr ⟨u i l,λσ' H'=>∃b a,Fr K H0 Hs0 la b σ' H' a/\rc K cls E H0 Hs0 la D' (lO kt gb bM b),λσ' H' ⟨b,a,j,q'⟩=>⟨bM.length,by rw[<- G];simp,done++[d],bM,b,a,by rw[e];simp,by simp[o],rfl,j,q'⟩,λx w z=>?_⟩;obtain⟨d',p,y,P,S⟩:=k i x w l z;have t:d'=d:=by
   rw[e,aU ∅] at y;simp[o] at y;exact y.symm
  subst t;unfold lO at q;refine B ρ d' x g w _ ⟨H0,Hs0,la,p,f.step P,S,?_⟩;cases A:kt d' ρ with
  |ex c n=>rw[A] at q;exact q
  |no=>rw[A] at q;exact q
  |ok ρ1=>
   rw[A] at q;intro I N;refine s ρ1 _ I w ⟨H0,Hs0,la,p,N,?_⟩;cases L:gb ρ1 with
   |no=>simp only[L] at q;exact q.elim
   |ex c n=>simp only[L] at q;exact q.elim
   |ok M=>
    simp only[L] at q;cases M with
    |nx b=>exact λσ' H' a j=>⟨b,a,j,q⟩
    |ct b=>exact λσ' H' a j=>⟨b,a,j,q⟩
    |bk b=>exact λσ' H' a j=>q σ' H' a j
    |rt d=>exact q
def vp(A B:Hp):Hp:=λb=>match A b with
 |some o=>some o
 |none=>B b
def lP:eD A (vp A B):=λb o e=>by unfold vp;rw[e]
def lm(h:A b=none):vp A B b=B b:=by unfold vp;rw[h]
def GS(a:eD A H)(c:eD B H):eD (vp A B) H:=λb o e=>by
 cases h:A b with
 |some u=>unfold vp at e;rw[h] at e;cases e;exact a b o h
 |none=>rw[lm h] at e;exact c b o e
def Qm(a:eD A H)(c:eD B H):eD B (vp A B):=λb o e=>by
 cases h:A b with
 |some u=>
  unfold vp;rw[h];have:=a b u h;rw[c b o e] at this;exact this.symm
 |none=>rw[lm h];exact e
def Fr.into(f:Fr K H0 Hs0 la ρ σ H Hs):Fr K (vp H0 Hs) Hs la ρ σ H Hs:=by
 have sub:=GS f.st.all f.st.sub;refine⟨⟨sub,.refl _,f.st.sub,λa o e _ z=>z⟩,f.len,f.sh,λi d h=>?_,λi d h=>?_,f.dj,λi a e=>let ⟨o,k⟩:=f.lh i a e;⟨o,lP _ _ k⟩,λi d h=>?_,f.u2⟩
 ·obtain⟨a,o,g,n,c,j,m⟩:=f.ow i d h;exact⟨a,o,g,n,c,by rw[lm j];exact c,m⟩
 ·obtain⟨a,o,g,n,c,j,m,p⟩:=f.lk i d h;exact⟨a,o,g,n,c,j,lP _ _ m,p⟩
 ·obtain⟨a,q,O⟩:=f.o2 i d h;exact⟨a,q,O.at_,O.ob,O.nd,λb l=>⟨(O.out b l).1,by rw[lm (O.out b l).2];exact(O.out b l).1⟩,O.dj,O.inn⟩
def db.outof(s:db H0 Hs0 H1 Hs1)(t:db (vp H0 Hs1) Hs1 H' Hs'):db H0 Hs0 H' Hs':=
 ⟨lP.trans t.all,s.sh.trans t.sh,t.sub,λa o e n z=>t.out a o (lP _ _ e) n (s.out a o e n z)⟩
theorem Fr.outof(j:Fr K H0 Hs0 la ρ1 σ1 H1 Hs1)(f:Fr K (vp H0 Hs1) Hs1 la ρ σ H' Hs'):Fr K H0 Hs0 la ρ σ H' Hs':=by
 refine⟨j.st.outof f.st,f.len,f.sh,λi d h=>?_,λi d h=>?_,f.dj,j.lh,λi d h=>?_,f.u2⟩
 ·obtain⟨a,o,g,c,l,m,k⟩:=f.ow i d h;exact⟨a,o,g,c,l,lP.free m,k⟩
 ·obtain⟨a,o,g,c,l,m,k,q⟩:=f.lk i d h;obtain⟨o',e⟩:=j.lh i a c;have n:=lP (B:=Hs1) _ _ e;rw[k] at n;cases n;exact⟨a,o,g,c,l,m,e,q⟩
 ·obtain⟨a,s,O⟩:=f.o2 i d h;exact⟨a,s,O.at_,O.ob,O.nd,λb p=>⟨(O.out b p).1,lP.free (O.out b p).2⟩,O.dj,O.inn⟩
def rc.into(b:Fr K H0 Hs0 la ρ1 σ1 H1 Hs1)(q:rc K cls E H0 Hs0 la D' r):rc K cls E (vp H0 Hs1) Hs1 la D' r:=by
 cases r with
 |no=>exact q
 |ex c n=>exact λH' a s=>q H' a (b.st.outof s)
 |ok e=>
  cases e with
  |nx ρ=>exact λσ' H' a f=>q σ' H' a (b.outof f)
  |bk ρ=>exact λσ' H' a f=>q σ' H' a (b.outof f)
  |ct ρ=>exact λσ' H' a f=>q σ' H' a (b.outof f)
  |rt d=>exact λv H' a s r=>q v H' a (b.st.outof s) r
def Fr.lock(f:Fr K H0 Hs0 la ρ σ H Hs)(B:ρ[i]?=some (Sl.own d))(x:σ[i]?=some (some (V.ref a)))(I:H a=some o)(Y:Hs a=none)(L:H0 a=none)(T:pA K Hs o d):
  Fr K (vp H0 (upd Hs a o)) Hs (λj=>if j=i then some a else la j) (ρ.set i (.lck d)) σ H Hs:=by
 have n:i<ρ.length:=(List.getElem?_eq_some_iff.mp B).1;have sub:eD (upd Hs a o) H:=λb u q=>by
  by_cases M:b=a
  ·subst M;rw[bB] at q;cases q;exact I
  ·rw[bG M] at q;exact f.st.sub b u q
 have nx:∀{j:Nat}{s:Sl},(∀d,s≠.lck d)->(ρ.set i (.lck d))[j]?=some s->ρ[j]?=some s/\i≠j:=λ{j s} hs e=>by
  by_cases g:i=j
  ·subst g;rw[aR n] at e;exact absurd (c6 e).symm (hs d)
  ·rw[ax g] at e;exact⟨e,g⟩
 refine⟨⟨GS f.st.all sub,.refl _,f.st.sub,λa o e _ z=>z⟩,by simp[f.len],λj e h=>?_,λj e h=>?_,λj e h=>?_,λj k w y b m p N Q=>?_,λj b h=>?_,λj e h=>?_,λj k w y m p=>?_⟩
 ·obtain⟨h,_⟩:=nx (λ_ z=>by cases z) h;exact f.sh j e h
 ·obtain⟨h,g⟩:=nx (λ_ z=>by cases z) h;obtain⟨b,u,t,E,v,A,G⟩:=f.ow j e h;refine⟨b,u,t,E,v,?_,G⟩;rw[lm A,bG (λz=>g ?_)]
  ·exact v
  ·subst z;exact f.dj i j d e b B h x t
 ·by_cases g:i=j
  ·subst g;rw[aR n] at h;cases h;exact⟨a,o,x,if_pos rfl,I,Y,by rw[lm L,bB],T⟩
  ·rw[ax g] at h;obtain⟨b,u,t,E,v,A,G,P⟩:=f.lk j e h;exact⟨b,u,t,by rw[if_neg (dO g)];exact E,v,A,lP _ _ G,P⟩
 ·obtain⟨m,_⟩:=nx (λ_ z=>by cases z) m;obtain⟨p,_⟩:=nx (λ_ z=>by cases z) p;exact f.dj j k w y b m p N Q
 ·by_cases g:j=i
  ·simp only[if_pos g] at h;cases h;exact⟨o,by rw[lm L,bB]⟩
  ·simp only[if_neg g] at h;obtain⟨u,e⟩:=f.lh j b h;exact⟨u,lP _ _ e⟩
 ·obtain⟨h,g⟩:=nx (λ_ z=>by cases z) h;obtain⟨b,U,O⟩:=f.o2 j e h;refine⟨b,U,O.at_,O.ob,O.nd,λc l=>⟨(O.out c l).1,?_⟩,λc l k S X=>O.dj c l k S (nx (λ_ z=>by cases z) X).1,O.inn⟩;rw[lm (O.out c l).2,bG (λz=>?_)]
  ·exact(O.out c l).1
  ·subst z;exact O.dj c l i d B x
 ·exact f.u2 j k w y (nx (λ_ z=>by cases z) m).1 (nx (λ_ z=>by cases z) p).1
def db.unlock(s:db H0 Hs0 H Hs)(t:db (vp H0 (upd Hs a o)) Hs H' Hs'):db H0 Hs0 H' Hs':=
 ⟨lP.trans t.all,s.sh.trans t.sh,t.sub,λb u e n z=>t.out b u (lP _ _ e) n (s.out b u e n z)⟩
theorem Fr.unlock(f:Fr K H0 Hs0 la ρ σ H Hs)(E:ρ[i]?=some (Sl.own d))(k4:H0 a=none)
  (g:Fr K (vp H0 (upd Hs a o)) Hs (λj=>if j=i then some a else la j) ρ' σ' H' Hs'):Fr K H0 Hs0 la (B5 i ρ ρ') σ' H' Hs':=by
 have st:=f.st.unlock g.st;have own:∀(j:Nat) (e:D),ρ'[j]?=some (Sl.own e)->∃b u,σ'[j]?=some (some (V.ref b))/\H' b=some u/\Hs' b=none/\H0 b=none/\pA K Hs' u e/\(vp H0 (upd Hs a o)) b=none:=λj e h=>by
  obtain⟨b,u,l,m,t,n,p⟩:=g.ow j e h;exact⟨b,u,l,m,t,lP.free n,p,n⟩
 have lck:∀(j:Nat) (e:D),j≠i->ρ'[j]?=some (Sl.lck e)->∃b u,σ'[j]?=some (some (V.ref b))/\la j=some b/\H' b=some u/\Hs' b=none/\H0 b=some u/\pA K Hs' u e:=λj e q h=>by
  obtain⟨b,u,l,m,t,n,p,Y⟩:=g.lk j e h;simp only[if_neg q] at m;obtain⟨u',T⟩:=f.lh j b m;have:=lP (B:=upd Hs a o) _ _ T;rw[p] at this;cases this;exact⟨b,u,l,m,t,n,T,Y⟩
 have two:∀(j:Nat) (e:List (List D)),ρ'[j]?=some (Sl.ow2 e)->∃b G,O2 K H0 H' Hs' ρ' σ' j e b G:=λj e h=>by
  obtain⟨b,G,O⟩:=g.o2 j e h;exact⟨b,G,O.at_,O.ob,O.nd,λc M=>⟨(O.out c M).1,lP.free (O.out c M).2⟩,O.dj,O.inn⟩
 unfold B5;cases A:ρ'[i]? with
 |none=>
  simp only[E];refine⟨st,g.len,g.sh,λj e h=>let ⟨b,u,l,m,t,n,p,_⟩:=own j e h;⟨b,u,l,m,t,n,p⟩,λj e h=>lck j e (λz=>by rw[z,A] at h;cases h) h,g.dj,f.lh,two,g.u2⟩
 |some s=>
  cases s with
  |no=>simp only[E];exact⟨st,g.len,g.sh,λj e h=>let ⟨b,u,l,m,t,n,p,_⟩:=own j e h;⟨b,u,l,m,t,n,p⟩,λj e h=>lck j e (λz=>by rw[z,A] at h;cases h) h,g.dj,f.lh,two,g.u2⟩
  |shr _=>simp only[E];exact⟨st,g.len,g.sh,λj e h=>let ⟨b,u,l,m,t,n,p,_⟩:=own j e h;⟨b,u,l,m,t,n,p⟩,λj e h=>lck j e (λz=>by rw[z,A] at h;cases h) h,g.dj,f.lh,two,g.u2⟩
  |own _=>simp only[E];exact⟨st,g.len,g.sh,λj e h=>let ⟨b,u,l,m,t,n,p,_⟩:=own j e h;⟨b,u,l,m,t,n,p⟩,λj e h=>lck j e (λz=>by rw[z,A] at h;cases h) h,g.dj,f.lh,two,g.u2⟩
  |ow2 _=>simp only[E];exact⟨st,g.len,g.sh,λj e h=>let ⟨b,u,l,m,t,n,p,_⟩:=own j e h;⟨b,u,l,m,t,n,p⟩,λj e h=>lck j e (λz=>by rw[z,A] at h;cases h) h,g.dj,f.lh,two,g.u2⟩
  |lck d'=>
   simp only[E];have L:i<ρ'.length:=(List.getElem?_eq_some_iff.mp A).1;have nx:∀{j:Nat}{s:Sl},(∀d,s≠.own d)->(ρ'.set i (.own d'))[j]?=some s->ρ'[j]?=some s/\i≠j:=λ{j s} hs e=>by
    by_cases q:i=j
    ·subst q;rw[aR L] at e;exact absurd (c6 e).symm (hs d')
    ·rw[ax q] at e;exact⟨e,q⟩
   obtain⟨b,u,l,m,t,n,p,Y⟩:=g.lk i d' A;simp only[if_pos rfl] at m;cases m;have ne:∀(j:Nat) (e:D),ρ'[j]?=some (Sl.own e)->σ'[j]?≠some (some (V.ref a)):=λj e h z=>by
    obtain⟨b,u,U,_,_,_,_,p6⟩:=own j e h;rw[z] at U;cases U;rw[p] at p6;cases p6
   refine⟨st,by simp[g.len],λj e h=>?_,λj e h=>?_,λj e h=>?_,λj k N Q c v I P S=>?_,f.lh,λj e h=>?_,λj k N Q v I=>?_⟩
   ·obtain⟨h,_⟩:=nx (λ_ z=>by cases z) h;exact g.sh j e h
   ·by_cases q:i=j
    ·subst q;rw[aR L] at h;cases h;exact⟨a,u,l,t,n,k4,Y⟩
    ·rw[ax q] at h;obtain⟨b,u,U,p2,p3,p4,p5,_⟩:=own j e h;exact⟨b,u,U,p2,p3,p4,p5⟩
   ·obtain⟨h,q⟩:=nx (λ_ z=>by cases z) h;exact lck j e (dO q) h
   ·by_cases q:i=j
    ·by_cases w:i=k
     ·exact q.symm.trans w
     ·rw[ax w] at I;subst q;rw[l] at P;cases P;exact(ne k Q I S).elim
    ·rw[ax q] at v;by_cases w:i=k
     ·subst w;rw[l] at S;cases S;exact(ne j N v P).elim
     ·rw[ax w] at I;exact g.dj j k N Q c v I P S
   ·obtain⟨h,q⟩:=nx (λ_ z=>by cases z) h;obtain⟨b,G,O⟩:=two j e h;refine⟨b,G,O.at_,O.ob,O.nd,O.out,λc M k T w=>?_,O.inn⟩;by_cases nk:i=k
    ·subst nk;intro z;rw[l] at z;cases z;obtain⟨b',X,O'⟩:=g.o2 j e h;have hh:=O.at_;rw[O'.at_] at hh;cases hh;have hs:X=G:=by
      have v:=O.ob;rw[O'.ob] at v;injection v with v;injection v with v;exact OO (λx y z=>by cases z;rfl) |>.mp v
     subst hs;have:=(O'.out _ M).2;rw[p] at this;cases this
    ·rw[ax nk] at w;exact O.dj c M k T w
   ·exact g.u2 j k N Q (nx (λ_ z=>by cases z) v).1 (nx (λ_ z=>by cases z) I).1
def kY(a:aI->R (List D))(kt:D->aI->R aI)(gb:aI->R Fl):aI->R Fl:=λρ=>match a ρ with
 |.ok ds=>lO kt gb ds ρ
 |_=>.no
def oQ(m:c.X.calm=true)(p:OT c.nox tg iter gi)(y:JG c.nox tg kt)(t:Lz c.nox body gbd)(hs:∀x,bW iter c.X.env x=pure x:=by intro _;rfl):JS c (.For tg iter body [] pos) (kY gi kt gbd):=.of λρ=>by
 refine Qk (CJ (Pm yk m (p ρ) (g:=λv a H Q=>∃ ρ d,Xz c.X.K ρ d (kt d ρ) v a H Q) (tb:=λD a H=>∃ ρ,SR c.X.K c.cls E0 ρ (gbd ρ) D a H) ?_ ?_ hs) λD a H ⟨o,l,la,Hs,f,q⟩=>?_)
 ·exact λb s a H v u Q I r i=>by obtain⟨ρ,d,q⟩:=i;exact y ρ d b s a H v u Q I r q
 ·exact λb s a H D I k=>by obtain⟨ρ,q⟩:=k;exact t ρ b s a H D I q
 ·refine⟨o,l,la,Hs,f,?_⟩;unfold kY at q;cases j:gi ρ with
  |no=>rw[j] at q;exact q
  |ex x n=>rw[j] at q;exact q.elim
  |ok ds=>
   rw[j] at q;intro J z w s1 it;have e:=f.step s1;exact Ql (E:=c.E) (cls:=c.cls) (kt:=kt) (gb:=gbd) (tg:=λv a H Q=>∃ ρ d,Xz c.X.K ρ d (kt d ρ) v a H Q) (tb:=λD a H=>∃ ρ,SR c.X.K c.cls E0 ρ (gbd ρ) D a H) it (Qm e.st.all e.st.sub) e.into (λρ d v a H Q h=>⟨ρ,d,h⟩) (λρ D a H h=>⟨ρ,h⟩) (rc.into e q)
def xr(i:Nat)(kt:D->aI->R aI)(gb:aI->R Fl):aI->R Fl:=λρ=>match ρ[i]? with
 |some (Sl.own (.list ds))=>unl i ρ (lO kt gb ds (EY i ρ))
 |_=>kY (gC λρ=>J7 ρ i) kt gb ρ
theorem B6{kt:D->aI->R aI}{gb:aI->R Fl}:∀(ds:List D) (ρ:aI) (a:Fl),lO kt gb ds ρ=.ok a->(∃b,a=.nx b)\/∃d,a=.rt d
 |[],ρ,a,h=>by cases h;exact .inl ⟨_,rfl⟩
 |d::r,ρ,a,h=>by
  unfold lO at h;split at h
  ·split at h
   ·exact B6 r _ _ h
   ·exact B6 r _ _ h
   ·cases h;exact .inl ⟨_,rfl⟩
   ·cases h;exact .inr ⟨_,rfl⟩
   ·cases h
  ·cases h
theorem EZ{kt:D->aI->R aI}{gb:aI->R Fl}:∀(ds:List D) (ρ:aI) (c:Str) (n:Option D),lO kt gb ds ρ≠.ex c n
 |[],ρ,c,n,h=>by cases h
 |d::r,ρ,c,n,h=>by
  unfold lO at h;split at h
  ·split at h
   ·exact EZ r _ _ _ h
   ·exact EZ r _ _ _ h
   ·cases h
   ·cases h
   ·cases h
  ·cases h
def UB(i:Nat)(P:c.X.calm=true)(hg:JG c.nox tg kt)(t:Lz c.nox body gbd)(L:c.X.N[i]?=some x:=by rfl)(Y:T6 c.X.env.scope x:=by first|exact jC rfl|exact gy (jC rfl)|exact gy (gy rfl))(U:(x==("__debug__" : Str))=false:=by decide)
  (m:(x==("__classdict__" : Str))=false:=by decide) (hs:∀y,bW (.Name x p) c.X.env y=pure y:=by intro _;rfl):JS c (.For tg (.Name x p) body [] pos) (xr i kt gbd):=.of λρ=>by
 by_cases ho:∃ds,ρ[i]?=some (Sl.own (.list ds))
 ·obtain⟨ds,ho⟩:=ho;refine Qk (CJ (Pm (tg:=tg) yk P (wU (X:=c.nox.X) (tL L Y U m)) (g:=λv j H Q=>∃ ρ d,Xz c.X.K ρ d (kt d ρ) v j H Q) (tb:=λD j H=>∃ ρ,SR c.X.K c.cls E0 ρ (gbd ρ) D j H) ?_ ?_ hs) λD j H ⟨H0,a1,la,Hs,f,q⟩=>?_)
  ·exact λk s j H v u Q I r z=>by obtain⟨ρ,d,q⟩:=z;exact hg ρ d k s j H v u Q I r q
  ·exact λk s j H D I A=>by obtain⟨ρ,q⟩:=A;exact t ρ k s j H D I q
  ·obtain⟨a,o,M,B,k3,O,k5⟩:=f.ow i _ ho;cases k5 with
   | @lst G _ r=>
    refine⟨_,M,a,rfl,⟨_,.of B⟩,?_⟩;have hn:sQ c.X.K (upd Hs a (.lst G)) a G:=.of bB;unfold xr at q;simp only[ho] at q;have S:=f.lock ho M B k3 O (.lst r);have sub:eD (upd Hs a (.lst G)) H:=λb u q=>by
     by_cases t:b=a
     ·subst t;rw[bB] at q;cases q;exact B
     ·rw[bG t] at q;exact f.st.sub b u q
    refine Ql (E:=c.E) (cls:=c.cls) (kt:=kt) (gb:=gbd) (ρ:=EY i ρ) (Hs:=Hs) (la:=λT=>if T=i then some a else la T) (tg:=λv j H Q=>∃ ρ d,Xz c.X.K ρ d (kt d ρ) v j H Q) (tb:=λD j H=>∃ ρ,SR c.X.K c.cls E0 ρ (gbd ρ) D j H) (EV hn r) (Qm f.st.all sub) ?_ (λρ d v j H Q h=>⟨ρ,d,h⟩) (λρ D j H h=>⟨ρ,h⟩) ?_
    ·unfold EY;rw[ho];exact S
    ·cases w:lO kt gbd ds (EY i ρ) with
     |no=>rw[w] at q;exact q
     |ex c n=>exact(EZ _ _ _ _ w).elim
     |ok S=>
      rw[w] at q;rcases B6 _ _ _ w with⟨a0,rfl⟩|⟨d,rfl⟩
      ·exact λσ' H' l f'=>q σ' H' l (f.unlock ho O f')
      ·exact λv H' l s r=>q v H' l (f.st.unlock s) r
 ·have e:xr i kt gbd ρ=kY (gC λρ=>J7 ρ i) kt gbd ρ:=by
   unfold xr;split
   ·rename_i ds h;exact(ho ⟨ds,h⟩).elim
   ·rfl
  rw[e];exact oQ P (xm (c:=c.nox) (aw (c:=c.nox) i L Y U m)) hg t hs ρ
def ii(t:aI->R Bool)(b:aI->R Fl):Nat->aI->R Fl
 | 0,_=>.no
 |n+1,ρ=>match t ρ with
  |.ok true=>match b ρ with
   |.ok (.nx a)=>ii t b n a
   |.ok (.ct a)=>ii t b n a
   |.ok (.bk a)=>.ok (.nx a)
   |.ok (.rt d)=>.ok (.rt d)
   |_=>.no
  |.ok false=>.ok (.nx ρ)
  |_=>.no
def B7(n:Nat)(z:JT c.nox t gt)(B:Lz c.nox body gbd):JS c (.While t body [] pos) (ii gt gbd n):=.of λρ=>by
 refine Qk (CJ (Pi yk (tc:=λi H Q=>∃ ρ,GK c.X.K c.cls E0 ρ (gt ρ) i H Q) (tb:=λD i H=>∃ ρ,SR c.X.K c.cls E0 ρ (gbd ρ) D i H) ?_ ?_) λD i H ⟨l,g,la,Hs,f,q⟩=>?_)
 ·exact λj s i H Q I v=>by obtain⟨ρ,q⟩:=v;exact z ρ j s i H Q I q
 ·exact λj s i H D I u=>by obtain⟨ρ,q⟩:=u;exact B ρ j s i H D I q
 ·refine⟨λm i H=>∃ ρ Hs,Fr c.X.K l g la ρ i H Hs/\rc c.X.K c.cls c.E l g la D (ii gt gbd m ρ),⟨n,ρ,Hs,f,q⟩,?_⟩;rintro m i H ⟨ρ,Hs,f,q⟩;cases m with
  |zero=>exact q.elim
  |succ m=>
   unfold ii at q;refine⟨ρ,l,g,la,Hs,f,?_⟩;cases w:gt ρ with
   |no=>rw[w] at q;exact q
   |ex x n=>rw[w] at q;exact q.elim
   |ok b=>
    rw[w] at q;intro y o s1;cases b with
    |false=>exact zU (q i y o (f.step s1))
    |true=>
     refine zV ⟨λσ' H'=>∃e a,Fr c.X.K l g la e σ' H' a/\rc c.X.K c.cls c.E l g la D (ii gt gbd m e),λσ' H' h=>⟨m,fk _,h⟩,ρ,l,g,la,o,f.step s1,?_⟩;cases k:gbd ρ with
     |no=>simp only[k] at q;exact q
     |ex x n=>simp only[k] at q;exact q.elim
     |ok A=>
      simp only[k] at q;cases A with
      |nx e=>exact λσ' H' a p=>⟨e,a,p,q⟩
      |ct e=>exact λσ' H' a p=>⟨e,a,p,q⟩
      |bk e=>exact λσ' H' a p=>q σ' H' a p
      |rt d=>exact q
def we(i:Nat)(g:aI->R D):aI->R Fl:=λρ=>match ρ[i]? with
 |some (Sl.own (.list ds))=>(g ρ).bind λd=>if ds.length<1000 then .ok (.nx (ρ.set i (.own (.list (ds++[d]))))) else .no
 |_=>.no
def uJ(i:Nat)(h:JE c e g)(A:c.X.N[i]?=some x:=by rfl)(Q:T6 c.X.env.scope x:=by first|exact jC rfl|exact gy (jC rfl)|exact gy (gy rfl))(O:(x==("__debug__" : Str))=false:=by decide)
  (s:(x==("__classdict__" : Str))=false:=by decide)
  (k:Ab (.Name x p) "append" c.X.env (fO (.Name x p) c.X.env)=fO (.Name x p) c.X.env:=by rfl)
  (m:((kR cpos (a_ [e] c.X.env)).all (λx=>!x.1)&&(Tb cpos (G5 [] c.X.env)).all (λx=>x.1.isSome)
   && decide ([e].length+([]:List yY).length+(if([]:List yY).isEmpty then 0 else 1)<30))=true:=by rfl)
  (j:(apos.endLine==cpos.line)=true:=by rfl) (l:a_ [e] c.X.env=(false,fO e c.X.env)::a_ [] c.X.env:=by rfl) (b:(kR cpos (a_ [] c.X.env)).any (·.1)=false:=by rfl)
  (hs:iN (.Call (.Attribute (.Name x p) "append" apos) [e] [] cpos) none pos.line c.X.env=pure false:=by rfl):
  JS c (.Expr (.Call (.Attribute (.Name x p) "append" apos) [e] [] cpos) pos) (we i g):=.of λρ=>by
 refine CJ (Aj (Py qS Cs Ct Dj (tL A Q O s) (i_ (h ρ) kU l) k m j l b) hs) λD Y H n=>?_;obtain⟨B,u,la,Hs,f,q⟩:=n;replace q:rc c.X.K c.cls c.E B u la D (we i g ρ):=q;unfold we at q;split at q
 ·rename_i ds ho
  obtain⟨a,o,z,w,k3,U,I⟩:=f.ow i _ ho;cases I with
  | @lst S _ r=>
   refine⟨_,z,.inl ⟨rfl,_,.of w⟩,?_⟩;refine sE f q λd v T t L s1 G M=>?_;rw[L,bind_ok] at q;by_cases y:ds.length<1000
   ·rw[if_pos y] at q;have P:=r.same s1.sh;exact⟨a,S,v,rfl,rfl,s1.all _ _ w,fE (by rw[r.length];omega),q _ _ t (G.write i ho z (.lst (P.append (.cons M .nil))))⟩
   ·rw[if_neg y] at q;exact q.elim
 ·exact q.elim
def vI:D->Option iL
 |.int i=>some (.inl i)
 |.str x=>some (.inr x)
 |_=>none
def B8(h:vI d=some y):d=kD y:=by
 cases d<;>cases h<;>rfl
@[simp] theorem keyOf_of (y:iL):vI (kD y)=some y:=by cases y<;>rfl
def A3(a:List (D×D))(k d:D):List (D×D):=if a.any (λb=>bw b.1 k) then a.map (λb=>if bw b.1 k then(b.1,d) else b) else a++[(k,d)]
def E_(a b:iL):bw (kD a) (kD b)=decide (a=b):=by
 cases a<;>cases b<;>simp[kD,bw,uw]
def RDk.any(y:iL):∀{ds:List (D×D)},RDk K H kvs ds->(ds.any λa=>bw a.1 (kD y))=kvs.any λa=>decide (a.1=y):=by
 induction kvs with
 |nil=>intro ds h;cases h;rfl
 |cons x r b=>intro ds h;cases h with|cons h t=>rw[fH,fH,b t,E_]
theorem RDk.repl(y:iL)(c:RD K H v d):∀{b:List (iL×V)}{ds:List (D×D)},RDk K H b ds ->
  RDk K H (b.map λa=>if a.1=y then(a.1,v) else a) (ds.map λa=>if bw a.1 (kD y) then(a.1,d) else a)
 |_,_,.nil=>.nil
 |_,_,.cons (k:=k) h t=>by
  rw[aC,aC];have e:=E_ k y;by_cases f:k=y
  ·subst f;rw[show(if k=k then(k,v) else(k,_))=(k,v) from if_pos rfl,show(if bw (kD k) (kD k)=true then(kD k,d) else(kD k,_))=(kD k,d) from if_pos (by rw[e];simp)];exact .cons c (RDk.repl k c t)
  ·simp only[e,f,if_neg,decide_false,aV,not_false_eq_true];exact .cons h (RDk.repl y c t)
theorem RDk.snoc(y:iL)(b:RD K H v d):∀{a:List (iL×V)}{ds:List (D×D)},RDk K H a ds->RDk K H (a++[(y,v)]) (ds++[(kD y,d)])
 |_,_,.nil=>.cons b .nil
 |_,_,.cons h t=>.cons h (RDk.snoc y b t)
def RDk.put(r:RDk K H kvs ds)(y:iL)(a:RD K H v d):RDk K H (pz kvs y v) (A3 ds (kD y) d):=by
 unfold pz A3;rw[r.any y];split
 ·exact r.repl y a
 ·exact r.snoc y a
def jm(a:List (D×D)):Bool:=a.all λb=>(vI b.1).isSome
def F1(i:Nat)(b g:aI->R D):aI->R Fl:=λρ=>match ρ[i]? with
 |some (Sl.own (.dict a))=>(g ρ).bind λd=>(b ρ).bind λk=>match vI k with
  |some _=>if a.length<1000/\jm a=true then .ok (.nx (ρ.set i (.own (.dict (A3 a k d))))) else .no
  |none=>.no
 |_=>.no
def Ka(h:RD K H v (kD y)):v=kV y:=by
 cases y<;>cases h<;>rfl
def RDt.flat(h:RDt K H kvs ds)(f:jm ds=true):kvs=[]/\ds=[]:=by
 cases h with
 |nil=>exact⟨rfl,rfl⟩
 |cons h t=>simp[jm,tD,vI] at f
def LC(i:Nat)(h:JE c e g)(hk:JE c k gk)(hu:c.X.A.units+1<eM)(hN:c.X.N[i]?=some x:=by rfl)(hv:T6 c.X.env.scope x:=by first|exact jC rfl|exact gy (jC rfl)|exact gy (gy rfl))(hd:(x==("__debug__" : Str))=false:=by decide)
  (L:(x==("__classdict__" : Str))=false:=by decide) (hs:iN e (some (.Subscript (.Name x p) k apos)) pos.line c.X.env=pure false:=by rfl):JS c (.Assign [.Subscript (.Name x p) k apos] e pos) (F1 i gk g):=.of λρ=>by
 refine CJ (Lq hu (tL hN hv hd L) (hk ρ) (h ρ) hs) λD σ H P=>?_
 obtain⟨H0,B,la,Hs,f,q⟩:=P
 replace q:rc c.X.K c.cls c.E H0 B la D (F1 i gk g ρ):=q
 unfold F1 at q
 split at q
 ·rename_i j ho
  obtain⟨a,o,I,M,k3,k4,k5⟩:=f.ow i _ ho
  have l:∀{H:Hp}{T:List (iL×V)},Fr c.X.K H0 B la ρ σ H Hs->H a=some (.dK T)->RDk c.X.K Hs T j->VO (YI i) (TR c.X.K c.cls c.E ρ (gk ρ)) (TR c.X.K c.cls c.E ρ (g ρ)) D σ H:=λ{H T} f M r=>by
   refine sE f q λd v U m t s1 s Q=>?_
   rw[t,bind_ok] at q
   refine⟨_,I,sE s q λy w H2 b G u O S=>?_⟩
   rw[G,bind_ok] at q
   split at q
   ·rename_i ky hy
    obtain rfl:=B8 hy
    by_cases Y:j.length<1000/\jm j=true
    ·rw[if_pos Y] at q
     have ha:=u.all _ _ (s1.all _ _ M)
     have r':=(r.same s1.sh).same u.sh
     rw[Ka S]
     exact⟨a,_,rfl,Gr.k ha (fE (by rw[r.length];omega)),q _ _ b (O.write i ho I (.dK (r'.put ky (Q.same u.sh))))⟩
    ·rw[if_neg Y] at q;exact q.elim
   ·exact q.elim
  cases k5 with
  |dK r=>exact l f M r
  |dT n r=>
   refine sE f q λd v U m t s1 s Q=>?_
   rw[t,bind_ok] at q
   refine⟨_,I,sE s q λy w H2 b G u O S=>?_⟩
   rw[G,bind_ok] at q
   split at q
   ·rw[if_neg (λz=>n (r.flat z.2).1)] at q;exact q.elim
   ·exact q.elim
  |dF n r=>
   refine sE f q λd v U m t s1 s Q=>?_
   rw[t,bind_ok] at q
   refine⟨_,I,sE s q λy w H2 b G u O S=>?_⟩
   rw[G,bind_ok] at q
   split at q
   ·rw[if_neg (λz=>by cases z.2)] at q;exact q.elim
   ·exact q.elim
 ·exact q.elim
def nM(a:List (D×D))(k:D):Option D:=(a.find? λb=>bw b.1 k).map (·.2)
theorem RDk.val:∀{a:List (iL×V)}{ds:List (D×D)},RDk K H a ds->∀(y:iL),(qW a y=none/\nM ds (kD y)=none)\/∃v d,qW a y=some v/\nM ds (kD y)=some d/\RD K H v d
 |_,_,.nil,y=>.inl ⟨rfl,rfl⟩
 |_,_,.cons (k:=k) h t,y=>by
  unfold qW nM;rw[cP,cP,E_];by_cases b:k=y
  ·simp only[b,decide_true,dn];exact .inr ⟨_,_,rfl,rfl,h⟩
  ·simp only[b,decide_false];exact RDk.val t y
def bu:D->D->R D
 |.dict a,k=>match vI k with
  |some _=>if jm a=true then(match nM a k with
   |some d=>.ok d
   |none=>.no) else .no
  |none=>.no
 |x,k=>K8 x k
def cS(M:c.X.A.units+1<eM)(B:JB c a ga)(E:JB c b gb)(hs:wW b:=by exact λ_ _=>rfl):JE c (.Subscript a b pos) (g2 ga gb bu):=.of λρ=>by
 by_cases i:∃g,ga ρ=.ok (.dict g)
 ·obtain⟨g,i⟩:=i;refine tU (Lp M (B ρ) (E ρ) hs) λN H Q m=>?_;obtain⟨H0,a0,la,Hs,f,q⟩:=m;refine one f q λd v H1 S G s1 T Y=>?_;rw[i] at G;cases G;unfold g2 at q;rw[i,bind_ok] at q;refine one T (q.on s1 (q':=λ_=>True) λ_ _=>trivial) λy w U t e2 I P z=>?_;rw[e2,bind_ok] at q;unfold bu at q;simp only at q;split at q
  ·rename_i x L
   obtain rfl:=B8 L;by_cases j:jm g=true
   ·rw[if_pos j] at q;obtain⟨p,rfl,h⟩:=(Y.step I).dict P.st.sub;have rk:w=kV x:=by
     rcases z with z|⟨_,o,rfl,_,_,ow⟩
     ·exact Ka z
     ·cases x<;>cases ow
    subst rk;rcases h with⟨K,n,l⟩|⟨K,n,hn,l⟩|⟨o,K,es,rfl,n,hn,l⟩
    ·rcases l.val x with⟨_,s⟩|⟨u,d,s,h4,h5⟩
     ·rw[s] at q;exact q.elim
     ·rw[h4] at q;exact⟨p,u,rfl,by rw[<- s];exact zW.k n,q _ U t (s1.trans I) h5⟩
    ·exact(hn (l.flat j).1).elim
    ·cases j
   ·rw[if_neg j] at q;exact q.elim
  ·exact q.elim
 ·refine tU (Zr B E hs ρ) λN H Q q=>?_;have e:g2 ga gb bu ρ=g2 ga gb K8 ρ:=by
   unfold g2;cases O:ga ρ with
   |ok d=>
    cases d with
    |dict g=>exact(i ⟨g,O⟩).elim
    |_=>rfl
   |_=>rfl
  rw[e] at q;exact q
def kP:D->R D
 |.dict a=>if jm a=true then .ok (.list (a.map (·.1))) else .no
 |x=>zo x
theorem GT:∀{a:List (iL×V)}{ds:List (D×D)},RDk K H a ds->RDs K H (a.map λp=>kV p.1) (ds.map (·.1))
 |_,_,.nil=>.nil
 |_,_,.cons (k:=k) h t=>.cons (by cases k<;>constructor) (GT t)
def xt(z:X.calm=true):Nw X (.type "list") (i8 kP):=by
 refine tZ (λd c n=>?_) λf s t H x u Q Hs d d' I w sub m g q=>?_
 ·unfold kP zo;split<;>(try split)<;>(try split)<;>exact λh=>by cases h
 ·by_cases y:∃b,d=.dict b
  ·obtain⟨b,rfl⟩:=y;unfold kP at g;simp only at g;split at g
   ·rename_i v
    cases g;obtain⟨a,rfl,⟨k,j,i⟩|⟨k,j,n,i⟩|⟨o,k,es,rfl,j,n,i⟩⟩:=m.dict sub
    ·exact AY z f s t H _ _ Q I (.cons w .nil) ⟨a,k,rfl,j,λl p=>q _ _ _ (.new sub p) (.list (.of bB) ((GT i).same (db.new sub p).sh))⟩
    ·exact(n (i.flat v).1).elim
    ·cases v
   ·cases g
  ·have e:kP d=zo d:=by
    cases d with
    |dict b=>exact(y ⟨b,rfl⟩).elim
    |_=>rfl
   rw[e] at g;exact(Uv (X:=X)).1 f s t H [x] [u] Q I (.cons w .nil) ⟨Hs,[d],sub,.cons m .nil,d',g,q⟩
section
open PyProof.Rows (envOfC)
section
variable{c:C}{e a b d:bJ}{g ga gb gc:aI->R D}{pos p cpos:Pos}{x:Str}
def Qn(hx:∀x y c n,h x y≠.ex c n)(m:∀x y c n,h' x y≠.ex c n)(q:TR K cls E ρ (tW ga gb gc h h' ρ) σ H Q):
  JA (rD K h) (rD K h') (TB K cls E ρ (ga ρ)) (TB K cls E ρ (gb ρ)) (TB K cls E ρ (gc ρ)) σ H Q:=by
 obtain⟨H0,a0,la,Hs,f,q⟩:=q;refine one f q λx v H1 N X s1 T r1=>?_;unfold tW at q;rw[X,bind_ok] at q;refine one T (q.on s1 (q':=λ_=>True) λ_ _=>trivial) λy u H2 B e2 l G I=>?_;rw[e2,bind_ok] at q;cases j:h x y with
 |ex c n=>exact(hx x y c n j).elim
 |no=>rw[j] at q;exact q.elim
 |ok z=>
  rw[j,bind_ok] at q;refine⟨B,x,y,G.st.sub,r1.step l,I,z,j,λw S o s3 r3=>?_⟩;cases r3 with
  |bool k=>
   refine⟨k,rfl,?_⟩;have P:=G.step s3;cases k with
   |false=>exact zU (q _ S o (s1.trans (l.trans s3)) (.bool _))
   |true=>
    refine zV (one P (q.on (s1.trans (l.trans s3)) (q':=λ_=>True) λ_ _=>trivial) λt u' H4 A M s4 L O=>?_);simp only[M,bind_ok] at q;cases i:h' y t with
    |ex c n=>exact(m y t c n i).elim
    |no=>rw[i] at q;exact q.elim
    |ok U=>
     rw[i] at q;exact⟨A,y,t,L.st.sub,(I.step s3).step s4,O,U,i,λw Y s s5 r5=>q w Y s (s1.trans (l.trans (s3.trans (s4.trans s5)))) r5⟩
  |none=>exact q.elim
  |int _=>exact q.elim
  |str _=>exact q.elim
  |list _ _=>exact q.elim
  |tuple _ _=>exact q.elim
  |dictK _ _=>exact q.elim
  |dictT _ _ _=>exact q.elim
  |dictF _ _ _=>exact q.elim
def GU(ho:Am c.X (cj op) h)(f:Am c.X (cj op') h')(k:JB c a ga)(l:JB c b gb)(j:JB c d gc)(i:OH [op,op'] [b,d]=false:=by with_unfolding_all rfl):JE c (.Compare a [op,op'] [b,d] pos) (tW ga gb gc h h'):=
 .of λρ=>tU (Pp ho.1 f.1 (k ρ) (l ρ) (j ρ) i) λm H Q q=>Qn ho.2 f.2 q
def Qo(ho:Am c.X (cj op) h)(f:Am c.X (cj op') h')(k:JB c a ga)(l:JB c b gb)(j:JB c d gc)(i:OH [op,op'] [b,d]=false:=by with_unfolding_all rfl):JT c (.Compare a [op,op'] [b,d] pos) (fF (tW ga gb gc h h')):=
 .of λρ=>YB (Pq ho.1 f.1 (k ρ) (l ρ) (j ρ) i) λm H Q q=>Qn ho.2 f.2 (YC q)
def q0Z:D->R D
 |.int i=>.ok (.int (-i))
 |_=>.no
def UC(g:aI->R D):aI->R D:=λρ=>(g ρ).bind q0Z
theorem XD(h:JE c e g):JE c (.UnaryOp .USub e pos) (UC g):=.of λρ=>tU (YX Xa (h ρ)) λs H Q j=>by
 obtain⟨t,o,la,Hs,f,q⟩:=j;refine CK f q λd v l k m s1 u n=>?_;unfold UC at q;rw[m,bind_ok] at q;cases n with
 |int i=>exact⟨i,rfl,q _ l k s1 (.int _)⟩
 |_=>exact q.elim
inductive ZB (K:af) (w:bF) (cls:Str->av) (E:XK) (ρ:aI) (r:R (List Str)) (σ:St) (H:Hp) (Q:VK):Prop
 |mk (H0 Hs0:Hp) (la:Nat->Option av) (Hs:Hp) (f:Fr K H0 Hs0 la ρ σ H Hs) (q:Fin K cls E H Hs r λss=>∀p H' Hs',db H Hs H' Hs'->H' p=none->Q (.ref p) (upd H' p (qZ w p ss))):ZB K w cls E ρ r σ H Q
def TSt(K:af)(w:bF)(cls:Str->av)(E:XK)(ρ:aI)(r:R (List Str)):TE:=ZB K w cls E ρ r
structure UD (c:C) (e:bJ) (g:aI->R (List Str)):Prop where of ::
 run:∀ ρ,PE c.X e (TSt c.X.K c.X.w c.cls c.E ρ (g ρ))
instance{c:C}{e:bJ}{g:aI->R (List Str)}:CoeFun (UD c e g) (λ_=>∀ ρ,PE c.X e (TSt c.X.K c.X.w c.cls c.E ρ (g ρ))):=⟨UD.run⟩
theorem LD{K:af}{w:bF}{cls:Str->av}{E:XK}{ρ:aI}{r:R (List Str)}{t:Type}{k:List Str->R t}{l:St}{H:Hp}{o j Hs:Hp}{la:Nat->Option av}{Q:V->Hp->Prop}{q:t->Prop}(f:Fr K o j la ρ l H Hs)
  (h:Fin K cls E H Hs (r.bind k) q) (m:∀ss p H' i,r=.ok ss->db H Hs H' i->Fr K o j la ρ l H' i->H' p=none->Q (.ref p) (upd H' p (qZ w p ss))):TSt K w cls E ρ r l H Q:=by
 refine⟨o,j,la,Hs,f,?_⟩;cases r with
 |ok d=>exact λp H' i s n=>m d p H' i rfl s (f.step s) n
 |ex c n=>exact h
 |no=>exact h
variable{gset:aI->R (List Str)}
def wg:D->R (List Str)
 |.list ds=>match fw ds with
  |some ss=>if ss.length<60 then .ok (eJ [] ss) else .no
  |none=>.no
 |.tuple ds=>match fw ds with
  |some ss=>if ss.length<60 then .ok (eJ [] ss) else .no
  |none=>.no
 |_=>.no
def u6(g:aI->R D):aI->R (List Str):=λρ=>(g ρ).bind wg
theorem Kb(w:c.X.calm=true)(h:JB c e g)(l:Gl c.X "set")(o:c.X.mg "set"=none)(he:a_ [e] c.X.env=(false,fO e c.X.env)::a_ [] c.X.env:=by rfl):
  UD c (.Call (.Name "set" p) [e] [] cpos) (u6 g):=.of λρ=>by
 refine tU (Di (GG w) l o PyProof.Rows.boot_set (i_ (h ρ) kU he) (he:=he)) λB H Q m=>?_;obtain⟨E,z,la,Hs,f,q⟩:=m;refine one f q λd v s j y s1 t u=>?_;unfold u6 at q;rw[y,bind_ok] at q;unfold wg at q;split at q
 ·split at q
  ·rename_i ss hs
   by_cases hz:ss.length<60
   ·rw[if_pos hz] at q;obtain⟨a,A,rfl,i,k⟩:=u.list t.st.sub;rw[mV hs] at k;rw[j5 k] at i;exact⟨a,ss,rfl,.inl i,aK (MT hz 1) ⋯,λp n=>q p s j s1 n⟩
   ·rw[if_neg hz] at q;exact q.elim
  ·exact q.elim
 ·split at q
  ·rename_i ss hs
   by_cases hz:ss.length<60
   ·rw[if_pos hz] at q;obtain⟨a,A,rfl,i,k,_⟩:=u.tuple t.st.sub;rw[mV hs] at k;rw[j5 k] at i;exact⟨a,ss,rfl,.inr i,aK (MT hz 1) ⋯,λp n=>q p s j s1 n⟩
   ·rw[if_neg hz] at q;exact q.elim
  ·exact q.elim
 ·exact q.elim
def oR(g:aI->R (List Str)):aI->R D:=λρ=>(g ρ).bind λss=>if ss.length<64 then .ok (.list ((jk ss).map .str)) else .no
def B9(o:c.X.calm=true)(h:UD c e gset)(y:Gl c.X "sorted")(t:c.X.mg "sorted"=none)(he:a_ [e] c.X.env=(false,fO e c.X.env)::a_ [] c.X.env:=by rfl):
  JE c (.Call (.Name "sorted" p) [e] [] cpos) (oR gset):=.of λρ=>by
 refine tU (tP (zX o) y t i7 (i_ (h ρ) kU he) (he:=he)) λA H Q k=>?_;obtain⟨B,z,la,Hs,f,q⟩:=k;dsimp only[L2.Yz,L2.Lm,L2.TZ];refine LD (w:=c.X.w) f q λss p m i v s1 u s=>?_;unfold oR at q;rw[v,bind_ok] at q;by_cases hz:ss.length<64
 ·rw[if_pos hz] at q;have j:db m i (upd m p (qZ c.X.w p ss)) i:=.mine u.st.sub s;exact⟨p,ss,rfl,bB,hz,λl n=>q _ _ _ (s1.trans (j.trans (.new j.sub n))) (.list (.of bB) (tT _))⟩
 ·rw[if_neg hz] at q;exact q.elim
def xu(g:aI->R (List Str)):aI->R D:=λρ=>(g ρ).bind λss=>.ok (.int ss.length)
def Nz(h:UD c e gset)(t:Gl c.X "len")(n:c.X.mg "len"=none)(he:a_ [e] c.X.env=(false,fO e c.X.env)::a_ [] c.X.env:=by rfl):
  JE c (.Call (.Name "len" p) [e] [] cpos) (xu gset):=.of λρ=>by
 refine tU (tP CH t n cG (i_ (h ρ) kU he) (he:=he)) λv H Q j=>?_;obtain⟨y,u,la,Hs,f,q⟩:=j;dsimp only[L2.Yz,L2.Lm,L2.TZ];refine LD (w:=c.X.w) f q λss p l i s s1 o m=>?_;unfold xu at q;rw[s,bind_ok] at q;have k:db l i (upd l p (qZ c.X.w p ss)) i:=.mine o.st.sub m;exact⟨p,ss,rfl,bB,q _ _ _ (s1.trans k) (.int _)⟩
variable{elt iter tg:bJ}{ifs:List bJ}{scope:fG}{N':List Str}{nt:Nat}{ix:List Nat}{gi:aI->R (List D)}{gt:aI->R Bool}{ge:aI->R D}
def yz(nt:Nat)(ix:List Nat)(gi:aI->R (List D))(gt:aI->R Bool)(ge:aI->R D):aI->R (List Str):=λρ=>(gi ρ).bind λds=>if ds.length<=60 then(gD (jl nt (m5 nt ix ρ) gt ge) ds).bind λys=>match fw ys with
 |some ss=>.ok (eJ [] ss)
 |none=>.no else .no
theorem CL:∀{ss:List Str},fw (xs++ys)=some ss->∃s1 f,fw xs=some s1/\fw ys=some f/\ss=s1++f:=by
 induction xs with
 |nil=>intro ss h;exact⟨[],ss,rfl,h,rfl⟩
 |cons d r j=>
  intro ss h;cases d with
  |str b=>
   have h:(fw (r++ys)).map (b::·)=some ss:=h;cases i:fw (r++ys) with
   |none=>rw[i] at h;cases h
   |some z=>
    rw[i] at h;cases h;obtain⟨s1,f,k,l,rfl⟩:=j i;exact⟨b::s1,f,by show(fw r).map (b::·)=_;rw[k];rfl,l,rfl⟩
  |_=>cases h
theorem Ba(z:Str):∀(l f:List Str),eJ f (l++[z])=if z∈eJ f l then eJ f l else eJ f l++[z]
 |[],f=>rfl
 |x::l,f=>by
  show eJ _ (l++[z])=_;rw[Ba z l];rfl
inductive scI (f:D->R (Option D)) (ds:List D) (ss:List Str) (H1 Hs1:Hp) (i m:Nat) (acc:List Str) (H':Hp):Prop
 |mk (done bM zs sa sz Hs':_) (h0:ds=done++bM) (h1:done.length=i) (h2:bM.length=m) (h3:db H1 Hs1 H' Hs') (h4:acc=eJ [] sa) (h5:sa.length<=i) (h6:gD f bM=.ok zs) (h7:fw zs=some sz) (h8:ss=sa++sz):scI f ds ss H1 Hs1 i m acc H'
theorem UE(a0:nt=1\/nt=2)
  (q:TSt K w cls E ρ (yz nt ix gi gt ge ρ) B H Q):
  Q9 w nt ix (XB K cls E ρ (gi ρ)) (EX K nt) (λB H Q=>∃j,GK K cls E0 j (gt j) B H Q) (λB H Q=>∃j,TR K cls E0 j (ge j) B H Q) B H Q:=by
 obtain⟨H0,a7,la,Hs,f,q⟩:=q;refine⟨H0,a7,la,Hs,f,?_⟩;unfold yz at q;cases hi:gi ρ with
 |no=>rw[hi] at q;exact q
 |ex x n=>rw[hi] at q;exact q
 |ok ds=>
  rw[hi,bind_ok] at q;intro J H1 P Hn s1 sn it;by_cases hl:ds.length<=60
  ·rw[if_pos hl] at q;cases Y:gD (jl nt (m5 nt ix ρ) gt ge) ds with
   |no=>rw[Y] at q;exact q.elim
   |ex x n=>exact(xq (B4 _ _ _ _) _ _ _ Y).elim
   |ok ys=>
    rw[Y,bind_ok] at q;cases hs:fw ys with
    |none=>rw[hs] at q;exact q.elim
    |some ss=>
     rw[hs] at q;obtain⟨lb,fb⟩:=(f.step s1).block nt ix;refine⟨scI (jl nt (m5 nt ix ρ) gt ge) ds ss H1 P,
      ⟨ds.length,[],ds,ys,[],ss,P,rfl,rfl,rfl,.refl s1.sub,rfl,ca _,Y,hs,rfl⟩,?_⟩
     rintro i m b0 H' ⟨done,bM,zs,u,sz,S,l,s,T,st,rfl,yl,hz,I,U⟩;obtain⟨a6,t,A⟩:=it H' S (sn.trans st.all) st.sh st.sub;cases bM with
     |nil=>
      left;cases hz;cases I;rw[cq] at l U;subst U l;exact⟨t i ∅,λp hp=>q p H' S (s1.trans st) hp⟩
     |cons d bM=>
      right;have N:i<ds.length:=by rw[l,aS,aX];omega
      have a4:=j4 u [];simp at a4;refine⟨a6 i N,qr (show(eJ [] u).length+1<=61 by omega) ⋯,λx H2 a3=>?_⟩;obtain⟨d',a2,hd,s2,r2⟩:=A i x H2 N a3;have a5:d'=d:=by
       rw[l,aU ∅] at hd;simp[s] at hd;exact hd.symm
      subst a5;obtain⟨o,G,k,O,rfl⟩:=rX hz;have k:=xn k;obtain⟨so,L,h,hsz,rfl⟩:=CL I;cases X:V_ nt d' (m5 nt ix ρ) with
      |no=>rw[X] at k;cases k
      |ex x n=>rw[X] at k;cases k
      |ok j=>
       rw[X,bind_ok] at k;refine xp a0 ((fb.step st).step s2) r2 X λa8 f2=>⟨j,?_⟩;refine⟨_,_,_,a2,f2,?_⟩;cases ht:gt j with
       |no=>rw[ht] at k;cases k
       |ex x n=>rw[ht] at k;cases k
       |ok b=>
        rw[ht,bind_ok] at k;intro H3 M s3;cases b with
        |false=>
         rw[if_neg bd] at k;cases k;cases h;refine zU ⟨bM.length,by rw[<- T];simp,done++[d'],bM,G,u,L,M,by rw[l];simp,by simp[s],rfl,(st.trans s2).trans s3,rfl,by omega,O,hsz,by simpa using U⟩
        |true=>
         rw[if_pos rfl] at k;refine zV ⟨j,_,_,_,M,f2.step s3,?_⟩;cases he:ge j with
         |no=>rw[he] at k;cases k
         |ex x n=>rw[he] at k;cases k
         |ok y=>
          rw[he,bind_ok] at k;cases k;intro v H4 a1 s4 r4;cases r4 with
          |str z=>
           cases h;exact⟨z,bM.length,rfl,by rw[<- T];simp,done++[d'],bM,G,u++[z],L,a1,by rw[l];simp,by simp[s],rfl,((st.trans s2).trans s3).trans s4,(Ba z u []).symm,by simp;omega,O,hsz,by rw[U];simp⟩
          |none=>cases h
          |bool _=>cases h
          |int _=>cases h
          |list _ _=>cases h
          |tuple _ _=>cases h
          |dictK _ _=>cases h
          |dictT _ _ _=>cases h
          |dictF _ _ _=>cases h
  ·rw[if_neg hl] at q;exact q.elim
def Qp(nt:Nat)(f:nt=1\/nt=2)(h:c.X.calm=true)(S:mo c.X scope N' nt ix)(i:JI c tg iter gi)(j:uI c N' scope nt tg ifs elt gt ge)(hs:∀x,bW iter c.X.env x=pure x:=by intro _;rfl):
  UD c (.SetComp elt [⟨tg,iter,ifs,0⟩] scope pos) (yz nt ix gi gt ge):=.of λρ=>tU (J_ h S (xo f) (i ρ) j.at hs) λk H Q q=>UE f q
end
def cL(n:Nat)(ds:List D):aI:=ds.map Sl.shr++vw (n-ds.length) Sl.no
def i4(n:Nat)(g:aI->R Fl):List D->R D:=λds=>match g (cL n ds) with
 |.ok (.nx _)=>.ok .none
 |.ok (.rt d)=>.ok d
 |.ex c m=>.ex c m
 |_=>.no
def Bb{n:Nat}{ds:List D}{i:Nat}{s:Sl}(h:(cL n ds)[i]?=some s):(∃d,ds[i]?=some d/\s=.shr d)\/s=.no:=by
 unfold cL at h;by_cases b:i<ds.length
 ·rw[bA (by simpa using b),aP] at h;cases a:ds[i]? with
  |none=>rw[a] at h;cases h
  |some z=>rw[a] at h;cases h;exact .inl ⟨z,rfl,rfl⟩
 ·rw[aU (by simp;omega),cX] at h;split at h<;>cases h;exact .inr rfl
def NA{N:List Str}{a:List V}{i:Nat}{v:V}(h:a[i]?=some v):(L2.start N a)[i]?=some (some v):=by
 unfold L2.start;have b:i<a.length:=(List.getElem?_eq_some_iff.mp h).1;rw[bA (by simpa using b),aP,h];rfl
theorem Fr.start{K:af}{H Hs:Hp}{N:List Str}{b:List V}{ds:List D}(sub:eD Hs H)(r:RDs K Hs b ds):Fr K H Hs (λ_=>none) (cL N.length ds) (L2.start N b) H Hs:= by
  have f:= r.length;refine⟨.refl sub,by simp[cL,L2.start,f],λi d h=>?_,λi d h=>?_,λi d h=>?_,λi j d e a h _ _ _=>?_,λi a h=>(nomatch h),λi d h=>?_,λi j d e h _=>?_⟩
  · rcases Bb h with⟨z,hz,e⟩ | e
    · cases e;obtain⟨v,g,c⟩:= r.get' hz;exact⟨v,NA g,c⟩
    · cases e
  all_goals (rcases Bb h with⟨z,_,e⟩ | e <;> cases e)
def W3(F:Ng K x qual st f fd)(S:cg N ps (aH st))
  (h:∀(a:ai) (A:cD) (outer:List Env) (s:au) (H:Hp) (E:XK),nz k (A.deeper (vT qual (aH st) s.heap.objs.size f a))->Lz ⟨AN (CF P w) P w K mg base N qual (aH st) f a A outer s H E,cls,E⟩ (jG st) g):
  vn P w K mg base (CF P w) (k+1) f fd ps (VY K cls ps.length (i4 N.length g)):=by
 obtain⟨L,O,kV,p,I,M,a,ct,y,rfl,z,i⟩:=F.ex;refine Z1 z i S (λG H Q E j=>by obtain⟨Hs,ds,sub,o,r,q⟩:=j;exact by rw[r.length];exact o) λA outer s H G Q E u l=>?_;obtain⟨Hs,ds,sub,o,r,q⟩:=l;refine⟨_,h a A outer s H E u (cL N.length ds),H,Hs,_,Hs,Fr.start sub r,?_⟩;unfold i4 at q;cases m:g (cL N.length ds) with
 |no=>rw[m] at q;exact q
 |ex c n=>rw[m] at q;exact q
 |ok t=>
  rw[m] at q;cases t with
  |nx e=>exact λσ' H' b B=>q .non H' b B.st .none
  |rt d=>exact λv H' b s r=>q v H' b s r
  |bk e=>exact q.elim
  |ct e=>exact q.elim
def ZC(F:Ng K x qual st f fd)(S:cg N ps (aH st))(b:mg x=some (.ref f))(c:nK K fd ps [])
  (h:∀(a:ai) (A:cD) (outer:List Env) (s:au) (H:Hp) (E:XK),nz k (A.deeper (vT qual (aH st) s.heap.objs.size f a))->Lz ⟨AN (CF P w) P w K mg base N qual (aH st) f a A outer s H E,cls,E⟩ (jG st) g):
  Fn P w K mg base cls x (k+1) ps.length (i4 N.length g):=⟨f,fd,ps,W3 F S h,b,F.kp,c⟩
def fA:vZ (CF X.prog X.w) X E0:=λ_ _ _ _ _ _ _ h=>by
 obtain⟨_,_,_,_,_,_,_,_,_,q⟩:=h;exact q.elim
end
def clear2(ρ:aI):aI:=ρ.map λs=>match s with
 |.ow2 _=>.no
 |s=>s
theorem Fr.clear2(f:Fr K H0 Hs0 la ρ σ H Hs):Fr K H0 Hs0 la (clear2 ρ) σ H Hs/\∀(j:Nat) (d:List (List D)),¬ (J.clear2 ρ)[j]?=some (Sl.ow2 d):=by
 have un:∀{j:Nat}{s:Sl},(J.clear2 ρ)[j]?=some s->(∀d,s≠.ow2 d)/\(ρ[j]?=some s\/s=.no):=λ{j s} e=>by
  unfold J.clear2 at e;rw[aP] at e;cases h:ρ[j]? with
  |none=>rw[h] at e;cases e
  |some t=>
   rw[h] at e;cases t with
   |ow2 d=>cases e;exact⟨λ_ z=>(by cases z),.inr rfl⟩
   |no=>cases e;exact⟨λ_ z=>(by cases z),.inl rfl⟩
   |shr d=>cases e;exact⟨λ_ z=>(by cases z),.inl rfl⟩
   |lck d=>cases e;exact⟨λ_ z=>(by cases z),.inl rfl⟩
   |own d=>cases e;exact⟨λ_ z=>(by cases z),.inl rfl⟩
 have c:∀{j:Nat}{s:Sl},s≠.no->(J.clear2 ρ)[j]?=some s->ρ[j]?=some s:=λ{j s} n e=>(un e).2.resolve_right n;have b:∀(j:Nat) (d:List (List D)),¬ (J.clear2 ρ)[j]?=some (Sl.ow2 d):=λj d e=>(un e).1 d rfl;exact⟨⟨f.st,by simp[J.clear2,f.len],λj d h=>f.sh j d (c (λz=>by cases z) h),λj d h=>f.ow j d (c (λz=>by cases z) h),λj d h=>f.lk j d (c (λz=>by cases z) h),λj k d e a g i=>f.dj j k d e a (c (λz=>by cases z) g) (c (λz=>by cases z) i),f.lh,λj d h=>(b j d h).elim,λj k d e h _=>(b j d h).elim⟩,b⟩
def u7:List av->Hp->Hp
 |[],H=>H
 |a::b,H=>u7 b (upd H a (.lst []))
theorem Bc:∀(c:List av) (H:Hp),(∀a∈c,H a=none)->c.Nodup->eD H (u7 c H)
 |[],H,_,_=>.refl H
 |a::c,H,h,e=>by
  obtain⟨f,g⟩:=List.nodup_cons.mp e;refine(oN (h a aq)).trans (Bc c _ (λb d=>?_) g);rw[bG (λ(z:b=a)=>f (z ▸ d))];exact h b (ak _ d)
theorem GV:∀(d:List av) (H:Hp),d.Nodup->∀a∈d,u7 d H a=some (.lst [])
 |a::d,H,i,b,k=>by
  obtain⟨l,j⟩:=List.nodup_cons.mp i;show u7 d (upd H a (.lst [])) b=_;by_cases f:b∈d
  ·exact GV d _ j b f
  ·have e:b=a:=(List.mem_cons.mp k).resolve_right f;subst e;have:∀(d:List av) (H:Hp),b∉d->u7 d H b=H b:=by
    intro d;induction d with
    |nil=>intro H _;rfl
    |cons c d g=>
     intro H h;show u7 d (upd H c (.lst [])) b=_;rw[g _ (λz=>h (ak _ z)),bG (λ(z:b=c)=>h (by rw[z];exact aq))]
   rw[this d _ f,bB]
theorem oS:∀(d:List av) (H:Hp) (b:av),u7 d H b=none->H b=none/\b∉d
 |[],H,b,h=>⟨h,by simp⟩
 |a::d,H,b,h=>by
  obtain⟨c,f⟩:=oS d (upd H a (.lst [])) b h;by_cases e:b=a
  ·subst e;rw[bB] at c;cases c
  ·rw[bG e] at c;exact⟨c,λz=>(List.mem_cons.mp z).elim e f⟩
def UF(i:Nat):aI->R Fl:=λρ=>.ok (.nx ((clear2 ρ).set i (.ow2 [[],[],[],[]])))
def XE(i:Nat)(hN:c.X.N.Nodup)(A:c.X.N[i]?=some x:=by rfl)(hx:Vz c.X.env.scope x:=by first|exact jC rfl|exact gy rfl)
  (hs:iN (.List [.List [] p1,.List [] p2,.List [] p3,.List [] p4] p) (some (.Name x pos')) spos.line c.X.env=pure false:=by rfl)
  (hf:c.X.fn x=true\/c.X.env.scope.names.lookup x=some .local:=by first|exact .inl rfl|exact .inr rfl|assumption)
  (y:a_ [.List [] p1,.List [] p2,.List [] p3,.List [] p4] c.X.env=(false,fO (.List [] p1) c.X.env)::a_ [.List [] p2,.List [] p3,.List [] p4] c.X.env:=by rfl)
  (G:a_ [.List [] p2,.List [] p3,.List [] p4] c.X.env=(false,fO (.List [] p2) c.X.env)::a_ [.List [] p3,.List [] p4] c.X.env:=by rfl)
  (P:a_ [.List [] p3,.List [] p4] c.X.env=(false,fO (.List [] p3) c.X.env)::a_ [.List [] p4] c.X.env:=by rfl)
  (Q:a_ [.List [] p4] c.X.env=(false,fO (.List [] p4) c.X.env)::a_ [] c.X.env:=by rfl):
  JS c (.Assign [.Name x pos'] (.List [.List [] p1,.List [] p2,.List [] p3,.List [] p4] p) spos) (UF i):=.of λρ=>by
 refine CJ (Jx hN A hx (vY (i_ (vY kU) (i_ (vY kU) (i_ (vY kU) (i_ (vY kU) kU Q) P) G) y)) hs hf) λD σ H U=>?_;obtain⟨H0,a5,la,Hs,f,q⟩:=U;replace q:rc c.X.K c.cls c.E H0 a5 la D (UF i ρ):=q;obtain⟨f,L⟩:=f.clear2;refine⟨ca _,λg n1=>⟨ca _,λl n2=>⟨ca _,λm n3=>⟨ca _,λu n4=>⟨cB (fE (show 4<=1000 by decide)),λa n=>?_⟩⟩⟩⟩⟩;have N:=oS [g,l,m,u] H a n;have M:=oS [g,l,m] H u n4;have T:=oS [g,l] H m n3;have N2:=oS [g] H l n2;simp only[bg,bt,or_false,not_or] at N M T N2;have Y:[g,l,m,u].Nodup:=by
  simp only[lF,bg,bt,or_false,not_or,i5,and_true,not_false_eq_true];exact⟨⟨dO N2.2,dO T.2.1,dO M.2.1⟩,⟨dO T.2.2,dO M.2.2.1⟩,dO M.2.2.2⟩
 have free:∀b∈[g,l,m,u],H b=none:=λb w=>by
  simp only[bg,bt,or_false] at w;rcases w with rfl|rfl|rfl|rfl
  ·exact n1
  ·exact N2.1
  ·exact T.1
  ·exact M.1
 have O:(a::[g,l,m,u]).Nodup:=List.nodup_cons.mpr ⟨by simp only[bg,bt,or_false,not_or];exact N.2,Y⟩;have sm:eD H (u7 [g,l,m,u] H):=Bc _ _ free Y;have all:eD H (upd (u7 [g,l,m,u] H) a (.lst [.ref g,.ref l,.ref m,.ref u])):=sm.trans (oN n);have v:∀b∈a::[g,l,m,u],H b=none:=λb w=>(List.mem_cons.mp w).elim (λz=>z ▸ N.1) (free b);have st:db H Hs (upd (u7 [g,l,m,u] H) a (.lst [.ref g,.ref l,.ref m,.ref u])) Hs:=⟨all,.refl _,f.st.sub.trans all,λ_ _ _ _ z=>z⟩;have B:=f.step st;have hl:i<σ.length\/¬ i<σ.length:=Decidable.em _;have nx:∀{j:Nat}{s:Sl},(∀d,s≠.ow2 d)->((clear2 ρ).set i (.ow2 [[],[],[],[]]))[j]?=some s->(clear2 ρ)[j]?=some s/\i≠j:=λ{j s} hs e=>by
  by_cases t:i=j
  ·subst t;by_cases A:i<(clear2 ρ).length
   ·rw[aR A] at e;exact absurd (c6 e).symm (hs _)
   ·rw[cV (by simpa using A)] at e;cases e
  ·rw[ax t] at e;exact⟨e,t⟩
 refine q _ _ Hs ⟨B.st,by simp[B.len],λj d h=>?_,λj d h=>?_,λj d h=>?_,λj k d d' b y G P Q=>?_,B.lh,λj d h=>?_,λj k d d' y G=>?_⟩
 ·obtain⟨h,t⟩:=nx (λ_ z=>by cases z) h;rw[ax t];exact B.sh j d h
 ·obtain⟨h,t⟩:=nx (λ_ z=>by cases z) h;rw[ax t];exact B.ow j d h
 ·obtain⟨h,t⟩:=nx (λ_ z=>by cases z) h;rw[ax t];exact B.lk j d h
 ·obtain⟨y,t⟩:=nx (λ_ z=>by cases z) y;obtain⟨G,I⟩:=nx (λ_ z=>by cases z) G;rw[ax t] at P;rw[ax I] at Q;exact B.dj j k d d' b y G P Q
 ·by_cases t:i=j
  ·subst t;by_cases A:i<(clear2 ρ).length
   ·rw[aR A] at h;cases h;have a0:=GV [g,l,m,u] H Y;have ne:∀b∈[g,l,m,u],b≠a:=λb w z=>(List.nodup_cons.mp O).1 (z ▸ w);have S:∀b∈[g,l,m,u],upd (u7 [g,l,m,u] H) a (.lst [.ref g,.ref l,.ref m,.ref u]) b=some (.lst []):=λb w=>by rw[bG (ne b w)];exact a0 b w
    refine⟨a,[g,l,m,u],aR (by rw[<- B.len];exact A),bB,O,λb w=>⟨f.st.sub.free (v b w),f.st.all.free (v b w)⟩,λb w k e I=>?_,.cons (S _ (by simp)) .nil (.cons (S _ (by simp)) .nil (.cons (S _ (by simp)) .nil (.cons (S _ (by simp)) .nil .nil)))⟩;obtain⟨I,nk⟩:=nx (λ_ z=>by cases z) I;rw[ax nk];intro z;obtain⟨b',o,k1,k2,_⟩:=f.ow k e I;rw[z] at k1;cases k1;rw[v b w] at k2;cases k2
   ·rw[cV (by simpa using A)] at h;cases h
  ·rw[ax t] at h;exact(L j d h).elim
 ·by_cases t:i=j
  ·by_cases I:i=k
   ·exact t.symm.trans I
   ·rw[ax I] at G;exact(L k d' G).elim
  ·rw[ax t] at y;exact(L j d y).elim
def Qq(h:JS c st gs):JS c st (λρ=>gs (fz ρ)):=.of λρ=>CJ (h (fz ρ)) λD i H a=>by
 obtain⟨e,d,la,Hs,f,q⟩:=a;obtain⟨b,g⟩:=f.shared;exact⟨e,d,la,b,g,q⟩
def shareAt(i:Nat)(ρ:aI):aI:=match ρ[i]? with
 |some (Sl.own d)=>ρ.set i (.shr d)
 |_=>ρ
theorem Fr.shareAt(f:Fr K H0 Hs0 la ρ σ H Hs)(i:Nat):∃I,Fr K H0 Hs0 la (J.shareAt i ρ) σ H I:=by
 unfold J.shareAt;split
 ·rename_i d ho
  obtain⟨a,o,B,Q,P,N,Y⟩:=f.ow i d ho;have n:i<ρ.length:=(List.getElem?_eq_some_iff.mp ho).1;have m:eD Hs (upd Hs a o):=oN P;have nx:∀{j:Nat}{s:Sl},(∀d,s≠.shr d)->(ρ.set i (.shr d))[j]?=some s->ρ[j]?=some s/\i≠j:=λ{j s} hs e=>by
   by_cases g:i=j
   ·subst g;rw[aR n] at e;exact absurd (c6 e).symm (hs d)
   ·rw[ax g] at e;exact⟨e,g⟩
  have ne:∀(j:Nat) (e:D) (b:av),i≠j->ρ[j]?=some (Sl.own e)->σ[j]?=some (some (V.ref b))->b≠a:=λj e b g h w z=>by
   subst z;exact g (f.dj i j d e b ho h B w)
  refine⟨upd Hs a o,⟨f.st.all,f.st.sh.trans m,λb u e=>?_,λb u e t z=>?_⟩,by simp[f.len],λj e h=>?_,λj e h=>?_,λj e h=>?_,λj k A E b y L S U=>?_,f.lh,λj e h=>?_,λj k A E y L=>?_⟩
  ·by_cases w:b=a
   ·subst w;rw[bB] at e;cases e;exact Q
   ·rw[bG w] at e;exact f.st.sub b u e
  ·rw[bG (cu e N)];exact f.st.out b u e t z
  ·by_cases g:i=j
   ·subst g;rw[aR n] at h;cases h;exact⟨_,B,Y.share P⟩
   ·rw[ax g] at h;obtain⟨v,l,q⟩:=f.sh j e h;exact⟨v,l,q.same m⟩
  ·obtain⟨h,g⟩:=nx (λ_ z=>by cases z) h;obtain⟨b,u,l,q,M,G,x⟩:=f.ow j e h;exact⟨b,u,l,q,by rw[bG (ne j e b g h l)];exact M,G,x.same m⟩
  ·obtain⟨h,g⟩:=nx (λ_ z=>by cases z) h;obtain⟨b,u,l,q,M,G,x,T⟩:=f.lk j e h;exact⟨b,u,l,q,M,by rw[bG (cu x N)];exact G,x,T.same m⟩
  ·exact f.dj j k A E b (nx (λ_ z=>by cases z) y).1 (nx (λ_ z=>by cases z) L).1 S U
  ·obtain⟨h,g⟩:=nx (λ_ z=>by cases z) h;obtain⟨b,as,O⟩:=f.o2 j e h;refine⟨b,as,O.at_,O.ob,O.nd,λc p=>⟨?_,(O.out c p).2⟩,λc p k X hk=>O.dj c p k X (nx (λ_ z=>by cases z) hk).1,O.inn.step (.refl _) m⟩;rw[bG (λz=>O.dj c p i d ho (by rw[z];exact B))];exact(O.out c p).1
  ·exact f.u2 j k A E (nx (λ_ z=>by cases z) y).1 (nx (λ_ z=>by cases z) L).1
 ·exact⟨Hs,f⟩
def Kc(i:Nat)(h:JS c st gs):JS c st (λρ=>gs (shareAt i ρ)):=.of λρ=>CJ (h (shareAt i ρ)) λD j H a=>by
 obtain⟨e,d,la,Hs,f,q⟩:=a;obtain⟨b,g⟩:=f.shareAt i;exact⟨e,d,la,b,g,q⟩
def Dr.get(h:Dr K H Hs as dss):∀{j:Nat}{ds:List D},dss[j]?=some ds->∃b a,as[j]?=some b/\H b=some (.lst a)/\RDs K Hs a ds:=by
 induction h with
 |nil=>intro j ds e;cases e
 |cons h r t c=>
  intro j ds e;cases j with
  |zero=>cases e;exact⟨_,_,rfl,h,r⟩
  |succ j=>have q:=c (j:=j) e;exact q
theorem Dr.set(i:RDs K Hs vs' ds'):∀{d:List av}{c:List (List D)}{j:Nat}{b:av},Dr K H Hs d c->d[j]?=some b->d.Nodup->Dr K (L2.upd H b (.lst vs')) Hs d (c.set j ds')
 |_,_,_,_,.nil,h,_=>by simp at h
 |_,_,0,b,.cons h r t,e,g=>by
  simp at e;subst e;exact .cons bB i (t.upd (List.nodup_cons.mp g).1)
 |_,_,j+1,b,.cons (a:=a) h r t,e,g=>by
  have f:_:=e;simp only[lL] at f;obtain⟨k,l⟩:=List.nodup_cons.mp g;have m:b∈_:=bV f;exact .cons (by rw[bG (λz=>k (by rw[z];exact m))];exact h) r (Dr.set i t f l)
def rf(i:Nat)(b g:aI->R D):aI->R Fl:=λρ=>match ρ[i]? with
 |some (Sl.ow2 a)=>(b ρ).bind λk=>match k with
  |.int j=>if 0<=j then(match a[j.toNat]? with
   |some ds=>(g ρ).bind λd=>if ds.length<1000 then .ok (.nx (ρ.set i (.ow2 (a.set j.toNat (ds++[d]))))) else .no
   |none=>.no) else .no
  |_=>.no
 |_=>.no
def Be(i:Nat)(a3:JE c ie gi)(h:JE c e g)(hN:c.X.N[i]?=some x:=by rfl)(hv:T6 c.X.env.scope x:=by first|exact jC rfl|exact gy (jC rfl)|exact gy (gy rfl))(hd:(x==("__debug__" : Str))=false:=by decide)
  (a0:(x==("__classdict__" : Str))=false:=by decide) (a7:wW ie:=by exact λ_ _=>rfl)
  (P:Ab (.Subscript (.Name x p) ie p3) "append" c.X.env (fO (.Subscript (.Name x p) ie p3) c.X.env)=fO (.Subscript (.Name x p) ie p3) c.X.env:=by rfl)
  (T:((kR cpos (a_ [e] c.X.env)).all (λx=>!x.1)&&(Tb cpos (G5 [] c.X.env)).all (λx=>x.1.isSome)
   && decide ([e].length+([]:List yY).length+(if([]:List yY).isEmpty then 0 else 1)<30))=true:=by rfl)
  (G:(apos.endLine==cpos.line)=true:=by rfl) (S:a_ [e] c.X.env=(false,fO e c.X.env)::a_ [] c.X.env:=by rfl) (A:(kR cpos (a_ [] c.X.env)).any (·.1)=false:=by rfl)
  (hs:iN (.Call (.Attribute (.Subscript (.Name x p) ie p3) "append" apos) [e] [] cpos) none pos.line c.X.env=pure false:=by rfl):
  JS c (.Expr (.Call (.Attribute (.Subscript (.Name x p) ie p3) "append" apos) [e] [] cpos) pos) (rf i gi g):=.of λρ=>by
 refine CJ (Aj (Py qS Cs Ct Dj (VH EB (tL hN hv hd a0) (a3 ρ) a7) (i_ (h ρ) kU S) P T G S A) hs) λD σ H a2=>?_;obtain⟨H0,a5,la,Hs,f,q⟩:=a2;replace q:rc c.X.K c.cls c.E H0 a5 la D (rf i gi g ρ):=q;unfold rf at q;split at q
 ·rename_i B ho
  obtain⟨a,as,O⟩:=f.o2 i B ho;refine⟨_,O.at_,?_⟩;refine sE f q λk v H1 b6 e1 s1 f1 r1=>?_;rw[e1,bind_ok] at q;cases r1 with
  |int j=>
   simp only at q;by_cases M:0<=j
   ·rw[if_pos M] at q;split at q
    ·rename_i ds a6
     obtain⟨b,vs,hb,hH,rv⟩:=O.inn.get a6;have a8:J6 (as.map V.ref) j=some (.ref b):=by
      have:=uz (xs:=as.map V.ref) (j:=j.toNat) (v:=V.ref b) (by rw[aP,hb];rfl)
      rwa[fQ M] at this
     refine⟨a,_,j,_,rfl,rfl,.of (s1.all _ _ O.ob),a8,.inl ⟨rfl,_,.of (s1.all _ _ hH)⟩,?_⟩;refine sE f1 q λd w H2 a4 e2 s2 o r2=>?_;rw[e2,bind_ok] at q;by_cases hl:ds.length<1000
     ·rw[if_pos hl] at q;have st:=s1.trans s2;refine⟨b,vs,w,rfl,rfl,st.all _ _ hH,fE (by rw[rv.length];omega),?_⟩;have U:i<ρ.length:=(List.getElem?_eq_some_iff.mp ho).1;obtain⟨a',L,l⟩:=o.o2 i B ho;have ea:a'=a:=by
       have:=l.at_;rw[O.at_] at this;cases this;rfl
      subst ea;have a1:L=as:=by
       have t:=l.ob;rw[st.all _ _ O.ob] at t;injection t with t;injection t with t;exact(OO (λx y z=>by cases z;rfl) |>.mp t).symm
      subst a1;have Q:b∈a'::L:=ak _ (bV hb);have nb:b≠a':=λz=>(List.nodup_cons.mp O.nd).1 (z ▸ bV hb);obtain⟨bs,b0⟩:=l.out b Q;have nx:∀{m:Nat}{s:Sl},(∀d,s≠.ow2 d)->(ρ.set i (.ow2 (B.set j.toNat (ds++[d]))))[m]?=some s->ρ[m]?=some s/\i≠m:=λ{m s} hs e=>by
       by_cases M:i=m
       ·subst M;rw[aR U] at e;exact absurd (c6 e).symm (hs _)
       ·rw[ax M] at e;exact⟨e,M⟩
      refine q _ _ a4 ⟨⟨λc u e=>?_,o.st.sh,λc u e=>?_,o.st.out⟩,by simp[o.len],λm d' h=>o.sh m d' (nx (λ_ z=>by cases z) h).1,λm d' h=>?_,λm d' h=>?_,λm k' d' e' a t h2=>o.dj m k' d' e' a (nx (λ_ z=>by cases z) t).1 (nx (λ_ z=>by cases z) h2).1,o.lh,λm d' h=>?_,λm k' d' e' t h2=>?_⟩
      ·rw[bG (cu e b0)];exact o.st.all c u e
      ·rw[bG (cu e bs)];exact o.st.sub c u e
      ·obtain⟨h,_⟩:=nx (λ_ z=>by cases z) h;obtain⟨c',u,k1,k2,k3,k4,Y⟩:=o.ow m d' h;refine⟨c',u,k1,?_,k3,k4,Y⟩;rw[bG (λz=>l.dj b Q m d' h (by rw[<- z];exact k1))];exact k2
      ·obtain⟨h,_⟩:=nx (λ_ z=>by cases z) h;obtain⟨c',u,k1,k2,k3,k4,Y,k6⟩:=o.lk m d' h;refine⟨c',u,k1,k2,?_,k4,Y,k6⟩;rw[bG (cu Y b0)];exact k3
      ·by_cases n:i=m
       ·subst n;rw[aR U] at h;cases h;refine⟨a',L,l.at_,by rw[bG (dO nb)];exact l.ob,l.nd,l.out,λc hc k e' hk=>l.dj c hc k e' (nx (λ_ z=>by cases z) hk).1,?_⟩;exact Dr.set ((rv.same st.sh).append (.cons r2 .nil)) l.inn hb (List.nodup_cons.mp l.nd).2
       ·rw[ax n] at h;exact(n (o.u2 i m _ _ ho h)).elim
      ·by_cases n:i=m
       ·by_cases I:i=k'
        ·exact n.symm.trans I
        ·rw[ax I] at h2;exact(I (o.u2 i k' _ _ ho h2)).elim
       ·rw[ax n] at t;exact(n (o.u2 i m _ _ ho t)).elim
     ·rw[if_neg hl] at q;exact q.elim
    ·exact q.elim
   ·rw[if_neg M] at q;exact q.elim
  |none=>exact q.elim
  |bool _=>exact q.elim
  |str _=>exact q.elim
  |list _ _=>exact q.elim
  |tuple _ _=>exact q.elim
  |dictK _ _=>exact q.elim
  |dictT _ _ _=>exact q.elim
  |dictF _ _ _=>exact q.elim
 ·exact q.elim
structure Bi (mg:Str->Option ai):Prop where
 len:mg "len"=none
 isinstance:mg "isinstance"=none
 all:mg "all"=none
 any:mg "any"=none
 zip:mg "zip"=none
 tuple:mg "tuple"=none
 list:mg "list"=none
 sorted:mg "sorted"=none
 set:mg "set"=none
 range:mg "range"=none
 enumerate:mg "enumerate"=none
 dict:mg "dict"=none
 sum:mg "sum"=none
 max:mg "max"=none
 min:mg "min"=none
 reversed:mg "reversed"=none
 str:mg "str"=none
 int:mg "int"=none
 bool:mg "bool"=none
def bits(j:Nat):List Bool:=[decide (0=j),decide (1=j),decide (2=j),decide (3=j),decide (4=j),decide (5=j),decide (6=j),decide (7=j),decide (8=j),decide (9=j),decide (10=j)]
end J
namespace L2
open PySem
end L2
namespace J
open PySem L2
section
open PyProof.Rows (OwnCls)
abbrev UG:List ai:=[.type "ValueError",.type "Exception",.type "BaseException",.type "object"]
structure TopC (K:af) (x:Str) (C:av):Prop where
 ns:iY K cy x=some (some (.ref C))
 ex:PySem.W.excIn K C UG "ValueError.__new__"=true
 mb:jo K C (.type "BaseException")=some true
inductive ZD (K:af) (F:List D->R D) (vs:List V) (H:Hp) (Q:VK) (z_3:XK):Prop
 |mk (Hs ds d:_) (h0:eD Hs H) (h1:ds.length=1) (h2:RDs K Hs vs ds) (h3:F ds=.ok d) (h4:∀v H' Hs',db H Hs H' Hs'->RD K Hs' v d->Q v H'):ZD K F vs H Q z_3
def ZE(K:af)(F:List D->R D):Sp:=ZD K F
def XF:∀a H Q E,ZE K F a H Q E->VY K cls 1 F a H Q E:=λa H Q E ⟨Hs,ds,d,s,l,r,e,q⟩=>⟨Hs,ds,s,l,r,by rw[e];exact q⟩
def ZF(l:List (Str×av)):Str->av:=λx=>(l.lookup x).getD 0
def XG{K:af}{F:List D->R D}{H:Hp}{a:av}{b:List Int}(d:F [.list (b.map .int)]=.ok (.bool true))(h:sQ K H a (b.map V.int)):ZE K F [.ref a] H (λv _=>v=.bl true) λ_ _ _=>False:=by
 have e:∀b:List Int,RDs K H (b.map V.int) (b.map .int):=λb=>by
  induction b with
  |nil=>exact .nil
  |cons x r c=>exact .cons (.int x) c
 refine⟨H,[.list (b.map .int)],.bool true,.refl H,rfl,.cons (.list h (e b)) .nil,d,?_⟩;intro v H' f _ r;cases r;rfl
def XH(h:CF P w [] H s (λ_ _ _=>False) e s'):False:=by
 obtain⟨_,_,_,_,_,_,_,_,_,q⟩:=h;exact q
def walkF{l:zM}{k:Nat}{q:bj}{b:List Str}{A:(Str->Option ai)->bZ->Prop}{i:bF->bZ->Prop}{d:DefRec}{K:Params->af}{x:Str}{F0:List D->R D}
  (y:l.most=some 63) (g:d.params.defaults=[]) (v:nz k yZ) (o:∀(w:bF) (h:bZ),i w h->(K w.params).In h)
  (F:∀(w:bF) (e:Str->Option ai) (m:av) (h:bZ),(K w.params).In h->h.Ns cy e->e d.name=some (.ref m) ->
   ∃j:iF,(∀(s:au) (u:ai),Ci s j ⟨[u],[]⟩ [(x,u)])/\∀base:bZ,(K w.params).In base->base.Ns cy e->vn l.prog w (K w.params) e base (CF l.prog w) k m j [x] (ZE (K w.params) F0))
  (p:∀c:List Int,c.length<=63->F0 [.list (c.map .int)]=.ok (.bool true)):
  SO q b A i l.row.toRowW d [] (λf B=>MM f B):=
 L2.Ua (n:=63) (k:=k) (x:=x) (CX:=λw=>CF l.prog w) (sp:=λw=>ZE (K w.params) F0) y ⋯ g v o F (λw H a c t _ z=>XG (p c t) z) λ_ _ _ _ _ h=>XH h
def NB(i:Nat)(g:aI->R Fl):aI->R Fl:=λρ=>g (shareAt i ρ)
def yA(i:Nat)(h:JS c st gs):JS c st (NB i gs):=Kc i h
end
def Bf{b c:Type}(a:b)(f:b->R c):(R.ok a).bind f=f a:=id rfl
def UH(h:aI->R Fl):Fl->R Fl:=λb=>match b with
 |.nx a=>h a
 |b=>.ok b
def GW(g h:aI->R Fl):bh g h (s::ρ)=(g (s::ρ)).bind (UH h):=id rfl
def xv(h:aI->R Fl)(ρ:aI):UH h (.nx ρ)=h ρ:=id rfl
def GX(h:aI->R Fl)(d:D):UH h (.rt d)=.ok (.rt d):=id rfl
def ifK(g h:aI->R Fl)(ρ:aI):Bool->R Fl:=λb=>bif b then g ρ else h ρ
def ZG(t:aI->R Bool)(g h:aI->R Fl):gF t g h (s::ρ)=(t (s::ρ)).bind (ifK g h (s::ρ)):=by
 show(t (s::ρ)).bind _=_;congr 1;funext b;cases b<;>rfl
def Qr(g h:aI->R Fl)(ρ:aI):ifK g h ρ false=h ρ:=id rfl
def Qs(g h:aI->R Fl)(ρ:aI)(b:Bool):ifK g h ρ b=bif b then g ρ else h ρ:=id rfl
def rtK:D->R Fl:=λd=>.ok (.rt d)
def W4(g:aI->R D):eL g (s::ρ)=(g (fz (s::ρ))).bind rtK:=id rfl
def ZH(d:D):rtK d=.ok (.rt d):=id rfl
def Bg:Sl->Sl
 |.own d=>.shr d
 |.ow2 a=>.shr (.list (a.map .list))
 |s=>s
def LF:fz (s::ρ)=Bg s::fz ρ:=by cases s<;>rfl
def GY:fz []=[]:=id rfl
def LG:Bg .no=.no:=id rfl
def GZ(d:D):Bg (.shr d)=.shr d:=id rfl
def G_(d:D):Bg (.own d)=.shr d:=id rfl
def Ha(d:List (List D)):Bg (.ow2 d)=.shr (.list (d.map .list)):=id rfl
def ZI(i:Nat)(ρ:aI):D->R Fl:=λd=>.ok (.nx (ρ.set i (.shr d)))
def Qt(i:Nat)(g:aI->R D):ir i g (s::ρ)=(g (s::ρ)).bind (ZI i (s::ρ)):=id rfl
def Qu(i:Nat)(ρ:aI)(d:D):ZI i ρ d=.ok (.nx (ρ.set i (.shr d))):=id rfl
def W5(i:Nat)(ρ:aI):D->R Fl:=λd=>.ok (.nx (ρ.set i (.own d)))
def Qv(i:Nat)(g:aI->R D):i9 i g (s::ρ)=(g (s::ρ)).bind (W5 i (s::ρ)):=id rfl
def LH(i:Nat)(ρ:aI)(d:D):W5 i ρ d=.ok (.nx (ρ.set i (.own d))):=id rfl
def PD(ρ:aI):D->R Fl:=λ_=>.ok (.nx ρ)
def Qw(g:aI->R D):sR g (s::ρ)=(g (s::ρ)).bind (J.PD (s::ρ)):=id rfl
def LI(ρ:aI)(d:D):J.PD ρ d=.ok (.nx ρ):=id rfl
def g2K(gb:aI->R D)(h:D->D->R D)(ρ:aI):D->R D:=λx=>(gb ρ).bind (h x)
def ZJ(a gb:aI->R D)(h:D->D->R D):g2 a gb h (s::ρ)=(a (s::ρ)).bind (g2K gb h (s::ρ)):=id rfl
def W6(gb:aI->R D)(h:D->D->R D)(ρ:aI)(x:D):g2K gb h ρ x=(gb ρ).bind (h x):=id rfl
def Qx:D->R Bool:=λd=>match d with
 |.bool b=>.ok b
 |_=>.no
def W7(g:aI->R D):fF g (s::ρ)=(g (s::ρ)).bind Qx:=id rfl
def Qy(b:Bool):Qx (.bool b)=.ok b:=id rfl
def ZK:Bool->R Bool:=λb=>.ok (!b)
def W8(g:aI->R Bool):j6 g (s::ρ)=(g (s::ρ)).bind ZK:=id rfl
def Qz(b:Bool):ZK b=.ok (!b):=id rfl
def ZL(h:aI->R Bool)(ρ:aI):Bool->R Bool:=λb=>bif b then h ρ else .ok false
def orK(h:aI->R Bool)(ρ:aI):Bool->R Bool:=λb=>bif b then .ok true else h ρ
def W9(g h:aI->R Bool):K1 g h (s::ρ)=(g (s::ρ)).bind (ZL h (s::ρ)):=by
 show(g (s::ρ)).bind _=_;congr 1;funext b;cases b<;>rfl
def ZM(g h:aI->R Bool):yc g h (s::ρ)=(g (s::ρ)).bind (orK h (s::ρ)):=by
 show(g (s::ρ)).bind _=_;congr 1;funext b;cases b<;>rfl
def QA(h:aI->R Bool)(ρ:aI)(b:Bool):ZL h ρ b=bif b then h ρ else .ok false:=id rfl
def Wa(h:aI->R Bool)(ρ:aI)(b:Bool):orK h ρ b=bif b then .ok true else h ρ:=id rfl
def Wb:Bool->R D:=λb=>.ok (.bool (!b))
def QB(g:aI->R D):xk g (s::ρ)=((g (s::ρ)).bind Qx).bind Wb:=id rfl
def LJ(b:Bool):Wb b=.ok (.bool (!b)):=id rfl
def Wc(h:aI->R D)(ρ:aI):Bool->R D:=λb=>bif b then h ρ else .ok (.bool false)
def ZN(h:aI->R D)(ρ:aI):Bool->R D:=λb=>bif b then .ok (.bool true) else h ρ
def QC(g h:aI->R D):q_ g h (s::ρ)=((g (s::ρ)).bind Qx).bind (Wc h (s::ρ)):=by
 show(fF g (s::ρ)).bind _=(fF g (s::ρ)).bind _;congr 1;funext b;cases b<;>rfl
def Wd(g h:aI->R D):K3 g h (s::ρ)=((g (s::ρ)).bind Qx).bind (ZN h (s::ρ)):=by
 show(fF g (s::ρ)).bind _=(fF g (s::ρ)).bind _;congr 1;funext b;cases b<;>rfl
def LK(h:aI->R D)(ρ:aI)(b:Bool):Wc h ρ b=bif b then h ρ else .ok (.bool false):=id rfl
def QD(h:aI->R D)(ρ:aI)(b:Bool):ZN h ρ b=bif b then .ok (.bool true) else h ρ:=id rfl
def ZO(gb a:aI->R D)(h h':D->D->R D)(ρ:aI):D->R D:=λx=>(gb ρ).bind λy=>(h x y).bind λz=>match z with
 |.bool true=>(a ρ).bind λw=>h' y w
 |.bool false=>.ok (.bool false)
 |_=>.no
def ZQ(a:aI->R D)(h h':D->D->R D)(ρ:aI)(x:D):D->R D:=λy=>(h x y).bind λz=>match z with
 |.bool true=>(a ρ).bind λw=>h' y w
 |.bool false=>.ok (.bool false)
 |_=>.no
def ZR(a:aI->R D)(h':D->D->R D)(ρ:aI)(y:D):D->R D:=λz=>match z with
 |.bool true=>(a ρ).bind (h' y)
 |.bool false=>.ok (.bool false)
 |_=>.no
def LL(b gb a:aI->R D)(h h':D->D->R D):tW b gb a h h' (s::ρ)=(b (s::ρ)).bind (ZO gb a h h' (s::ρ)):=id rfl
def QE(gb a:aI->R D)(h h':D->D->R D)(ρ:aI)(x:D):ZO gb a h h' ρ x=(gb ρ).bind (ZQ a h h' ρ x):=id rfl
def QF(a:aI->R D)(h h':D->D->R D)(ρ:aI)(x y:D):ZQ a h h' ρ x y=(h x y).bind (ZR a h' ρ y):=id rfl
def QG(a:aI->R D)(h':D->D->R D)(ρ:aI)(y:D)(b:Bool):ZR a h' ρ y (.bool b)=bif b then(a ρ).bind (h' y) else .ok (.bool false):=by cases b<;>rfl
def QH(a:aI->R (List D))(ρ:aI):D->R (List D):=λd=>(a ρ).bind λds=>.ok (d::ds)
def QI(d:D):List D->R (List D):=λds=>.ok (d::ds)
def QJ(g:aI->R D)(a:aI->R (List D)):J.ag g a (s::ρ)=(g (s::ρ)).bind (QH a (s::ρ)):=id rfl
def Hb(a:aI->R (List D))(ρ:aI)(d:D):QH a ρ d=(a ρ).bind (QI d):=id rfl
def Hc(d:D)(ds:List D):QI d ds=.ok (d::ds):=id rfl
def We(ρ:aI):J.aJ ρ=.ok []:=id rfl
def Wf(k:List D->D):List D->R D:=λds=>if ds.length<=1000 then .ok (k ds) else .no
def QK(a:aI->R (List D))(k:List D->D):fv a k (s::ρ)=(a (s::ρ)).bind (Wf k):=id rfl
def LM(k:List D->D)(ds:List D):Wf k ds=if ds.length<=1000 then .ok (k ds) else .no:=id rfl
def QL(a:aI->R (List D))(h:List D->R D):bX a h (s::ρ)=(a (s::ρ)).bind h:=id rfl
def fnK(n:Nat)(F:List D->R D):List D->R D:=λds=>if ds.length=n then F ds else .no
def ZS(n:Nat)(F:List D->R D)(a:aI->R (List D)):f9 n F a (s::ρ)=(a (s::ρ)).bind (fnK n F):=id rfl
def Wg(n:Nat)(F:List D->R D)(ds:List D):fnK n F ds=if ds.length=n then F ds else .no:=id rfl
def Wh(h:D->R D)(d:D):i8 h [d]=h d:=id rfl
def QM(d:D)(ρ:aI):J7 (.shr d::ρ) 0=.ok d:=id rfl
def Wi(s:Sl)(ρ:aI)(n:Nat):J7 (s::ρ) (n+1)=J7 ρ n:=by simp[J7]
def QN(d:D)(ρ:aI):J8 (.shr d::ρ) 0=.ok d:=id rfl
def QO(d:D)(ρ:aI):J8 (.own d::ρ) 0=.ok d:=id rfl
def Wj(s:Sl)(ρ:aI)(n:Nat):J8 (s::ρ) (n+1)=J8 ρ n:=by simp[J8]
def ZT(T:String):D->R D:=λd=>if wJ d then .ok (.bool (GN T d)) else .no
def Wk(g:aI->R D)(T:String):rT g T (s::ρ)=(g (s::ρ)).bind (ZT T):=id rfl
def QP(T:String)(d:D):ZT T d=if wJ d then .ok (.bool (GN T d)) else .no:=id rfl
def ZU(a b:aI->R (Option Int))(ρ:aI):D->R D:=λx=>(a ρ).bind λl=>(b ρ).bind λh=>Ly x l h
def ZV(a:aI->R (Option Int))(ρ:aI)(x:D):Option Int->R D:=λl=>(a ρ).bind λh=>Ly x l h
def ZW(g:aI->R D)(b a:aI->R (Option Int)):zm g b a (s::ρ)=(g (s::ρ)).bind (ZU b a (s::ρ)):=id rfl
def QQ(b a:aI->R (Option Int))(ρ:aI)(x:D):ZU b a ρ x=(b ρ).bind (ZV a ρ x):=id rfl
def QR(a:aI->R (Option Int))(ρ:aI)(x:D)(l:Option Int):ZV a ρ x l=(a ρ).bind (Ly x l):=id rfl
def Wl(ρ:aI):Ao ρ=.ok none:=id rfl
def ZX:D->R (Option Int):=λd=>match d with
 |.int i=>.ok (some i)
 |_=>.no
def Wm(g:aI->R D):yx g (s::ρ)=(g (s::ρ)).bind ZX:=id rfl
def QS(i:Int):ZX (.int i)=.ok (some i):=id rfl
def XI(g:aI->R D):gC g (s::ρ)=(g (s::ρ)).bind u4:=id rfl
def QT(a:aI->R (List D)):Dx a (s::ρ)=(a (s::ρ)).bind K9:=id rfl
def Wn(a:aI->R (List D)):yy a (s::ρ)=(a (s::ρ)).bind enm:=id rfl
def Wo(a:aI->R (List D)):Uy a (s::ρ)=(a (s::ρ)).bind zp:=id rfl
def Wp(nt:Nat)(ix:List Nat)(gt:aI->R Bool)(ge:aI->R D)(ρ:aI):List D->R D:=λds=>if ds.length<=1000 then(gD (jl nt (m5 nt ix ρ) gt ge) ds).bind λys=>.ok (.list ys) else .no
def Wq:List D->R D:=λys=>.ok (.list ys)
def QU(nt:Nat)(ix:List Nat)(a:aI->R (List D))(gt:aI->R Bool)(ge:aI->R D):dh nt ix a gt ge (s::ρ)=(a (s::ρ)).bind (Wp nt ix gt ge (s::ρ)):=id rfl
def LN(nt:Nat)(ix:List Nat)(gt:aI->R Bool)(ge:aI->R D)(ρ:aI)(ds:List D):Wp nt ix gt ge ρ ds=if ds.length<=1000 then(gD (jl nt (m5 nt ix ρ) gt ge) ds).bind Wq else .no:=id rfl
def LO(ys:List D):Wq ys=.ok (.list ys):=id rfl
def Bh(a:aI->R (List D))(kt:D->aI->R aI)(gb:aI->R Fl)(ds:List D)(h:a (s::ρ)=.ok ds):kY a kt gb (s::ρ)=lO kt gb ds (s::ρ):=by unfold kY;rw[h]
def QV(k:D->aI->R aI)(ρ:aI):D->R Fl:=λd=>match k d ρ with
 |.ok a=>.ok (.nx a)
 |_=>.no
def Wr(g:aI->R D)(k:D->aI->R aI):A1 g k (s::ρ)=(g (s::ρ)).bind (QV k (s::ρ)):=id rfl
def Dy(ds:List D):u4 (.list ds)=.ok ds:=id rfl
def Dz(ds:List D):u4 (.tuple ds)=.ok ds:=id rfl
def DA(x:Str):u4 (.str x)=.ok (qy x):=id rfl
def QW(ds:List D):enm [.tuple ds]=.ok (mi 0 ds):=id rfl
def ZY(ds es:List D):zp [.tuple ds,.tuple es]=.ok (A2 ds es):=id rfl
def DB(ρ:aI)(i:Nat):Sl:=UA ((ρ[i]?).getD .no)
def QX(ix:List Nat)(ρ:aI):aI:=ix.map (DB ρ)
def QY(ix:List Nat)(ρ:aI):m5 1 ix ρ=.no::QX ix ρ:=id rfl
def QZ(ix:List Nat)(ρ:aI):m5 2 ix ρ=.no::.no::QX ix ρ:=id rfl
def Q_(ρ:aI):QX [] ρ=[]:=id rfl
def R0(i:Nat)(ix:List Nat)(ρ:aI):QX (i::ix) ρ=DB ρ i::QX ix ρ:=id rfl
def R1(s:Sl)(ρ:aI):DB (s::ρ) 0=UA s:=id rfl
def R4(s:Sl)(ρ:aI)(n:Nat):DB (s::ρ) (n+1)=DB ρ n:=by simp[DB]
def DC(d:D):UA (.shr d)=.shr d:=id rfl
def F2(h:ρ[i]?=some (Sl.own d)):shareAt i ρ=ρ.set i (.shr d):=by unfold shareAt;rw[h]
theorem dJ{a:Type}(f:D->R (Option D))(c:a->D)(h:a->D):∀(xs:List a),(∀x∈xs,f (c x)=.ok (some (h x)))->gD f (xs.map c)=.ok (xs.map h)
 |[],_=>rfl
 |x::r,e=>by
  rw[aC,aC];unfold gD;rw[e x aq,bind_ok,dJ f c h r λy b=>e y (ak _ b),bind_ok]
theorem j7{a:Type}(f:D->R (Option D))(c:a->D)(h:a->D)(p:a->Bool):∀(xs:List a),(∀x∈xs,f (c x)=.ok (if p x then some (h x) else none))->gD f (xs.map c)=.ok ((xs.filter p).map h)
 |[],_=>rfl
 |x::r,e=>by
  rw[aC];unfold gD;rw[e x aq,bind_ok,j7 f c h p r λy d=>e y (ak _ d),bind_ok];cases b:p x<;>simp[b]
def Ws:jl 1 ρ gt ge d=EW (((gt (ρ.set 0 (.shr d)))).bind λb=>if b then(ge (ρ.set 0 (.shr d))).bind λy=>.ok (some y) else .ok none):=id rfl
def fS(a:gt (ρ.set 0 (.shr d))=.ok true)(b:ge (ρ.set 0 (.shr d))=.ok y):jl 1 ρ gt ge d=.ok (some y):=by
 rw[Ws,a,bind_ok,if_pos rfl,b];rfl
def uK(a:gt (ρ.set 0 (.shr d))=.ok b)(c:b=true->ge (ρ.set 0 (.shr d))=.ok y):jl 1 ρ gt ge d=.ok (if b then some y else none):=by
 rw[Ws,a,bind_ok];cases b with
 |true=>rw[if_pos rfl,c rfl];rfl
 |false=>rfl
def UI(b:-(2 ^ 62)<=j)(f:j<2 ^ 62):K9 [.int j]=.ok (u0 0 j.toNat):=by
 have h:-(2 ^ 62)<=j/\j<2 ^ 62:=⟨b,f⟩;unfold K9;split
 ·rename_i c e
  have a:j=c:=by injection e with e;injection e
  subst a;rw[if_pos h]
 ·rename_i d
  exact(d j rfl).elim
end J
namespace L2
open PySem PySem.Spec PyProof.Rows
end L2
namespace J
open PySem L2
open PyProof.Rows (envOfC)
def ln1{c:Type}{b:List c}(h:b.length=1):∃a,b=[a]:=by
 rcases b with _|⟨a0,_|⟨z,r⟩⟩
 ·simp at h
 ·exact⟨_,rfl⟩
 ·simp at h
def ln2{d:Type}{c:List d}(h:c.length=2):∃a b,c=[a,b]:=by
 rcases c with _|⟨a0,_|⟨a0,_|⟨z,r⟩⟩⟩
 ·simp at h
 ·simp at h
 ·exact⟨_,_,rfl⟩
 ·simp at h
def ln3{e:Type}{d:List e}(h:d.length=3):∃a b c,d=[a,b,c]:=by
 rcases d with _|⟨a0,_|⟨a0,_|⟨a0,_|⟨z,r⟩⟩⟩⟩
 ·simp at h
 ·simp at h
 ·simp at h
 ·exact⟨_,_,_,rfl⟩
 ·simp at h
def ln4{f:Type}{e:List f}(h:e.length=4):∃a b c d,e=[a,b,c,d]:=by
 rcases e with _|⟨a0,_|⟨a0,_|⟨a0,_|⟨a0,_|⟨z,r⟩⟩⟩⟩⟩
 ·simp at h
 ·simp at h
 ·simp at h
 ·simp at h
 ·exact⟨_,_,_,_,rfl⟩
 ·simp at h
def ln5{g:Type}{f:List g}(h:f.length=5):∃a b c d e,f=[a,b,c,d,e]:=by
 rcases f with _|⟨a0,_|⟨a0,_|⟨a0,_|⟨a0,_|⟨a0,_|⟨z,r⟩⟩⟩⟩⟩⟩
 ·simp at h
 ·simp at h
 ·simp at h
 ·simp at h
 ·simp at h
 ·exact⟨_,_,_,_,_,rfl⟩
 ·simp at h
end J
namespace L2
open PySem PySem.Spec PyProof.Rows
end L2
namespace L2
open PySem
def LP(a:Nat):Nat->Nat×Nat->Nat×Nat
 | 0,x=>x
 |n+1,x=>LP a n (gJ a x.1 x.2)
theorem LQ(a:Nat):∀(n m:Nat) (x:Nat×Nat),LP a (n+m) x=LP a m (LP a n x)
 | 0,m,x=>by rw[e_];rfl
 |n+1,m,x=>by
  rw[Nat.succ_add];exact LQ a n m _
theorem LR(a:Nat):∀(n:Nat) (x:Nat×Nat),(LP a n x).2=x.2 / 32 ^ n
 | 0,x=>by simp[LP]
 |n+1,x=>by
  show(LP a n _).2=_;rw[LR a n];show x.2 / 32 / 32 ^ n=_;rw[Jn,Jo,Jp]
theorem LS(a:Nat):∀(n:Nat) (x:Nat×Nat),x.1<=a->(LP a n x).1<=a
 | 0,x,h=>h
 |n+1,x,h=>LS a n _ (by
  show(x.1*5+1+x.2 / 32) % (a+1)<=a;exact zN (nl _ (pq _)))
theorem DD:∀(fuel i p:Nat),cx mask owner fuel i p=none->∀n,n<fuel->(owner.getD (LP mask n (i,p)).1 (some 0)).isSome=true
 | 0,_,_,_,n,h=>absurd h (dR n)
 |fuel+1,i,p,e,n,h=>by
  unfold cx at e;split at e
  ·cases e
  ·rename_i b
   cases n with
   |zero=>
    have a:=List.find?_eq_none.mp b 0 (List.mem_range.mpr (by unfold bO;split<;>omega));simp only[kJ] at a;show(owner.getD i (some 0)).isSome=true;cases q:owner.getD i (some 0) with
    |none=>rw[q] at a;exact absurd rfl a
    |some _=>rfl
   |succ n=>exact DD fuel _ _ e n (Jq h)
theorem DE:∀(fuel i p k:Nat),cx mask owner fuel i p=some k->owner.getD k (some 0)=none
 | 0,_,_,_,e=>nomatch e
 |fuel+1,i,p,k,e=>by
  unfold cx at e;split at e
  ·rename_i a b
   cases e;have:=List.find?_some b;cases q:owner.getD (i+a) (some 0) with
   |none=>rfl
   |some _=>rw[q] at this;cases this
  ·exact DE fuel _ _ k e
def OV(a:Nat):Prop:=a=7\/a=15\/a=31
def ZZ(a:Nat):Bool:=(bx (a+1)).all λi=>(bx (a+1)).all λj=>(bx (a+1)).any λn=>decide ((LP a n (i,0)).1=j)
def UJ(h:OV mask):ZZ mask=true:=by
 rcases h with h|h|h<;>subst h<;>decide +kernel
def getD_none{owner:Array (Option Nat)}{k:Nat}(h:owner.getD k (some 0)=none):owner.toList[k]?=some none:=by
 by_cases a:k<owner.size
 ·rw[d_,bq a] at h;rw[aW,bq a];simpa using h
 ·rw[d_,eG ∅] at h;cases h
def NC{a:Nat}(h:OV a){owner:Array (Option Nat)}{j:Nat}(m:j<=a)(d:owner.toList[j]?=some none){i p:Nat}(q:i<=a)(l:p<2 ^ 64):
  ∃k,cx a owner (fo a) i p=some k/\owner.toList[k]?=some none:=by
 cases e:cx a owner (fo a) i p with
 |some k=>exact⟨k,rfl,getD_none (DE _ _ _ _ e)⟩
 |none=>
  exfalso;have hz:(LP a 13 (i,p)).2=0:=by
   rw[LR];exact Tq (aK l ⋯)
  have f:=LS a 13 (i,p) q;have g:=UJ h;unfold ZZ at g;rw[cA] at g;have g:=g _ (List.mem_range.mpr (rE f));rw[cA] at g;have g:=g j (List.mem_range.mpr (rE m));rw[n6] at g;obtain⟨n,c,b⟩:=g;have c:=List.mem_range.mp c;have b:=of_decide_eq_true b;have hs:(LP a (13+n) (i,p)).1=j:=by
   rw[LQ,<- b,<- hz]
  have:=DD _ _ _ e (13+n) (by unfold fo;omega);rw[hs] at this;have o:owner.getD j (some 0)=none:=by
   rw[aW] at d;rw[d_,d];rfl
  rw[o] at this;cases this
def UK(h:Int):b_ h<2 ^ 64:=by
 unfold b_;have:=lM h (show(0:Int)<2 ^ 64 by decide);have:=oG h (show(2 ^ 64:Int)≠0 by decide);omega
theorem Hd:∀{l:List (Option Nat)}{j:Nat},l[j]?=some none->((l.set j (some k)).filterMap id).Perm (k::l.filterMap id)
 |[],_,h=>nomatch h
 |x::r,0,h=>by
  cases h;exact .refl _
 |x::r,j+1,h=>by
  have a:=Hd (k:=k) (l:=r) (j:=j) h;cases x with
  |none=>exact a
  |some y=>exact(a.cons y).trans (.swap k y _)
theorem He:∀{l:List (Option Nat)},(l.filterMap id).length<l.length->∃j,j<l.length/\l[j]?=some none
 |[],h=>absurd h (cr 0)
 |none::r,_=>⟨0,pq _,rfl⟩
 |some y::r,h=>by
  obtain⟨j,a,b⟩:=He (l:=r) (Jq h);exact⟨j+1,Tr a,b⟩
def LU(a:Nat)(b:Option (Array (Option Nat)×Nat))(h:Int):Option (Array (Option Nat)×Nat):=b.bind λx=>(cx a x.1 (fo a) (b_ h % (a+1)) (b_ h)).bind λj=>some (x.1.setIfInBounds j (some x.2),x.2+1)
def Hf(a:Nat)(hs:Array Int):lI a hs=(hs.toList.foldl (LU a) (some (l9 (a+1) none,0))).map (·.1):=by
 rw[MU];rfl
theorem LV(g:OV mask):∀(l:List Int) (owner:Array (Option Nat)) (k:Nat),owner.size=mask+1->(owner.toList.filterMap id).Perm (bx k)->k+l.length<=mask ->
  ∃o',l.foldl (LU mask) (some (owner,k))=some (o',k+l.length)/\o'.size=mask+1/\(o'.toList.filterMap id).Perm (bx (k+l.length))
 |[],owner,k,a,b,_=>⟨owner,rfl,a,b⟩
 |h::r,owner,k,a,b,n=>by
  simp only[aX] at n ⊢;obtain⟨j,f,p⟩:=He (l:=owner.toList) (by rw[b.length_eq,eg,az,a];omega);rw[az,a] at f;obtain⟨m,s,o⟩:=NC g (zN f) p (i:=b_ h % (mask+1)) (zN (nl _ (pq _))) (UK h);have e:LU mask (some (owner,k)) h=some (owner.setIfInBounds m (some k),k+1):=by
   unfold LU;simp only[ze,s]
  rw[eY,e];obtain⟨o',d,q,c⟩:=LV g r (owner.setIfInBounds m (some k)) (k+1) (by rw[qT];exact a) (by
   rw[Cu];refine(Hd o).trans ?_;rw[List.range_succ];exact((b.cons k).trans (Db k _).symm)) ∅
  rw[show k+1+r.length=k+(r.length+1) by omega] at d c;exact⟨o',d,q,c⟩
def LW{n:Nat}{o:Array (Option Nat)}(h:o.size=n):(bx n).filterMap (λj=>o.getD j none)=o.toList.filterMap id:=by
 have e:(bx n).map (λj=>o.getD j none)=o.toList:=by
  refine n5 (by simp[h]) λi a b=>?_;simp only[ao,eg] at a;rw[n8,xZ,d_,bq ∅];simp
 rw[<- e,jq];rfl
def LX{mask finger moves:Nat}{led plain:Bool}{hs:Array Int}(f:OV mask)(i:hs.size<=mask):∃place a,pE mask finger moves led plain hs=some ({mask,place,dummies:=#[],finger,led,moves,plain},a)/\place.size=hs.size/\a.toList.Perm (bx hs.size):=by
 obtain⟨o,d,c,b⟩:=LV f hs.toList (l9 (mask+1) none) 0 (by simp) (by
  have:(l9 (mask+1) (none:Option Nat)).toList.filterMap id=[]:=by
   rw[Array.toList_replicate,List.filterMap_eq_nil_iff];intro x h;rw[(List.mem_replicate.mp h).2];rfl
  rw[this];exact .refl _) (by rw[az];omega)
 have g:lI mask hs=some o:=by
  rw[Hf,d];rfl
 rw[e_,az] at b;refine⟨_,_,by unfold pE;rw[g];rfl,?_,?_⟩
 ·have e:=congrArg nF (LW c);rw[b.length_eq,eg] at e;rw[ba,ao,<- e];rw[zO,zO];congr 1;funext j;cases o.getD j none<;>rfl
 ·rw[OP];refine .trans (.of_eq ?_) b;rw[<- LW c];show List.filterMap _ _=List.filterMap _ _;congr 1;funext j;cases o.getD j none<;>rfl
end L2
namespace L2
open PySem
def R5:∀n:_root_.Fin 31,n.val<bR n.val/\(bR n.val=8\/bR n.val=16\/bR n.val=32):=by decide +kernel
def R6(h:n<=30):n<=bR n-1/\OV (bR n-1)/\bR n<=32:=by
 obtain⟨a,b⟩:=R5 ⟨n,by omega⟩;simp only at a b;unfold OV;omega
def Bj{es:Array (Int×ai)}{a:Array Nat}(h:a.toList.Perm (bx es.size)):(a.filterMap (es[·]?)).toList.Perm es.toList:=by
 rw[Gc];refine(h.filterMap _).trans (.of_eq ?_);have e:(bx es.size).map (λi=>es[i]?)=es.toList.map some:=by
  refine n5 (by simp) λi b d=>?_;simp only[ao,eg] at b;rw[n8,xZ,n8,Array.getElem_toList];exact bq b
 have c:(bx es.size).filterMap (λi=>es[i]?)=((bx es.size).map (λi=>es[i]?)).filterMap id:=by rw[jq];rfl
 rw[c,e,jq];simp
def dW.of(I:dW w h a es ep t)(p:es'.toList.Perm es.toList)(f:t'.fits es'.size=true)(l:t'.led=t.led)(pl:t'.plain=t.plain):dW w (h.update a (ku es' t')) a es' (ep+1) t':=by
 have sz:es'.size=es.size:=by rw[<- az,p.length_eq,az]
 refine⟨uA I,λe he=>I.txt e (p.mem_iff.mp he),(p.map l_).nodup_iff.mpr I.nd,by rw[sz];exact I.few,f,l.trans I.led,?_⟩;rw[sz,pl];exact I.pl
def Bk{t:fh}{n:Nat}(h:t.fits n=true):t.place.size=n/\t.fill<=t.mask:=by
 unfold kG at h;rw[bc] at h;exact⟨eq_of_beq h.1,of_decide_eq_true h.2⟩
def LY{mask finger moves:Nat}{led plain:Bool}{place:Array Nat}{n:Nat}(h:place.size=n)(a:n<=mask):kG {mask,place,dummies:=#[],finger,led,moves,plain} n=true:=by
 unfold kG pH;subst h;simp only[beq_self_eq_true,wS,decide_eq_true_eq];exact a
def Ke{a:av}{es:Array (Int×ai)}{l:Nat}{t:fh}{b:Nat}{Q:Unit->au->Prop}(I:dW w s.heap a es l t)(m:b<=30)(hz:es.size<=b)
  (h:∀h' es' d t',bK a s.heap h'->dW w h' a es' d t'->es'.toList.Perm es.toList->OV t'.mask->b<=t'.mask->Q () {s with heap:=h'}):ay (aD P w) A (Jr a b) Q E s:=by
 obtain⟨k,i,o⟩:=R6 m;obtain⟨place,c,e,j,ho⟩:=LX (finger:=t.finger) (moves:=t.movedTo (bR b-1)) (led:=t.led) (plain:=t.plain) (hs:=es.map (·.1)) i (by rw[lZ];omega);rw[lZ] at j ho;have f:=Bj ho;have sz:(c.filterMap (es[·]?)).size=es.size:=by rw[<- az,f.length_eq,az]
 unfold Jr;refine a9 (aT I.at_ rfl I.fits ?_);show ay _ _ (if bR b > sizeLine then _ else _) _ _ s;have n:(32:Nat)<=sizeLine:=by decide
 rw[if_neg ∅];refine a9 ?_;unfold z0;rw[e];show ay _ _ (if((c.filterMap (es[·]?)).size != es.size)=true then _ else pure (c.filterMap (es[·]?),_)) _ _ s;rw[if_neg (by rw[sz];simp)];refine aa ?_;have g:kG {mask:=bR b-1,place,dummies:=#[],finger:=t.finger,led:=t.led,moves:=t.movedTo (bR b-1),plain:=t.plain} (c.filterMap (es[·]?)).size=true:=LY (by rw[sz];exact j) (by rw[sz];omega);refine gW I.at_ rfl ?_ (by rw[sz];exact eX I.few);exact h _ _ _ _ (bv s.heap a _) (I.of f g rfl rfl) f i k
def F3{a:av}{es:Array (Int×ai)}{e:Nat}{t:fh}{more:Nat}{Q:Unit->au->Prop}(I:dW w s.heap a es e t)(hz:es.size+more<=15)(g:es.size≠0\/OV t.mask)
  (h:∀h' es' b t',bK a s.heap h'->dW w h' a es' b t'->es'.toList.Perm es.toList->(es.size≠0\/OV t'.mask)->more<=t'.mask->Q () {s with heap:=h'}):ay (aD P w) A (setRoomFor a more) Q E s:=by
 obtain⟨c,m⟩:=Bk I.fits;unfold setRoomFor;refine a9 (aT I.at_ rfl I.fits ?_);dsimp only;unfold SetTable.roomFor;by_cases d:(t.fill+more)*5 ≥ t.mask*3
 ·rw[if_pos d];refine Ke I (by rw[c];omega) (by rw[c];omega) λh' es' b t' i k f l j=>?_;exact h h' es' b t' i k f (.inr l) (by rw[c] at j;omega)
 ·rw[if_neg d];exact aa (h s.heap es e t (.refl ..) I (.refl _) g ∅)
end L2
namespace L2
open PySem
theorem Ap{c a:Type}{M:Model}{A:cD}{E:ai->au->Prop}{Q:a->au->Prop}{f:c->a->Sem (ForInStep a)}{b:a}(I:List c->au->Prop)
  (step:∀x r s,I (x::r) s->ay M A (f x b) (λst s'=>st=.yield b/\I r s') E s) (fin:∀s,I [] s->Q b s):∀(l:List c) (s:au),I l s->ay M A (forIn l b f) Q E s
 |[],s,h=>by rw[pC];exact aa (fin s h)
 |x::r,s,h=>by
  rw[jD];refine a9 (cz (step x r s h) (λst s' q=>?_) λ_ _ e=>e);obtain⟨rfl,q⟩:=q;exact Ap I step fin r s' q
def Hg(h:∀a∈l,∃es f t,dW w s.heap a es f t)(q:Q true s):ay (aD P w) A (setsQuiet l) Q E s:=by
 unfold setsQuiet;refine a9 (Ap (λr s'=>s'=s/\∀a∈r,∃es f t,dW w s.heap a es f t) (λa r s' c=>?_) (λs' c=>?_) l s ⟨rfl,h⟩)
 ·obtain⟨rfl,c⟩:=c;obtain⟨es,f,t,I⟩:=c a aq;unfold setEntries;refine a9 (a9 (aT I.at_ rfl I.fits (aa ?_)));dsimp only;rw[<- pv];refine a9 (Ap (λi g=>g=s'/\∀e∈i,v_ w e) (λe i g d=>?_) (λg d=>?_) es.toList s' ⟨rfl,I.txt⟩)
  ·obtain⟨rfl,d⟩:=d;obtain⟨x,k,rfl⟩:=d e aq;exact aa ⟨rfl,rfl,λe he=>d e (ak _ he)⟩
  ·obtain⟨rfl,_⟩:=d;exact aa ⟨rfl,rfl,λb j=>c b (ak _ j)⟩
 ·obtain⟨rfl,_⟩:=c;exact aa q
def ND(I:dW w s.heap o es ep t)(b:w.params.followText "set-order"=true\/t.plain=true\/es.size<=1)
  (q:∀es',es'.toList.Perm es.toList->Q es' s):ay (aD P w) A (IX o) Q E s:=by
 unfold IX;refine a9 (aT I.at_ rfl I.fits (a9 (dv ?_)));cases a:w.params.followText "set-order" with
 |true=>
  simp only[if_true];exact a9 (fJ (aa (q _ (uB _ _))))
 |false=>
  simp only[aV,if_false];have d:(!t.plain&&decide (es.size > 1))=false:=by
   rcases b with h|h|h
   ·rw[a] at h;cases h
   ·rw[h];rfl
   ·rw[decide_eq_false ∅,vA]
  have c:t.led=true:=by rw[I.led,a];rfl
  show ay _ _ (if(!t.plain&&decide (es.size > 1))=true then _ else _) _ _ s;rw[d,if_neg bd];refine a9 ?_;show ay _ _ (if(!t.led&&decide (es.size > 1))=true then _ else pure ()) _ _ s;rw[c,if_neg (by simp)];exact aa (aa (q _ (.refl _)))
def A4(I:dW w s.heap o eo epo to)(J:dW w s.heap a es ep t)
  (q:∀h' es' e t',bK a s.heap h'->dW w h' a es e t'->es'.toList.Perm eo.toList->Q es' {s with heap:=h'}):ay (aD P w) A (setWalkUnseen o [a] (some a)) Q E s:=by
 unfold setWalkUnseen;refine a9 (aT I.at_ rfl I.fits (a9 (dv ?_)));cases d:(w.params.followText "set-order" || to.led&&to.plain||decide (eo.size<=1)) with
 |true=>
  rw[if_pos rfl];refine ND I ?_ λes' p=>q s.heap es' ep t (.refl ..) J p;rw[lE,lE,bc,decide_eq_true_eq] at d;rcases d with (h|h)|h
  ·exact .inl h
  ·exact .inr (.inl h.2)
  ·exact .inr (.inr h)
 |false=>
  rw[if_neg bd];rw[Li,Li,decide_eq_false_iff_not] at d;obtain⟨⟨i,_⟩,j⟩:=d;refine a9 (Hg (λb g=>?_) ?_)
  ·rcases List.mem_cons.mp g with h|h
   ·rw[h];exact⟨_,_,_,I⟩
   ·rw[List.mem_singleton.mp h];exact⟨_,_,_,J⟩
  rw[if_neg (by simp)];refine a9 (dk ?_);dsimp only;refine a9 (aT J.at_ rfl J.fits ?_);dsimp only;have f:to.plain=false:=I.pl.resolve_left ∅;have c:(t.led&&to.led)=t.led:=by rw[I.led,J.led,rG]
  split
  ·refine a9 (gW J.at_ rfl ?_ (eX J.few));refine aa (q _ _ _ _ (bv s.heap a _) (⟨uA J,J.txt,J.nd,J.few,?_,?_,?_⟩:dW w _ a es (ep+1) _) (.refl _))
   ·exact J.fits
   ·exact c.trans J.led
   ·exact .inr (by show(t.plain&&to.plain)=false;rw[f,vA])
  ·exact aa (q s.heap eo ep t (.refl ..) J (.refl _))
end L2
namespace L2
open PySem
def dW.but(I:dW w h o eo epo to)(ne:a≠o)(b:bK a h h'):dW w h' o eo epo to:=I.keep λ_ e=>(b.2 o (dO ne)).trans e
def Bl{a o:av}{es c:Array (Int×ai)}{ep S:Nat}{t to:fh}{k:Sem Unit}{Q:Unit->au->Prop}(ne:a≠o)(J:dW w s.heap a es ep t)(I:dW w s.heap o c S to)
  (hz:es.size+c.size<=15) (hm:es.size≠0\/OV t.mask) (he:∀(s':au) (Q':Unit->au->Prop),dW w s'.heap o c S to->Q' () s'->ay (aD P w) A k Q' E s')
  (q:∀h' d es' a5 t',bK a s.heap h'->dW w h' a es' a5 t'->(∀x,x∈es'.toList.map l_↔x∈es.toList.map l_\/x∈c.toList.map l_)->(es'.size≠0\/OV t'.mask)->Q () {s with heap:=h',toks:=d}):
  ay (aD P w) A (setMerge a o k) Q E s:=by
 unfold setMerge;rw[if_neg (by simpa using ne)];refine a9 (aT I.at_ rfl I.fits ?_);dsimp only;by_cases n:c.size=0
 ·rw[if_pos (by simpa[Array.isEmpty] using n)];have e0:c=#[]:=mP n;exact aa (q s.heap s.toks es ep t (.refl ..) J (λx=>by rw[e0];simp) hm)
 rw[if_neg (by simpa[Array.isEmpty] using n)];refine a9 (F3 J hz hm λB z L i j g p1 m1 r1=>?_);have I1:=I.but ne j;have b0:z.size=es.size:=by rw[<- az,p1.length_eq,az]
 refine a9 (aT (s:={s with heap:=B}) g.at_ rfl g.fits ?_);dsimp only;obtain⟨f1,f2⟩:=Bk g.fits;have M:to.plain=false:=I.pl.resolve_left n;have p:(i.led&&to.led)=i.led:=by rw[I.led,g.led,rG]
 have kp:∀x,x∈z.toList.map l_↔x∈es.toList.map l_:=λx=>(p1.map l_).mem_iff;by_cases hf:i.fill=0
 ·have e1:es.size=0:=by
   unfold pH at hf;omega
  have mk:OV i.mask:=m1.resolve_left ∅;have ee:es=#[]:=mP e1;unfold P3;rw[if_neg (by rw[hf];decide)];split
  ·refine gW (s:={s with heap:=B}) g.at_ rfl ?_ (eX I.few);refine q _ s.toks _ _ _ (j.trans (bv B a _)) (⟨uA g,I.txt,I.nd,I.few,?_,?_,?_⟩:dW w _ a c (L+1) _) (λx=>by rw[ee];simp) (.inl n)
   ·exact I.fits
   ·exact p.trans g.led
   ·exact .inr (by show(i.plain&&to.plain)=false;rw[M,vA])
  ·obtain⟨a8,b,e,hp,ho⟩:=LX (finger:=i.finger) (moves:=i.moves) (led:=i.led&&to.led) (plain:=i.plain&&to.plain) (hs:=c.map (·.1)) mk (by rw[lZ];exact r1);rw[lZ] at hp ho;have T:=Bj ho;have sz:(b.filterMap (c[·]?)).size=c.size:=by rw[<- az,T.length_eq,az]
   refine a9 ?_;rw[e];show ay _ _ (if((b.filterMap (c[·]?)).size != c.size)=true then _ else pure (b.filterMap (c[·]?),_)) _ _ _;rw[if_neg (by rw[sz];simp)];refine aa ?_;refine gW (s:={s with heap:=B}) g.at_ rfl ?_ (by rw[sz];exact eX I.few);refine q _ s.toks _ _ _ (j.trans (bv B a _)) (⟨uA g,λx hx=>I.txt x (T.mem_iff.mp hx),(T.map l_).nodup_iff.mpr I.nd,by rw[sz];exact I.few,LY (by rw[sz];exact hp) (by rw[sz];exact r1),p.trans g.led,.inr ?_⟩:dW w _ a (b.filterMap (c[·]?)) (L+1) _) (λx=>?_) (.inl (by rw[sz];exact n))
   ·show(i.plain&&to.plain)=false;rw[M,vA]
   ·rw[(T.map l_).mem_iff,ee];simp
  ·rename_i U
   split at U<;>cases U
 ·unfold P3;rw[if_pos (by simpa using hf)];dsimp only;refine a9 (A4 (s:={s with heap:=B}) I1 g λh2 N a7 t2 a0 J2 Y=>?_);rw[<- pv];have hl:N.toList.length=c.size:=by rw[Y.length_eq,az]
  refine a9 (Ap (λr s'=>∃h' d f K t',s'={s with heap:=h',toks:=d}/\bK a s.heap h'/\dW w h' a f K t'/\f.size+r.length<=15/\(∀e∈r,v_ w e)/\∀x,(x∈f.toList.map l_\/x∈r.map l_)↔x∈es.toList.map l_\/x∈c.toList.map l_) ?_ ?_ N.toList _ ⟨h2,s.toks,z,a7,t2,rfl,j.trans a0,J2,by omega,λe he=>I.txt e (Y.mem_iff.mp he),λx=>by rw[kp,(Y.map l_).mem_iff]⟩)
  ·rintro e r s' ⟨h',d,f,K,t',rfl,u,J',z',v,X⟩;obtain⟨x,tk,rfl⟩:=v e aq;simp only[aX] at z';dsimp only;refine a9 (cH (Do (s:={s with heap:=h',toks:=d}) (⟨f,K,t',J',.refl _⟩:nN w h' a (f.toList.map l_)) (by rw[ao,az];exact aK (show f.size+1<100 by omega) ⋯) λO m G a1=>?_));obtain⟨a6,a3,a4,a2,l⟩:=a1;have H:=u.trans G;have I3:=I.but ne H;refine a9 (he _ _ I3 ?_);refine a9 (aT (s:={s with heap:=O,toks:=m}) I3.at_ rfl I3.fits ?_);dsimp only;rw[if_neg (by simp)];refine aa ⟨rfl,O,m,a6,a3,a4,rfl,H,a2,?_,λe he=>v e (ak _ he),λy=>?_⟩
   ·have:=l.length_eq;rw[ao,az] at this;have l2:(if x∈f.toList.map l_ then f.toList.map l_ else f.toList.map l_++[x]).length<=f.size+1:=by
     split<;>simp
    omega
   ·rw[<- X y,l.mem_iff];have ek:l_ (hashStr w x,lH x tk)=x:=rfl;rw[aC,bg,ek];split
    ·rename_i hx
     constructor
     ·rintro (h|h)
      ·exact .inl h
      ·exact .inr (.inr h)
     ·rintro (h|h|h)
      ·exact .inl h
      ·rw[h];exact .inl hx
      ·exact .inr h
    ·rw[cQ,cC];constructor
     ·rintro ((h|h)|h)
      ·exact .inl h
      ·exact .inr (.inl h)
      ·exact .inr (.inr h)
     ·rintro (h|h|h)
      ·exact .inl (.inl h)
      ·exact .inl (.inr h)
      ·exact .inr h
  ·rintro s' ⟨h',d,f,K,t',rfl,u,J',z',v,X⟩;refine aa (q h' d f K t' u J' (λx=>?_) (.inl ?_))
   ·rw[<- X x];simp
   ·intro e0;obtain⟨e,hh⟩:∃e,e∈c.toList:=by
     cases U:c.toList with
     |nil=>rw[<- az,U] at n;exact absurd rfl n
     |cons e r=>exact⟨e,aq⟩
    have:=(X (l_ e)).mpr (.inr (br hh));rw[mP e0] at this;simp at this
end L2
namespace L2
open PySem PyProof.Rows
def F4:Tf table "set.__or__"=some js.«frozenset.__or__»:=Ji (id':="frozenset.__or__") (by kernel_rfl) rfl ∎ (by kernel_rfl)
section
variable{P:bj}{w:bF}{A:cD}{E:ai->au->Prop}{s:au}
def dW.ty(I:dW w s.heap a es ep t):s.TypeIs (.ref a) "set":=⟨_,I.at_,rfl⟩
def wj(I:dW w s.heap a es ep t)(q:Q true s):ay (aD P w) A (vi (.ref a)) Q E s:=by
 unfold vi;refine a9 (gE I.ty O_ ?_);exact aa q
def R7(e:h.get? a=some (i0 w)):dW w h a #[] 0 (.fresh 0 0 (!w.params.followText "set-order")):=
 ⟨e,(λ_ h=>nomatch h),i5,by decide,rfl,rfl,.inl rfl⟩
def UL(T:nN w s.heap a xs)(X:nN w s.heap b ys)(ne:a≠b)(hz:xs.length+ys.length<=15)
  (q:∀h' j,bK s.heap.objs.size (s.heap.push (i0 w)) h'->nN w h' s.heap.objs.size (eJ xs ys)->Q (.ref s.heap.objs.size) {s with heap:=h',toks:=j}):
  ay (aD P w) A (iE .BitOr (.ref a) (.ref b)) Q E s:=by
 obtain⟨h,pa,ta,d,p⟩:=T;obtain⟨I,Y,tb,i,B⟩:=X;have sa:h.size=xs.length:=by rw[<- p.length_eq,ao,az]
 have sb:I.size=ys.length:=by rw[<- B.length_eq,ao,az]
 refine wpAny_binaryOp_same d.ty i.ty F.fills_set_or F.slot_set_or (bH F.slot_set_or d.ty F4 ?_ (F.args_set_or_2 _ _));have n:a<s.heap.objs.size:=aB d.at_;have t:b<s.heap.objs.size:=aB i.at_;show ay _ _ (Tt "__or__" ⟨[.ref a,.ref b],[]⟩>>=_) _ _ s;refine a9 (a9 (aa (aa ?_)));dsimp only;refine a9 (a9 (wj d (wj i ?_)));rw[if_neg (by simp)];refine a9 (aa (a9 ?_));show ay _ _ (vV a>>=_) _ _ s;refine a9 ?_;unfold vV Tu;refine a9 (a9 (gE d.ty O_ (aa ?_)));rw[if_pos rfl];refine a9 (qw ?_);have N:(s.heap.push (i0 w)).get? s.heap.objs.size=some (i0 w):=aE _ rfl;have L:=R7 N;have m:dW w (s.heap.push (i0 w)) a h pa ta:=d.keep λ_ e=>ah _ e;have u:dW w (s.heap.push (i0 w)) b I Y tb:=i.keep λ_ e=>ah _ e;have na:s.heap.objs.size≠a:=dO (aM n);have v:s.heap.objs.size≠b:=dO (aM t);refine a9 (aa (a9 (Bl (s:={s with heap:=s.heap.push (i0 w)}) na L m (by show 0+h.size<=15;omega) (.inr (.inl rfl)) (λ_ _ _ q=>aa q) λk f e1 p1 t1 g K y m1=>aa ?_)));have c:=u.but v g;have U:(e1.toList.map l_).length<=h.size:=by
  have:=(kn K.nd d.nd).mpr λx=>by rw[y];simp
  rw[this.length_eq,ao,az];exact aA _
 rw[ao,az] at U;show ay _ _ (if(bi b != bi a)=true then _ else _) _ _ _;rw[if_pos (by simp;exact dO ne)];refine a9 (aa (a9 (cH ?_)));show ay _ _ (lC _ s.heap.objs.size (bi b)) _ _ _;unfold lC;refine a9 (wj (s:={s with heap:=k,toks:=f}) c ?_);rw[if_pos rfl];refine a9 (aa ?_);unfold Tv Ti;refine a9 (a9 (aT (s:={s with heap:=k,toks:=f}) c.at_ rfl c.fits (aa ?_)));refine Bl (s:={s with heap:=k,toks:=f}) v K c ∅ m1 (λs' Q' G q'=>?_) λh2 o e2 M O l H S m2=>?_
 ·unfold Tw Ti;refine a9 (a9 (aT G.at_ rfl G.fits (aa ?_)));dsimp only;rw[if_neg (by simp)];exact aa q'
 ·refine aa (aa ⟨_,rfl,(λz=>nomatch z),q h2 o (g.trans l) ⟨e2,M,O,H,?_⟩⟩);refine(kn H.nd (jR _ _ (p.nodup_iff.mp d.nd))).mpr λx=>?_;rw[S,j_,y,p.mem_iff,B.mem_iff];simp
end
end L2
namespace L2
open PySem PyProof.Rows
def XJ:tO X (iE .BitOr) (λx y H Q=>∃a b xs ys,x=.ref a/\y=.ref b/\a≠b/\H a=some (qZ X.w a xs)/\H b=some (qZ X.w b ys)/\xs.length+ys.length<=15/\∀p,H p=none->Q (.ref p) (upd H p (qZ X.w p (eJ xs ys)))):=by
 intro d s m H x y v u Q I f k h;obtain⟨a,b,xs,ys,rfl,rfl,ne,g,i,hz,q⟩:=h;cases f;cases k;have j:=(show dQ X.prog X.w H s.heap a (qZ X.w a xs) from I.hok a _ g).1;have Sb:=(show dQ X.prog X.w H s.heap b (qZ X.w b ys) from I.hok b _ i).1;refine UL j Sb ne hz λh' c l S=>?_;refine⟨.ref s.heap.objs.size,_,I.laid (t':=c) (λb o e=>?_) (aA _) (EM S),rfl,q _ (I.hok.fresh (aA _))⟩;exact(l.2 b (aM (aB e))).trans (ah _ e)
end L2
namespace J
open PySem L2
def XM(xs ys:List Str):R (List Str):=if xs.length+ys.length<=15 then .ok (eJ xs ys) else .no
def R8(a gb:aI->R (List Str)):aI->R (List Str):=λρ=>(a ρ).bind λxs=>(gb ρ).bind (J.XM xs)
def XN(t:UD c a ga)(x:UD c b gb):UD c (.BinOp a .BitOr b pos) (R8 ga gb):=.of λρ=>tU (VD XJ (t ρ) (x ρ)) λE H Q h=>by
 obtain⟨G,A,la,Hs,f,q⟩:=h;refine LD (w:=c.X.w) f q λxs p m d y s1 o u=>?_;unfold R8 at q;rw[y,bind_ok] at q;have k:db m d (upd m p (qZ c.X.w p xs)) d:=.mine o.st.sub u;refine LD (w:=c.X.w) (o.step k) (q.on (s1.trans k) (q':=λ_=>True) λ_ _=>trivial) λys g j e B s3 v n=>?_;rw[B,bind_ok] at q;unfold J.XM at q;by_cases hz:xs.length+ys.length<=15
 ·rw[if_pos hz] at q;have i:j p=some (qZ c.X.w p xs):=s3.all p _ bB;have ne:p≠g:=λz=>by rw[z,n] at i;cases i
  have s4:db j e (upd j g (qZ c.X.w g ys)) e:=.mine v.st.sub n;exact⟨p,g,xs,ys,rfl,rfl,ne,by rw[bG ne];exact i,bB,hz,λl s=>q l _ _ (s1.trans (k.trans (s3.trans s4))) s⟩
 ·rw[if_neg hz] at q;exact q.elim
def q10(i j:Nat)(ρ:aI):List D->R Fl
 |[d,e]=>.ok (.nx ((ρ.set i (.shr d)).set j (.shr e)))
 |_=>.no
def R9(i j:Nat)(a:aI->R (List D)):aI->R Fl:=λρ=>(a ρ).bind (q10 i j ρ)
def XO(i j:Nat)(u:c.X.calm=true)(o:c.X.N.Nodup)(t:Nr c [a,b] gs)(A:c.X.N[i]?=some x:=by rfl)(E:c.X.N[j]?=some y:=by rfl)(k:i≠j:=by decide)
  (I:c.X.env.scope.names.lookup x=some .local:=by rfl) (p:c.X.env.scope.names.lookup y=some .local:=by rfl) (w:Aa [.Tuple [.Name x px,.Name y py] kt pt] (.Tuple [a,b] k2 pt2) c.X.env=pure (some [x,y]):=by rfl)
  (hs:A9 [.Tuple [.Name x px,.Name y py] kt pt] (.Tuple [a,b] k2 pt2) pos.line c.X.env=pure false:=by rfl):JS c (.Assign [.Tuple [.Name x px,.Name y py] kt pt] (.Tuple [a,b] k2 pt2) pos) (R9 i j gs):=.of λρ=>CJ (X1 u o A E k I p (t ρ) w hs) λD K H h=>by
 obtain⟨v,m,la,Hs,f,q⟩:=h;refine⟨v,m,la,Hs,f,?_⟩;unfold R9 at q;cases l:gs ρ with
 |ok ds=>
  rw[l,bind_ok] at q;intro L H' g s r
  match ds,r,q with
  |[],_,q=>exact q.elim
  |[_],_,q=>exact q.elim
  |[d,e],.cons B (.cons G .nil),q=>exact⟨_,_,rfl,q _ _ g (((f.step s).set i B).set j G)⟩
  |_::_::_::_,_,q=>exact q.elim
 |ex z n=>
  rw[l] at q;exact λH' g s=>q H' g (f.st.trans s)
 |no=>rw[l] at q;exact q.elim
end J
namespace L2
open PySem PySem.Spec PyProof.Rows
end L2
namespace L2
open PySem PySem.Spec PyProof.Rows
end L2
namespace L2
open PySem PySem.Spec PyProof.Rows
end L2
namespace L2
open PySem PySem.Spec PyProof.Rows
end L2
namespace L2
open PySem PySem.Spec PyProof.Rows
end L2
namespace J
open PySem L2
def Bm:JS c s (λ_=>.no):=.of λρ a s d H D I h=>by
 obtain⟨e,b,la,Hs,f,q⟩:=h;exact q.elim
end J
namespace J
open PySem L2 PyProof.Rows
structure En where
 P:bj
 w:bF
 K:af
 mg:Str->Option ai
 base:bZ
 cls:Str->av
abbrev FN(e:En):=Fn e.P e.w e.K e.mg e.base e.cls
abbrev Cn(a:Str->Option ai)(x:Str)(n:Int):Prop:=∃t,a x=some (.int n t)
structure ju (K:af) (mg:Str->Option ai) (x:Str) (st:fg):Prop where
 ex:∃f fd,Ng K x x st f fd/\mg x=some (.ref f)
section
variable{K:af}{h:bZ}{mg:Str->Option ai}{x:Str}
def d_in{st:fg}{A:av}{m i:Option av}{d:Array (Option ai)}{e kV f j b g:ai}(X:K.In h)(G:h.Ns cy mg)(a:iY K cy x=some (some (.ref A)))
  (l:K.lookup A=some ⟨e,m,.func (ip x x (mE st) (jG st) (aH st) .none kV f j i b g),d⟩) (c:oE K b x=true) (k:gX K (.ref A)=true):ju K mg x st:=
 ⟨_,_,PB l c k,vB X G a⟩
def cn_in(X:K.In h)(G:h.Ns cy mg)(t:iY K cy x=some (some (.int n tk))):Cn mg x n:=⟨_,vB X G t⟩
inductive Zs (K:af):List Str->Prop
 |nil:Zs K []
 |cons {x:Str}{r:List Str}:iY K cy x=some none->Zs K r->Zs K (x::r)
theorem Zs.get(z:Zs K r):∀x∈r,iY K cy x=some none:=by
 induction z with
 |nil=>exact λ_ h=>nomatch h
 |cons a _ b=>
  intro y c;rcases List.mem_cons.mp c with e|e
  ·rw[e];exact a
  ·exact b y e
abbrev zn:List Str:=["len","isinstance","all","any","zip","tuple","list","sorted","set","range","enumerate","dict","sum","max","min","reversed","str","int","bool","ValueError"]
theorem Z_(X:K.In h)(G:h.Ns cy mg)(z:Zs K zn):Bi mg:=by
 have q:∀x∈zn,mg x=none:=λx a=>PySem.W.mg_none_of X G (z.get x a);exact⟨q _ ⋯,q _ ⋯,q _ ⋯,q _ ⋯,q _ ⋯,q _ ⋯,q _ ⋯,q _ ⋯,q _ ⋯,q _ ⋯,q _ ⋯,q _ ⋯,q _ ⋯,q _ ⋯,q _ ⋯,q _ ⋯,q _ ⋯,q _ ⋯,q _ ⋯⟩
end
section
variable{P:bj}{w:bF}{K:af}{mg:Str->Option ai}{base:bZ}{N:List Str}{qual:Str}{scope:fG}{f:av}{cd:ai}{A:cD}{outer:List Env}{s:au}{H:Hp}{E:XK}
def px:vZ (CF P w) (AN (CF P w) P w K mg base N qual scope f cd A outer s H E) E:=GH λ_ _ h=>h
end
def jc(G:Fn c.X.prog c.X.w c.X.K c.X.mg c.X.base c.cls x k n F)(g:nz j c.X.A)(h:vZ (CF c.X.prog c.X.w) c.X c.E)(d:Nr c (e::es) gs)
  (f:k<=j:=by decide) (i:Gl c.X x:=by exact rfl) (a:(x==("__debug__" : Str))=false:=by decide) (he:a_ (e::es) c.X.env=(false,fO e c.X.env)::a_ es c.X.env:=by rfl) (b:(kR pos (a_ es c.X.env)).any (·.1)=false:=by rfl):
  JE c (.Call (.Name x p) (e::es) [] pos) (f9 n F gs):=Uw G (g.mono f) i h d a he b
abbrev Bq(x:Str)(st:fg)(c:List ai)(r:List (Str×ai)):Prop:=∀(kV a f:ai) (d:Option av) (b e:ai),Ta (ip x x (mE st) (jG st) (aH st) .none kV a f d b e) ⟨c,[]⟩=pure r
section
variable{K:af}{x:Str}{st:fg}{f:av}{fd:iF}
def b1(F:Ng K x x st f fd)(h:∀u,Bq x st [u] [(a,u)]:=by exact λ_ _ _ _ _ _ _=>rfl):nK K fd [a] []:=F.binds λ_ _ _ _ _ _ c b=>by obtain⟨_,rfl⟩:=ln1 b;exact h ..
def b2(F:Ng K x x st f fd)(h:∀u v,Bq x st [u,v] [(a,u),(b,v)]:=by exact λ_ _ _ _ _ _ _ _=>rfl):nK K fd [a,b] []:=F.binds λ_ _ _ _ _ _ d c=>by obtain⟨_,_,rfl⟩:=ln2 c;exact h ..
def b3(F:Ng K x x st f fd)(h:∀u v w,Bq x st [u,v,w] [(a,u),(b,v),(c,w)]:=by exact λ_ _ _ _ _ _ _ _ _=>rfl):nK K fd [a,b,c] []:=F.binds λ_ _ _ _ _ _ e d=>by obtain⟨_,_,_,rfl⟩:=ln3 d;exact h ..
def b4(F:Ng K x x st f fd)(h:∀u v w z,Bq x st [u,v,w,z] [(a,u),(b,v),(c,w),(d,z)]:=by exact λ_ _ _ _ _ _ _ _ _ _=>rfl):nK K fd [a,b,c,d] []:=F.binds λ_ _ _ _ _ _ g e=>by obtain⟨_,_,_,_,rfl⟩:=ln4 e;exact h ..
def b5(F:Ng K x x st f fd)(h:∀u v w z y,Bq x st [u,v,w,z,y] [(a,u),(b,v),(c,w),(d,z),(e,y)]:=by exact λ_ _ _ _ _ _ _ _ _ _ _=>rfl):nK K fd [a,b,c,d,e] []:=F.binds λ_ _ _ _ _ _ i g=>by obtain⟨_,_,_,_,_,rfl⟩:=ln5 g;exact h ..
end
def sY{e:En}{x:Str}{st:fg}{N ps:List Str}{k:Nat}{g:aI->R Fl}(D:ju e.K e.mg x st)(S:cg N ps (aH st))(b:∀{f:av}{c:iF},Ng e.K x x st f c->nK e.K c ps [])
  (h:∀(f:av) (a:ai) (A:cD) (outer:List Env) (s:au) (H:Hp) (E:XK),nz k (A.deeper (vT x (aH st) s.heap.objs.size f a))->Lz ⟨AN (CF e.P e.w) e.P e.w e.K e.mg e.base N x (aH st) f a A outer s H E,e.cls,E⟩ (jG st) g):
  FN e x (k+1) ps.length (i4 N.length g):=by
 obtain⟨f,c,F,d⟩:=D.ex;exact ZC F S d (b F) (h f)
def scB(N P:List Str)(a:fG):Bool:=decide (a.kind=.function) && !a.isCoroutine && !a.isGenerator&&decide N.Nodup&&decide (N.take P.length=P)&&P.all (λx=>decide (a.names.lookup x=some .local)||decide (a.names.lookup x=some .cell))&&a.names.all λy=>decide (y.2≠.free)
def fM(h:scB N P sc=true):cg N P sc:=by
 unfold scB at h;simp only[bc,decide_eq_true_eq,zf,cA,lE] at h;obtain⟨⟨⟨⟨⟨⟨a,b⟩,c⟩,d⟩,e⟩,f⟩,g⟩:=h;exact⟨a,b,c,d,e,f,g⟩
structure Cw (K:af) (x:Str) (C:av):Prop where
 ns:iY K cy x=some (some (.ref C))
 cl:∃cd,Cv K C=some cd
 ty:P4 K (.ref C)=some (.type "type")
def cw_in{K:af}{x:Str}{C:av}{b:ClassData}(a:iY K cy x=some (some (.ref C)))(i:Cv K C=some b)(y:P4 K (.ref C)=some (.type "type")):Cw K x C:=⟨a,⟨_,i⟩,y⟩
inductive Sb (K:af) (C:av):List (av×Bool)->Prop
 |nil:Sb K C []
 |cons {D:av}{b:Bool}{l:List (av×Bool)}:SX K (.ref C) (.ref D)=some b->(b=false->C≠D)->Sb K C l->Sb K C ((D,b)::l)
structure Wy (K:af) (C CP:av) (l:List (av×Bool)):Prop where
 x1:oC K (.ref C) "__getattribute__"=some (some (.builtin "BaseException.__getattribute__"))
 x2:oC K (.ref C) "__getattr__"=some none
 x3:oC K (.ref C) "__class__"=some (some (.builtin "object.__class__"))
 x4:Ld K (.builtin "object.__class__") "__get__"=some (some (.builtin "getset_descriptor.__get__"))
 x5:OI K (.builtin "object.__class__")=some true
 x6:jo K C (.type "object")=some true
 x7:jo K C (.ref CP)=some true
 x8:SX K (.ref C) (.type "ValueError")=some true
 x9:(bi CP==bi C)=false
 sb:Sb K C l
end J
namespace L2
open PySem PySem.Spec PyProof.Rows
def UM(b:s.heap.IsKeyIter it d i es.size c)(l:s.heap.get? d=some o)(ho:o.data=.dict es c)(he:es[i]?=some e)
  (h:∀h':bZ,h'.IsKeyIter it d (i+1) es.size c->bK it s.heap h'->Q (some e.key) {s with heap:=h'}):
  ay (aD prog w) A (ml (.ref it)) Q E s:=by
 obtain⟨⟨v,z,u,y⟩,g,j,m⟩:=id b;simp only at j m;subst j m;unfold ml;refine a9 (ki ?_);refine cF (name:=gY "__next__") b.typeIs gZ ?_;refine bH gZ b.typeIs vC ?_ (vj _);refine a9 (gg (a:=.ref it) rfl ?_);refine a9 (a9 (a9 (jJ b.typeIs (aa ?_))));refine a9 (yg g rfl ?_);show ay _ _ (if(bi d==eC)=true then _ else _) _ _ s;rw[if_neg (by simp)];refine a9 (gg (a:=d) rfl ?_);refine a9 (Cy l ho ?_);show ay _ _ (if((es.size:Int) != (es.size:Int))=true then _ else _) _ _ s;rw[if_neg (by simp)];refine a9 (gg (a:=d) rfl ?_);refine a9 (Gd l ho ?_);show ay _ _ (if((c:Int) != (c:Int))=true then _ else _) _ _ s;rw[if_neg (by simp)];refine aa ?_;have n:(if(i:Int)<0 then none else es[(i:Int).toNat]?)=some e:=by
  rw[if_neg ∅];simpa using he
 simp only[n];refine a9 (a9 (jJ b.typeIs (aa ?_)));refine a9 (SY b.typeIs ?_);refine a9 (fU g rfl (by simp[om]) ?_);have st:∀k x,k=1->x=bC ((i:Int)+1)->(s.heap.update it (df (·.setIfInBounds k x))).IsKeyIter it d (i+1) es.size c:=λk x p t=>by
  subst p t;have q:=dm (df (·.setIfInBounds 1 (bC ((i:Int)+1)))) g rfl;refine⟨_,q,rfl,?_⟩;show Data.fields ((#[.ref d,.int i 0,.int es.size 0,.int c 0]:Array ai).setIfInBounds 1 (bC ((i:Int)+1)))=_;simp[bC]
 have f:=st _ _ rfl rfl;refine a9 (cH (a9 (SY f.typeIs ?_)));refine aa ?_;exact aa ⟨_,rfl,aa (h _ f (bv ..))⟩
def XQ(l:A.handled=none)(c:s.heap.IsKeyIter it d i es.size e)(g:s.heap.get? d=some o)(ho:o.data=.dict es e)(he:es.size<=i)
  (h:∀h':bZ,Lg it s.heap h'->Q none {s with heap:=h'}):
  ay (aD prog w) A (ml (.ref it)) Q E s:=by
 obtain⟨⟨q,u,t,p⟩,f,j,k⟩:=id c;simp only at j k;subst j k;unfold ml;refine a9 (ki ?_);refine cF (name:=gY "__next__") c.typeIs gZ ?_;refine bH gZ c.typeIs vC ?_ (vj _);refine a9 (gg (a:=.ref it) rfl ?_);refine a9 (a9 (a9 (jJ c.typeIs (aa ?_))));refine a9 (yg f rfl ?_);show ay _ _ (if(bi d==eC)=true then _ else _) _ _ s;rw[if_neg (by simp)];refine a9 (gg (a:=d) rfl ?_);refine a9 (Cy g ho ?_);show ay _ _ (if((es.size:Int) != (es.size:Int))=true then _ else _) _ _ s;rw[if_neg (by simp)];refine a9 (gg (a:=d) rfl ?_);refine a9 (Gd g ho ?_);show ay _ _ (if((e:Int) != (e:Int))=true then _ else _) _ _ s;rw[if_neg (by simp)];refine aa ?_;have n:(if(i:Int)<0 then none else es[(i:Int).toNat]?)=none:=by
  rw[if_neg ∅];simpa using he
 simp only[n];refine a9 (a9 (jJ c.typeIs (aa ?_)));refine a9 (fU f rfl (by simp[om]) ?_);show ay _ _ (oF (.type "StopIteration") []>>=_) _ _ _;refine a9 ?_;simp only[oF,Jk];refine a9 (bD ?_ (by size_fits));refine a9 (m:=nq _ _) (gg (a:=eC) ?_ ?_)
 ·first
   |rfl
   |(simp only[nq];rfl)
 refine bD ?_ (by size_fits);simp only[lY];refine a9 (MO ?_);rw[show A.in1.handled=none from l];refine a9 (aa (Tg ?_));refine a9 (gE (T:="StopIteration") (b:=true) ⟨_,aE _ rfl,rfl⟩ yh ?_);exact aa (h _ (((bv ..).extBut.push _).push _))
def XR(hs:(d==ft)=false)(b:s.heap.get? d=some o)(c:o.ExactDict)(ho:o.data=.dict es ep)
  (h:Q (.ref s.heap.objs.size) {s with heap:=s.heap.push {cls:=.type "dict_keyiterator",data:=.fields #[.ref d,.int 0 0,.int es.size 0,.int ep 0]}}):
  ay (aD prog w) A (qp (.ref d)) Q E s:=by
 have ty:s.TypeIs (.ref d) "dict":=⟨o,b,c.1⟩;refine tj ty Ev (bH Ev ty PySem.F.entry_dict_iter ?_ (PySem.F.args_dict_iter_1 _));refine a9 (a9 (wpAny_notOrdered_dict ty (a9 (gg (a:=(bi d,[])) rfl (aa ?_)))));refine a9 (gg (a:=d) rfl ?_);refine a9 (gg (a:=()) (by unfold Builtin.Dict.showsAll;rw[hs];rfl) ?_);refine a9 (Cy b ho ?_);refine a9 (Gd b ho ?_);refine a9 (bD ?_ (by size_fits));exact aa ⟨_,rfl,"dict_keyiterator",_,⟨_,aE _ rfl,rfl⟩,PySem.F.slot_dict_keyiterator_next.lookup,h⟩
def NE{b c:Type}{F:b->c->Prop}{l:List b}{m:List c}(h:J9 F l m):∀{i:Nat}{x:b},l[i]?=some x->∃y,m[i]?=some y/\F x y:=by
 induction h with
 |nil=>intro i x e;simp at e
 |cons a _ d=>
  intro i x e;cases i with
  |zero=>cases e;exact⟨_,rfl,a⟩
  |succ i=>exact d e
def Ra(ok:tF P w H h)(e:H a=some (.frz o (.dT kvs))):(a==ft)=false/\h.get? a=some o/\o.ExactDict/\∃es c,o.data=.dict es c/\es.size=kvs.length /\
  ∀(i:Nat) (k:List iL) (v:V),kvs[i]?=some (k,v)->∃(g:y_) (b:av),es[i]?=some g/\g.key=bi b/\H b=some (.tup (k.map kV)):=by
 obtain⟨j,z,y,xs,r,o',es,c,d,p,l,f,t⟩:=(show dQ P w H h a (.frz o (.dT kvs)) from ok a _ e);rw[j] at d;cases d;refine⟨y,j,p,es,c,l,?_,λi k v s=>?_⟩
 ·rw[<- az,f,ao];exact(kO r).symm
 ·obtain⟨q,m,n⟩:=NE r s;refine⟨entryOfKey (vg (iq P w)) q,q.2.1,?_,?_,n.2.1⟩
  ·rw[<- aW,f,aP,m];rfl
  ·rfl
def tD1(e g:TE):TE:=λd H Q=>∀p,H p=none->e d (upd H p (.dT [])) λy f=>g d f λv c=>∃a k b,c p=some (.dT a)/\y=.ref b/\c b=some (.tup (k.map kV))/\a.length<sizeLine/\Q (.ref p) (upd c p (.dT (pz a k v)))
def Rb(hu:X.A.units+1<eM)(hk:PE X k tk)(hv:PE X v tv):PE X (.Dict [some k] [v] pos) (tD1 tk tv):=by
 intro d s i H Q I h;refine wpAny_Dict_any rfl rfl (by simp) (by simp) ?_;have M:ck X d i (upd H s.heap.objs.size (.dT [])) {s with heap:=s.heap.push {cls:=.type "dict",data:=.dict #[]}}:=I.laid (a:=s.heap.objs.size) (o:=.dT []) (t':=s.toks) (λ_ _ q=>ah _ q) (aA _) (PH s.heap I.big);have h0:=h s.heap.objs.size (I.hok.fresh (aA _));simp only[pairTrees,evalPairs];refine a9 (gG (hk d _ i _ _ M h0) λu1 s1 u=>?_);obtain⟨y,x,I1,O,K⟩:=u;refine a9 (cH (a9 (gG (hv d s1 i x _ I1 K) λu2 P Y=>?_)));obtain⟨z,H2,l,r2,S⟩:=Y;obtain⟨e,f,b,m,e2,t,e4,q⟩:=S;refine a9 (ik (aa ?_));refine a9 (cH (aa (aa ?_)));subst e2;cases O;unfold storeAll;simp only[jD,pC,bind_assoc];obtain⟨N,U,xs,g,T⟩:=VN l.hok m;have hz:xs.length<=sizeLine:=by rw[<- kO g];exact N
 have E:(pz e f z).length<=sizeLine:=by have:=tS e f z;omega
 refine a9 (wpAny_dictSet_heap (by show X.A.units<eM;omega) (yr l.hok t) T (λh' j hs=>?_) hz);obtain⟨o',es,L,n,g2,B,g4,_,g5⟩:=j;have G:=EF (t':=P.toks+(vg (iq X.prog X.w)).draws f) l (by rw[m];exact kh) hs ⟨o',n⟩ (ob:=.dT (pz e f z)) ⟨E,U,_,(g.put f t r2).keeps λc ys p=>(by rw[bG (Pc p m (λz=>nomatch z))];exact p),o',es,L,n,g2,B,g4,g5⟩;exact aa ⟨.ref s.heap.objs.size,_,G,rfl,q⟩
end L2
namespace J
open PySem L2
def keysOf:List D->Option (List iL)
 |[]=>some []
 |d::r=>(vI d).bind λk=>(keysOf r).map (k::·)
def sS:D->Option (List iL)
 |.tuple ds=>keysOf ds
 |_=>none
theorem DF:∀{ds:List D}{a:List iL},keysOf ds=some a->ds=a.map kD
 |[],a,h=>by cases h;rfl
 |d::r,a,h=>by
  unfold keysOf at h;cases b:vI d with
  |none=>rw[b] at h;cases h
  |some y=>
   rw[b,ze] at h;cases c:keysOf r with
   |none=>rw[c] at h;cases h
   |some l=>
    rw[c] at h;cases h;rw[aC,<- B8 b,<- DF c]
def xw(h:sS d=some ks):d=tD ks:=by
 cases d<;>first|(cases h;done)|skip
 rename_i ds
 unfold tD;rw[<- DF (show keysOf ds=some ks from h)]
theorem DG:∀a:List iL,keysOf (a.map kD)=some a
 |[]=>rfl
 |k::r=>by rw[aC,keysOf,keyOf_of,DG r];rfl
def Rc(a:List iL):sS (tD a)=some a:=DG a
theorem L_:∀a b:List iL,dz (a.map kD) (b.map kD)=decide (a=b)
 |[],[]=>by simp[dz]
 |[],_::_=>by simp[dz]
 |_::_,[]=>by simp[dz]
 |x::a,y::b=>by
  rw[aC,aC];simp only[dz];rw[E_,L_ a b];by_cases h:x=y<;>by_cases c:a=b<;>simp[h,c]
def F5(a b:List iL):bw (tD a) (tD b)=decide (a=b):=by
 unfold tD;simp only[bw];exact L_ a b
def RDt.any(y:List iL):∀{ds:List (D×D)},RDt K H kvs ds->(ds.any λa=>bw a.1 (tD y))=kvs.any λa=>decide (a.1=y):=by
 induction kvs with
 |nil=>intro ds h;cases h;rfl
 |cons x r b=>intro ds h;cases h with|cons h t=>rw[fH,fH,b t,F5]
def RDt.repl(y:List iL)(f:RD K H v d):∀{ds:List (D×D)},RDt K H kvs ds ->
  RDt K H (kvs.map λa=>if a.1=y then(a.1,v) else a) (ds.map λa=>if bw a.1 (tD y) then(a.1,d) else a):=by
 induction kvs with
 |nil=>intro ds h;cases h;exact .nil
 |cons x r b=>
  intro ds h;cases h with
  | @cons k _ _ _ _ h t=>
   rw[aC,aC];have e:=F5 k y;by_cases c:k=y
   ·subst c;rw[show(if k=k then(k,v) else(k,_))=(k,v) from if_pos rfl,show(if bw (tD k) (tD k)=true then(tD k,d) else(tD k,_))=(tD k,d) from if_pos (by rw[e];simp)];exact .cons f (b t)
   ·simp only[e,c,if_neg,decide_false,aV,not_false_eq_true];exact .cons h (b t)
def RDt.snoc(y:List iL)(b:RD K H v d):∀{ds:List (D×D)},RDt K H kvs ds->RDt K H (kvs++[(y,v)]) (ds++[(tD y,d)]):=by
 induction kvs with
 |nil=>intro ds h;cases h;exact .cons b .nil
 |cons x r a=>intro ds h;cases h with|cons h t=>exact .cons h (a t)
def RDt.put(r:RDt K H kvs ds)(y:List iL)(a:RD K H v d):RDt K H (pz kvs y v) (A3 ds (tD y) d):=by
 unfold pz A3;rw[r.any y];split
 ·exact r.repl y a
 ·exact r.snoc y a
def XS{b:Type}[DecidableEq b]{a:List (b×V)}{y:b}{v:V}:pz a y v≠[]:=by
 unfold pz;split
 ·rename_i h
  intro z;have:=List.map_eq_nil_iff.mp z;subst this;cases h
 ·simp
def RDt.val(y:List iL):∀{ds:List (D×D)},RDt K H kvs ds->(qW kvs y=none/\nM ds (tD y)=none)\/∃v d,qW kvs y=some v/\nM ds (tD y)=some d/\RD K H v d:=by
 induction kvs with
 |nil=>intro ds h;cases h;exact .inl ⟨rfl,rfl⟩
 |cons x r b=>
  intro ds h;cases h with
  | @cons k _ _ _ _ h t=>
   unfold qW nM;rw[cP,cP,F5];by_cases a:k=y
   ·simp only[a,decide_true,dn];exact .inr ⟨_,_,rfl,rfl,h⟩
   ·simp only[a,decide_false];exact b t
def M0:List (D×D)->List (D×D)
 |(.none,_)::r=>r
 |l=>l
def lQ(ds:List (D×D)):Bool:=!ds.isEmpty&&ds.all λa=>(sS a.1).isSome
def RDk.notT(h:RDk K H kvs ds)(e:lQ (M0 ds)=true):False:=by
 cases h with
 |nil=>cases e
 | @cons k _ _ _ _ h t=>
  cases k<;>simp[M0,lQ,kD,sS] at e
def RDt.un(h:RDt K H kvs ds):M0 ds=ds:=by
 cases h<;>rfl
def Aq(sub:eD Hs H)(h:RB K H Hs v (tD ks)):∃b,v=.ref b/\H b=some (.tup (ks.map kV)):=by
 rcases h with h|⟨_,o,rfl,_,_,ow⟩
 ·cases h with
  |tuple q r=>
   have:=EO (c:=kD) (k:=kV) (λh=>Ka h) r;subst this;exact⟨_,rfl,sub _ _ q⟩
 ·cases ow
def M1(sub:eD Hs H)(h:RB K H Hs v (.dict ds))(e:lQ (M0 ds)=true):∃a c,v=.ref a/\RDt K Hs c (M0 ds)/\∀(b:av) (k:List iL),H b=some (.tup (k.map kV))->zW H a (.ref b) (qW c k):=by
 obtain⟨a,j,i⟩:=h.dict sub;clear h;subst j;rcases i with⟨c,f,d⟩|⟨c,f,hn,d⟩|⟨o,c,es,rfl,f,hn,d⟩
 ·exact(d.notT e).elim
 ·exact⟨a,c,rfl,by rw[d.un];exact d,λb k g=>zW.t f g⟩
 ·exact⟨a,c,rfl,d,λb k g=>.inr ⟨c,k,b,.inr ⟨o,f⟩,rfl,g,rfl⟩⟩
def Wt:D->D->R D
 |.dict ds,k=>match sS k with
  |some _=>if lQ (M0 ds)=true then(match nM (M0 ds) k with
   |some d=>.ok d
   |none=>.no) else .no
  |none=>.no
 |_,_=>.no
section
variable{c:C}{a b e k:bJ}{ga gb g gk:aI->R D}{pos p apos:Pos}{x:Str}
theorem XT(z:c.X.A.units+1<eM)(E:JB c a ga)(l:JB c b gb)(hs:wW b:=by exact λ_ _=>rfl):JE c (.Subscript a b pos) (g2 ga gb Wt):=.of λρ=>by
 refine tU (Lp z (E ρ) (l ρ) hs) λY H Q h=>?_;obtain⟨H0,S,la,Hs,f,q⟩:=h;refine one f q λd v U G L s1 I M=>?_;unfold g2 at q;rw[L,bind_ok] at q;refine one I (q.on s1 (q':=λ_=>True) λ_ _=>trivial) λy w K m T o n O=>?_;rw[T,bind_ok] at q;unfold Wt at q;split at q
 ·rename_i ds
  split at q
  ·rename_i s t
   obtain rfl:=xw t;by_cases i:lQ (M0 ds)=true
   ·rw[if_pos i] at q;obtain⟨p,P,rfl,N,B⟩:=M1 n.st.sub (M.step o) i;obtain⟨b,rfl,l⟩:=Aq n.st.sub O;rcases N.val s with⟨_,j⟩|⟨u,d,j,h5,h6⟩
    ·rw[j] at q;exact q.elim
    ·rw[h5] at q;exact⟨p,u,rfl,by rw[<- j];exact B b s l,q _ K m (s1.trans o) h6⟩
   ·rw[if_neg i] at q;exact q.elim
  ·exact q.elim
 ·exact q.elim
def XU(d:Bool):D->D->R D
 |k,.dict ds=>match sS k with
  |some _=>if lQ (M0 ds)=true then .ok (.bool (if d then !(nM (M0 ds) k).isSome else(nM (M0 ds) k).isSome)) else .no
  |none=>.no
 |_,_=>.no
theorem NF(z:c.X.A.units+1<eM):Am c.X (cj .NotIn) (XU true):=by
 refine⟨λl s S H x y v u Q I M N h=>?_,λx y c n=>?_⟩
 ·obtain⟨Hs,T,P,sub,w,L,d,f,q⟩:=h;unfold XU at f;split at f
  ·rename_i ds
   split at f
   ·rename_i i t
    obtain rfl:=xw t;split at f
    ·rename_i E
     cases f;obtain⟨p,j,rfl,O,B⟩:=M1 sub L E;obtain⟨b,rfl,G⟩:=Aq sub w;cases N;refine L2.Ub z I (B b i G) M λs' K=>⟨.bl _,H,K,rfl,?_⟩;have e:(qW j i).isSome=(nM (M0 ds) (tD i)).isSome:=by
      rcases O.val i with⟨m,o⟩|⟨u,d,m,o,h6⟩<;>rw[m,o]<;>rfl
     rw[e];exact q _ H Hs (.refl sub) (.bool _)
    ·cases f
   ·cases f
  ·cases f
 ·unfold XU;split<;>(try split)<;>(try split)<;>exact λh=>by cases h
def zq(i:Nat)(gk g:aI->R D):aI->R Fl:=λρ=>match ρ[i]? with
 |some (Sl.own (.dict f))=>(g ρ).bind λd=>(gk ρ).bind λk=>match sS k with
  |some _=>if f.length<1000/\lQ f=true then .ok (.nx (ρ.set i (.own (.dict (A3 f k d))))) else .no
  |none=>.no
 |_=>.no
theorem Re(i:Nat)(h:JE c e g)(hk:JE c k gk)(P:c.X.A.units+1<eM)(L:c.X.N[i]?=some x:=by rfl)(hv:T6 c.X.env.scope x:=by first|exact jC rfl|exact gy (jC rfl)|exact gy (gy rfl))(hd:(x==("__debug__" : Str))=false:=by decide)
  (m:(x==("__classdict__" : Str))=false:=by decide) (hs:iN e (some (.Subscript (.Name x p) k apos)) pos.line c.X.env=pure false:=by rfl):JS c (.Assign [.Subscript (.Name x p) k apos] e pos) (zq i gk g):=.of λρ=>by
 refine CJ (Lq P (tL L hv hd m) (hk ρ) (h ρ) hs) λD σ H s=>?_;obtain⟨S,B,la,Hs,f,q⟩:=s;replace q:rc c.X.K c.cls c.E S B la D (zq i gk g ρ):=q;unfold zq at q;split at q
 ·rename_i l ho
  obtain⟨a,o,G,O,k3,k4,k5⟩:=f.ow i _ ho;refine sE f q λd v H1 U e1 s1 Y r1=>?_;rw[e1,bind_ok] at q;refine⟨_,G,sE Y q λy w H2 u e2 z I r2=>?_⟩;rw[e2,bind_ok] at q;split at q
  ·rename_i ky M
   obtain rfl:=xw M;by_cases j:l.length<1000/\lQ l=true
   ·rw[if_pos j] at q;cases k5 with
    |dK r=>exact(r.notT (by cases r with|nil=>exact j.2 | @cons k _ _ _ _ _ _=>cases k<;>exact j.2)).elim
    |dF n r=>cases j.2
    |dT n r=>
     have Q:=z.all _ _ (s1.all _ _ O);have r':=(r.same s1.sh).same z.sh;obtain⟨b,rfl,T⟩:=Aq I.st.sub (.inl r2);exact⟨a,_,rfl,Gr.t Q T (fE (by rw[r.length];omega)),q _ _ u (I.write i ho G (.dT XS (r'.put ky (r1.same z.sh))))⟩
   ·rw[if_neg j] at q;exact q.elim
  ·exact q.elim
 ·exact q.elim
end
def mW(i:Nat)(ρ:aI):aI:=match ρ[i]? with
 |some (Sl.own (.dict ((.tuple a,v)::r)))=>ρ.set i (.own (.dict ((.none,.none)::(.tuple a,v)::r)))
 |_=>ρ
def UN(I:ck X pins σ H s)(h:H a=some (.dT kvs)):∃o,ck X pins σ (upd H a (.frz o (.dT kvs))) s:=by
 obtain⟨z,y,xs,i,o,es,f,c,j,k,d,g⟩:=(show dQ X.prog X.w H s.heap a (.dT kvs) from I.hok a _ h);have new:dQ X.prog X.w (upd H a (.frz o (.dT kvs))) s.heap a (.frz o (.dT kvs)):=
  ⟨c,z,y,xs,Paired.mapP i λp q w=>⟨w.1,by rw[bG (Pc w.2.1 h (λz=>nomatch z))];exact w.2.1,w.2.2⟩,o,es,f,c,j,k,d,g⟩
 have:=I.write (x:=a) (e:=a) (h':=s.heap) (t':=s.toks) (by rw[h];trivial) (.inl rfl) (λb u _ q=>q) ⟨o,c⟩ new;exact⟨o,this⟩
def q00(h:PS X st t):PS X st (λD d H=>t D d H\/∃a c,H a=some (.dT c)/\∀o,t D d (upd H a (.frz o (.dT c)))):=λb s d H D I q=>by
 rcases q with q|⟨a,c,ha,q⟩
 ·exact h b s d H D I q
 ·obtain⟨o,e⟩:=UN I ha;exact h b s d _ D e (q o)
def XV(i:Nat)(h:JS c st gs):JS c st (λρ=>gs (mW i ρ)):=.of λρ=>CJ (q00 (h (mW i ρ))) λD' w H t=>by
 obtain⟨j,g,la,Hs,f,q⟩:=t;by_cases m:∃b v r,ρ[i]?=some (Sl.own (.dict ((.tuple b,v)::r)))
 ·obtain⟨b,v,r,ho⟩:=m;have e:mW i ρ=ρ.set i (.own (.dict ((.none,.none)::(.tuple b,v)::r))):=by unfold mW;rw[ho]
  obtain⟨a,o,s,p,x,u,l⟩:=f.ow i _ ho;generalize d:I_ ((.tuple b,v)::r)=d0 at l;cases l with
  |lst r=>cases d
  |dK rk=>
   cases d;generalize d:((.tuple b,v)::r:List (D×D))=d1 at rk;cases rk with
   |nil=>cases d
   | @cons k _ _ _ _ _ _=>cases k<;>cases d
  |dF n r=>cases d
  |dT n r=>
   cases d;exact .inr ⟨a,_,p,λo=>⟨j,g,la,Hs,by rw[e];exact f.write i ho s (.dF n r),q⟩⟩
 ·have e:mW i ρ=ρ:=by
   unfold mW;split
   ·rename_i b v r ho;exact(m ⟨b,v,r,ho⟩).elim
   ·rfl
  refine .inl ⟨j,g,la,Hs,by rw[e];exact f,q⟩
def YF(b a:aI->R D):aI->R D:=λρ=>(b ρ).bind λk=>(a ρ).bind λv=>match sS k with
 |some _=>.ok (.dict [(k,v)])
 |none=>.no
def Rf(N:c.X.A.units+1<eM)(hk:JE c k gk)(hv:JE c v gv):JN c (.Dict [some k] [v] pos) (YF gk gv):=.of λρ=>by
 refine tU (Rb N (hk ρ) (hv ρ)) λσ H Q U=>?_;obtain⟨H0,a0,la,Hs,f,q⟩:=U;intro p l;have s:db H Hs (upd H p (.dT [])) Hs:=.mine f.st.sub l;have L:Hs p=none:=f.st.sub.free l;unfold YF at q;refine CK (f.step s) (q.on s (q':=λ_=>True) λ_ _=>trivial) λy w H1 S T s1 G Y=>?_;rw[T,bind_ok] at q;refine CK G (q.on (s.trans s1) (q':=λ_=>True) λ_ _=>trivial) λz u i g e2 I O r2=>?_;rw[e2,bind_ok] at q;split at q
 ·rename_i j K
  obtain rfl:=xw K;obtain⟨b,rfl,P⟩:=Aq G.st.sub (.inl Y);have d:=s1.trans I;have E:i p=some (.dT []):=d.all _ _ bB;have B:g p=none:=d.out _ _ bB rfl L;let h:Hp:=λx=>if x=p then none else i x
  have m:∀x,x≠p->h x=i x:=λx a=>if_neg a;have st:db H Hs h g:=by
   refine⟨λx o e=>?_,d.sh,λx o e=>?_,λx o e t n=>?_⟩
   ·have a:=cu e l;rw[m x a];exact d.all _ _ (by rw[bG a];exact e)
   ·have a:x≠p:=λz=>by rw[z,B] at e;cases e
    rw[m x a];exact O.st.sub _ _ e
   ·have a:=cu e l;exact d.out _ _ (by rw[bG a];exact e) t n
  have:=q p (.dT [(j,u)]) h g st (if_pos rfl) (.dT (by simp) (.cons r2 .nil));have M:upd h p (.dT [(j,u)])=upd i p (.dT (pz [] j u)):=by
   funext x;by_cases a:x=p
   ·subst a;rw[bB,bB];rfl
   ·rw[bG a,bG a,m x a]
  rw[M] at this;exact⟨[],j,b,E,rfl,I.all _ _ P,by rw[il];decide,this⟩
 ·exact q.elim
def F6(g:aI->R D):aI->R Bool:=λρ=>(g ρ).bind λd=>match d with
 |.list ds=>.ok (!ds.isEmpty)
 |_=>.no
def XX(h:JB c e g)(he:∀b,AA e c.X.env b=(do let v <- b;qP e.pos;OW [v] (truthy v)):=by intro _;rfl):JT c e (F6 g):=.of λρ=>YB (Pr (h ρ) he) λu H Q n=>by
 obtain⟨w,s,la,Hs,f,q⟩:=n;refine one f q λd v j i m s1 l o=>?_;unfold F6 at q;rw[m,bind_ok] at q;split at q
 ·obtain⟨a,t,rfl,k,p⟩:=o.list l.st.sub;refine⟨_,.inl ⟨t,k,rfl⟩,?_⟩;cases p with
  |nil=>exact q j i s1
  |cons _ _=>exact q j i s1
 ·exact q.elim
end J
namespace L2
open PySem PySem.Spec PyProof.Rows
end L2
namespace J
open PySem L2
def gFz(i:Nat)(g:aI->R Fl):aI->R Fl:=λρ=>g (mW i ρ)
def XY(i:Nat)(h:JS c st gs):JS c st (gFz i gs):=XV i h
def rS(i:Nat)(ρ:aI):R D:=J7 ρ i
def rB(i:Nat)(ρ:aI):R D:=J8 ρ i
def kI(n:Int)(_:aI):R D:=.ok (.int n)
def kB(b:Bool)(_:aI):R D:=.ok (.bool b)
def kT(_:aI):R Bool:=.ok true
def q01(i:Nat)(ρ:aI):rS i ρ=J7 ρ i:=id rfl
def XZ(i:Nat)(ρ:aI):rB i ρ=J8 ρ i:=id rfl
def q02(n:Int)(ρ:aI):kI n ρ=.ok (.int n):=id rfl
def q03(b:Bool)(ρ:aI):kB b ρ=.ok (.bool b):=id rfl
end J
namespace L2
open PySem PySem.Spec PyProof.Rows
end L2
namespace L2
open PySem PySem.Spec PyProof.Rows
section
open Builtin Builtin.ObjectAttr
inductive M2 (h:bZ) (bmB:List ai) (nms:List Str):List ai->Prop
 |base:M2 h bmB nms bmB
 |own {A:av}{c0:ai}{dd:Option av}{cd:ClassData}{sl:Array (Option ai)}{mA:Str->Option ai}{tl:List ai}:
   h.get? A=some {cls:=c0,dict:=dd,data:=.cls cd,slots:=sl}->h.Ns cd.ns mA->(∀n∈nms,mA n=none)->M2 h bmB nms tl->M2 h bmB nms (.ref A::tl)
end
structure X_ (h:bZ) (fI:av):Prop where
 ex:∃(oI:Obj) (fd:iF) (p1 p2 p3 p4:Pos),h.get? fI=some oI/\oI.cls=.type "function"/\oI.data=.func fd/\h.CodeRec fd.code fd.qualname/\fd.scope.isCoroutine=false/\fd.scope.isGenerator=false/\fd.scope.kind=.function /\
  fd.scope.names=[(("self" : Str),tq),(("number" : Str),tq)]/\fd.body=.stmts [.Assign [.Attribute (.Name "self" p1) "number" p2] (.Name "number" p3) p4]/\∀(s:au) (e v:ai),(∀b o,h.get? b=some o->s.heap.get? b=some o)->Ci s fd ⟨[e,v],[]⟩ [("self",e),("number",v)]
structure q11 (x:Str) (C:av) (mg:Str->Option ai) (base:bZ):Prop where
 bound:mg x=some (.ref C)
 obj:∃nm q N bs bm sn sub ab col dd k0 k1 k2 k3 k5 mN fI,base.get? C=some (excClassObj nm q C N bs bm true sn sub ab col dd k0 k1 k2 k3 k5 "ValueError.__new__")/\base.Ns N mN/\mN "__init__"=some (.ref fI)/\mN "__setattr__"=none/\mN "number"=none /\
  M2 base [.type "ValueError",.type "Exception",.type "BaseException",.type "object"] ["__init__","__setattr__","number"] bm/\X_ base fI
end L2
namespace J
open PySem L2
section
open PySem.W (nsIn nsOkIn codeIn fnOf)
def q04(X:K.In h)(G:h.Ns N mg)(e:nsIn K N n=some (some v)):mg n=some v:=by
 obtain⟨o,es,g,ho,b,_,a⟩:=G;unfold iY at e;split at e
 ·rename_i c d es' i f q
  have:=X _ _ q;rw[ho] at this;cases this;cases b;split at e
  ·rename_i he
   rw[<- a];unfold nsFind findBy;rw[<- MI,he];cases e;rfl
  ·split at e<;>cases e
 ·cases e
structure q12 (K:af) (x:Str) (C:av) (st:fg):Prop where
 ns:nsIn K cy x=some (some (.ref C))
 own:∀{h:bZ}{mg:Str->Option ai},K.In h->h.Ns cy mg->q11 x C mg h
 mb:jo K C (.type "BaseException")=some true
 ox:∀{h:bZ},K.In h->∃bm,q0R h C bm/\∀v,(v==bi C)=false->jo K C v=some true->bm.contains v=true
def topN{K:af}{x:Str}{C Q fI t a g:av}{st:fg}{Y qn N E fq:Str}{bs U o j sub:List ai}{B a8:List Str}{ab a6 a7 l:Bool}{b q:Option Bool}{dd dP od dT an:Option av}{T p m I O:Option ai}{c0 kV i pm d ct cT:ai}{a0 P y:Array (Option ai)}{nT:Nat}{p1 p2 p3 p4:Pos}{cN cM:ai}{dN dM:Option av}{c f:Array y_}{M S:Nat}{A a5:Array (Option ai)}
  (a1:nsIn K cy x=some (some (.ref C))) (a4:jo K C (.type "BaseException")=some true)
  (H:K.lookup C=some ⟨.type "type",dd,.cls ⟨Y,bs,[.ref C,.ref Q,.type "ValueError",.type "Exception",.type "BaseException",.type "object"],a,qn,true,B,sub,ab,b,false⟩,#[T,p,m,I,some (.builtin "ValueError.__new__"),O]⟩)
  (a3:K.lookup Q=some ⟨c0,dP,.cls ⟨N,U,o,g,E,a7,a8,j,a6,q,l⟩,a0⟩)
  (b1:nsIn K a "__init__"=some (some (.ref fI))) (b2:nsIn K a "__setattr__"=some none) (b3:nsIn K a "number"=some none)
  (c1:nsIn K g "__init__"=some none) (c2:nsIn K g "__setattr__"=some none) (c3:nsIn K g "number"=some none)
  (d1:K.lookup fI=some ⟨.type "function",od,.func (fnOf "__init__" fq (mE st) (jG st) (aH st) (.ref t) kV i pm an d ct),P⟩)
  (d2:K.lookup t=some ⟨cT,dT,.seq #[.none] nT,y⟩) (d3:codeIn K d fq=true)
  (g1:K.lookup a=some ⟨cN,dN,.dict c M,A⟩) (g2:K.lookup g=some ⟨cM,dM,.dict f S,a5⟩) (g3:(c.toList.all λe=>match e.key with | .str _ _=>true|_=>false)=true) (g4:(f.toList.all λe=>match e.key with | .str _ _=>true|_=>false)=true)
  (f1:jG st=[.Assign [.Attribute (.Name "self" p1) "number" p2] (.Name "number" p3) p4]) (f2:(aH st).names=[(("self" : Str),tq),(("number" : Str),tq)])
  (f3:(aH st).isCoroutine=false) (f4:(aH st).isGenerator=false) (f5:(aH st).kind=.function)
  (f6:∀e v,∃k,Ta (fnOf "__init__" fq (mE st) (jG st) (aH st) (.ref t) kV i pm an d ct) ⟨[e,v],[]⟩=zc (.ref t)>>=k/\k (some #[.none])=pure [(("self" : Str),e),(("number" : Str),v)]):q12 K x C st:=by
 have u:nsOkIn K a=true:=by unfold P5;rw[g1];show c.all _=true;rw[<- zP];exact g3
 have w:nsOkIn K g=true:=by unfold P5;rw[g2];show f.all _=true;rw[<- zP];exact g4
 refine⟨a1,λ{h mg} X G=>⟨vB X G a1,Y,qn,a,bs,_,B,sub,ab,b,dd,T,p,m,I,O,h.nsMap a,fI,X _ _ H,.of_isNs (vW X u),?_,iG X u b2,iG X u b3,?_,⟨_,_,p1,p2,p3,p4,X _ _ d1,rfl,rfl,Jc X d3,f3,f4,f5,f2,congrArg FuncBody.stmts f1,λs e v kb=>?_⟩⟩,a4,λ{h} X=>⟨_,⟨⟨Y,qn,a,bs,true,B,sub,ab,b,dd,T,p,m,I,O,_,X _ _ H⟩,rfl⟩,λv nv L=>?_⟩⟩
 ·exact q04 X (.of_isNs (vW X u)) b1
 ·refine .own (X _ _ a3) (.of_isNs (vW X w)) (λn hn=>?_) .base;rcases List.mem_cons.mp hn with z|hn
  ·rw[z];exact iG X w c1
  rcases List.mem_cons.mp hn with z|hn
  ·rw[z];exact iG X w c2
  ·rw[List.mem_singleton.mp hn];exact iG X w c3
 ·obtain⟨k,p,m⟩:=f6 e v;exact BindsTo.of_defaults rfl (kb _ _ (X _ _ d2)) rfl p m
 ·unfold jo Cv at L;rw[H] at L;have:(bi C::[bi Q,.type "ValueError",.type "Exception",.type "BaseException",.type "object"]).contains v=true:=by simpa using L
  rw[List.contains_cons,nv,Bool.false_or] at this;exact this
end
end J
namespace L2
open PySem PySem.Spec PyProof.Rows
end L2
namespace L2
open PySem PySem.Spec PyProof.Rows
end L2
namespace L2
open PySem PySem.Spec PyProof.Rows
def Tks(H H':Hp):Prop:=∀b ys,H b=some (.tup ys)->H' b=some (.tup ys)
end L2
namespace L2
open PySem PySem.Spec PyProof.Rows
end L2
namespace J
open PySem L2
def A5(p:HO->Bool)(H Hs:Hp):Hp:=λb=>match Hs b,H b with
 |some o,_=>some o
 |none,some o=>if p o then some o else none
 |none,none=>none
def back(p:HO->Bool)(H Hs a:Hp):Hp:=λb=>match Hs b,H b with
 |none,some o=>if p o then none else a b
 |_,_=>a b
def yB:eD Hs (A5 p H Hs):=λb o e=>by
 unfold A5;rw[e]
def Rg(h:H b=some o)(n:Hs b=none)(a:p o=true):A5 p H Hs b=some o:=by
 unfold A5;rw[n,h];exact if_pos a
def Kf(h:A5 p H Hs b=some o):Hs b=some o\/(Hs b=none/\H b=some o/\p o=true):=by
 unfold A5 at h;split at h
 ·rename_i e;exact .inl (e.trans h)
 ·rename_i u n e
  split at h
  ·rename_i a;cases h;exact .inr ⟨n,e,a⟩
  ·cases h
 ·cases h
def Rh(s:eD Hs H):eD (A5 p H Hs) H:=λb o e=>by
 rcases Kf e with h|⟨_,h,_⟩
 ·exact s b o h
 ·exact h
def UO(n:Hs b=none)(h:H b=some o)(a:p o=true):back p H Hs Hs1 b=none:=by
 unfold back;rw[n,h];exact if_pos a
def M3(h:∀o,Hs b=none->H b=some o->p o=false):back p H Hs Hs1 b=Hs1 b:=by
 unfold back;split
 ·rename_i o n e
  rw[h o n e];rfl
 ·rfl
def Ri:eD (back p H Hs Hs1) Hs1:=λb o e=>by
 unfold back at e;split at e
 ·split at e
  ·cases e
  ·exact e
 ·exact e
def NG(sub:eD Hs H)(s:db H (A5 p H Hs) H' Hs1):db H Hs H' (back p H Hs Hs1):=by
 refine⟨s.all,λb o e=>?_,Ri.trans s.sub,λa o e t n=>?_⟩
 ·rw[M3 λo' n _=>by rw[e] at n;cases n];exact s.sh b o (yB b o e)
 ·cases c:p o with
  |true=>exact UO n e c
  |false=>
   rw[M3 λo' _ d=>by rw[e] at d;cases d;exact c];refine s.out a o e t ?_;unfold A5;rw[n,e];simp only[c];rfl
inductive q05 (p:HO->Bool) (K:af) (cls:Str->av) (E:XK) (ρ:aI) (r:R (List D)) (σ:St) (H:Hp) (Q:List V->Hp->Prop):Prop
 |mk (H0 Hs0:Hp) (la:Nat->Option av) (Hs:Hp) (f:Fr K H0 Hs0 la ρ σ H Hs) (q:Fin K cls E H Hs r λd=>∀v H' Hs',db H Hs H' Hs'->RDs K (A5 p H' Hs') v d->Q v H'):q05 p K cls E ρ r σ H Q
structure JL (p:HO->Bool) (c:C) (es:List bJ) (g:aI->R (List D)):Prop where of ::
 run:∀ ρ,PA c.X es (q05 p c.X.K c.cls c.E ρ (g ρ))
end J
namespace L2
open PySem PySem.Spec PyProof.Rows
end L2
namespace J
open PySem L2
def RDs.erase:∀{ds:List D} (k:Nat),RDs K H vs ds->RDs K H (vs.eraseIdx k) (ds.eraseIdx k):=by
 induction vs with
 |nil=>intro ds k h;cases h;exact .nil
 |cons x r c=>
  intro ds k h;cases h with
  |cons a b=>
   cases k with
   |zero=>exact b
   |succ k=>exact .cons a (c k b)
end J
namespace L2
open PySem PySem.Spec PyProof.Rows
inductive q06 (X:Cx) (CX:Ps) (E:XK) (t:TA) (σ:St) (Q:VK) (v:V) (H1:Hp):Prop
 |mk (k:Nat) (f:av) (fd:iF) (ps:List Str) (sp:Sp) (h0:v=.ref f) (F:vn X.prog X.w X.K X.mg X.base CX k f fd ps sp) (hr:nz k X.A) (hk:gX X.K (.ref f)=true) (hb:nK X.K fd ps []) (q:VG sp [] E t σ H1 Q):q06 X CX E t σ Q v H1
end L2
namespace J
open PySem L2
inductive Hh (c:C) (n j:Nat):List bJ->List (List D->R D)->List av->Prop
 |nil:Hh c n j [] [] []
 |cons {x:Str}{p:Pos}{F:List D->R D}{k:Nat}{f:av}{fd:iF}{ps:List Str}{es:List bJ}{Fs:List (List D->R D)}{as:List av} (hf:vn c.X.prog c.X.w c.X.K c.X.mg c.X.base (CF c.X.prog c.X.w) k f fd ps (VY c.X.K c.cls n F)) (hm:c.X.mg x=some (.ref f)) (hk:gX c.X.K (.ref f)=true) (hb:nK c.X.K fd ps []) (hj:k<=j) (hg:Gl c.X x) (hdb:(x==("__debug__" : Str))=false) (r:Hh c n j es Fs as):Hh c n j (.Name x p::es) (F::Fs) (f::as)
inductive Rj (c:C) (n j:Nat) (F:List D->R D) (f:av):Prop
 |mk (k:Nat) (fd:iF) (ps:List Str) (hf:vn c.X.prog c.X.w c.X.K c.X.mg c.X.base (CF c.X.prog c.X.w) k f fd ps (VY c.X.K c.cls n F)) (hk:gX c.X.K (.ref f)=true) (hb:nK c.X.K fd ps []) (hj:k<=j):Rj c n j F f
def NH(h:Hh c n j es b a):∀{i:Nat}{F:List D->R D},b[i]?=some F->∃f,a[i]?=some f/\Rj c n j F f:=by
 induction h with
 |nil=>intro i F e;simp at e
 | @cons x p F k f g ps es b a o u m s l v t r d=>
  intro i F e;cases i with
  |zero=>cases e;exact⟨f,rfl,k,g,ps,o,m,s,l⟩
  |succ i=>have q:=d (i:=i) e;exact q
def Wu(c:List (List D->R D))(n:Nat)(a:aI->R D)(b:aI->R (List D))(ρ:aI):R Fl:=(a ρ).bind λd=>match d with
 |.int k=>if 0<=k then(match c[k.toNat]? with
  |some F=>(b ρ).bind λds=>if ds.length=n then(F ds).bind λd=>.ok (.rt d) else .no
  |none=>.no) else .no
 |_=>.no
def EI(P:Hh c n j es Fs as)(O:nz j c.X.A)(f:Fr c.X.K H0 Hs0 la ρ σ H Hs)(N:H a=some (.lst (as.map V.ref)))(q:rc c.X.K c.cls c.E H0 Hs0 la D' (Wu Fs n gi gs ρ)):
  TR c.X.K c.cls c.E ρ (gi ρ) σ H λy G=>Z6 c.X.K (.ref a) y G (q06 c.X (CF c.X.prog c.X.w) c.E (TAs c.X.K c.cls c.E ρ (gs ρ)) σ D'.rt):=by
 refine sE f q λd v G p Y s1 l r1=>?_;unfold Wu at q;rw[Y,bind_ok] at q;cases r1 with
 |int k=>
  simp only at q;by_cases x:0<=k
  ·rw[if_pos x] at q;split at q
   ·rename_i F L
    obtain⟨g,I,T,M,ps,Q,t,S,hj⟩:=NH P L;have u:J6 (as.map V.ref) k=some (.ref g):=by
     have:=uz (xs:=as.map V.ref) (j:=k.toNat) (v:=V.ref g) (by rw[aP,I];rfl)
     rwa[fQ x] at this
    refine⟨a,as.map V.ref,k,.ref g,rfl,rfl,.of (s1.all _ _ N),u,T,g,M,ps,_,rfl,Q,O.mono hj,t,S,H0,Hs0,la,p,l,?_⟩;cases z:gs ρ with
    |no=>rw[z] at q;exact q.elim
    |ex y m=>rw[z] at q;exact λB b s3=>q B b (l.st.trans s3)
    |ok ds=>
     rw[z,bind_ok] at q;intro vs B b s3 r3;have o:=l.step s3;by_cases s:ds.length=n
     ·rw[if_pos s] at q;show VY _ _ _ _ (vs++[]) _ _ _;rw[cq];refine⟨b,ds,o.st.sub,s,r3,?_⟩;cases h:F ds with
      |no=>rw[h] at q;exact q.elim
      |ex y m=>rw[h] at q;exact λi e s4=>q i e (o.st.trans s4)
      |ok d=>rw[h] at q;exact λv i e s4 U=>q v i e (o.st.trans s4) U
     ·rw[if_neg s] at q;exact q.elim
   ·exact q.elim
  ·rw[if_neg x] at q;exact q.elim
 |list _ _=>exact q.elim
 |none=>exact q.elim
 |bool _=>exact q.elim
 |str _=>exact q.elim
 |tuple _ _=>exact q.elim
 |dictK _ _=>exact q.elim
 |dictT _ _ _=>exact q.elim
 |dictF _ _ _=>exact q.elim
end J
namespace TS
open PySem PyProof.Rows
def UP:Bool->cZ->Array cZ->Nat->Nat->Nat->StateT fu Sem (Option Nat):=sortPriv% PySem.Builtin.gallop
section
variable{prog:bj}{w:bF}{A:cD}{E:ai->au->Prop}{s:au}{kd:nu}{rk:ai->Nat}{L:List cZ}
def Cp(prog:bj)(w:bF)(A:cD)(s:au)(kd:nu)(rk:ai->Nat)(L:List cZ):Prop:=
 ∀x∈L,∀y∈L,∀(Q:Bool->au->Prop) (E:ai->au->Prop),Q (decide (rk x.1<rk y.1)) s->ay (aD prog w) A (keyLt' kd x.1 y.1) Q E s
def Rk{x y:cZ}{Q:Option Bool->fu->Prop}{st:fu}(a:Cp prog w A s kd rk L)(c:kindOf st=kd)(d:x∈L)(b:y∈L)
  (h:Q (some (decide (rk x.1<rk y.1))) st):wpS (aD prog w) A E s (lt' x y) Q st:=by
 rw[lt'_eq];refine aG (pi ?_);rw[c];exact aG (vk (ki (a x d y b _ _ ⟨rfl,b9 h⟩)))
def hU{a:Array cZ}{i:Nat}{p:cZ}{Q:cZ->fu->Prop}{st:fu}(b:a[i]?=some p)(h:Q p st):wpS (aD prog w) A E s (elem' a i) Q st:=by
 rw[elem'_eq,b];exact b9 h
structure Run (rk:ai->Nat) (L:List cZ) (a:Array cZ) (b n:Nat) (g:Nat->Nat):Prop where
 at_:∀i,i<n->∃p,a[b+i]?=some p/\p∈L/\rk p.1=g i
 up:∀i j,i<j->j<n->g i<g j
variable{l:Bool}{k:cZ}{a:Array cZ}{b n h i:Nat}{g:Nat->Nat}{st:fu}
def M4(d:Cp prog w A s kd rk L)(f:kindOf st=kd)(t:Run rk L a b n g)(j:k∈L)(c:∀i,i<n->g i≠rk k.1)(q:i<n)
  (h:Q (some (decide (g i<rk k.1))) st):wpS (aD prog w) A E s (do
   let x <- elem' a (b+i)
   if l=true then lt' x k else do
    let o <- lt' k x
    pure (o.map (λx=>!x))) Q st:=by
 obtain⟨p,e,m,r⟩:=t.at_ i q;refine aG (hU e ?_);cases l with
 |true=>rw[if_pos rfl];refine Rk d f m j ?_;rw[r];exact h
 |false=>
  rw[if_neg ⋯];refine aG (Rk d f j m (b9 ?_));have e:(!decide (rk k.1<rk p.1))=decide (g i<rk k.1):=by
   have:=c i q;rw[r];rcases zQ (g i) (rk k.1) with h|h|h
   ·simp[h,cB h]
   ·exact absurd h this
   ·simp[h,Nat.not_lt.2 (cB h)]
  rw[dn,e];exact h
def rg(T:Cp prog w A s kd rk L)(U:kindOf st=kd)(P:Run rk L a b n g)(X:k∈L)(G:∀i,i<n->g i≠rk k.1)(hh:h<n)
  (q:∀m,m<=n->(∀i,i<m->g i<rk k.1)->(∀i,m<=i->i<n->rk k.1<g i)->Q (some m) st):wpS (aD prog w) A E s (UP l k a b n h) Q st:=by
 have p:∀j,j<n->g j<rk k.1->∀i,i<j+1->g i<rk k.1:=λj hj Y i O=>by
  rcases da i j with h|h
  ·exact eN (P.up i j h hj) Y
  ·rw[show i=j by omega];exact Y
 have o:∀j,j<n->¬ g j<rk k.1->∀i,j<=i->i<n->rk k.1<g i:=λj hj Y i O hn=>by
  have h1:=G j hj;have K:rk k.1<g j:=by omega
  rcases da j i with h|h
  ·exact eN K (P.up j i h hn)
  ·rw[show i=j by omega];exact K
 refine aG (M4 T U P X G hh ?_);dsimp (config:={zeta:=false}) only;extract_lets jp;have J:∀x y lo O,lo<=O->O<=n->(∀i,i<lo->g i<rk k.1)->(∀i,O<=i->i<n->rk k.1<g i)->wpS (aD prog w) A E s (jp () x y lo O) Q st:=by
  intro x y lo O h1 K h3 h4;refine aG (fV (dS (I:=λx c d=>d=st/\∃l r,c=(none,l,r)/\l<=r/\r<=n/\r-l<=n-x/\(∀i,i<l->g i<rk k.1)/\(∀i,r<=i->i<n->rk k.1<g i))
   (Q:=λc d=>d=st/\∃l,c=(none,l,l)/\l<=n/\(∀i,i<l->g i<rk k.1)/\(∀i,l<=i->i<n->rk k.1<g i)) ?_ ?_ ⟨rfl,lo,O,rfl,h1,K,by omega,h3,h4⟩) ?_)
  ·rintro x c d - S ⟨rfl,l,r,rfl,B,H,z,f,t⟩;dsimp only;by_cases e:l ≥ r
   ·rw[if_pos e];have:l=r:=by omega
    subst this;exact b9 ⟨rfl,l,rfl,H,f,t⟩
   ·rw[if_neg e];refine aG (M4 T U P X G ∅ ?_);dsimp only;by_cases N:g (l+(r-l) / 2)<rk k.1
    ·rw[if_pos (by simpa using N)];exact b9 ⟨rfl,_,r,rfl,by omega,H,by omega,p _ ∅ N,t⟩
    ·rw[if_neg (by simpa using N)];exact b9 ⟨rfl,l,_,rfl,by omega,by omega,by omega,f,o _ ∅ N⟩
  ·rintro c d ⟨rfl,l,r,rfl,B,H,z,f,t⟩;have:l=r:=by omega
   subst this;exact⟨rfl,l,rfl,H,f,t⟩
  ·rintro c d ⟨rfl,l,rfl,H,f,t⟩;exact b9 (q l H f t)
 by_cases N:g h<rk k.1
 ·rw[if_pos (by simpa using N)];refine aG (fV (dS (I:=λx c d=>d=st/\∃u v,c=(none,u,v)/\u<v/\x<v/\h+u<n/\g (h+u)<rk k.1)
   (Q:=λc d=>d=st/\∃u v,c=(none,u,v)/\u<v/\h+u<n/\g (h+u)<rk k.1/\(n-h<=v\/(h+v<n/\¬ g (h+v)<rk k.1))) ?_ ?_ ⟨rfl,0,1,rfl,by omega,by omega,by omega,N⟩) ?_)
  ·rintro x c d - S ⟨rfl,u,v,rfl,B,H,z,f⟩;dsimp only;by_cases e:v ≥ n-h
   ·rw[if_pos e];exact b9 ⟨rfl,u,v,rfl,B,z,f,.inl e⟩
   ·rw[if_neg e];refine aG (M4 T U P X G ∅ ?_);dsimp only;by_cases M:g (h+v)<rk k.1
    ·rw[if_neg (by simp[M])];exact b9 ⟨rfl,v,_,rfl,by omega,by omega,by omega,M⟩
    ·rw[if_pos (by simp[M])];exact b9 ⟨rfl,u,v,rfl,B,z,f,.inr ⟨by omega,M⟩⟩
  ·rintro c d ⟨rfl,u,v,rfl,B,H,z,f⟩;exact⟨rfl,u,v,rfl,B,z,f,.inl ∅⟩
  ·rintro c d ⟨rfl,u,v,rfl,B,z,f,t⟩;refine J u v (h+u+1) (h+min v (n-h)) ∅ ∅ (p _ z f) ?_;rcases Nat.le_total (n-h) v with h1|h1
   ·intro i K h3;rw[Nat.min_eq_right h1] at K;omega
   ·rcases t with t|⟨t,a6⟩
    ·intro i K h3;rw[oH h1] at K;omega
    ·rw[oH h1];exact o _ t a6
 ·rw[if_neg (by simpa using N)];refine aG (fV (dS (I:=λx c d=>d=st/\∃u v,c=(none,u,v)/\u<v/\x<v/\u<=h/\¬ g (h-u)<rk k.1)
   (Q:=λc d=>d=st/\∃u v,c=(none,u,v)/\u<v/\u<=h/\¬ g (h-u)<rk k.1/\(h+1<=v\/(v<=h/\g (h-v)<rk k.1))) ?_ ?_ ⟨rfl,0,1,rfl,by omega,by omega,by omega,N⟩) ?_)
  ·rintro x c d - S ⟨rfl,u,v,rfl,B,H,z,f⟩;dsimp only;by_cases e:v ≥ h+1
   ·rw[if_pos e];exact b9 ⟨rfl,u,v,rfl,B,z,f,.inl e⟩
   ·rw[if_neg e];refine aG (M4 T U P X G ∅ ?_);dsimp only;by_cases M:g (h-v)<rk k.1
    ·rw[if_pos (by simp[M])];exact b9 ⟨rfl,u,v,rfl,B,z,f,.inr ⟨by omega,M⟩⟩
    ·rw[if_neg (by simp[M])];exact b9 ⟨rfl,v,_,rfl,by omega,by omega,by omega,M⟩
  ·rintro c d ⟨rfl,u,v,rfl,B,H,z,f⟩;exact⟨rfl,u,v,rfl,B,z,f,.inl ∅⟩
  ·rintro c d ⟨rfl,u,v,rfl,B,z,f,t⟩;refine J u v (h+1-min v (h+1)) (h-u) ∅ ∅ ?_ (o _ ∅ f);rcases t with t|⟨t,a6⟩
   ·intro i K;omega
   ·intro i K;exact p (h-v) ∅ a6 i ∅
end
structure Mg {α:Type} (lt:α->α->Prop) (T out ra rb:List α):Prop where
 perm:(out++ra++rb).Perm T
 so:out.Pairwise lt
 sa:ra.Pairwise lt
 sb:rb.Pairwise lt
 oa:∀x∈out,∀y∈ra,lt x y
 ob:∀x∈out,∀y∈rb,lt x y
section
variable{α:Type}{lt:α->α->Prop}{T out ra rb p:List α}
def Mg.comm(h:Mg lt T out ra rb):Mg lt T out rb ra:=
 ⟨by
  refine rH ?_ h.perm;rw[e8,e8];exact List.Perm.append_left _ List.perm_append_comm,h.so,h.sb,h.sa,h.ob,h.oa⟩
def Mg.take(h:Mg lt T out (p++ra) rb)(c:∀x∈p,∀y∈rb,lt x y):Mg lt T (out++p) ra rb:=by
 have b:=iJ.1 h.sa;refine⟨by simpa[e8] using h.perm,iJ.2 ⟨h.so,b.1,λx hx y a=>h.oa x hx y (bU _ a)⟩,b.2.1,h.sb,?_,?_⟩
 ·intro x hx y a;rcases cQ.1 hx with hx|hx
  ·exact h.oa x hx y (aF _ a)
  ·exact b.2.2 x hx y a
 ·intro x hx y a;rcases cQ.1 hx with hx|hx
  ·exact h.ob x hx y a
  ·exact c x hx y a
def Mg.fin(h:Mg lt T out ra rb)(c:∀x∈ra,∀y∈rb,lt x y):(out++ra++rb).Perm T/\(out++ra++rb).Pairwise lt:=
 ⟨h.perm,iJ.2 ⟨iJ.2 ⟨h.so,h.sa,h.oa⟩,h.sb,λx a y b=>(cQ.1 a).elim (λa=>h.ob x a y b) λa=>c x a y b⟩⟩
end
section
variable{a:Array cZ}{i k:Nat}{x:cZ}
def Hi(h:x∈a.toList.drop i):∃j,i<=j/\a[j]?=some x:=by
 obtain⟨n,b⟩:=mQ.1 h;rw[x_] at b;exact⟨i+n,by omega,by rw[<- aW];exact b⟩
def qz(h:x∈(a.toList.drop i).take k):∃j,i<=j/\j<i+k/\a[j]?=some x:=by
 obtain⟨n,b⟩:=mQ.1 h;rw[OQ] at b;split at b
 ·rw[x_] at b;exact⟨i+n,by omega,by omega,by rw[<- aW];exact b⟩
 ·cases b
theorem Hj(h:x∈a.toList.take k):∃j,j<k/\a[j]?=some x:=by
 obtain⟨j,_,c,b⟩:=qz (i:=0) (k:=k) h;exact⟨j,by omega,b⟩
def gq(h:a[i]?=some x):x∈a.toList:=by
 rw[<- aW] at h;exact bV h
def M5(h:a[i]?=some x):a.toList.drop i=[x]++a.toList.drop (i+1):=by
 rw[<- aW] at h;obtain⟨b,rfl⟩:=qK.1 h;exact Er b
def M6(h:a[i]?=some x):a.toList.take (i+1)=a.toList.take i++[x]:=by
 rw[<- aW] at h;rw[P6,h];rfl
def DH:a.toList.drop i=(a.toList.drop i).take k++a.toList.drop (i+k):=by
 rw[<- pI];exact(cW k _).symm
def hV(h:i<a.size):∃p,a[i]?=some p:=⟨a[i],bq h⟩
def Hk:(a.extract i (i+k)).toList=(a.toList.drop i).take k:=by
 rw[iH,fL,List.take_drop]
def uL:(a.extract i a.size).toList=a.toList.drop i:=by
 rw[iH,fL];rw[m7 (by simp)]
end
def UQ(rk:ai->Nat)(a:Array cZ):Prop:=∀(i j:Nat) (p q:cZ),i<j->a[i]?=some p->a[j]?=some q->rk p.1<rk q.1
def eQ(rk:ai->Nat)(a:Array cZ)(i:Nat):Nat:=(a[i]?.map λp=>rk p.1).getD 0
section
variable{rk:ai->Nat}{a:Array cZ}{L:List cZ}
def bY(h:a[i]?=some p):eQ rk a i=rk p.1:=by unfold eQ;rw[h];rfl
def UQ.pw(h:UQ rk a):a.toList.Pairwise λx y=>rk x.1<rk y.1:=by
 rw[qL];intro i j d c b;exact h i j _ _ b (by rw[<- aW];exact bp d) (by rw[<- aW];exact bp c)
def UQ.run(h:UQ rk a)(f:∀p∈a.toList,p∈L)(k:b+n<=a.size):Run rk L a b n (λi=>eQ rk a (b+i)):=by
 refine⟨λi l=>?_,λi j e g=>?_⟩
 ·obtain⟨p,c⟩:=hV (a:=a) (i:=b+i) ∅;exact⟨p,c,f p (gq c),(bY c).symm⟩
 ·obtain⟨p,c⟩:=hV (a:=a) (i:=b+i) ∅;obtain⟨q,d⟩:=hV (a:=a) (i:=b+j) ∅;show eQ rk a _<eQ rk a _;rw[bY c,bY d];exact h _ _ p q ∅ c d
end
def Rl:Array cZ->Array cZ->StateT fu Sem (Array cZ):=sortPriv% PySem.Builtin.mergeLo
def q07:Nat->StateT fu Sem Unit:=sortPriv% PySem.Builtin.setMinGallop
def Sm(st a:fu):Prop:=kindOf a=kindOf st/\aZ a=aZ st/\cb a=cb st/\ym a=ym st
section
variable{prog:bj}{w:bF}{A:cD}{E:ai->au->Prop}{s:au}{kd:nu}{rk:ai->Nat}{L:List cZ}{st st':fu}
def Sm.rfl:Sm st st:=⟨Tx _,Tx _,Tx _,Tx _⟩
def F7(a:Sm st0 st)(h:∀st',Sm st0 st'->Q () st'):wpS (aD prog w) A E s (q07 n) Q st:=
 rO (h _ a)
structure Rm (rk:ai->Nat) (L:List cZ) (a b:Array cZ):Prop where
 sa:UQ rk a
 sb:UQ rk b
 la:∀p∈a.toList,p∈L
 lb:∀p∈b.toList,p∈L
 ne:∀p∈a.toList,∀q∈b.toList,rk p.1≠rk q.1
def Y0(rk:ai->Nat)(x y:cZ):Prop:=rk x.1<rk y.1
def rh(rk:ai->Nat)(a b r:Array cZ):Prop:=r.toList.Perm (a.toList++b.toList)/\r.toList.Pairwise (Y0 rk)
def V(rk:ai->Nat)(a b out:Array cZ)(d c:Nat):Prop:=Mg (Y0 rk) (a.toList++b.toList) out.toList (a.toList.drop d) (b.toList.drop c)
variable{a b out:Array cZ}{ia ib k:Nat}{p q:cZ}
def Ar{x y:cZ}(t:UQ rk b)(c:b[ib]?=some q)(h:rk x.1<rk q.1)(d:y∈b.toList.drop ib):rk x.1<rk y.1:=by
 obtain⟨j,f,e⟩:=Hi d;rcases da ib j with h1|h1
 ·exact eN h (t _ _ _ _ h1 c e)
 ·rw[show j=ib by omega,c] at e;cases e;exact h
theorem V.pushA(v:V rk a b out ia ib)(t:Rm rk L a b)(c:a[ia]?=some p)(e:b[ib]?=some q)(h:rk p.1<rk q.1):V rk a b (out.push p) (ia+1) ib:=by
 unfold V at *;rw[jH];rw[M5 c] at v;exact v.take λx f y d=>by
  rw[cC.1 f];exact Ar t.sb e h d
theorem V.pushB(v:V rk a b out ia ib)(t:Rm rk L a b)(c:a[ia]?=some p)(e:b[ib]?=some q)(h:rk q.1<rk p.1):V rk a b (out.push q) ia (ib+1):=by
 unfold V at *;rw[jH];rw[M5 e] at v;exact(v.comm.take λx f y d=>by
  rw[cC.1 f];exact Ar t.sa c h d).comm
theorem V.moreA(v:V rk a b out ia ib)(t:Rm rk L a b)(d:b[ib]?=some q)(h:∀i,i<k->eQ rk a (ia+i)<rk q.1):V rk a b (out++a.extract ia (ia+k)) (ia+k) ib:=by
 unfold V at *;rw[cY,Hk];rw[DH (k:=k)] at v;exact v.take λx f y c=>by
  obtain⟨j,g,l,e⟩:=qz f;refine Ar t.sb d ?_ c;have:=h (j-ia) ∅
  rwa[show ia+(j-ia)=j by omega,bY e] at this
theorem V.moreB(v:V rk a b out ia ib)(t:Rm rk L a b)(c:a[ia]?=some p)(h:∀i,i<k->eQ rk b (ib+i)<rk p.1):V rk a b (out++b.extract ib (ib+k)) ia (ib+k):=by
 unfold V at *;rw[cY,Hk];rw[DH (a:=b) (k:=k)] at v;exact(v.comm.take λx f y d=>by
  obtain⟨j,g,l,e⟩:=qz f;refine Ar t.sa c ?_ d;have:=h (j-ib) ∅
  rwa[show ib+(j-ib)=j by omega,bY e] at this).comm
theorem V.done(v:V rk a b out ia ib)(h:ib=b.size):rh rk a b (out++a.extract ia a.size++b.extract ib b.size):=by
 unfold V at v;have e:b.toList.drop ib=[]:=tw (by simp[h]);unfold rh;rw[cY,cY,uL,uL];exact v.fin λx _ y c=>by rw[e] at c;cases c
theorem V.last(v:V rk a b out ia ib)(c:a[ia]?=some p)(h:ia+1=a.size)(g:∀y∈b.toList,rk y.1<rk p.1):rh rk a b (out++b.extract ib b.size++a.extract ia a.size):=by
 unfold V at v;unfold rh;rw[cY,cY,uL,uL];refine v.comm.fin λx f y d=>?_;obtain⟨j,i,e⟩:=Hi d;have:j<a.size:=by
  rcases da j a.size with h|h
  ·exact h
  ·rw[eG h] at e;cases e
 rw[show j=ia by omega,c] at e;cases e;exact g x (nI f)
def f_{d:Type}{c:Prop}[Decidable c]{f e:StateT fu Sem d}{Q:d->fu->Prop}(g:c->wpS (aD prog w) A E s f Q st)(i:¬ c->wpS (aD prog w) A E s e Q st):wpS (aD prog w) A E s (if c then f else e) Q st:=by
 by_cases h:c
 ·rw[if_pos h];exact g h
 ·rw[if_neg h];exact i h
def lR{c:Type}{m n:Nat}{f d:StateT fu Sem c}{Q:c->fu->Prop}(g:m=n->wpS (aD prog w) A E s f Q st)(i:m≠n->wpS (aD prog w) A E s d Q st):wpS (aD prog w) A E s (if(m==n)=true then f else d) Q st:=
 f_ (λh=>g (beq_iff_eq.1 h)) λh=>i λe=>h (beq_iff_eq.2 e)
def GP(rk:ai->Nat)(a b:Array cZ)(x:Nat)(st:fu)(r:ForInStep (Option (Array cZ)×Array cZ×Nat×Nat×Nat×Nat×Nat))(st':fu):Prop:=Sm st st'/\match r with
 |.done c=>(∃r z,c=(some r,z)/\rh rk a b r)\/∃out ia ib g d e,c=(none,out,ia,ib,g,d,e)/\V rk a b out ia ib/\ia+1<a.size/\ib<b.size/\x+2<=ia+ib
 |.yield c=>∃out ia ib g d e,c=(none,out,ia,ib,g,d,e)/\V rk a b out ia ib/\ia+1<a.size/\ib<b.size/\x+2<=ia+ib
theorem NI(hC:Cp prog w A s kd rk L)(hk:kindOf st=kd)(t:Rm rk L a b)
  (M:a[0]?=some p0) (N:b[0]?=some q0) (h0:rk q0.1<rk p0.1) (hl:∀p,a[a.size-1]?=some p->∀y∈b.toList,rk y.1<rk p.1)
  (h:∀r st',Sm st st'->rh rk a b r->Q r st'):wpS (aD prog w) A E s (Rl a b) Q st:=by
 have j:∀{ia p out ib},V rk a b out ia ib->ia+1=a.size->a[ia]?=some p->rh rk a b (out++b.extract ib b.size++a.extract ia a.size):=λv e d=>v.last d e (hl _ (by rw[<- e];exact d));have V0:V rk a b #[q0] 0 1:=V.pushB (out:=#[]) ⟨by simp,by simp,t.sa.pw,t.sb.pw,by simp,by simp⟩ t M N h0;have b8:0<a.size:=by
  rcases gj a.size with e|e
  ·rw[eG ∅] at M;cases M
  ·exact e
 have a8:0<b.size:=by
  rcases gj b.size with e|e
  ·rw[eG ∅] at N;cases N
  ·exact e
 refine aG (vk (dk ⟨rfl,?_⟩));refine aG (hU N ?_);refine lR (m:=1) (n:=b.size) (λe1=>b9 (h _ _ .rfl (V0.done e1))) λe1=>?_;refine lR (m:=0+1) (n:=a.size) (λe2=>b9 (h _ _ .rfl (j V0 e2 M))) λe2=>?_;refine aG (pi ?_);refine aG (fV (dS
  (I:=λx c st'=>Sm st st'/\∃out ia ib g,c=(none,out,ia,ib,g)/\V rk a b out ia ib/\ia+1<a.size/\ib<b.size/\x+1<=ia+ib)
  (Q:=λc st'=>Sm st st'/\∃r z,c=(some r,z)/\rh rk a b r) ?step ?fin ⟨.rfl,_,0,1,_,rfl,V0,by omega,by omega,by omega⟩) ?post)
 case fin=>
  rintro c st' ⟨_,out,ia,ib,g,rfl,v,B,u,O⟩;omega
 case post=>
  rintro c st' ⟨m,r,z,rfl,f⟩;exact b9 (h r st' m f)
 case step=>
  rintro x c b7-hx ⟨m1,out,ia,ib,g,rfl,v,B,u,O⟩;refine aG (fV (dS
   (I:=λy c st'=>Sm st st'/\∃out ia ib o l,c=(none,out,ia,ib,o,l)/\V rk a b out ia ib/\ia+1<a.size/\ib<b.size/\x+1+y<=ia+ib)
   (Q:=λc st'=>Sm st st'/\((∃r z,c=(some r,z)/\rh rk a b r)\/∃out ia ib o l,c=(none,out,ia,ib,o,l)/\V rk a b out ia ib/\ia+1<a.size/\ib<b.size/\x+2<=ia+ib))
   ?istep ?ifin ⟨m1,out,ia,ib,0,0,rfl,v,B,u,by omega⟩) ?ipost)
  case ifin=>
   rintro c st' ⟨m,out,ia,ib,o,l,rfl,v,B,u,O⟩;exact⟨m,.inr ⟨out,ia,ib,o,l,rfl,v,B,u,by omega⟩⟩
  case istep=>
   rintro y c st' - hy ⟨m,out,ia,ib,o,l,rfl,v,B,u,O⟩;dsimp only;obtain⟨p,d⟩:=hV (a:=a) (i:=ia) ∅;obtain⟨q,G⟩:=hV u;refine aG (hU G (aG (hU d (aG (Rk hC (m.1.trans hk) (t.lb q (gq G)) (t.la p (gq d)) ?_)))));dsimp only;by_cases U:rk q.1<rk p.1
   ·rw[if_pos (by simpa using U)];refine aG (hU G ?_);have S:=v.pushB t d G U;by_cases X:ib+1=b.size
    ·rw[if_pos (by simpa using X)];exact b9 ⟨m,.inl ⟨_,_,rfl,S.done X⟩⟩
    rw[if_neg (by simpa using X)];by_cases e4:l+1 ≥ g
    ·rw[if_pos e4];exact b9 ⟨m,.inr ⟨_,_,_,_,_,rfl,S,B,by omega,by omega⟩⟩
    ·rw[if_neg e4];exact b9 ⟨m,_,_,_,_,_,rfl,S,B,by omega,by omega⟩
   ·rw[if_neg (by simpa using U)];have Y:rk p.1<rk q.1:=by have:=t.ne p (gq d) q (gq G);omega
    refine aG (hU d ?_);have S:=v.pushA t d G Y;by_cases X:ia+1+1=a.size
    ·rw[if_pos (by simpa using X)];obtain⟨p',T⟩:=hV (a:=a) (i:=ia+1) ∅;exact b9 ⟨m,.inl ⟨_,_,rfl,j S X T⟩⟩
    rw[if_neg (by simpa using X)];by_cases e4:o+1 ≥ g
    ·rw[if_pos e4];exact b9 ⟨m,.inr ⟨_,_,_,_,_,rfl,S,by omega,u,by omega⟩⟩
    ·rw[if_neg e4];exact b9 ⟨m,_,_,_,_,_,rfl,S,by omega,u,by omega⟩
  case ipost=>
   rintro c a3 ⟨m2,⟨r,z,rfl,f⟩|⟨out,ia,ib,o,l,rfl,v,B,u,O⟩⟩
   ·exact b9 ⟨m2,r,_,rfl,f⟩
   refine aG (vk (dk ⟨rfl,?_⟩));refine aG (fV (dS
    (I:=λy c st'=>Sm st st'/\∃out ia ib g o l,c=(none,out,ia,ib,g,o,l)/\V rk a b out ia ib/\ia+1<a.size/\ib<b.size/\x+2<=ia+ib)
    (Q:=λc st'=>Sm st st'/\((∃r z,c=(some r,z)/\rh rk a b r)\/∃out ia ib g o l,c=(none,out,ia,ib,g,o,l)/\V rk a b out ia ib/\ia+1<a.size/\ib<b.size/\x+2<=ia+ib))
    ?gstep ?gfin ⟨m2,out,ia,ib,_,o,l,rfl,v,B,u,by omega⟩) ?gpost)
   case gfin=>
    rintro c st' ⟨m,out,ia,ib,g,o,l,rfl,v,B,u,O⟩;exact⟨m,.inr ⟨out,ia,ib,g,o,l,rfl,v,B,u,O⟩⟩
   case gpost=>
    rintro c a3 ⟨m2,⟨r,z,rfl,f⟩|⟨out,ia,ib,g,o,l,rfl,v,B,u,O⟩⟩
    ·exact b9 ⟨m2,r,_,rfl,f⟩
    exact aG (F7 m2 λst' K=>b9 ⟨K,out,ia,ib,_,rfl,v,B,u,O⟩)
   case gstep=>
    rintro y c st' - hy ⟨m,out,ia,ib,g,o,l,rfl,v,B,u,O⟩;extract_lets s1 a5 s2 b6 s3 c4 s4 g' s5 a6 c0 b0 jp;have J:∀g,wpS (aD prog w) A E s (jp () g) (GP rk a b x st) st':=by
     intro g;obtain⟨q,G⟩:=hV u;have sa:=t.sa.run (b:=ia) (n:=a.size-ia) t.la ∅;have na:∀i,i<a.size-ia->eQ rk a (ia+i)≠rk q.1:=λi hi=>by
      obtain⟨p,d⟩:=hV (a:=a) (i:=ia+i) ∅;rw[bY d];exact t.ne p (gq d) q (gq G)
     refine aG (F7 m λst' K=>?_);refine aG (hU (a:=b) (i:=ib) G ?_);refine aG (rg (a:=a) (b:=ia) (n:=a.size-ia) (h:=0) hC (K.1.trans hk) sa (t.lb q (gq G)) na ∅ λk k1 k2 k3=>?_);have v1:=v.moreA t G k2;have k4:ia+k<a.size:=by
      obtain⟨p,d⟩:=hV (a:=a) (i:=a.size-1) ∅;rcases da (ia+k) a.size with h|h
      ·exact h
      ·have h4:=k2 (a.size-1-ia) ∅;have h5:=hl p d q (gq G);rw[show ia+(a.size-1-ia)=a.size-1 by omega,bY d] at h4;omega
     obtain⟨p,d⟩:=hV k4;have a0:rk q.1<rk p.1:=by
      have:=k3 k ∅ ∅
      rwa[bY d] at this
     dsimp (config:={zeta:=false}) only;extract_lets nn a4;have J1:∀out,V rk a b out (ia+k) ib->ia+k+1<a.size->wpS (aD prog w) A E s (a4 () out (ia+k)) (GP rk a b x st) st':=by
      intro out v1 k5;refine aG (hU (a:=b) (i:=ib) G ?_);have v2:=v1.pushB t d G a0;refine lR (m:=ib+1) (n:=b.size) (λe=>b9 ⟨K,.inl ⟨_,_,rfl,v2.done e⟩⟩) λe=>?_;refine aG (hU (a:=a) (i:=ia+k) d ?_);have sb:=t.sb.run (b:=ib+1) (n:=b.size-(ib+1)) t.lb ∅;have nb:∀i,i<b.size-(ib+1)->eQ rk b (ib+1+i)≠rk p.1:=λi hi=>by
       obtain⟨q',H⟩:=hV (a:=b) (i:=ib+1+i) ∅;rw[bY H];exact λe=>t.ne p (gq d) q' (gq H) e.symm
      refine aG (rg (a:=b) (b:=ib+1) (n:=b.size-(ib+1)) (h:=0) hC (K.1.trans hk) sb (t.la p (gq d)) nb ∅ λP c1 c2 c3=>?_);have v3:=v2.moreB t d c2;dsimp (config:={zeta:=false}) only;extract_lets d0 a7 a2;have J2:∀out,V rk a b out (ia+k) (ib+1+P)->ib+1+P<b.size->wpS (aD prog w) A E s (a2 () out (ib+1+P)) (GP rk a b x st) st':=by
       intro out v3 c5;obtain⟨q',H⟩:=hV c5;have a1:rk p.1<rk q'.1:=by
        have:=c3 P ∅ ∅
        rwa[bY H] at this
       have v4:=v3.pushA t d H a1;refine aG (hU (a:=a) (i:=ia+k) d ?_);refine lR (m:=ia+k+1+1) (n:=a.size) (λe=>?_) λe=>?_
       ·obtain⟨p',T⟩:=hV (a:=a) (i:=ia+k+1) ∅;exact b9 ⟨K,.inl ⟨_,_,rfl,j v4 e T⟩⟩
       ·refine f_ (λ_=>b9 ⟨K,.inr ⟨_,ia+k+1,ib+1+P,_,_,_,rfl,v4,by omega,by omega,by omega⟩⟩) λ_=>b9 ⟨K,_,ia+k+1,ib+1+P,_,_,_,rfl,v4,by omega,by omega,by omega⟩
      refine f_ (λ_=>?_) λhz=>?_
      ·refine lR (m:=ib+1+P) (n:=b.size) (λe=>b9 ⟨K,.inl ⟨_,_,rfl,v3.done e⟩⟩) λe=>J2 _ v3 ∅
      ·obtain rfl:P=0:=by omega
       exact J2 _ v2 ∅
     refine f_ (λ_=>?_) λhz=>?_
     ·refine lR (m:=ia+k+1) (n:=a.size) (λe=>b9 ⟨K,.inl ⟨_,_,rfl,j v1 e d⟩⟩) λe=>?_;refine lR (m:=ia+k) (n:=a.size) (λe=>by omega) λe=>J1 _ v1 ∅
     ·obtain rfl:k=0:=by omega
      exact J1 _ v ∅
    exact fV (f_ (λ_=>J _) λ_=>J _) λr _ hh=>by cases r<;>exact hh
end
def Rn:Array cZ->Array cZ->StateT fu Sem (Array cZ):=sortPriv% PySem.Builtin.mergeHi
section
variable{prog:bj}{w:bF}{A:cD}{E:ai->au->Prop}{s:au}{kd:nu}{rk:ai->Nat}{L:List cZ}{st st':fu}
def W(rk:ai->Nat)(a b out:Array cZ)(c d:Nat):Prop:=Mg (λx y=>Y0 rk y x) (a.toList++b.toList) out.toList (a.toList.take c).reverse (b.toList.take d).reverse
variable{a b out:Array cZ}{n m k:Nat}{p q:cZ}
def As{x y:cZ}(t:UQ rk b)(c:b[m]?=some q)(h:rk q.1<rk x.1)(d:y∈(b.toList.take (m+1)).reverse):rk y.1<rk x.1:=by
 obtain⟨j,f,e⟩:=Hj (ng.1 d);rcases da j m with h1|h1
 ·exact eN (t _ _ _ _ h1 e c) h
 ·rw[show j=m by omega,c] at e;cases e;exact h
theorem W.pushA(v:W rk a b out (n+1) (m+1))(t:Rm rk L a b)(d:a[n]?=some p)(f:b[m]?=some q)(h:rk q.1<rk p.1):W rk a b (out.push p) n (m+1):=by
 unfold W at *;rw[jH];rw[M6 d,wI] at v;exact v.take λx c y e=>by
  rw[J4] at c;rw[cC.1 c];exact As t.sb f h e
theorem W.pushB(v:W rk a b out (n+1) (m+1))(t:Rm rk L a b)(d:a[n]?=some p)(f:b[m]?=some q)(h:rk p.1<rk q.1):W rk a b (out.push q) (n+1) m:=by
 unfold W at *;rw[jH];rw[M6 f,wI] at v;exact(v.comm.take λx c y e=>by
  rw[J4] at c;rw[cC.1 c];exact As t.sa d h e).comm
def DI{l:List cZ}(h:k<=n):(l.take n).reverse=((l.take n).drop k).reverse++(l.take k).reverse:=by
 rw[<- wI];conv=>lhs;rw[<- cW k (l.take n)]
 rw[List.take_take,oH h]
def M7:(a.extract k n).reverse.toList=((a.toList.take n).drop k).reverse:=by
 rw[vm,iH,fL,List.take_eq_take_min]
def rj:(a.extract 0 n).toList=a.toList.take n:=by
 rw[iH,fL];simp
def vJ(h:x∈(a.toList.take n).drop k):∃j,k<=j/\j<n/\a[j]?=some x:=by
 obtain⟨i,c⟩:=mQ.1 h;rw[x_,OQ] at c;split at c
 ·exact⟨k+i,by omega,by omega,by rw[<- aW];exact c⟩
 ·cases c
theorem W.moreA(v:W rk a b out n (m+1))(t:Rm rk L a b)(f:b[m]?=some q)(g:k<=n)(h:∀i,k<=i->i<n->rk q.1<eQ rk a (0+i)):W rk a b (out++(a.extract k n).reverse) k (m+1):=by
 unfold W at *;rw[cY,M7];rw[DI g] at v;exact v.take λx l y d=>by
  obtain⟨j,c,o,e⟩:=vJ (ng.1 l);refine As t.sb f ?_ d;have:=h j c o
  rwa[e_,bY e] at this
theorem W.moreB(v:W rk a b out (n+1) m)(t:Rm rk L a b)(c:a[n]?=some p)(g:k<=m)(h:∀i,k<=i->i<m->rk p.1<eQ rk b (0+i)):W rk a b (out++(b.extract k m).reverse) (n+1) k:=by
 unfold W at *;rw[cY,M7];rw[DI (n:=m) g] at v;exact(v.comm.take λx l y f=>by
  obtain⟨j,d,o,e⟩:=vJ (ng.1 l);refine As t.sa c ?_ f;have:=h j d o
  rwa[e_,bY e] at this).comm
theorem W.done(v:W rk a b out n m)(h:n=0):rh rk a b (a.extract 0 n++b.extract 0 m++out.reverse):=by
 subst h;have f:=v.comm.fin λx _ y c=>by rw[List.take_zero] at c;cases c
 unfold rh;rw[cY,cY,rj,rj,vm];refine⟨?_,?_⟩
 ·refine rH ?_ f.1;refine(qU _).symm.trans ?_;simp
 ·have:=mR.2 f.2;simpa using this
theorem W.last(v:W rk a b out n m)(d:b[0]?=some q)(h:m=1)(i:∀y∈a.toList,rk q.1<rk y.1):rh rk a b (b.extract 0 m++a.extract 0 n++out.reverse):=by
 subst h;have f:=v.fin λx g y c=>by
  obtain⟨j,l,e⟩:=Hj (ng.1 c);rw[show j=0 by omega,d] at e;cases e;exact i x (vD (ng.1 g))
 unfold rh;rw[cY,cY,rj,rj,vm];refine⟨?_,?_⟩
 ·refine rH ?_ f.1;refine(qU _).symm.trans ?_;simp
 ·have:=mR.2 f.2;simpa using this
def HP(rk:ai->Nat)(a b:Array cZ)(x:Nat)(st:fu)(r:ForInStep (Option (Array cZ)×Nat×Nat×Array cZ×Nat×Nat×Nat))(st':fu):Prop:=Sm st st'/\match r with
 |.done c=>(∃r z,c=(some r,z)/\rh rk a b r)\/∃out d e g f h,c=(none,d+1,e+2,out,g,f,h)/\W rk a b out (d+1) (e+2)/\d+1<=a.size/\e+2<=b.size/\d+e+3+x+2<=a.size+b.size
 |.yield c=>∃out d e g f h,c=(none,d+1,e+2,out,g,f,h)/\W rk a b out (d+1) (e+2)/\d+1<=a.size/\e+2<=b.size/\d+e+3+x+2<=a.size+b.size
theorem NJ(hC:Cp prog w A s kd rk L)(hk:kindOf st=kd)(t:Rm rk L a b)
  (P:a[a.size-1]?=some p0) (U:b[b.size-1]?=some q0) (h0:rk q0.1<rk p0.1) (M:b[0]?=some q1) (hl:∀y∈a.toList,rk q1.1<rk y.1)
  (h:∀r st',Sm st st'->rh rk a b r->Q r st'):wpS (aD prog w) A E s (Rn a b) Q st:=by
 have d3:0<a.size:=by
  rcases gj a.size with e|e
  ·rw[eG ∅] at P;cases P
  ·exact e
 have d0:0<b.size:=by
  rcases gj b.size with e|e
  ·rw[eG ∅] at U;cases U
  ·exact e
 have V0:W rk a b #[p0] (a.size-1) b.size:=by
  have e:b.size=b.size-1+1:=by omega
  rw[e];refine W.pushA (out:=#[]) ?_ t P U h0;rw[<- e,show a.size-1+1=a.size by omega];unfold W;rw[m7 (by simp),m7 (by simp)];refine⟨?_,by simp,mR.2 t.sa.pw,mR.2 t.sb.pw,by simp,by simp⟩;exact(qU _).append (qU _)
 refine aG (vk (dk ⟨rfl,?_⟩));refine aG (hU P ?_);refine lR (m:=a.size-1) (n:=0) (λe1=>b9 (h _ _ .rfl (V0.done e1))) λe1=>?_;refine lR (m:=b.size) (n:=1) (λe2=>b9 (h _ _ .rfl (V0.last M e2 hl))) λe2=>?_;refine aG (pi ?_);refine aG (fV (dS
  (I:=λx c st'=>Sm st st'/\∃out l d g,c=(none,l+1,d+2,out,g)/\W rk a b out (l+1) (d+2)/\l+1<=a.size/\d+2<=b.size/\l+d+3+x+1<=a.size+b.size)
  (Q:=λc st'=>Sm st st'/\∃r z,c=(some r,z)/\rh rk a b r) ?step ?fin ⟨.rfl,#[p0],a.size-2,b.size-2,gallopOf st,?e1,?e2,by omega,by omega,by omega⟩) ?post)
 case e1=>rw[show a.size-2+1=a.size-1 by omega,show b.size-2+2=b.size by omega]
 case e2=>rw[show a.size-2+1=a.size-1 by omega,show b.size-2+2=b.size by omega];exact V0
 case fin=>
  rintro c st' ⟨_,out,l,d,g,rfl,v,K,H,S⟩;omega
 case post=>
  rintro c st' ⟨m,r,z,rfl,f⟩;exact b9 (h r st' m f)
 case step=>
  rintro x c d1-hx ⟨m1,out,l,d,g,rfl,v,K,H,S⟩;refine aG (fV (dS
   (I:=λy c st'=>Sm st st'/\∃out l d B u,c=(none,l+1,d+2,out,B,u)/\W rk a b out (l+1) (d+2)/\l+1<=a.size/\d+2<=b.size/\l+d+3+x+1+y<=a.size+b.size)
   (Q:=λc st'=>Sm st st'/\((∃r z,c=(some r,z)/\rh rk a b r)\/∃out l d B u,c=(none,l+1,d+2,out,B,u)/\W rk a b out (l+1) (d+2)/\l+1<=a.size/\d+2<=b.size/\l+d+3+x+2<=a.size+b.size))
   ?istep ?ifin ⟨m1,out,l,d,0,0,rfl,v,K,H,by omega⟩) ?ipost)
  case ifin=>
   rintro c st' ⟨m,out,l,d,B,u,rfl,v,K,H,S⟩;exact⟨m,.inr ⟨out,l,d,B,u,rfl,v,K,H,by omega⟩⟩
  case istep=>
   rintro y c st' - hy ⟨m,out,l,d,B,u,rfl,v,K,H,S⟩;dsimp only;obtain⟨p,o⟩:=hV (a:=a) (i:=l) ∅;obtain⟨q,G⟩:=hV (a:=b) (i:=d+1) ∅;refine aG (hU G (aG (hU o (aG (Rk hC (m.1.trans hk) (t.lb q (gq G)) (t.la p (gq o)) ?_)))));dsimp only;by_cases Y:rk q.1<rk p.1
   ·rw[if_pos (by simpa using Y)];refine aG (hU o ?_);have X:=v.pushA t o G Y;refine lR (m:=l) (n:=0) (λe3=>b9 ⟨m,.inl ⟨_,_,rfl,X.done e3⟩⟩) λe3=>?_;obtain⟨l,rfl⟩:∃n,l=n+1:=⟨l-1,by omega⟩;exact f_ (λ_=>b9 ⟨m,.inr ⟨_,l,d,_,_,rfl,X,by omega,by omega,by omega⟩⟩) λ_=>b9 ⟨m,_,l,d,_,_,rfl,X,by omega,by omega,by omega⟩
   ·rw[if_neg (by simpa using Y)];have a0:rk p.1<rk q.1:=by have:=t.ne p (gq o) q (gq G);omega
    refine aG (hU G ?_);have X:=v.pushB t o G a0;refine lR (m:=d+1) (n:=1) (λe3=>b9 ⟨m,.inl ⟨_,_,rfl,X.last M e3 hl⟩⟩) λe3=>?_;obtain⟨d,rfl⟩:∃n,d=n+1:=⟨d-1,by omega⟩;exact f_ (λ_=>b9 ⟨m,.inr ⟨_,l,d,_,_,rfl,X,by omega,by omega,by omega⟩⟩) λ_=>b9 ⟨m,_,l,d,_,_,rfl,X,by omega,by omega,by omega⟩
  case ipost=>
   rintro c a4 ⟨m2,⟨r,z,rfl,f⟩|⟨out,l,d,B,u,rfl,v,K,H,S⟩⟩
   ·exact b9 ⟨m2,r,_,rfl,f⟩
   refine aG (vk (dk ⟨rfl,?_⟩));refine aG (fV (dS
    (I:=λy c st'=>Sm st st'/\∃out l d g B u,c=(none,l+1,d+2,out,g,B,u)/\W rk a b out (l+1) (d+2)/\l+1<=a.size/\d+2<=b.size/\l+d+3+x+2<=a.size+b.size)
    (Q:=λc st'=>Sm st st'/\((∃r z,c=(some r,z)/\rh rk a b r)\/∃out l d g B u,c=(none,l+1,d+2,out,g,B,u)/\W rk a b out (l+1) (d+2)/\l+1<=a.size/\d+2<=b.size/\l+d+3+x+2<=a.size+b.size))
    ?gstep ?gfin ⟨m2,out,l,d,_,B,u,rfl,v,K,H,by omega⟩) ?gpost)
   case gfin=>
    rintro c st' ⟨m,out,l,d,g,B,u,rfl,v,K,H,S⟩;exact⟨m,.inr ⟨out,l,d,g,B,u,rfl,v,K,H,S⟩⟩
   case gpost=>
    rintro c a4 ⟨m2,⟨r,z,rfl,f⟩|⟨out,l,d,g,B,u,rfl,v,K,H,S⟩⟩
    ·exact b9 ⟨m2,r,_,rfl,f⟩
    exact aG (F7 m2 λst' O=>b9 ⟨O,out,l,d,_,rfl,v,K,H,by omega⟩)
   case gstep=>
    rintro y c st' - hy ⟨m,out,l,d,g,B,u,rfl,v,K,H,S⟩;extract_lets s1 b6 s2 d2 s3 b0 s4 g' s5 c0 d4 b7 jp;have J:∀g,wpS (aD prog w) A E s (jp () g) (HP rk a b x st) st':=by
     intro g;obtain⟨q,G⟩:=hV (a:=b) (i:=d+1) ∅;have sa:=t.sa.run (b:=0) (n:=l+1) t.la ∅;have a7:∀i,i<l+1->eQ rk a (0+i)≠rk q.1:=λi hi=>by
      obtain⟨p,o⟩:=hV (a:=a) (i:=0+i) ∅;rw[bY o];exact t.ne p (gq o) q (gq G)
     refine aG (F7 m λst' O=>?_);refine aG (hU (a:=b) (i:=d+1) G ?_);refine aG (rg (a:=a) (b:=0) (n:=l+1) (h:=l) hC (O.1.trans hk) sa (t.lb q (gq G)) a7 ∅ λk k1 k2 k3=>?_);have v1:=v.moreA t G k1 k3;dsimp (config:={zeta:=false}) only;extract_lets kk nn a5;have J1:∀out i,k=i+1->W rk a b out (i+1) (d+2)->wpS (aD prog w) A E s (a5 () (i+1) out) (HP rk a b x st) st':=by
      intro out i ei v1;obtain⟨p,o⟩:=hV (a:=a) (i:=i) ∅;have a1:rk p.1<rk q.1:=by
       have:=k2 i ∅
       rwa[e_,bY o] at this
      refine aG (hU (a:=b) (i:=d+1) G ?_);have v2:=v1.pushB t o G a1;refine lR (m:=d+1) (n:=1) (λe=>b9 ⟨O,.inl ⟨_,_,rfl,v2.last M e hl⟩⟩) λe=>?_;refine aG (hU (a:=a) (i:=i) o ?_);have sb:=t.sb.run (b:=0) (n:=d+1) t.lb ∅;have a8:∀i,i<d+1->eQ rk b (0+i)≠rk p.1:=λi hi=>by
       obtain⟨q',N⟩:=hV (a:=b) (i:=0+i) ∅;rw[bY N];exact λe=>t.ne p (gq o) q' (gq N) e.symm
      refine aG (rg (a:=b) (b:=0) (n:=d+1) (h:=d) hC (O.1.trans hk) sb (t.la p (gq o)) a8 ∅ λT c1 c2 c3=>?_);have v3:=v2.moreB t o c1 c3;have c4:0<T:=by
       rcases gj T with e|e
       ·have h4:=c3 0 ∅ ∅;rw[bY M] at h4;have h5:=hl p (gq o);omega
       ·exact e
      dsimp (config:={zeta:=false}) only;extract_lets b8 d5 c5 a3;have J2:∀out j,T=j+2->W rk a b out (i+1) (j+2)->wpS (aD prog w) A E s (a3 () (j+2) out) (HP rk a b x st) st':=by
       intro out j ej v3;obtain⟨q',N⟩:=hV (a:=b) (i:=j+1) ∅;have a2:rk q'.1<rk p.1:=by
        have:=c2 (j+1) ∅
        rwa[e_,bY N] at this
       have v4:=v3.pushA t o N a2;refine aG (hU (a:=a) (i:=i) o ?_);refine lR (m:=i) (n:=0) (λe=>b9 ⟨O,.inl ⟨_,_,rfl,v4.done e⟩⟩) λe=>?_;obtain⟨i,rfl⟩:∃n,i=n+1:=⟨i-1,by omega⟩;exact f_ (λ_=>b9 ⟨O,.inr ⟨_,i,j,_,_,_,rfl,v4,by omega,by omega,by omega⟩⟩) λ_=>b9 ⟨O,_,i,j,_,_,_,rfl,v4,by omega,by omega,by omega⟩
      refine f_ (λ_=>?_) λhz=>?_
      ·refine lR (m:=T) (n:=1) (λe=>b9 ⟨O,.inl ⟨_,_,rfl,v3.last M e hl⟩⟩) λe=>?_;refine lR (m:=T) (n:=0) (λe=>by omega) λe=>?_;obtain⟨j,rfl⟩:∃j,T=j+2:=⟨T - 2,by omega⟩;exact J2 _ j rfl v3
      ·have a6:¬ d+1-T > 0:=hz;obtain⟨j,rfl⟩:∃j,d=j+1:=⟨d-1,by omega⟩;exact J2 _ j ∅ v2
     refine f_ (λ_=>?_) λhz=>?_
     ·refine lR (m:=k) (n:=0) (λe=>b9 ⟨O,.inl ⟨_,_,rfl,v1.done e⟩⟩) λe=>?_;obtain⟨j,rfl⟩:∃j,k=j+1:=⟨k-1,by omega⟩;exact J1 _ j rfl v1
     ·have a6:¬ l+1-k > 0:=hz;exact J1 _ l ∅ v
    exact fV (f_ (λ_=>J _) λ_=>J _) λr _ hh=>by cases r<;>exact hh
end
def Y1:Nat->Nat->StateT fu Sem (Option Nat):=sortPriv% PySem.Builtin.countRun
def q13:Nat->Nat->Nat->StateT fu Sem Bool:=sortPriv% PySem.Builtin.binarySort
structure Bs (kd:nu) (L:List cZ) (st:fu):Prop where
 kind:kindOf st=kd
 perm:(aZ st).toList.Perm L
 ok:ym st=none
def Up(rk:ai->Nat)(a:Array cZ)(lo n:Nat):Prop:=∀i j,lo<=i->i<j->j<lo+n->eQ rk a i<eQ rk a j
def Dn(rk:ai->Nat)(a:Array cZ)(lo n:Nat):Prop:=∀i j,lo<=i->i<j->j<lo+n->eQ rk a j<eQ rk a i
section
variable{prog:bj}{w:bF}{A:cD}{E:ai->au->Prop}{s:au}{kd:nu}{rk:ai->Nat}{L:List cZ}{st:fu}{a:Array cZ}
def Bs.size(B:Bs kd L st):(aZ st).size=L.length:=by rw[<- B.perm.length_eq];simp
theorem Bs.get(B:Bs kd L st)(c:i<L.length):∃p,(aZ st)[i]?=some p/\p∈L:=by
 obtain⟨p,b⟩:=hV (a:=aZ st) (i:=i) (by rw[B.size];exact c);exact⟨p,b,B.perm.mem_iff.1 (gq b)⟩
def Bs.ne(B:Bs kd L st)(l:(L.map λp=>rk p.1).Nodup)(m:i<L.length)(k:j<L.length)(h:i≠j):eQ rk (aZ st) i≠eQ rk (aZ st) j:=by
 have c:=(B.perm.map λp=>rk p.1).nodup_iff.2 l;obtain⟨p,f,_⟩:=B.get m;obtain⟨q,g,_⟩:=B.get k;rw[bY f,bY g];intro e;have b:((aZ st).toList.map λp=>rk p.1)[i]?=some (rk p.1):=by rw[aP,aW,f];rfl
 have d:((aZ st).toList.map λp=>rk p.1)[j]?=some (rk p.1):=by rw[aP,aW,g,e];rfl
 obtain⟨o,b⟩:=qK.1 b;obtain⟨n,d⟩:=qK.1 d;exact h ((SL c).1 (b.trans d.symm))
def Bs.put(B:Bs kd L st)(h:xs.Perm (aZ st)):Bs kd L (setArr st xs):=⟨B.kind,(Array.perm_iff_toList_perm.1 h).trans B.perm,B.ok⟩
def yC(d:Cp prog w A s kd rk L)(B:Bs kd L st)(k:i<L.length)(e:j<L.length)
  (h:Q (some (decide (eQ rk (aZ st) i<eQ rk (aZ st) j))) st):wpS (aD prog w) A E s (ltAt' i j) Q st:=by
 obtain⟨p,b,f⟩:=B.get k;obtain⟨q,c,g⟩:=B.get e;rw[bY b,bY c] at h;rw[ltAt'_eq];exact aG (pi (aG (hU b (aG (hU c (Rk d B.kind f g h))))))
def kZ(h:a[i]?=b[j]?):eQ rk a i=eQ rk b j:=by unfold eQ;rw[h]
def zt(b:j<=a.size)(k:Nat):eQ rk (Js a i j ((j-i) / 2)) k=if i<=k/\k<j then eQ rk a (i+j-1-k) else eQ rk a k:=by
 have e:=getElem?_mirror_all (i:=i) b k;by_cases h:i<=k/\k<j
 ·rw[if_pos h] at e ⊢;exact kZ e
 ·rw[if_neg h] at e ⊢;exact kZ e
def zu(hs:src<a.size)(c:d<=src)(k:Nat):
  eQ rk (bubble a src d) k=if k=src-d then eQ rk a src else if src-d<k/\k<=src then eQ rk a (k-1) else eQ rk a k:=by
 have e:=getElem?_bubble hs d c k;by_cases h:k=src-d
 ·rw[if_pos h] at e ⊢;exact kZ e
 ·rw[if_neg h] at e ⊢;by_cases b:src-d<k/\k<=src
  ·rw[if_pos b] at e ⊢;exact kZ e
  ·rw[if_neg b] at e ⊢;exact kZ e
def Up.more{lo n:Nat}(u:Up rk a lo n)(h:1<=n->eQ rk a (lo+n-1)<eQ rk a (lo+n)):Up rk a lo (n+1):=by
 intro i j b c d;rcases da j (lo+n) with h4|h4
 ·exact u i j b c h4
 ·obtain rfl:j=lo+n:=by omega
  rcases da i (lo+n-1) with h5|h5
  ·exact eN (u i (lo+n-1) b h5 ∅) (h ∅)
  ·rw[show i=lo+n-1 by omega];exact h ∅
def Dn.more{lo n:Nat}(u:Dn rk a lo n)(h:1<=n->eQ rk a (lo+n)<eQ rk a (lo+n-1)):Dn rk a lo (n+1):=by
 intro i j b c d;rcases da j (lo+n) with h4|h4
 ·exact u i j b c h4
 ·obtain rfl:j=lo+n:=by omega
  rcases da i (lo+n-1) with h5|h5
  ·exact eN (h ∅) (u i (lo+n-1) b h5 ∅)
  ·rw[show i=lo+n-1 by omega];exact h ∅
def Kp(lo:Nat)(a b:Array cZ):Prop:=∀i,i<lo->b[i]?=a[i]?
def M8{lo r:Nat}{Q:Option Nat->fu->Prop}(y:Cp prog w A s kd rk L)(O:(L.map λp=>rk p.1).Nodup)(B:Bs kd L st)(o:1<=r)(X:lo+r<=L.length)
  (h:∀n b,Bs kd L b->cb b=cb st->Kp lo (aZ st) (aZ b)->1<=n->n<=r->Up rk (aZ b) lo n->Q (some n) b):
  wpS (aD prog w) A E s (Y1 lo r) Q st:=by
 refine aG (fV (dS (I:=λx c b=>b=st/\c=(none,x)/\Up rk (aZ st) lo x)
  (Q:=λc b=>b=st/\∃n,c=(none,n)/\1<=n/\n<=r/\Up rk (aZ st) lo n/\(n=r\/eQ rk (aZ st) (lo+n)<eQ rk (aZ st) (lo+n-1))) ?_ ?_ ⟨rfl,rfl,λi j o T S=>by omega⟩) ?_)
 ·rintro x c b l z ⟨rfl,rfl,u⟩;refine aG (yC (i:=lo+x) (j:=lo+x-1) y B ∅ ∅ ?_);by_cases k:eQ rk (aZ b) (lo+x)<eQ rk (aZ b) (lo+x-1)
  ·exact f_ (λ_=>b9 ⟨rfl,x,rfl,l,by omega,u,.inr k⟩) λh=>absurd (by simpa using k) h
  ·refine f_ (λh=>absurd (by simpa using h) k) λ_=>b9 ⟨rfl,rfl,u.more λ_=>?_⟩;have:=B.ne O (i:=lo+x) (j:=lo+x-1) ∅ ∅ ∅;omega
 ·rintro c b ⟨rfl,rfl,u⟩;rw[show max 1 r=r by omega] at u ⊢;exact⟨rfl,r,rfl,o,aA _,u,.inl rfl⟩
 rintro c b ⟨rfl,n,rfl,t,v,u,e⟩;refine lR (m:=n) (n:=r) (λe=>b9 (h n b B rfl (λ_ _=>rfl) t v u)) λne=>?_;have e:=e.resolve_left ne;extract_lets U;refine f_ (λH=>?_) λH=>?_
 ·refine aG (yC (i:=lo) (j:=lo+n-1) y B ∅ ∅ ?_);have k:eQ rk (aZ b) lo<eQ rk (aZ b) (lo+n-1):=u lo (lo+n-1) (aA _) (by have:n > 1:=H;omega) (by have:n > 1:=H;omega);exact f_ (λ_=>b9 (h n b B rfl (λ_ _=>rfl) t v u)) λh=>absurd (by simpa using k) h
 obtain rfl:n=1:=by have:¬ n > 1:=H;omega
 refine aG (vk (dk ⟨rfl,?_⟩));refine aG (fV (dS (I:=λx c g=>g=b/\c=(none,x,0)/\Dn rk (aZ b) lo x)
  (Q:=λc g=>g=b/\∃n,c=(none,n,0)/\1<=n/\n<=r/\Dn rk (aZ b) lo n) ?_ ?_ ⟨rfl,rfl,Dn.more (n:=1) (λi j o T S=>by omega) λ_=>e⟩) ?_)
 ·rintro x c g l z ⟨rfl,rfl,u⟩;refine aG (yC (i:=lo+x) (j:=lo+x-1) y B ∅ ∅ ?_);by_cases k:eQ rk (aZ g) (lo+x)<eQ rk (aZ g) (lo+x-1)
  ·refine f_ (λ_=>?_) λh=>absurd (by simpa using k) h;exact f_ (λh=>absurd h (cr 0)) λ_=>b9 ⟨rfl,rfl,u.more λ_=>k⟩
  ·refine f_ (λh=>absurd (by simpa using h) k) λ_=>?_;refine aG (yC (i:=lo+x-1) (j:=lo+x) y B ∅ ∅ ?_);have:=B.ne O (i:=lo+x) (j:=lo+x-1) ∅ ∅ ∅;have N:eQ rk (aZ g) (lo+x-1)<eQ rk (aZ g) (lo+x):=by omega
   exact f_ (λ_=>b9 ⟨rfl,x,rfl,by omega,by omega,u⟩) λh=>absurd (by simpa using N) h
 ·rintro c g ⟨rfl,rfl,u⟩;rw[show max (1+1) r=r by omega] at u ⊢;exact⟨rfl,r,rfl,o,aA _,u⟩
 rintro c g ⟨rfl,n,rfl,t,v,d⟩;refine f_ (λh=>absurd h (cr 0)) λ_=>?_;refine aG (rO (f:=λs=>setArr s (Js (aZ s) lo (lo+n) ((lo+n-lo) / 2))) ?_);have hsz:lo+n<=(aZ g).size:=by rw[B.size];omega
 have G:Bs kd L (setArr g (Js (aZ g) lo (lo+n) ((lo+n-lo) / 2))):=B.put (mirror_perm _ _ _ _);have kp:Kp lo (aZ g) (Js (aZ g) lo (lo+n) ((lo+n-lo) / 2)):=λi Y=>by
  rw[getElem?_mirror_all hsz,if_neg ∅]
 have P:Up rk (Js (aZ g) lo (lo+n) ((lo+n-lo) / 2)) lo n:=by
  intro i j o T S;rw[zt hsz,zt hsz,if_pos ∅,if_pos ∅];exact d _ _ ∅ ∅ ∅
 generalize q:setArr g (Js (aZ g) lo (lo+n) ((lo+n-lo) / 2))=st3 at G;have M:aZ st3=Js (aZ g) lo (lo+n) ((lo+n-lo) / 2):=by rw[<- q]
 have K:cb st3=cb g:=by rw[<- q]
 rw[<- M] at kp P;refine aG (fV (dS (I:=λx c b=>b=st3/\c=(none,x)/\Up rk (aZ st3) lo x)
  (Q:=λc b=>b=st3/\∃n,c=(none,n)/\1<=n/\n<=r/\Up rk (aZ st3) lo n) ?_ ?_ ⟨rfl,rfl,P⟩) ?_)
 ·rintro x c b l z ⟨rfl,rfl,u⟩;have l:n<=x:=l;refine aG (yC (i:=lo+x) (j:=lo+x-1) y G ∅ ∅ ?_);by_cases k:eQ rk (aZ b) (lo+x)<eQ rk (aZ b) (lo+x-1)
  ·exact f_ (λ_=>b9 ⟨rfl,x,rfl,by omega,by omega,u⟩) λh=>absurd (by simpa using k) h
  ·refine f_ (λh=>absurd (by simpa using h) k) λ_=>b9 ⟨rfl,rfl,u.more λ_=>?_⟩;have:=G.ne O (i:=lo+x) (j:=lo+x-1) ∅ ∅ ∅;omega
 ·rintro c b ⟨rfl,rfl,u⟩;rw[show max n r=r by omega] at u ⊢;exact⟨rfl,r,rfl,o,aA _,u⟩
 rintro c b ⟨rfl,n,rfl,t,v,u⟩;exact b9 (h n b G K kp t v u)
def Wv{lo n m:Nat}{Q:Bool->fu->Prop}(U:Cp prog w A s kd rk L)(T:(L.map λp=>rk p.1).Nodup)(B:Bs kd L st)(Y:lo+n<=L.length)(hk:1<=m)(P:m<=n)(u:Up rk (aZ st) lo m)
  (h:∀b,Bs kd L b->cb b=cb st->Kp lo (aZ st) (aZ b)->Up rk (aZ b) lo n->Q true b):
  wpS (aD prog w) A E s (q13 lo n m) Q st:=by
 refine aG (fV (dS (I:=λk c b=>c=(none,())/\Bs kd L b/\cb b=cb st/\Kp lo (aZ st) (aZ b)/\Up rk (aZ b) lo k)
  (Q:=λc b=>c=(none,())/\Bs kd L b/\cb b=cb st/\Kp lo (aZ st) (aZ b)/\Up rk (aZ b) lo n) ?step ?fin ⟨rfl,B,rfl,λ_ _=>rfl,by rw[show max m 1=m by omega];exact u⟩) ?post)
 case post=>
  rintro c b ⟨rfl,g,t,kp,u⟩;exact b9 (h b g t kp u)
 case fin=>
  rintro c b ⟨rfl,g,t,kp,u⟩;rw[show max (max m 1) n=n by omega] at u;exact⟨rfl,g,t,kp,u⟩
 case step=>
  rintro k c d X S ⟨rfl,g,t,kp,u⟩;refine aG (fV (dS (I:=λx c e=>e=d/\∃l r,c=(none,l,r)/\l<=r/\r<=k/\r-l<=k-x /\
    (∀i,i<l->eQ rk (aZ d) (lo+i)<eQ rk (aZ d) (lo+k))/\(∀i,r<=i->i<k->eQ rk (aZ d) (lo+k)<eQ rk (aZ d) (lo+i)))
   (Q:=λc e=>e=d/\∃l r,c=(none,l,r)/\l<=k /\
    (∀i,i<l->eQ rk (aZ d) (lo+i)<eQ rk (aZ d) (lo+k))/\(∀i,l<=i->i<k->eQ rk (aZ d) (lo+k)<eQ rk (aZ d) (lo+i))) ?_ ?_ ⟨rfl,0,k,rfl,by omega,by omega,by omega,λi K=>by omega,λi H M=>by omega⟩) ?_)
  ·rintro x c b - hx ⟨rfl,l,r,rfl,O,G,N,q,o⟩;refine f_ (λy=>?_) λy=>?_
   ·have y:l ≥ r:=y;obtain rfl:l=r:=by omega
    exact b9 ⟨rfl,l,l,rfl,G,q,o⟩
   have y:¬ l ≥ r:=y;refine aG (yC (i:=lo+k) (j:=lo+(l+r) / 2) U g ∅ ∅ ?_);by_cases z:eQ rk (aZ b) (lo+k)<eQ rk (aZ b) (lo+(l+r) / 2)
   ·refine f_ (λ_=>b9 ⟨rfl,l,(l+r) / 2,rfl,by omega,by omega,by omega,q,λi H M=>?_⟩) λh=>absurd (by simpa using z) h;rcases da ((l+r) / 2) i with h3|h3
    ·exact eN z (u _ _ ∅ ∅ ∅)
    ·rw[show i=(l+r) / 2 by omega];exact z
   ·refine f_ (λh=>absurd (by simpa using h) z) λ_=>b9 ⟨rfl,(l+r) / 2+1,r,rfl,by omega,by omega,by omega,λi H=>?_,o⟩;have ne:=g.ne T (i:=lo+k) (j:=lo+(l+r) / 2) ∅ ∅ ∅;have v:eQ rk (aZ b) (lo+(l+r) / 2)<eQ rk (aZ b) (lo+k):=by omega
    rcases da i ((l+r) / 2) with h3|h3
    ·exact eN (u _ _ ∅ ∅ ∅) v
    ·rw[show i=(l+r) / 2 by omega];exact v
  ·rintro c b ⟨rfl,l,r,rfl,O,G,N,q,o⟩;obtain rfl:l=r:=by omega
   exact⟨rfl,l,l,rfl,G,q,o⟩
  ·rintro c b ⟨rfl,l,r,rfl,G,q,o⟩;refine aG (rO (f:=λs=>setArr s (bubble (aZ s) (lo+k) (lo+k-(lo+l)))) (b9 ⟨rfl,g.put (bubble_perm _ _ _),t,?_,?_⟩))
   ·intro i K;rw[<- kp i K];show(bubble (aZ b) (lo+k) (lo+k-(lo+l)))[i]?=_;rw[getElem?_bubble (by rw[g.size];omega) _ ∅,if_neg ∅,if_neg ∅]
   ·intro i j H M h3;show eQ rk (bubble (aZ b) (lo+k) (lo+k-(lo+l))) i<eQ rk (bubble (aZ b) (lo+k) (lo+k-(lo+l))) j;have hs:lo+k<(aZ b).size:=by rw[g.size];omega
    rw[zu hs ∅,zu hs ∅,show lo+k-(lo+k-(lo+l))=lo+l by omega]
    repeat' split
    all_goals first
     |(exfalso;omega)
     |exact u _ _ ∅ ∅ ∅
     |(have:=o (j-1-lo) ∅ ∅;rwa[show lo+(j-1-lo)=j-1 by omega] at this)
     |(have:=q (i-lo) ∅;rwa[show lo+(i-lo)=i by omega] at this)
end
def Y2:Nat->StateT fu Sem Bool:=sortPriv% PySem.Builtin.mergeAt
section
variable{prog:bj}{w:bF}{A:cD}{E:ai->au->Prop}{s:au}{kd:nu}{rk:ai->Nat}{L:List cZ}{st:fu}{a:Array cZ}
theorem M9(c:Nat):∀(l:List cZ) (i:Nat) (a:Array cZ),c+i+l.length<=a.size ->
  ((l.zipIdx i).foldl (λa x=>match x with|(p,j)=>a.setIfInBounds (c+j) p) a).toList=a.toList.take (c+i)++l++a.toList.drop (c+i+l.length)
 |[],i,a,_=>by simp
 |p::l,i,a,h=>by
  have b:(p::l).length=l.length+1:=rfl;rw[Ae,eY,M9 c l (i+1) _ (by rw[qT];omega)];dsimp only;rw[Cu,show c+(i+1)=c+i+1 by omega,b,show c+i+(l.length+1)=c+i+1+l.length by omega];rw[List.drop_set_of_lt ∅];have e:List.take (c+i+1) (a.toList.set (c+i) p)=a.toList.take (c+i)++[p]:=by
   rw[P6,List.take_set_of_le (aA _),aR (by simp;omega)];rfl
  rw[e];simp
def q08(h:Q ⟨⟩ b):wpS (aD prog w) A E s (set b:StateT fu Sem PUnit) Q st:=by
 unfold wpS;exact aa ⟨rfl,h⟩
def Kg(h:(a.extract i j)[k]?=some p):i+k<j/\a[i+k]?=some p:=by
 rw[jj] at h;split at h
 ·exact⟨by omega,h⟩
 ·cases h
def Up.srt{i j lo n:Nat}(u:Up rk a lo n)(h:lo<=i)(k:j<=lo+n):UQ rk (a.extract i j):=by
 intro x y p q d e f;obtain⟨l,b⟩:=Kg e;obtain⟨g,c⟩:=Kg f;rw[<- bY (rk:=rk) b,<- bY (rk:=rk) c];exact u _ _ ∅ ∅ ∅
def lS(h:p∈(a.extract i j).toList):∃k,i<=k/\k<j/\a[k]?=some p:=by
 obtain⟨k,b⟩:=mQ.1 h;rw[aW] at b;obtain⟨c,d⟩:=Kg b;exact⟨i+k,by omega,c,d⟩
def Bs.ne'(B:Bs kd L st)(e:(L.map λp=>rk p.1).Nodup){i j:Nat}{p q:cZ}(c:(aZ st)[i]?=some p)(b:(aZ st)[j]?=some q)(h:i≠j):rk p.1≠rk q.1:=by
 have f:i<L.length:=by rw[<- B.size];exact(i3.1 c).1
 have d:j<L.length:=by rw[<- B.size];exact(i3.1 b).1
 have:=B.ne e f d h
 rwa[bY c,bY b] at this
def Ro(x y z:Nat×Nat×Nat):((#[x,y].setIfInBounds 0 z).eraseIdxIfInBounds (0+1)).size=1:=by
 simp[Array.eraseIdxIfInBounds]
def q09(h:a.toList.Pairwise (Y0 rk)):Up rk a 0 a.size:=by
 intro i j _ d e;obtain⟨p,b⟩:=hV (a:=a) (i:=i) ∅;obtain⟨q,c⟩:=hV (a:=a) (i:=j) ∅;rw[bY b,bY c];rw[qL] at h;have:=h i j (by simp;omega) (by simp;omega) d;obtain⟨_,rfl⟩:=i3.1 b;obtain⟨_,rfl⟩:=i3.1 c;exact this
theorem NK{n m pw:Nat}{Q:Bool->fu->Prop}(hC:Cp prog w A s kd rk L)(hn:(L.map λp=>rk p.1).Nodup)(B:Bs kd L st)
  (pe:cb st=#[(0,n,pw),(n,m,0)]) (h1:0<n) (h2:0<m) (hr:n+m=L.length) (P:Up rk (aZ st) 0 n) (H:Up rk (aZ st) n m)
  (h:∀c,Bs kd L c->(cb c).size=1->Up rk (aZ c) 0 L.length->Q true c):wpS (aD prog w) A E s (Y2 0) Q st:=by
 have sz:=B.size;obtain⟨S,d,a2⟩:=B.get (i:=n) ∅;have mem:∀{i p},(aZ st)[i]?=some p->p∈L:=λe=>B.perm.mem_iff.1 (gq e);refine aG (pi ?_);rw[show(sortPriv% PySem.Builtin.SortState.pending) st=#[(0,n,pw),(n,m,0)] from pe];refine aG (q08 ?_);refine aG (hU d ?_);have r1:Run rk L (aZ st) 0 n (λi=>eQ rk (aZ st) (0+i)):=⟨λi hi=>by
  obtain⟨p,o,lp⟩:=B.get (i:=0+i) ∅;exact⟨p,o,lp,(bY o).symm⟩,λi j z hj=>P _ _ ∅ ∅ ∅⟩
 have r2:Run rk L (aZ st) n m (λi=>eQ rk (aZ st) (n+i)):=⟨λi hi=>by
  obtain⟨p,o,lp⟩:=B.get (i:=n+i) ∅;exact⟨p,o,lp,(bY o).symm⟩,λi j z hj=>H _ _ ∅ ∅ ∅⟩
 refine aG (rg (a:=aZ st) (b:=0) (n:=n) (h:=0) hC B.kind r1 a2 (λi hi=>?_) h1 λk k1 k2 k3=>?_)
 ·have:=B.ne hn (i:=0+i) (j:=n) ∅ ∅ ∅
  rwa[bY d] at this
 refine lR (m:=n-k) (n:=0) (λe=>b9 (h _ ⟨B.kind,B.perm,B.ok⟩ (Ro ..) ?_)) λe=>?_
 ·intro i j _ z hj;rcases da j n with c1|c1
  ·exact P i j ∅ z ∅
  ·rcases da i n with c2|c2
   ·have I:=k2 i ∅;rw[e_] at I;show eQ rk (aZ st) i<eQ rk (aZ st) j;rcases da n j with Y|Y
    ·have c5:=H n j ∅ Y ∅;rw[bY d] at c5;omega
    ·rw[show j=n by omega,bY d];exact I
   ·exact H i j ∅ z ∅
 obtain⟨p0,u,a0⟩:=B.get (i:=n-1) ∅;refine aG (hU (i:=0+k+(n-k)-1) (by rw[show 0+k+(n-k)-1=n-1 by omega];exact u) ?_);refine aG (rg (a:=aZ st) (b:=n) (n:=m) (h:=m-1) hC B.kind r2 a0 (λi hi=>?_) ∅ λg c1 c2 I=>?_)
 ·have:=B.ne hn (i:=n+i) (j:=n-1) ∅ ∅ ∅
  rwa[bY u] at this
 have c0:0<g:=by
  rcases gj g with e0|e0
  ·have Y:=I 0 ∅ ∅;have c5:=k3 (n-1) ∅ ∅;rw[e_,bY u] at c5;rw[kJ,bY d] at Y;omega
  ·exact e0
 refine lR (m:=g) (n:=0) (λe=>by omega) λ_=>?_;have t:Rm rk L ((aZ st).extract (0+k) n) ((aZ st).extract n (n+g)):=by
  refine⟨P.srt ∅ ∅,H.srt ∅ ∅,λp o=>?_,λp o=>?_,λp o q hq=>?_⟩
  ·obtain⟨_,_,_,e⟩:=lS o;exact mem e
  ·obtain⟨_,_,_,e⟩:=lS o;exact mem e
  ·obtain⟨_,_,_,e1⟩:=lS o;obtain⟨_,_,_,U⟩:=lS hq;exact B.ne' hn e1 U ∅
 have za:((aZ st).extract (0+k) n).size=n-k:=by rw[MV];omega
 have zb:((aZ st).extract n (n+g)).size=g:=by rw[MV];omega
 obtain⟨pk,K,_⟩:=B.get (i:=0+k) ∅;obtain⟨ql,a1,_⟩:=B.get (i:=n+(g - 1)) ∅;have e1:((aZ st).extract (0+k) n)[0]?=some pk:=by rw[jj,if_pos ∅];exact K
 have U:((aZ st).extract n (n+g))[0]?=some S:=by rw[jj,if_pos ∅];exact d
 have e3:((aZ st).extract (0+k) n)[((aZ st).extract (0+k) n).size-1]?=some p0:=by
  rw[za,jj,if_pos ∅,show 0+k+(n-k-1)=n-1 by omega];exact u
 have e4:((aZ st).extract n (n+g))[((aZ st).extract n (n+g)).size-1]?=some ql:=by
  rw[zb,jj,if_pos ∅];exact a1
 have g1:rk S.1<rk pk.1:=by
  have:=k3 k (aA _) ∅
  rwa[bY K] at this
 have g2:∀y∈((aZ st).extract n (n+g)).toList,rk y.1<rk p0.1:=λy v=>by
  obtain⟨j,j1,j2,e⟩:=lS v;have:=c2 (j-n) ∅
  rwa[show n+(j-n)=j by omega,bY e] at this
 have g3:∀y∈((aZ st).extract (0+k) n).toList,rk S.1<rk y.1:=λy v=>by
  obtain⟨j,j1,j2,e⟩:=lS v;have:=k3 j ∅ ∅
  rwa[e_,bY e] at this
 extract_lets x y jp;have J:∀r c,kindOf c=kd->aZ c=aZ st->ym c=none->(cb c).size=1->rh rk ((aZ st).extract (0+k) n) ((aZ st).extract n (n+g)) r->wpS (aD prog w) A E s (jp r) Q c:=by
  rintro r c z1 z2 z3 z4 ⟨X,f2⟩;have rl:r.toList.length=n-k+g:=by rw[X.length_eq,aS,az,az,za,zb]
  have T:=M9 (0+k) r.toList 0 (aZ c) (by rw[z2,rl];omega);refine aG (rO (aG (pi (b9 ?_))));have e5:(ym c).isNone=true:=by rw[z3];rfl
  show Q ((ym c).isNone) _;rw[e5];generalize hb:List.foldl (λa x=>match x with|(p,j)=>a.setIfInBounds (0+k+j) p) (aZ c) r.toList.zipIdx=nw at T;have hT:(aZ c).toList.take (0+k+0)=((aZ st).extract 0 k).toList:=by rw[z2,rj,kJ,e_]
  have hD:(aZ c).toList.drop (0+k+0+r.toList.length)=((aZ st).extract (n+g) (aZ st).size).toList:=by
   rw[z2,uL,rl];congr 1;omega
  rw[hT,hD] at T;have O:nw.toList.Perm L:=by
   refine rH ?_ B.perm;rw[T];refine((X.append_left _).append_right _).trans (Lj ?_);rw[rj,uL,iH,iH,fL,fL];conv=>rhs;rw[<- cW k (aZ st).toList,<- cW (n-k) ((aZ st).toList.drop k),pI,<- cW g ((aZ st).toList.drop (k+(n-k))),pI]
   rw[show k+(n-k)=n by omega,List.drop_take,List.drop_take,show n+g - n=g by omega,e_];simp[e8]
  have M:∀x∈((aZ st).extract 0 k).toList,rk x.1<rk S.1:=λx hx=>by
   obtain⟨i,_,i2,e⟩:=lS hx;have:=k2 i i2
   rwa[e_,bY e] at this
  have G:∀{j y},n<=j->(aZ st)[j]?=some y->rk S.1<=rk y.1:=λ{j y} hj e=>by
   have lj:j<(aZ st).size:=(i3.1 e).1;rcases da n j with h|h
   ·have:=H n j (aA _) h ∅;rw[bY d,bY e] at this;omega
   ·rw[show j=n by omega,d] at e;cases e;exact aA _
  refine h _ ⟨z1,O,z3⟩ z4 ?_;have up:=q09 (a:=nw) (rk:=rk) ?_
  ·have:nw.size=L.length:=by rw[<- O.length_eq];simp
   rwa[this] at up
  rw[T];refine iJ.2 ⟨iJ.2 ⟨(P.srt ∅ ∅).pw,f2,λx hx y v=>?_⟩,(H.srt ∅ ∅).pw,λx hx y v=>?_⟩
  ·have l:=M x hx;rcases cQ.1 (X.mem_iff.1 v) with v|v
   ·exact eN l (g3 y v)
   ·obtain⟨j,j1,_,e⟩:=lS v;exact aK l (G j1 e)
  ·obtain⟨j,j1,j2,e⟩:=lS v;rcases cQ.1 hx with hx|hx
   ·exact aK (M x hx) (G ∅ e)
   ·rcases cQ.1 (X.mem_iff.1 hx) with hx|hx
    ·obtain⟨i,i1,i2,N⟩:=lS hx;have l:=I (j-n) ∅ ∅;rw[show n+(j-n)=j by omega,bY e] at l;rcases da i (n-1) with h|h
     ·have:=P i (n-1) ∅ h ∅;rw[bY u,bY N] at this;exact eN this l
     ·rw[show i=n-1 by omega,u] at N;cases N;exact l
    ·obtain⟨i,i1,i2,N⟩:=lS hx;have:=H i j ∅ ∅ ∅
     rwa[bY e,bY N] at this
 refine f_ (λ_=>aG (NI hC B.kind t e1 U g1 (λp o=>?_) λr c m f=>?_)) λ_=>aG (NJ hC B.kind t e3 e4 (g2 ql (gq e4)) U g3 λr c m f=>?_)
 ·rw[e3] at o;cases o;exact g2
 ·exact J r c (m.1.trans B.kind) m.2.1 (m.2.2.2.trans B.ok) (by rw[m.2.2.1];exact Ro ..) f
 ·exact J r c (m.1.trans B.kind) m.2.1 (m.2.2.2.trans B.ok) (by rw[m.2.2.1];exact Ro ..) f
end
section
variable{prog:bj}{w:bF}{A:cD}{E:ai->au->Prop}{s:au}{kd:nu}{rk:ai->Nat}{L:List cZ}{st:fu}{a:Array cZ}
def NL(d:2<=N)(b:N<=64):1<=J5 N N 0/\J5 N N 0<=N/\N<=2*J5 N N 0:=by
 obtain⟨f,c⟩:∃f,N=f+1:=⟨N-1,by omega⟩;by_cases h:N<64
 ·have:J5 (f+1) N 0=N:=by rw[minRun'_succ,if_pos h];rfl
  rw[<- c] at this;rw[this];omega
 ·obtain rfl:N=64:=by omega
  have:J5 64 64 0=32:=by rfl
  rw[this];omega
def Y3(U:Cp prog w A s kd rk L)(S:(L.map λp=>rk p.1).Nodup)(B:Bs kd L st)(pe:cb st=#[])(h2:2<=L.length)(a2:L.length<=64)
  (h:∀st',Bs kd L st'->Up rk (aZ st') 0 L.length->Q () st'):wpS (aD prog w) A E s sortRuns' Q st:=by
 obtain⟨m1,m2,m3⟩:=NL h2 a2;refine aG (pi ?_);extract_lets size g lo;have hsz:size=L.length:=B.size;have a1:g=J5 L.length L.length 0:=by rw[<- hsz];rfl
 rw[<- a1] at m1 m2 m3
 clear_value size g;subst hsz;refine aG (fV (dS
  (I:=λx c st'=>Bs kd L st'/\((x=0/\c=(none,0)/\cb st'=#[])\/(x=1/\∃n,c=(none,n)/\cb st'=#[(0,n,0)]/\g<=n/\n<=L.length/\Up rk (aZ st') 0 n) \/
   (∃n m pw,c=(none,L.length)/\cb st'=#[(0,n,pw),(n,m,0)]/\0<n/\0<m/\n+m=L.length/\Up rk (aZ st') 0 n/\Up rk (aZ st') n m)))
  (Q:=λc st'=>Bs kd L st'/\((∃n,c=(none,n)/\(cb st').size=1/\Up rk (aZ st') 0 L.length) \/
   (∃n m pw,c=(none,L.length)/\cb st'=#[(0,n,pw),(n,m,0)]/\0<n/\0<m/\n+m=L.length/\Up rk (aZ st') 0 n/\Up rk (aZ st') n m))) ?step ?fin ⟨B,.inl ⟨rfl,rfl,pe⟩⟩) ?post)
 case fin=>
  rintro c st' ⟨f,⟨e,_⟩|⟨e,_⟩|c3⟩
  ·omega
  ·omega
  ·exact⟨f,.inr c3⟩
 case step=>
  rintro x c X-hx ⟨M,⟨rfl,rfl,k⟩|⟨rfl,n,rfl,k,K,P,u⟩|⟨n,m,pw,rfl,k,K,P,n3,T,q⟩⟩
  ·refine f_ (λl=>?_) λ_=>?_
   ·have l:0 ≥ L.length:=l;omega
   refine aG (M8 (lo:=0) (r:=L.length-0) U S M ∅ ∅ λn t H z k2 K P q=>?_);dsimp (config:={zeta:=false}) only;extract_lets nn jp;have J:∀n st',Bs kd L st'->cb st'=#[]->g<=n->n<=L.length->Up rk (aZ st') 0 n->wpS (aD prog w) A E s (jp () n) (λr st'=>∃c,r=.yield c/\Bs kd L st'/\∃n,c=(none,n)/\cb st'=#[(0,n,0)]/\g<=n/\n<=L.length/\Up rk (aZ st') 0 n) st':=by
    intro n st' f y N O u;refine aG (pi ?_);extract_lets a0;rw[show(sortPriv% PySem.Builtin.SortState.pending) st'=#[] from y];refine aG (rO (b9 ⟨_,rfl,⟨f.kind,f.perm,f.ok⟩,n,?_,?_,N,O,u⟩))
    ·show((none,0+n):Option Unit×Nat)=(none,n);rw[e_]
    ·show(cb st').push _=_;rw[y];rfl
   refine fV (Q:=λr st'=>∃c,r=.yield c/\Bs kd L st'/\∃n,c=(none,n)/\cb st'=#[(0,n,0)]/\g<=n/\n<=L.length/\Up rk (aZ st') 0 n) (f_ (λo=>?_) λo=>?_) ?_
   ·have o:n<g:=o;refine aG (vk (dk ⟨rfl,?_⟩));have hf:min (L.length-0) g=g:=by omega
    refine aG (Wv (lo:=0) (n:=min (L.length-0) g) U S H ∅ K ∅ q λG B3 p3 k3 Y=>?_);refine f_ (λh=>by cases h) λ_=>?_;rw[hf] at Y;exact J (min (L.length-0) g) G B3 (p3.trans (z.trans k)) ∅ ∅ (by rw[hf];exact Y)
   ·have o:¬ n<g:=o;exact J n t H (z.trans k) ∅ ∅ q
   ·rintro r st' ⟨c,rfl,f,n,rfl,y,N,O,u⟩;exact⟨f,.inr (.inl ⟨rfl,n,rfl,y,N,O,u⟩)⟩
  ·refine f_ (λl=>b9 ⟨M,.inl ⟨n,rfl,by rw[k];rfl,?_⟩⟩) λl=>?_
   ·have l:n ≥ L.length:=l;rw[show L.length=n by omega];exact u
   have l:¬ n ≥ L.length:=l;refine aG (M8 (lo:=n) (r:=L.length-n) U S M ∅ ∅ λm t H z k2 m1 m2 q=>?_);dsimp (config:={zeta:=false}) only;extract_lets nn jp;have up:∀{st':fu},Kp n (aZ X) (aZ st')->Up rk (aZ st') 0 n:=λ{st'} kp i j h1 h2 h3=>by
    rw[kZ (rk:=rk) (kp i ∅),kZ (rk:=rk) (kp j ∅)];exact u i j h1 h2 h3
   have J:∀m st',Bs kd L st'->cb st'=#[(0,n,0)]->n+m=L.length->0<m->Up rk (aZ st') 0 n->Up rk (aZ st') n m->wpS (aD prog w) A E s (jp () m) (λr st'=>∃c,r=.yield c/\Bs kd L st'/\∃n m pw,c=(none,L.length)/\cb st'=#[(0,n,pw),(n,m,0)]/\0<n/\0<m/\n+m=L.length/\Up rk (aZ st') 0 n/\Up rk (aZ st') n m) st':=by
    intro m st' f y N O T q;refine aG (pi ?_);extract_lets a0;rw[show(sortPriv% PySem.Builtin.SortState.pending) st'=#[(0,n,0)] from y];refine aG (fV (dS (I:=λ_ c d=>d=st'/\c=(none,())) (Q:=λc d=>d=st'/\c=(none,())) ?_ (λ_ _ v=>v) ⟨rfl,rfl⟩) ?_)
    ·rintro x c d - _ ⟨rfl,rfl⟩;refine aG (pi ?_);rw[show(sortPriv% PySem.Builtin.SortState.pending) d=#[(0,n,0)] from y];exact b9 ⟨rfl,rfl⟩
    ·rintro c d ⟨rfl,rfl⟩;refine aG (rO (aG (rO (b9 ⟨_,rfl,⟨f.kind,f.perm,f.ok⟩,n,m,(sortPriv% PySem.Builtin.power) L.length (2*0+n) (2*0+n+n+m) L.length,?_,?_,by omega,O,N,T,q⟩))))
     ·show((none,n+m):Option Unit×Nat)=(none,L.length);rw[N]
     ·show Array.push (Array.modify (cb d) ((cb d).size-1) _) _=_;rw[y];rfl
   refine fV (Q:=λr st'=>∃c,r=.yield c/\Bs kd L st'/\∃n m pw,c=(none,L.length)/\cb st'=#[(0,n,pw),(n,m,0)]/\0<n/\0<m/\n+m=L.length/\Up rk (aZ st') 0 n/\Up rk (aZ st') n m) (f_ (λo=>?_) λo=>?_) ?_
   ·have o:m<g:=o;refine aG (vk (dk ⟨rfl,?_⟩));have hf:min (L.length-n) g=L.length-n:=by omega
    refine aG (Wv (lo:=n) (n:=min (L.length-n) g) U S H ∅ m1 ∅ q λG B3 p3 k3 Y=>?_);refine f_ (λh=>by cases h) λ_=>?_;exact J (min (L.length-n) g) G B3 (p3.trans (z.trans k)) ∅ ∅ (up λi hi=>(k3 i hi).trans (k2 i hi)) Y
   ·have o:¬ m<g:=o;exact J m t H (z.trans k) ∅ ∅ (up k2) q
   ·rintro r st' ⟨c,rfl,f,v⟩;exact⟨f,.inr (.inr v)⟩
  ·exact f_ (λ_=>b9 ⟨M,.inr ⟨n,m,pw,rfl,k,K,P,n3,T,q⟩⟩) λl=>absurd (aA _) l
 case post=>
  have fin:∀{st'},Bs kd L st'->(cb st').size=1->Up rk (aZ st') 0 L.length->Bs kd L st'/\(cb st').size=1/\Up rk (aZ st') 0 L.length:=λb p u=>⟨b,p,u⟩;rintro c X ⟨M,v⟩;obtain⟨lo,rfl⟩:∃lo,c=(none,lo):=by
   rcases v with⟨n,rfl,_⟩|⟨n,m,pw,rfl,_⟩
   ·exact⟨_,rfl⟩
   ·exact⟨_,rfl⟩
  refine aG (fV (dS
   (I:=λx c st'=>c=(none,())/\Bs kd L st'/\(((cb st').size=1/\Up rk (aZ st') 0 L.length)\/(x=0/\∃n m pw,cb st'=#[(0,n,pw),(n,m,0)]/\0<n/\0<m/\n+m=L.length/\Up rk (aZ st') 0 n/\Up rk (aZ st') n m)))
   (Q:=λc st'=>c=(none,())/\Bs kd L st'/\Up rk (aZ st') 0 L.length) ?_ ?_ ⟨rfl,M,?_⟩) ?_)
  ·rintro x c st' - hx ⟨rfl,f,⟨k,u⟩|⟨rfl,n,m,pw,k,K,P,n3,T,q⟩⟩
   ·refine aG (pi (f_ (λ_=>b9 ⟨rfl,f,u⟩) λl=>absurd ?_ l));show(cb st').size<=1;omega
   ·refine aG (pi ?_);rw[show(sortPriv% PySem.Builtin.SortState.pending) st'=#[(0,n,pw),(n,m,0)] from k];refine f_ (λh=>?_) λ_=>?_
    ·have h:(2:Nat)<=1:=h;omega
    refine aG (NK U S f k K P n3 T q λt H z u=>?_);exact f_ (λh=>by cases h) λ_=>b9 ⟨rfl,H,.inl ⟨z,u⟩⟩
  ·rintro c st' ⟨rfl,f,⟨k,u⟩|⟨e,_⟩⟩
   ·exact⟨rfl,f,u⟩
   ·omega
  ·rcases v with⟨n,_,p,u⟩|⟨n,m,pw,_,v⟩
   ·exact .inl ⟨p,u⟩
   ·exact .inr ⟨rfl,n,m,pw,v⟩
  ·rintro c st' ⟨rfl,f,u⟩;exact b9 (h st' f u)
end
end TS
namespace TS
open PySem PyProof.Rows PySem.W
def Ss:List ai->List Str->Prop
 |[],[]=>True
 |v::a,x::xs=>(∃t,v=.str x t)/\Ss a xs
 |_,_=>False
def tl:List Str->List Str->Bool
 |[],[]=>false
 |[],_::_=>true
 |_::_,[]=>false
 |x::xs,y::ys=>if x=y then tl xs ys else decide (x.cps.toList<y.cps.toList)
def Tk(h:bZ)(v:ai)(x:List Str):Prop:=∃a o b n,v=.ref a/\h.get? a=some o/\o.cls=.type "tuple"/\o.data=.seq b n/\Ss b.toList x
section
variable{prog:bj}{w:bF}{A:cD}{E:ai->au->Prop}{s:au}
def xx:tl (x::xs) (y::ys)=if x=y then tl xs ys else decide (x.cps.toList<y.cps.toList):=rfl
theorem Ma:∀{c b:List ai}{x y:List Str}{i:Nat},Ss c x->Ss b y->fin=decide (c.length<b.length)->Q (tl x y) s->KatLex prog w A true fin Q (c.zip b) i s
 |[],[],[],[],_,_,_,e,q=>by subst e;exact q
 |[],_::_,[],_::_,_,_,_,e,q=>by subst e;rw[List.zip_nil_left];refine kat_nil ?_;simpa[tl] using q
 |_::_,[],_::_,[],_,_,_,e,q=>by subst e;rw[List.zip_nil_right];refine kat_nil ?_;simpa[tl] using q
 |v::c,u::b,x::xs,y::ys,i,f,g,e,q=>by
  obtain⟨⟨t,rfl⟩,f⟩:=f;obtain⟨⟨t',rfl⟩,g⟩:=g;rw[y0];refine kat_cons (El ?_);rw[xx] at q;by_cases a:x=y
  ·rw[if_pos a] at q;have d:(x==y)=true:=by simp[a]
   first|rw[d]|(rw[show decide (x=y)=true by simp[a]])
   exact kat_yes (Ma f g (by rw[e];simp) q)
  ·rw[if_neg a] at q;have d:(x==y)=false:=by simp[a]
   first|rw[d]|(rw[show decide (x=y)=false by simp[a]])
   refine kat_no ?_;cases(true&&i==0) with
   |true=>exact oneLt_str q
   |false=>exact kat_one _ _ (lt_str q)
 |[],_,_::_,_,_,h,_,_,_=>h.elim
 |_::_,_,[],_,_,h,_,_,_=>h.elim
 |_,[],_,_::_,_,_,h,_,_=>h.elim
 |_,_::_,_,[],_,_,h,_,_=>h.elim
def UR(c:Tk s.heap v x)(f:Tk s.heap u y)(q:Q (tl x y) s):ay (aD prog w) A (keyLt' (tuples' true) v u) Q E s:=by
 obtain⟨a,o,k,n,rfl,e,_,h,i⟩:=c;obtain⟨b,o',l,m,rfl,d,_,g,j⟩:=f;exact kat_lt e h d g (Ma i j (by simp) q)
def vK(Y:Tk s.heap (.ref a) x)(M:Tk s.heap (.ref b) y)(h:P (.done (.ret (.bool (tl x y)))) s):
  ay (aD prog w) A (js.«tuple.__lt__» ⟨[.ref a,.ref b],[]⟩) P E s:=by
 obtain⟨_,oa,xs,na,N,K,U,L,I⟩:=Y;obtain⟨_,ob,ys,nb,X,o,G,B,q⟩:=M;cases N;cases X;show ay _ _ (Jj (.ref b) (.type "tuple")>>=_) _ _ s;refine a9 (gE (T:="tuple") ⟨_,o,G⟩ isSubtype_tuple_tuple ?_);simp only[g_,aV,if_false];refine a9 (wpAny_tupleItemsOf K L ?_);refine a9 (wpAny_tupleItemsOf o B ?_);refine a9 ?_;refine Ew _
  (λbM r s'=>r.1=none/\s'=s/\∃j k e d,bM=List.zip e d/\Ss e j/\Ss d k/\tl j k=tl x y/\(decide (e.length<d.length))=(decide (xs.size<ys.size)))
  _ ?_ ?_ _ _ ⟨rfl,rfl,x,y,xs.toList,ys.toList,rfl,I,q,rfl,by simp⟩
 ·rintro⟨u,v⟩ bM r s' ⟨z,rfl,j,k,e,d,hz,g,i,c,f⟩
  match j,k,e,d,hz,g,i,c,f with
  |n::j,m::k,O::e,Q::d,hz,⟨⟨t,S⟩,g⟩,⟨⟨t',e2⟩,i⟩,c,f=>
   rw[y0] at hz;obtain⟨e3,rfl⟩:=AH hz;obtain⟨rfl,rfl⟩:=Prod.mk.inj e3;subst S;subst e2;refine a9 (El ?_);rw[xx] at c;by_cases l:n=m
   ·rw[if_pos l] at c;have H:(n==m)=true:=by simp[l]
    first|rw[H]|(rw[show decide (n=m)=true by simp[l]])
    simp only[g_,aV,if_false];refine aa ⟨rfl,rfl,j,k,e,d,rfl,g,i,c,by simpa using f⟩
   ·rw[if_neg l] at c;have H:(n==m)=false:=by simp[l]
    first|rw[H]|(rw[show decide (n=m)=false by simp[l]])
    simp only[ko,if_true];rw[<- c] at h;refine a9 (dk (a9 (lt_str ?_)));exact a9 (aa (aa (aa h)))
  |[],_,O::e,_,_,h,_,_,_=>exact h.elim
  |_::_,_,[],_,hz,h,_,_,_=>exact h.elim
  |[],_,[],_,hz,_,_,_,_=>simp at hz
  |_::_,[],_::_,Q::d,hz,_,h,_,_=>exact h.elim
  |_::_,_::_,_::_,[],hz,_,h,_,_=>exact h.elim
  |_::_,[],_::_,[],hz,_,_,_,_=>simp at hz
 ·rintro⟨r1,r2⟩ s' ⟨z,rfl,j,k,e,d,hz,g,i,c,f⟩;simp only at z;subst z;refine aa ?_;have p:decide (xs.size<ys.size)=tl x y:=by
   rw[<- c,<- f]
   match j,k,e,d,hz,g,i with
   |[],[],[],[],_,_,_=>simp[tl]
   |[],_::_,[],_::_,_,_,_=>simp[tl]
   |_::_,[],_::_,[],_,_,_=>simp[tl]
   |_::_,_::_,_::_,_::_,hz,_,_=>simp at hz
   |[],_,_::_,_,_,h,_=>exact h.elim
   |_::_,_,[],_,_,h,_=>exact h.elim
   |_,[],_,_::_,_,_,h=>exact h.elim
   |_,_::_,_,[],_,_,h=>exact h.elim
  show P (.done (.ret (.bool (decide (xs.size<ys.size))))) s';rw[p];exact h
def Tk.typeIs(h:Tk s.heap v x):s.TypeIs v "tuple":=by
 obtain⟨a,o,d,n,rfl,b,c,_⟩:=h;exact⟨_,b,c⟩
def Y4(h:A.units<eM)(c:Tk s.heap v x)(g:Tk s.heap u y)(q:Q (tl x y) s):ay (aD prog w) A (keyLt' general' v u) Q E s:=by
 have f:=c;have d:=g;obtain⟨a,_,_,_,rfl,_⟩:=f;obtain⟨b,_,_,_,rfl,_⟩:=d;refine kat_one _ _ (wpAny_richCompare_same_room (op:=.Lt) c.typeIs g.typeIs vE
  (bH vE c.typeIs F.entry_tuple_lt (vK c g ⟨_,rfl,(λe=>nomatch e),q⟩) (F.args_tuple_lt_2 _ _)) h)
def Y5(g:A.units<eM)(c:Tk s.heap v x)(f:Tk s.heap u y)(q:Q (tl x y) s):ay (aD prog w) A (keyLt' oneType' v u) Q E s:=by
 have e:=c;have d:=f;obtain⟨a,_,_,_,rfl,_⟩:=e;obtain⟨b,_,_,_,rfl,_⟩:=d;rw[keyLt'_oneType,oneLt'_eq];simp only[if_true];refine a9 (wpAny_cRoomFor_or (.inr g) ?_);refine a9 (wpAny_callSpecialIfBound?_slot c.typeIs vE (bH vE c.typeIs F.entry_tuple_lt (vK c f ⟨_,rfl,?_⟩) (F.args_tuple_lt_2 _ _)));exact dD q
end
def Y6{x y:Str}(h:x.cps.toList=y.cps.toList):x=y:=by
 cases x;cases y;exact congrArg _ (zR.1 h)
theorem tl_irrefl:∀x:List Str,tl x x=false
 |[]=>rfl
 |x::xs=>by rw[xx,if_pos rfl];exact tl_irrefl xs
theorem tl_total:∀x y:List Str,tl x y=false->tl y x=false->x=y
 |[],[],_,_=>rfl
 |[],_::_,h,_=>by cases h
 |_::_,[],_,h=>by cases h
 |x::xs,y::ys,a,b=>by
  rw[xx] at a b;by_cases e:x=y
  ·subst e;rw[if_pos rfl] at a b;rw[tl_total xs ys a b]
  ·rw[if_neg e] at a;rw[if_neg (dO e)] at b;exact absurd (Y6 (PyProof.Rows.strKind.total x.cps.toList y.cps.toList a b)) e
theorem tl_trans:∀x y z:List Str,tl x y=true->tl y z=true->tl x z=true
 |[],_,[],b,a=>by
  rename_i y
  cases y with
  |nil=>cases b
  |cons=>cases a
 |[],_,_::_,_,_=>rfl
 |_::_,[],_,h,_=>by cases h
 |_::_,_::_,[],_,h=>by cases h
 |x::xs,y::ys,z::f,b,a=>by
  rw[xx] at b a ⊢;by_cases e:x=y
  ·subst e;rw[if_pos rfl] at b;by_cases c:x=z
   ·subst c;rw[if_pos rfl] at a ⊢;exact tl_trans xs ys f b a
   ·rw[if_neg c] at a ⊢;exact a
  ·rw[if_neg e] at b;by_cases c:y=z
   ·subst c;rw[if_neg e];exact b
   ·rw[if_neg c] at a;have d:=PyProof.Rows.strKind.trans x.cps.toList y.cps.toList z.cps.toList b a;rw[if_neg λg=>by subst g;rw[PyProof.Rows.strKind.irrefl] at d;cases d];exact d
theorem DJ{c:Type}{p q:c->Bool}:∀{l:List c}{a:c},(∀z∈l,p z=true->q z=true)->a∈l->p a=false->q a=true->l.countP p<l.countP q
 |b::l,a,h,ha,f,e=>by
  rw[SZ,SZ];have mono:l.countP p<=l.countP q:=List.countP_mono_left λz hz=>h z (ak _ hz);rcases bg.1 ha with rfl|ha
  ·rw[if_neg (by simp[f]),if_pos e];omega
  ·have:=DJ (λz hz=>h z (ak _ hz)) ha f e;have g:=h b (aq ..);cases d:p b with
   |false=>simp;split<;>omega
   |true=>rw[g d];simp;omega
def Hl(xs:List (List Str))(x:List Str):Nat:=xs.countP λy=>tl y x
def Mb(a:x∈xs)(h:tl x y=true):Hl xs x<Hl xs y:=
 DJ (λz _ hz=>tl_trans z x y hz h) a (tl_irrefl x) h
def xy(c:x∈xs)(b:y∈xs):decide (Hl xs x<Hl xs y)=tl x y:=by
 cases h:tl x y with
 |true=>exact decide_eq_true (Mb c h)
 |false=>
  refine decide_eq_false λd=>?_;cases a:tl y x with
  |true=>have:=Mb b a;omega
  |false=>rw[tl_total x y h a] at d;omega
def Rp(a:x∈xs)(b:y∈xs)(h:Hl xs x=Hl xs y):x=y:=by
 refine tl_total x y ?_ ?_
 ·rw[<- xy a b];simp[h]
 ·rw[<- xy b a];simp[h]
theorem Ss.inj:∀{c:List ai}{x y:List Str},Ss c x->Ss c y->x=y
 |[],[],[],_,_=>rfl
 |v::c,x::xs,y::ys,a,b=>by
  obtain⟨⟨t,rfl⟩,a⟩:=a;obtain⟨⟨t',e⟩,b⟩:=b;cases e;rw[Ss.inj a b]
 |[],_::_,_,h,_=>h.elim
 |[],[],_::_,_,h=>h.elim
 |_::_,[],_,h,_=>h.elim
 |_::_,_::_,[],_,h=>h.elim
theorem Tk.inj(d:Tk h v x)(g:Tk h v y):x=y:=by
 obtain⟨a,o,l,n,rfl,e,_,i,j⟩:=d;obtain⟨_,o',p,m,f,b,_,c,k⟩:=g;cases f;rw[e] at b;cases b;rw[i] at c;cases c;exact j.inj k
def Tks(h:bZ):List ai->List (List Str)->Prop
 |[],[]=>True
 |v::a,x::xs=>Tk h v x/\Tks h a xs
 |_,_=>False
theorem Tks.len:∀{a:List ai}{xs:List (List Str)},Tks h a xs->a.length=xs.length
 |[],[],_=>rfl
 |_::_,_::_,t=>congrArg (· + 1) t.2.len
 |[],_::_,t=>t.elim
 |_::_,[],t=>t.elim
theorem Tks.mem:∀{a:List ai}{xs:List (List Str)},Tks h a xs->v∈a->∃x∈xs,Tk h v x
 |c::a,x::xs,t,hm=>by
  rcases bg.1 hm with rfl|hm
  ·exact⟨x,aq ..,t.1⟩
  ·obtain⟨y,b,e⟩:=Tks.mem t.2 hm;exact⟨y,ak _ b,e⟩
 |[],_,_,hm=>by cases hm
 |_::_,[],t,_=>t.elim
theorem Tks.keep(k:∀v x,Tk h v x->Tk h' v x):∀{a:List ai}{xs:List (List Str)},Tks h a xs->Tks h' a xs
 |[],[],_=>trivial
 |_::_,_::_,t=>⟨k _ _ t.1,Tks.keep k t.2⟩
 |[],_::_,t=>t.elim
 |_::_,[],t=>t.elim
def Tks.perm:∀{d a:List ai}{xs:List (List Str)},d.Perm a->Tks h a xs->∃ys,Tks h d ys/\ys.Perm xs:=by
 intro d a xs p;induction p generalizing xs with
 |nil=>exact λt=>⟨xs,t,.refl _⟩
 |cons v p e=>
  intro t;cases xs with
  |nil=>exact t.elim
  |cons x xs=>
   obtain⟨ys,c,b⟩:=e t.2;exact⟨x::ys,⟨t.1,c⟩,b.cons x⟩
 |swap v u l=>
  intro t
  match xs,t with
  |x::y::xs,t=>exact⟨y::x::xs,⟨t.2.1,t.1,t.2.2⟩,.swap x y xs⟩
  |[_],t=>exact t.2.elim
  |[],t=>exact t.elim
 |trans p q ih1 ih2=>
  intro t;obtain⟨ys,c,b⟩:=ih2 t;obtain⟨f,i,g⟩:=ih1 c;exact⟨f,i,g.trans b⟩
open Classical in
noncomputable def NM (h:bZ) (xs:List (List Str)) (v:ai):Nat:=if e:∃x,Tk h v x then Hl xs e.choose else 0
def uM(t:Tk h v x):NM h xs v=Hl xs x:=by
 have e:∃x,Tk h v x:=⟨x,t⟩;unfold NM;rw[dif_pos e,e.choose_spec.inj t]
def Kd(kd:nu):Prop:=kd=tuples' true\/kd=general'\/kd=oneType'
def q0a(d:A.units<eM)(k:Kd kd)(t:Tks s.heap vs xs):Cp prog w A s kd (NM s.heap xs) (vs.zip vs):=by
 intro x i y e Q E q;obtain⟨l,j⟩:=Cz i;obtain⟨m,g⟩:=Cz e;obtain⟨a,f,c⟩:=t.mem j;obtain⟨b,h,tb⟩:=t.mem g;rw[uM c,uM tb,xy f h] at q;rcases k with rfl|rfl|rfl
 ·exact UR c tb q
 ·exact Y4 d c tb q
 ·exact Y5 d c tb q
theorem Hm:∀{a:List ai}{xs ys:List (List Str)}{h:bZ},Tks h a xs->(∀x∈xs,x∈ys)->xs.Nodup->((a.zip a).map λp=>NM h ys p.1).Nodup
 |[],[],_,_,_,_,_=>i5
 |v::a,x::xs,ys,h,t,s,n=>by
  rw[y0,aC,lF];refine⟨λc=>?_,Hm t.2 (λx f=>s x (ak _ f)) (lF.1 n).2⟩;obtain⟨p,d,e⟩:=m6.1 c;obtain⟨y,b,ty⟩:=t.2.mem (Cz d).2;rw[uM ty,uM t.1] at e;rw[Rp (s y (ak _ b)) (s x (aq ..)) e] at b;exact(lF.1 n).1 b
 |[],_::_,_,_,t,_,_=>t.elim
 |_::_,[],_,_,t,_,_=>t.elim
def Rq(t:Tk s.heap v x)(q:∀o,(o=none\/∃b u,o=some (.str b u))->Q o s):ay (aD prog w) A (firstOfTuple' v) Q E s:=by
 obtain⟨a,o,d,n,rfl,c,f,g,e⟩:=t;rw[kas_first_eq];refine a9 (Looks.here (show Looks (aD prog w) s.heap (typeOf (.ref a)) o.cls from(Looks.ld c).andThen .now) ?_);rw[f,if_neg (by first|decide|simp)];refine a9 (listItems_at c g (aa (q _ ?_)));rw[<- aW]
 match d.toList,x,e with
 |[],[],_=>exact .inl rfl
 |v::d,x::xs,h=>obtain⟨⟨t,rfl⟩,_⟩:=h;exact .inr ⟨x,t,rfl⟩
theorem DK:∀{c:List ai}{xs:List (List Str)}{Q:List (Option ai)->au->Prop},Tks s.heap c xs->(∀d:List (Option ai),d.length=c.length->(∀o∈d,o=none\/∃b u,o=some (.str b u))->Q d s)->ay (aD prog w) A (c.mapM firstOfTuple') Q E s
 |[],[],_,_,q=>by rw[List.mapM_nil];exact aa (q [] rfl (by simp))
 |v::c,x::xs,Q,t,q=>by
  rw[List.mapM_cons];refine a9 (Rq t.1 λo ho=>a9 (DK t.2 λd e f=>aa (q _ (by simp[e]) ?_)));intro o' a;rcases bg.1 a with rfl|a
  ·exact ho
  ·exact f _ a
 |[],_::_,_,t,_=>t.elim
 |_::_,[],_,t,_=>t.elim
def Rr{b:List ai}{T:ai}{Q:Option ai->au->Prop}(e:0<b.length)(hT:∀v∈b,Looks (aD prog w) s.heap (typeOf v) T)(c:(T==T)=true)(q:Q (some T) s):ay (aD prog w) A (oneTypeOnly' b.toArray) Q E s:=by
 match b,e with
 |v::b,_=>
  rw[oneTypeOnly'_eq,P7,map_eq_pure_bind];refine a9 (a9 (kas_mapM (r:=T) _ (λv f h d=>(hT v f).here d) (aa ?_)));have a:((nJ (λ_=>T) (v::b)).toArray.all λx=>x==T)=true:=by
   simp only[List.all_toArray,tx,cA];intro _ _;exact c
  have g:(nJ (λ_=>T) (v::b)).toArray[0]?=some T:=by simp
  rw[g];simp only[a,if_true];exact aa q
def US{i:List ai}{xs:List (List Str)}{Q:nu->au->Prop}(z:2<=i.length)(t:Tks s.heap i xs)(q:∀kd,Kd kd->Q kd s):ay (aD prog w) A (keyKind' i.toArray) Q E s:=by
 rw[kat_kind_eq,P7,map_eq_pure_bind];refine a9 (a9 (DK t λc B p=>aa ?_));by_cases d:(c.toArray.all λx=>x.isSome)=true
 ·rw[if_pos d];refine a9 (dk ?_);have hs:∀o∈c,∃b u,o=some (.str b u):=λo ho=>by
   rcases p o ho with rfl|h
   ·simp at d;have:=d _ ho;cases this
   ·exact h
  have f:c.toArray.filterMap id=(c.filterMap id).toArray:=by simp
  rw[f];have y:(c.filterMap id).length=c.length:=by
   have:∀c:List (Option ai),(∀o∈c,∃b u,o=some (.str b u))->(c.filterMap id).length=c.length:=by
    intro c;induction c with
    |nil=>intro _;rfl
    |cons o c k=>
     intro hs;obtain⟨b,u,rfl⟩:=hs o (aq ..);rw[iQ];simp only[id];rw[aX,k λo ho=>hs o (ak _ ho)];rfl
   exact this c hs
  refine a9 (Rr (T:=.type "str") ∅ (λv g=>?_) (by rfl) (aa (q _ (.inl rfl))));obtain⟨o,ho,e⟩:=OR.1 g;obtain⟨b,u,rfl⟩:=hs o ho;cases e;exact .now
 ·rw[if_neg d];by_cases j:(c.toArray[0]?.bind id).isSome=true
  ·rw[if_pos j];exact aa (q _ (.inr (.inl rfl)))
  ·rw[if_neg j];refine a9 (Rr (T:=.type "tuple") ∅ (λv g=>?_) (by rfl) (aa (q _ (.inr (.inr rfl)))));obtain⟨x,_,a,o,G,n,rfl,l,m,_⟩:=t.mem g;rw[<- m];exact(Looks.ld l).andThen .now
theorem Tks.inj:∀{c:List ai}{xs ys:List (List Str)},Tks h c xs->Tks h c ys->xs=ys
 |[],[],[],_,_=>rfl
 |_::_,_::_,_::_,b,a=>by rw[b.1.inj a.1,Tks.inj b.2 a.2]
 |[],_::_,_,t,_=>t.elim
 |[],[],_::_,_,t=>t.elim
 |_::_,[],_,t,_=>t.elim
 |_::_,_::_,[],_,t=>t.elim
def Tk.keepNe(g:h.get? a=some (kw "list" vs n))(k:∀b o,b≠a->h.get? b=some o->h'.get? b=some o)(v:ai)(x:List Str)(t:Tk h v x):Tk h' v x:=by
 obtain⟨b,o,f,m,rfl,c,d,i⟩:=t;refine⟨b,o,f,m,rfl,k b o (λe=>?_) c,d,i⟩;subst e;rw[g] at c;cases c;simp at d
def UT{a:List ai}{xs:List cZ}(p:xs.Perm (a.zip a)):(xs.map (·.2)).Perm a/\xs.map (·.1)=xs.map (·.2):=by
 refine⟨?_,gP λc b=>(Cz (p.mem_iff.1 b)).1⟩;have:=p.map (·.2)
 rwa[S_ (aA _)] at this
theorem Bn:∀{xs:List cZ}{e:List (List Str)},Tks h (xs.map (·.1)) e->(∀z∈e,z∈ys)->xs.Pairwise (Y0 (NM h ys))->e.Pairwise (λa b=>tl a b=true)
 |[],[],_,_,_=>tH
 |x::xs,z::e,t,f,p=>by
  have g:=lJ.1 p;refine lJ.2 ⟨λb hb=>?_,Bn t.2 (λz hz=>f z (ak _ hz)) g.2⟩;have:∀{d:List cZ}{c:List (List Str)},Tks h (d.map (·.1)) c->b∈c->∃u∈d,Tk h u.1 b:=by
   intro d;induction d with
   |nil=>intro c t hb;cases c with
    |nil=>cases hb
    |cons=>exact t.elim
   |cons u d i=>intro c t hb;cases c with
    |nil=>cases hb
    |cons w c=>
     rcases bg.1 hb with rfl|hb
     ·exact⟨u,aq ..,t.1⟩
     ·obtain⟨o,j,m⟩:=i t.2 hb;exact⟨o,ak _ j,m⟩
  obtain⟨u,n,k⟩:=this t.2 hb;have l:=g.1 u n;unfold Y0 at l;rw[uM t.1,uM k] at l;rw[<- xy (f z (aq ..)) (f b (ak _ hb))];exact decide_eq_true l
 |[],_::_,t,_,_=>t.elim
 |_::_,[],t,_,_=>t.elim
def q0b(u:Up rk a 0 a.size):a.toList.Pairwise (Y0 rk):=by
 rw[qL];intro i j f e c;have b:i<a.size:=by simpa using f
 have d:j<a.size:=by simpa using e
 have:=u i j (ca _) c ∅;rw[bY (bq b),bY (bq d)] at this;exact this
def Ho{a:av}{c:List ai}{xs:List (List Str)}{n:Nat}{P:Fin->au->Prop}(O:A.units<eM)(ho:s.heap.get? a=some (kw "list" c.toArray n))
  (t:Tks s.heap c xs) (Y:xs.Nodup) (U:c.length<=64)
  (h:∀(g:List ai) (i:List (List Str)),g.Perm c->Tks s.heap g i->i.Perm xs->i.Pairwise (λa b=>tl a b=true)->P (.done (.ret .none)) {s with heap:=sortedHeap s.heap a c g.toArray}):
  ay (aD prog w) A (js.«list.sort» ⟨[.ref a],[]⟩) P E s:=by
 rw[list_sort_plain];have I:a<s.heap.objs.size:=aB ho;have B:c.length<=sizeLine:=by rw[il];omega
 refine a9 (listItems_at ho rfl ?_);refine a9 (MW ho rfl ?_ (by simpa using B) (ca _));obtain⟨G,k⟩:∃G,(s.heap.update a (de λ_=>#[])).get? a=some (kw "list" #[] G):=⟨_,get?_update_seq ho (λ_=>#[])⟩;refine a9 (Tz k rfl ?_);refine a9 (wpAny_newTuple ?_ (by simpa using B));refine a9 (MQ ?_ (ca _));refine cH ?_;have f:(((s.heap.update a (de λ_=>#[])).push (kw "tuple" c.toArray 0)).push (kw "list" #[] 0)).get? a=some (kw "list" #[] G):=by
  rw[P8 _ _ _ (by rw[size_push',sO];exact aM (eu I)),P8 _ _ _ (by rw[sO];exact aM I)];exact k
 have p:Tks (((s.heap.update a (de λ_=>#[])).push (kw "tuple" c.toArray 0)).push (kw "list" #[] 0)) c xs:=
  t.keep (Tk.keepNe ho λb o x e=>ah _ (ah _ ((dE _ _ (dO x)).trans e)))
 show ay (aD prog w) A _ P E {s with heap:=((s.heap.update a (de λ_=>#[])).push (kw "tuple" c.toArray 0)).push (kw "list" #[] 0)};dsimp only;have hsz:c.toArray.size=c.length:=by simp
 by_cases v:c.toArray.size<2
 ·rw[if_pos v,if_pos v];refine a9 (aa ?_);rw[StateT.run_pure];refine a9 (aa ?_);dsimp only;refine a9 (Tz f rfl ?_);refine a9 (MW f rfl ?_ (hsz2:=by rw[lZ,Array.size_zip,ba,Jt];exact rJ B));simp only[bne_self_eq_false,aV,if_false];have e:(c.toArray.zip c.toArray).map (·.2)=c.toArray:=by
   apply zR.1;rw[Array.toList_map,P9,S_ (aA _)]
  refine aa ?_;have:=h c xs (.refl _) t (.refl _) (by
   have:=t.len
   match xs,this with
   |[],_=>exact .nil
   |[_],_=>exact sP ..
   |_::_::_,e=>simp at e;omega)
  rw[<- e] at this;exact this
 ·rw[if_neg v,if_neg v];refine a9 (US ∅ p λkd X=>?_);refine a9 (cz (Y3 (kd:=kd) (L:=c.zip c) (st:=SortSt.mk' kd (c.toArray.zip c.toArray) #[] 7 none)
   (Q:=λ_ d=>(aZ d).toList.Perm (c.zip c)/\ym d=none/\Up (NM _ xs) (aZ d) 0 (c.zip c).length)
   (q0a O X p) (Hm p (λ_ h=>h) Y) ⟨rfl,by rw[P9],rfl⟩ rfl (by rw[tJ];omega) (by rw[tJ];omega) λd b u=>⟨b.perm,b.ok,u⟩) ?_ λ_ _ e=>e)
  rintro⟨⟨⟩,d⟩ s' ⟨rfl,M,T,hs⟩;dsimp only;have l:(aZ d).size=c.length:=by
   have:=M.length_eq;rw[az,tJ,Jt] at this;exact this
  refine a9 (Tz f rfl ?_);refine a9 (MW f rfl ?_ (hsz2:=by rw[lZ];show(aZ d).size<=_;rw[l,il];omega));rw[T];simp only[bne_self_eq_false,aV,if_false];refine aa ?_;obtain⟨y,K⟩:=UT M;obtain⟨ys,q,N⟩:=p.perm y;obtain⟨j,H,S⟩:=t.perm y;rw[<- K] at q;have m:(c.zip c).length=(aZ d).size:=by rw[tJ,l,Jt]
  rw[m] at hs;have so:=Bn (ys:=xs) q (λz hz=>N.mem_iff.1 hz) (q0b hs);have:j=ys:=by
   rw[K] at q;exact Tks.inj (H.keep (Tk.keepNe ho λb o x e=>ah _ (ah _ ((dE _ _ (dO x)).trans e)))) q
  subst this;have:=h _ j y H S so;have e:(aZ d).map (·.2)=((aZ d).toList.map (·.2)).toArray:=by apply zR.1;simp
  rw[<- e] at this;exact this
def sorted_T(N:A.units+2<eM)(u:ay (aD prog w) A.in1 (qR x) (λf s1=>∃xs,Tks s1.heap f xs/\xs.Nodup/\f.length<=64 /\
   ∀(h':bZ) (c:List ai) (d:List (List Str)) (e:Nat),(∀b o,s1.heap.get? b=some o->h'.get? b=some o)->h'.get? s1.heap.objs.size=some (kw "list" c.toArray e)->c.Perm f->Tks s1.heap c d->d.Perm xs->d.Pairwise (λa b=>tl a b=true) ->
    Q (.ref s1.heap.objs.size) {s1 with heap:=h'}) E s):ay (aD prog w) A (call (.builtin "sorted") [x]) Q E s:=by
 refine qu kind_sorted plain_sorted entry_sorted (args_sorted1 _) ?_;unfold js.«sorted»;refine a9 (m:=checkCount "sorted" 1 1 _) (aa ?_);refine a9 (cz u (λf s1 z=>?_) λ_ _ z=>z);obtain⟨xs,t,L,h,y⟩:=z;refine a9 (MQ ?_ (by rw[il];omega));have g:(s1.heap.push (kw "list" f.toArray 0)).get? s1.heap.objs.size=some (kw "list" f.toArray 0):=aE _ rfl;show ay _ _ _ _ _ {s1 with heap:=s1.heap.push (kw "list" f.toArray 0)};have k:∀v x,Tk s1.heap v x->Tk (s1.heap.push (kw "list" f.toArray 0)) v x:=λv x ⟨b,o,I,m,B,G,M⟩=>⟨b,o,I,m,B,ah _ G,M⟩;refine a9 (cH (bH slot_list_sort ⟨_,g,rfl⟩ entry_list_sort (Ho (by show A.units+1+1<eM;omega) g (t.keep k) L h λc d j H p K=>⟨_,rfl,?_⟩) (args_list_sort _)));obtain⟨e,i⟩:=sortedHeap_at (out:=c.toArray) g;obtain⟨ys,n,O⟩:=t.perm j;obtain rfl:ys=d:=(n.keep k).inj H;refine aa ⟨_,rfl,y _ _ ys e (λb o q=>?_) i j n p K⟩;have l:=aB q;rw[sortedHeap_old (aM l) (by rw[size_push'];exact eu l)];exact ah _ q
end TS
namespace L2
open PySem PySem.Spec PyProof.Rows PySem.W
def NN(x:List Str):List (List Str)->List (List Str)
 |[]=>[x]
 |y::l=>if TS.tl x y=true then x::y::l else y::NN x l
def mj:List (List Str)->List (List Str)
 |[]=>[]
 |x::l=>NN x (mj l)
theorem yD(x:List Str):∀l,(NN x l).Perm (x::l)
 |[]=>.refl _
 |y::l=>by
  unfold NN;split
  ·exact .refl _
  ·exact((yD x l).cons y).trans (.swap x y l)
theorem oT:∀l,(mj l).Perm l
 |[]=>.refl _
 |x::l=>(yD x _).trans ((oT l).cons x)
abbrev YG(l:List (List Str)):Prop:=l.Pairwise λa b=>TS.tl a b=true
theorem Mc:∀{l:List (List Str)},YG l->x∉l->YG (NN x l)
 |[],_,_=>sP ..
 |y::l,h,a=>by
  have h':=lJ.1 h;unfold NN;split
  ·rename_i e
   refine lJ.2 ⟨λz hz=>?_,h⟩;rcases bg.1 hz with rfl|hz
   ·exact e
   ·exact TS.tl_trans x y z e (h'.1 z hz)
  ·rename_i e
   refine lJ.2 ⟨λz hz=>?_,Mc h'.2 λq=>a (ak _ q)⟩;rcases bg.1 ((yD x l).mem_iff.1 hz) with rfl|hz
   ·cases q:TS.tl y z with
    |true=>rfl
    |false=>exact absurd (bg.2 (.inl (TS.tl_total z y (by simpa using e) q))) a
   ·exact h'.1 z hz
theorem Hq:∀{l:List (List Str)},l.Nodup->YG (mj l)
 |[],_=>.nil
 |x::l,h=>Mc (Hq (lF.1 h).2) λq=>(lF.1 h).1 ((oT l).mem_iff.1 q)
def Y7(e:YG l)(d:YG m)(p:l.Perm m):l=m:=
 List.Perm.eq_of_pairwise (le:=λa b=>TS.tl a b=true) (λa b _ _ c f=>by
  have:=TS.tl_trans a b a c f;rw[TS.tl_irrefl] at this;cases this) e d p
def Hr(n:l.Nodup)(p:l'.Perm l)(h:YG l'):l'=mj l:=Y7 h (Hq n) (p.trans (oT l).symm)
def wK(H:Hp):List av->List (List Str)->Prop
 |[],[]=>True
 |a::b,x::xs=>H a=some (.tup (x.map V.str))/\wK H b xs
 |_,_=>False
def Ht{pins σ H s}(I:ck X pins σ H s)(h:H a=some (.tup (x.map V.str))):TS.Tk s.heap (.ref a) x:=by
 obtain⟨b,r,⟨o,d,g,n,f⟩,_⟩:=I.tuple (.inl (.of h));refine⟨a,o,b.toArray,n,rfl,d,g,f,?_⟩;have:∀{c:List ai}{x:List Str},tm c x->TS.Ss c x:=by
  intro c x q;induction q with
  |nil=>trivial
  |cons x t _ e=>exact⟨⟨t,rfl⟩,e⟩
 exact this (k7 r)
theorem Bo{pins σ H s}(I:ck X pins σ H s):∀{a:List av}{xs:List (List Str)},wK H a xs->TS.Tks s.heap (a.map bi) xs
 |[],[],_=>trivial
 |_::_,_::_,t=>⟨Ht I t.1,Bo I t.2⟩
 |[],_::_,t=>t.elim
 |_::_,[],t=>t.elim
theorem wK.mem:∀{c:List av}{xs:List (List Str)},wK H c xs->a∈c->∃x:List Str,H a=some (.tup (x.map V.str))
 |b::c,x::xs,t,h=>by
  rcases bg.1 h with rfl|h
  ·exact⟨x,t.1⟩
  ·exact wK.mem t.2 h
 |[],_,_,h=>by cases h
 |_::_,[],t,_=>t.elim
theorem Rs{pins σ H s}(I:ck X pins σ H s)(t:wK H as xs):∀{bs:List av}{ys:List (List Str)},(∀b∈bs,b∈as)->TS.Tks s.heap (bs.map bi) ys->wK H bs ys
 |[],[],_,_=>trivial
 |b::bs,y::ys,h,q=>by
  obtain⟨x,e⟩:=t.mem (h b (aq ..));rw[(Ht I e).inj q.1] at e;exact⟨e,Rs I t (λb a=>h b (ak _ a)) q.2⟩
 |[],_::_,_,q=>q.elim
 |_::_,[],_,q=>q.elim
theorem F8:∀{a:List av}{b:List ai},eT (a.map V.ref) b->b=a.map bi
 |[],_,.nil=>rfl
 |_::_,_,.cons r t=>by cases r;rw[F8 t];rfl
theorem uN:∀b:List av,eT (b.map V.ref) (b.map bi)
 |[]=>.nil
 |a::b=>.cons rfl (uN b)
def yE(p:us.Perm (as.map bi)):∃bs:List av,us=bs.map bi/\bs.Perm as:=by
 refine⟨us.map λv=>match v with | .ref a=>a|_=>0,?_,?_⟩
 ·rw[cK];refine(AI us).symm.trans (gP λv b=>?_);obtain⟨a,_,rfl⟩:=m6.1 (p.mem_iff.1 b);rfl
 ·have:=p.map λv=>match v with | .ref a=>a|_=>(0:av)
  rw[cK] at this;refine this.trans (Lj ?_);exact(gP λa _=>rfl).trans (AI as)
def Bp{pins σ H s}(G:X.A.units+2<eM)(I:ck X pins σ H s)(t:wK H as xs)(y:xs.Nodup)(hz:as.length<=64)
  (M:∀(P:List ai->au->Prop),(∀(h':bZ) (j:Nat),(∀b o,s.heap.get? b=some o->h'.get? b=some o)->s.heap.objs.size<=h'.objs.size->P (as.map bi) {s with heap:=h',toks:=j})->ay (aD X.prog X.w) X.A.in1 (qR v) P X.xe s)
  (q:∀l bs,H l=none->bs.Perm as->wK H bs (mj xs)->Q (.ref l) (upd H l (.lst (bs.map V.ref)))):
  ay (aD X.prog X.w) X.A (call (.builtin "sorted") [v]) (EP X pins σ Q) X.xe s:=by
 refine TS.sorted_T G (M _ λh' j kp sz=>⟨xs,(Bo I t).keep ?_,y,by rw[ao];exact hz,λz K ys e a g n E B u=>?_⟩)
 ·exact λv x ⟨b,o,h,m,d,f,k⟩=>⟨b,o,h,m,d,kp b o f,k⟩
 ·obtain⟨bs,rfl,c⟩:=yE n;obtain rfl:=Hr y B u;obtain⟨ys,p,_⟩:=(Bo I t).perm n;have:=(p.keep λv x ⟨b,o,h,m,d,f,k⟩=>(⟨b,o,h,m,d,kp b o f,k⟩:TS.Tk h' v x)).inj E;subst this;have L:∀b o,s.heap.get? b=some o->z.get? b=some o:=λb o e=>a b o (kp b o e);have i:dQ X.prog X.w (upd H h'.objs.size (.lst (bs.map V.ref))) z h'.objs.size (.lst (bs.map V.ref)):=
   ⟨by rw[ao,c.length_eq];exact c8 hz (by rw[il];decide),bs.map bi,e,uN bs,g⟩
  exact⟨.ref h'.objs.size,_,I.laid (t':=j) L sz i,rfl,q _ bs (I.hok.fresh sz) c (Rs I t (λb N=>c.mem_iff.1 N) p)⟩
def UU(hs:(d==ft)=false)(f:o.ExactDict)(ho:o.data=.dict es ep):
  KdlSrc prog w "dict" d d es.size (λi v=>∃e,es[i]?=some e/\v=e.key) (λh=>h.get? d=some o) where
 type:=λs e=>⟨o,e,f.1⟩
 there:=λh e=>⟨aB e,aB e⟩
 keep:=λh h' e k=>k d (.inl rfl) o e
 notList:=by decide
 notTuple:=by decide
 hint:=λA E s Q e q=>kdl_hint_dict ⟨o,e,f.1⟩ q
 iter:=λA s l e=>by
  refine⟨{cls:=.type "dict_keyiterator",data:=.fields #[.ref d,.int 0 0,.int es.size 0,.int ep 0]},λi h=>h.IsKeyIter s.heap.objs.size d i es.size ep/\h.get? d=some o,λE Q q=>XR hs e f ho q,?_,⟨_,aE _ rfl,rfl,rfl⟩,ah _ e⟩;have ne:d≠s.heap.objs.size:=aM (aB e);refine⟨by simp,λi h h' st k=>⟨st.1.at λo q=>k _ (by simp) o q,k _ (by simp) o st.2⟩,λi s' Q E g st q=>?_,λs' Q E st q=>?_,λi s' Q E st q=>wpAny_pyIter_keyiter st.1 q⟩
  ·refine UM st.1 st.2 ho (bq g) λh' c j=>q _ h' s'.toks ⟨_,bq g,rfl⟩ ⟨c,(j.2 d ne).trans st.2⟩ λb o a e=>(j.2 b (by simpa using a)).trans e
  ·exact XQ l st.1 st.2 ho (aA _) λh' m=>q h' s'.toks λb o a e=>m b o (by simpa using a) e
def F9(x:A.handled=none)(hs:(d==ft)=false)(z:o.ExactDict)(ho:o.data=.dict es ep)(p:s.heap.get? d=some o)(hz:es.size<=sizeLine)
  (h:∀(t:List ai) (h':bZ) (m:Nat),t=es.toList.map (·.key)->(∀b o,s.heap.get? b=some o->h'.get? b=some o)->s.heap.objs.size<=h'.objs.size->Q t {s with heap:=h',toks:=m}):
  ay (aD prog w) A (qR (.ref d)) Q E s:=by
 have i:=aB p;unfold qR;refine a9 (rN (dC nG ?_));rw[cw nH _];show ay _ A.in1 (Cm []>>=λl=>again (.builtin "list.__iadd__" ⟨[l,.ref d],[]⟩)) _ _ s;refine a9 (bD ?_);refine aa ⟨im gN _,dC sM ?_⟩;rw[cw gN _];have k:(s.heap.push {cls:=.type "list",data:=.seq ([]:List ai).toArray}).get? s.heap.objs.size=some {cls:=.type "list",data:=.seq ([]:List ai).toArray}:=aE _ rfl;show ay _ A.in1 (eS (.ref s.heap.objs.size) (.ref d) (.ref s.heap.objs.size)) _ _ {s with heap:=s.heap.push {cls:=.type "list",data:=.seq ([]:List ai).toArray}};refine kdl_extend (R:=λr s'=>match r with | .ok (.ret v)=>ay (aD prog w) A (match v with | .ref a=>(do let o <- load a;match o.data with | .seq xs _=>pure xs.toList|_=>kS "internal:collect")|_=>kS "internal:collect") Q E s' | .ok _=>False | .error e=>E e s') (s:={s with heap:=s.heap.push {cls:=.type "list",data:=.seq ([]:List ai).toArray}}) (UU hs z ho) (by simpa using x) (ah _ p) s.heap.objs.size (eZ i) (eZ i) _ 0 k (λh' m f c kp g n=>?_) hz;show ay _ A (load s.heap.objs.size>>=_) _ _ _;refine a9 (AC g (aa ?_));refine h _ h' m ?_ (λb o e=>kp b o (aM (aB e)) (ah _ e)) (cB (aB g));apply zd;intro j;rw[aW,aP,aW];by_cases q:j<f.size
 ·obtain⟨e,u,y⟩:=n.2 j f[j] (bq q);rw[u,bq q,y];rfl
 ·rw[eG ∅,eG (by rw[<- n.1];omega)];rfl
theorem Hu{P:bj}{w:bF}{H:Hp}{es:Array y_}:∀{a:List (List iL×V)}{xs:List (List Str)}{l:List y_},l.length=a.length->a.map (·.1)=xs.map (λx=>x.map jU) ->
  (∀(i:Nat) (k:List iL) (v:V),a[i]?=some (k,v)->∃(f:y_) (b:av),l[i]?=some f/\f.key=bi b/\H b=some (.tup (k.map kV)))->∃e:List av,l.map (·.key)=e.map bi/\wK H e xs
 |[],[],[],_,_,_=>⟨[],rfl,trivial⟩
 |(k,v)::a,x::xs,f::l,d,c,h=>by
  obtain⟨o,b,n,s,t⟩:=h 0 k v rfl;cases n;rw[aC,aC] at c;obtain⟨j,g⟩:=AH c;have j:k=x.map jU:=j;subst j;obtain⟨e,m,p⟩:=Hu (P:=P) (w:=w) (H:=H) (es:=es) (l:=l) (by simpa using d) g λi k v q=>h (i+1) k v q;refine⟨b::e,by rw[aC,aC,s,m],?_,p⟩;rw[t,cK];rfl
 |[],_::_,_,_,c,_=>by cases c
 |_::_,[],_,_,c,_=>by cases c
 |[],[],_::_,d,_,_=>by cases d
 |_::_,_::_,[],d,_,_=>by cases d
def Br(g:X.A.units+2<eM):kL X (.builtin "sorted") (λxs H Q=>∃p a ts,xs=[.ref p]/\sQ X.K H p (a.map V.ref)/\wK H a ts/\ts.Nodup/\a.length<=64/\∀l bs,H l=none->bs.Perm a->wK H bs (mj ts)->Q (.ref l) (upd H l (.lst (bs.map V.ref)))):=by
 intro d s w H xs x Q I r h;obtain⟨p,a,ts,rfl,i,t,m,hz,q⟩:=h;obtain⟨u,rfl,f⟩:=md r;cases f;obtain⟨j,v,pl,c⟩:=I.list i;obtain rfl:=F8 v;refine Bp g I t m hz (λP n=>collect_list pl.isList ?_ (by rw[ao] at c ⊢;exact c)) q;refine n _ s.toks (λb o e=>?_) ?_
 ·have k:=aB e;exact(dE _ _ (eZ k)).trans (ah _ e)
 ·rw[sO,cf];exact jr _
def Bt(E:X.calm=true)(z:X.A.units+2<eM):kL X (.builtin "sorted") (λxs H Q=>∃p o a ts,xs=[.ref p]/\H p=some (.frz o (.dT a))/\a.map (·.1)=ts.map (λx=>x.map jU)/\ts.Nodup/\ts.length<=64/\∀l bs,H l=none->wK H bs (mj ts)->Q (.ref l) (upd H l (.lst (bs.map V.ref)))):=by
 intro e s σ H xs us Q I r h;obtain⟨p,o,a,ts,rfl,G,g,N,hz,q⟩:=h;obtain⟨u,rfl,n⟩:=md r;cases n;obtain⟨y,U,t,es,ep,g2,c,g4⟩:=Ra I.hok G;have f:a.length=ts.length:=by simpa using congrArg nF g
 obtain⟨T,d,S⟩:=Hu (P:=X.prog) (w:=X.w) (es:=es) (H:=H) (l:=es.toList) (by rw[az];exact c) g λi k v L=>by
  obtain⟨M,b,O,e2⟩:=g4 i k v L;exact⟨M,b,by rw[aW];exact O,e2⟩
 have la:T.length=ts.length:=by
  have:=congrArg nF d;rw[ao,ao,az,c,f] at this;exact this.symm
 refine Bp z I S N ∅ (λP Y=>F9 (by simpa using I.ok.hd E) y t g2 U (by rw[c,f,il];omega) λvs h' m B kp sz=>?_) λl bs j _ K=>q l bs j K;subst B;rw[d];exact Y h' m kp sz
end L2
namespace J
open PySem L2
def gK:List D->Option (List (List Str))
 |[]=>some []
 |.tuple ds::r=>(fw ds).bind λx=>(gK r).map (x::·)
 |_::_=>none
def qA(x:List Str):D:=.tuple (x.map .str)
theorem oU:∀xs:List (List Str),gK (xs.map qA)=some xs
 |[]=>rfl
 |x::xs=>by
  show(fw (x.map aN)).bind (λy=>(gK (xs.map qA)).map (y::·))=_;rw[strsOf_map,oU xs];rfl
theorem lr:∀{ds:List D}{xs:List (List Str)},gK ds=some xs->ds=xs.map qA
 |[],xs,h=>by cases h;rfl
 |d::ds,xs,h=>by
  cases d with
  |tuple ts=>
   have h:(fw ts).bind (λy=>(gK ds).map (y::·))=some xs:=h;cases a:fw ts with
   |none=>rw[a] at h;cases h
   |some x=>
    cases b:gK ds with
    |none=>rw[a,b] at h;cases h
    |some ys=>
     rw[a,b] at h;cases h;rw[aC,<- lr b,mV a];rfl
  |_=>cases h
def rm(ts:List (List Str)):R D:=if ts.Nodup/\ts.length<=64 then .ok (.list ((mj ts).map qA)) else .no
def uO:D->R D
 |.list ds=>match gK ds with
  |some ts=>rm ts
  |none=>.no
 |.dict ((.none,.none)::ds)=>match gK (ds.map (·.1)) with
  |some ts=>rm ts
  |none=>.no
 |_=>.no
theorem Bu:∀{c:List V}{xs:List (List Str)},RDs K H c (xs.map qA)->∃b:List av,c=b.map V.ref/\wK H b xs
 |_,[],.nil=>⟨[],rfl,trivial⟩
 |_,x::xs,.cons h t=>by
  obtain⟨b,e,d⟩:=Bu t;subst e;unfold qA at h;cases h with
  | @tuple a ys _ q r=>
   rw[j5 r] at q;exact⟨a::b,rfl,q,d⟩
theorem wk:∀{bs:List av}{ys:List (List Str)}{Hs:Hp},wK H bs ys->eD Hs H->∃f,db H Hs H f/\RDs K f (bs.map V.ref) (ys.map qA)
 |[],[],Hs,_,s=>⟨Hs,.refl s,.nil⟩
 |b::bs,y::ys,Hs,t,s=>by
  obtain⟨d,st,r⟩:=wk (K:=K) t.2 s;have sub:=st.sub;have same:eD d (upd d b (.tup (y.map V.str))):=λc u e=>by
   by_cases a:c=b
   ·subst a;have:=sub _ _ e;rw[t.1] at this;cases this;exact bB
   ·rw[bG a];exact e
  refine⟨upd d b (.tup (y.map V.str)),st.trans ⟨.refl _,same,λc u e=>?_,λc u e n z=>?_⟩,.cons (.tuple bB (tT y)) (r.same same)⟩
  ·by_cases a:c=b
   ·subst a;rw[bB] at e;cases e;exact t.1
   ·rw[bG a] at e;exact sub _ _ e
  ·by_cases a:c=b
   ·subst a;rw[t.1] at e;cases e;cases n
   ·rw[bG a];exact z
 |[],_::_,_,t,_=>t.elim
 |_::_,[],_,t,_=>t.elim
theorem nU(s:eD Hs H):∀{a:List av}{xs:List (List Str)},wK Hs a xs->wK H a xs
 |[],[],_=>trivial
 |_::_,_::_,t=>⟨s _ _ t.1,nU s t.2⟩
 |[],_::_,t=>t.elim
 |_::_,[],t=>t.elim
theorem Fa:∀{a:List av}{xs:List (List Str)},wK H a xs->a.length=xs.length
 |[],[],_=>rfl
 |_::_,_::_,t=>congrArg (· + 1) (Fa t.2)
 |[],_::_,t=>t.elim
 |_::_,[],t=>t.elim
theorem Hv:∀{k:List iL}{x:List Str},k.map kD=x.map aN->k=x.map jU
 |[],[],_=>rfl
 |.inr a::k,x::xs,h=>by
  simp only[aC,yn] at h;obtain⟨b,c⟩:=h;cases b;rw[Hv c];rfl
 |.inl _::_,_::_,h=>by
  simp only[aC,yn] at h;cases h.1
 |[],_::_,h=>by cases h
 |_::_,[],h=>by cases h
theorem Hw:∀{b:List (List iL×V)}{ds:List (D×D)}{xs:List (List Str)},RDt K H b ds->ds.map (·.1)=xs.map qA->b.map (·.1)=xs.map λx=>x.map jU
 |_,_,[],.nil,_=>rfl
 |_,_,x::xs,.cons h t,e=>by
  rw[aC,aC] at e;obtain⟨a,c⟩:=AH e;rw[aC,aC,Hw t c];have a:tD _=qA x:=a;unfold tD qA at a;injection a with a;rw[Hv a]
 |_,_,_::_,.nil,e=>by cases e
 |_,_,[],.cons _ _,e=>by cases e
def Kh(N:X.calm=true)(v:X.A.units+64<eM):Nw X (.builtin "sorted") (i8 uO):=by
 have v:X.A.units+2<eM:=by omega
 refine tZ (λd c n=>?_) λf s y H x u Q Hs d d' I E sub w b q=>?_
 ·unfold uO rm;split<;>(try split)<;>(try split)<;>exact λh=>by cases h
 ·have fin:∀{ts:List (List Str)}{l:av}{bs:List av},H l=none->wK H bs (mj ts)->Q (.ref l) (upd H l (.lst (bs.map V.ref)))\/d'≠.list ((mj ts).map qA):=λ{ts l bs} j tb=>by
   by_cases e:d'=.list ((mj ts).map qA)
   ·subst e;obtain⟨m,st,r⟩:=wk (K:=X.K) tb sub;have B:db H m (upd H l (.lst (bs.map V.ref))) (upd m l (.lst (bs.map V.ref))):=.new st.sub j;exact .inl (q _ _ _ (st.trans B) (.list (.inl (.of bB)) (r.same B.sh)))
   ·exact .inr e
  unfold uO at b;split at b
  ·split at b
   ·rename_i ts t
    unfold rm at b;split at b
    ·rename_i hz
     cases b;obtain⟨a,S,rfl,L,G⟩:=w.list sub;rw[lr t] at G;obtain⟨P,rfl,z⟩:=Bu G;exact Br v f s y H _ _ Q I (.cons E .nil) ⟨a,P,ts,rfl,L,nU sub z,hz.1,by rw[Fa z];exact hz.2,λl bs j _ tb=>(fin j tb).resolve_right λh=>h rfl⟩
    ·cases b
   ·cases b
  ·split at b
   ·rename_i ts t
    unfold rm at b;split at b
    ·rename_i hz
     cases b;obtain⟨a,M,O⟩:=w.dict sub;subst M;rcases O with⟨i,p,g⟩|⟨i,p,hn,g⟩|⟨o,i,es,he,p,hn,g⟩
     ·generalize b:((.none,.none)::_:List (D×D))=d0 at g;cases g with
      |nil=>cases b
      | @cons k _ _ _ _ _ _=>cases k<;>cases b
     ·generalize b:((.none,.none)::_:List (D×D))=d0 at g;cases g<;>cases b
     ·cases he;exact Bt N v f s y H _ _ Q I (.cons E .nil) ⟨a,o,i,ts,rfl,p,Hw g (lr t),hz.1,hz.2,λl bs j tb=>(fin j tb).resolve_right λh=>h rfl⟩
    ·cases b
   ·cases b
  ·cases b
end J
namespace L2
open PySem PySem.Spec PyProof.Rows PySem.W
end L2
namespace L2
open PySem PySem.Spec PyProof.Rows
end L2
namespace L2
open PySem PySem.Spec PyProof.Rows
section
variable{prog:bj}{w:bF}{A:cD}{R:Em->au->Prop}{s:au}
def UV{b tg iter:bJ}{c:List bJ}{f:Comprehension}{scope:fG}{d:Pos}{it a:ai}{env:Env}
  (g:gU (aD prog w) A (.compLoop (.ListComp b [f,⟨tg,iter,c,0⟩] scope d) 1 it a env) R s)
  (h:ay (aD prog w) A (qp it) (λe s'=>gU (aD prog w) A (.compLoop (.ListComp b [f,⟨tg,iter,c,0⟩] scope d) 1 e a env) R s') (notedBy (aD prog w) A env λx s'=>R (.error x) s') s):
  gU (aD prog w) A (.compStart (.ListComp b [f,⟨tg,iter,c,0⟩] scope d) 1 it a env) R s:=by
 refine wH ?_
 show ay _ _ ((compStart (.ListComp b [f,⟨tg,iter,c,0⟩] scope d) 1 it a env).onRaise (λx=>do noteFrame x env;qP theWindowsPlace)) _ _ s
 refine wpAny_notedAt ?_
 unfold compStart
 show ay _ _ (ask>>=_) _ _ s
 refine a9 (fJ (Eu ?_))
 split
 ·first
   |exact a9 (aa (aa (lX rfl g)))
   |exact aa (lX rfl g)
 ·first
   |exact a9 (dk (a9 (ik (a9 (cz h (λe s' h'=>aa (lX rfl h')) λ_ _ x=>x)))))
   |(refine a9 (dk ?_);show ay _ _ (qP iter.pos>>=_) _ _ s;exact a9 (ik (a9 (cz h (λe s' h'=>aa (lX rfl h')) λ_ _ x=>x))))
end
inductive GL2 (Y:Cx) {α:Type} (P:av->Obj->α->Prop) (pl:List (av×Obj)) (D:av) (σ:St) (fp:List av) (tn:Nat->bZ->Prop) (W:Nat->Nat->α->Hp->Prop) (n:Nat) (s':au):Prop
 |mk (i:Nat) (acc:α) (o:Obj) (H':Hp) (I:ck Y ((D,o)::pl) σ H' s') (p:P D o acc) (t:tn i s'.heap) (f:∀b∈fp,H' b=none) (w:W i n acc H'):GL2 Y P pl D σ fp tn W n s'
inductive GE2 (Y:Cx) {α:Type} (P:av->Obj->α->Prop) (pl:List (av×Obj)) (D:av) (σ:St) (Z:α->Hp->Prop) (r:Em) (s':au):Prop
 |mk (acc:α) (o:Obj) (H':Hp) (h0:r=.ok .next) (I:ck Y ((D,o)::pl) σ H' s') (p:P D o acc) (z:Z acc H'):GE2 Y P pl D σ Z r s'
inductive GIn {α:Type} (nt:Nat) (tt:TT) (L:α->Prop) (U:St->Hp->α->Nat->(Nat->α->Hp->Prop)->Prop) (σ:St) (acc:α) (Z:α->Hp->Prop) (J:It) (H1:Hp):Prop
 |mk (W:Nat->Nat->α->Hp->Prop) (w0:∃m,W 0 m acc H1) (turn:∀i m acc H,W i m acc H->(J.stop i H/\Z acc H)\/(J.go i H/\L acc/\∀x H',J.yld i H x H'->tt (σ.set nt (some x)) H' λb H3=>
   if b=true then U (σ.set nt (some x)) H3 acc m (W (i+1)) else ∃m',m'<m/\W (i+1) m' acc H3)):GIn nt tt L U σ acc Z J H1
def Y8{X:Cx}{N:Type}{N':List Str}{scope:fG}{k:List (Str×av)}{C:av}{a:au}{f:Hp}{h:List av}{l:List (av×Obj)}{P:av->Obj->N->Prop}{L:N->Prop}{U:St->Hp->N->Nat->(Nat->N->Hp->Prop)->Prop}{Bd:Env->av->(au->Prop)->au->Prop}{e0 tg:bJ}{b6:List bJ}{tt:TT}{nt:Nat}{pl:List (av×Obj)}{D:av}{q:St}{it:av}{B:List av}{tn:Nat->bZ->Prop}{J:It}{Z:N->Hp->Prop}{W:Nat->Nat->N->Hp->Prop}{s:au}
  (hc:X.calm=true) (O:Gu X e0 tg b6 it 1 Bd) (step:Dm X N' scope (λ_=>True) P L U Bd) (pg:PG (bT X N' scope k C a f h l) tg (pJ nt)) (pt:JM (bT X N' scope k C a f h l) b6 tt) (c4:q[nt]?=some none) (T:Ez X.prog X.w X.K tg J B it tn)
  (ok:∀b∈B,b≠(bT X N' scope k C a f h l).env.locals/\b∉(bT X N' scope k C a f h l).fs/\(b∈h\/a.heap.objs.size<=b)/\(∀x c,k.lookup x=some c->c≠b)/\(∀p∈l++pl,p.1≠b)/\D≠b)
  (h1:D∈h\/a.heap.objs.size<=D) (h2:∀x c,k.lookup x=some c->c≠D) (h3:∀p∈l++pl,p.1≠D)
  (Y:∀i m g H,W i m g H->(J.stop i H/\Z g H)\/(J.go i H/\L g/\∀x H',J.yld i H x H'->tt (q.set nt (some x)) H' λb E=>if b=true then U (q.set nt (some x)) E g m (W (i+1)) else ∃G,G<m/\W (i+1) G g E))
  (n:Nat) (st:GL2 (bT X N' scope k C a f h l) P pl D q B tn W n s):
  gU (aD X.prog X.w) X.A (.compLoop e0 1 (.ref it) (.ref D) (bT X N' scope k C a f h l).env) (GE2 (bT X N' scope k C a f h l) P pl D q Z) s:=by
 have t:∀{H':Hp}{o:Obj},(∀b∈B,H' b=none)->∀b∈B,vX (bT X N' scope k C a f h l) ((D,o)::pl) H' b:=λhn b M=>by
  obtain⟨a1,a2,a3,a4,a5,a6⟩:=ok b M
  refine⟨hn b M,a1,a2,a3,a4,λp hp=>?_⟩
  rcases cQ.1 hp with z|z
  ·exact a5 p (bU _ z)
  ·rcases bg.1 z with y|y
   ·rw[y];exact a6
   ·exact a5 p (aF _ y)
 refine O _ _ _ (GL2 (bT X N' scope k C a f h l) P pl D q B tn W) ?_ n _ st
 rintro n s3 ⟨i,g,o,E,J3,p3,b0,a7,w3⟩
 rcases Y i n g E w3 with⟨S,z⟩|⟨go,hlt,LP⟩
 ·refine gG (T.done (bT X N' scope k C a f h l) rfl rfl rfl hc i _ s3 _ E _ J3 (t a7) b0 S) λr s4 c1=>?_
  obtain⟨hr,I4⟩:=c1
  subst hr
  exact⟨g,o,E,rfl,I4,p3,z⟩
 ·refine gG (T.item (bT X N' scope k C a f h l) rfl rfl rfl hc i _ s3 _ E _ J3 (t a7) b0 go) λr s4 d2=>?_
  obtain⟨u,hr,h4⟩:=d2
  subst hr
  refine gG h4 λ_ s5 c2=>?_
  obtain⟨x,H5,I5,r5,y5,I,d0⟩:=c2
  have b8:=I5.pinned (t d0) (T.obj _ _ I)
  have c0:pJ nt x q H5 (λd1 H2=>d1=q.set nt (some x)/\tt (q.set nt (some x)) H2 λb E=>if b=true then U (q.set nt (some x)) E g n (W (i+1)) else ∃G,G<n/\W (i+1) G g E):=⟨rfl,LP x H5 y5⟩
  refine gG (pg _ s5 _ H5 x u _ b8 r5 c0) λ_ s6 c3=>?_
  obtain⟨d3,H6,I6,e6,q6⟩:=c3
  subst e6
  have hw:∀(j:Nat) v,q[j]?=some (some v)->(q.set nt (some x))[j]?=some (some v):=λj v e=>by
   by_cases hj:nt=j
   ·rw[<- hj,c4] at e;cases e
   ·rw[ax hj];exact e
  refine gG (pt _ s6 _ H6 _ I6 q6) λb s7 c5=>?_
  obtain⟨H7,I7,q7⟩:=c5
  have b7:∀{o':Obj}{s8:au}{a8:St}{H8:Hp},ck (bT X N' scope k C a f h l) (((D,o')::pl)++tN B s5.heap) a8 H8 s8->tn (i+1) s8.heap/\∀b∈B,H8 b=none:=λ{o' s8 a8 H8} Q=>by
   refine⟨T.keep _ _ _ I λb M o e=>(Q.pin (b,o) (aF _ (aF _ (jQ M e)))).1,λb M=>?_⟩
   obtain⟨o,e,d⟩:=T.obj _ _ I b M
   exact(Q.pin (b,o) (aF _ (aF _ (jQ M e)))).2.1
  cases b with
  |false=>
   simp only[aV,if_false] at q7 ⊢
   obtain⟨G,hm,w7⟩:=q7
   obtain⟨t7,f7⟩:=b7 I7
   exact⟨G,hm,i+1,g,o,H7,(I7.weak (by simp) hw).unpinned,p3,t7,f7,w7⟩
  |true=>
   simp only[if_true] at q7 ⊢
   refine step _ _ _ _ _ _ _ (pl++tN B s5.heap) _ _ _ _ _ _ _ _ h1 h2 (λp hp z=>?_) trivial hlt p3 I7 q7 λa0 o' H8 s8 G Q p8 hm w8=>?_
   ·rcases cQ.1 hp with y|y
    ·exact h3 p (bU _ y) z
    ·rcases cQ.1 y with y|y
     ·exact h3 p (aF _ y) z
     ·exact(ok p.1 (yp y).1).2.2.2.2.2 z.symm
   ·obtain⟨t8,f8⟩:=b7 (o':=o') Q
    exact⟨G,hm,i+1,a0,o',H8,((show ck _ (((D,o')::pl)++tN B s5.heap) _ _ _ from Q).weak (σ':=q) (by simp) hw).unpinned,p8,t8,f8,w8⟩
def Bd2(X:Cx)(c a:bJ)(it:av)(env:Env)(D:av)(K:au->Prop)(s:au):Prop:=ay (aD X.prog X.w) X.A (do
   let x <- fO a env
   qP a.pos
   let x <- bW a env x
   let _ <- runOwn (.compStart c 1 (<- OW [x] (qp x)) (.ref D) env) env
   again (.compLoop c 0 (.ref it) (.ref D) env)) (λf b=>f=.again (.compLoop c 0 (.ref it) (.ref D) env)/\K b) (λ_ _=>False) s
def q14{X:Cx}{N':List Str}{scope:fG}{nt:Nat}{ix:List Nat}{j tg l c:bJ}{a6 k:List bJ}{i:Sem ai}{u:Type}{O:av->u->HO}{a0:u}{L:u->Prop}{U:St->Hp->u->Nat->(Nat->u->Hp->Prop)->Prop}{P:av->Obj->u->Prop}{o0:Obj}{Bd:Env->av->(au->Prop)->au->Prop}{Y:TI}{y:TT}
  (nd:∀{D o a},P D o a->∀v,o.data≠.cell v) (of:o0.isFreed=false) (p0:∀D,P D o0 a0) (tr:∀{H h D o a},ft<D->P D o a->h.get? D=some o->dQ X.prog X.w H h D (O D a))
  (T:∀{E s2}{Q:ai->au->Prop},Q (.ref s2.heap.objs.size) {s2 with heap:=s2.heap.push o0}->ay (aD X.prog X.w) X.A i Q E s2) (t:∀it,Gu X j tg a6 it 0 (Bd2 X j c it)) (q:∀it,Gu X j l k it 1 Bd)
  (I:∀{d it a env R s},d=0\/d=1->gU (aD X.prog X.w) X.A (.compLoop j d (.ref it) a env) R s->ay (aD X.prog X.w) X.A (qp (.ref it)) (λb7 s'=>gU (aD X.prog X.w) X.A (.compLoop j d b7 a env) R s') (notedBy (aD X.prog X.w) X.A env λx s'=>R (.error x) s') s->gU (aD X.prog X.w) X.A (.compStart j d (.ref it) a env) R s)
  (step:Dm X N' scope (λ_=>True) P L U Bd) (hc:X.calm=true) (c0:∀(env:Env) x,bW c env x=pure x)
  (hb:∀M C e f G N,PI (bT X N' scope M C e f G N) l c Y/\PG (bT X N' scope M C e f G N) l (pJ nt)/\JM (bT X N' scope M C e f G N) k y):
  JP X N' scope nt (nt+1) ix j tg a6 i O a0 (λ_=>True) (λS H a m V=>Y S H (GIn nt y L U S a λg H'=>∃m',m'<m/\V m' g H')):=by
 refine⟨P,o0,Bd2 X j c,λS=>S[nt]?=some none,nd,of,p0,tr,T,t,I (.inl rfl),⟨jr _,λS B h=>?_⟩,λit=>?_⟩
 ·rw[h nt (aA _)]
  unfold mT
  rw[bA (by simp),cX,if_pos ∅]
 intro M C e f G N D pl o a B H7 s7 K m V h1 h2 h3 d1 _ hP I7 q7 fin
 obtain⟨c3,c5,c1⟩:=hb M C e f G N
 refine a9 (gG (c3 _ s7 B H7 _ I7 q7) λv s8 d0=>a9 (ik (a9 (gg (c0 _ v) (a9 (cH (gG d0 λd6 s9 b0=>a9 (wpAny_runOwn ?_))))))))
 obtain⟨b6,d7,d5,J2,H9,e9,I9,T2,t9,a8,W2,⟨m2,w2⟩,n⟩:=b0
 subst e9
 have a7:=Y8 (pl:=pl) hc (q b6) step c5 c1 d1 T2 (λb hb=>by
  obtain⟨a0,a1,a2,a3,a4,a5⟩:=a8 b hb
  exact⟨a1,a2,a3,a4,λp hp=>a5 p ((cQ.1 hp).elim (λz=>bU _ z) λz=>aF _ (ak _ z)),a5 (D,o) (aF _ aq)⟩) h1 h2 h3 n m2 ⟨0,a,o,H9,I9,hP,t9,λb hb=>(a8 b hb).1,w2⟩
 refine nh (I (.inr rfl) a7 (T2.self _ 0 _ _ _ t9 a7)) λr d3 d2=>?_
 obtain⟨g,o',d4,rfl,c2,c4,m',hm,b8⟩:=d2
 exact aa ⟨rfl,fin g o' d4 d3 m' c2 c4 hm b8⟩
end L2
namespace J
open PySem L2
def inR(nt:Nat)(ρ:aI)(gt:aI->R Bool)(ge:aI->R D):D->R (Option D):=λd=>EW ((gt (ρ.set nt (.shr d))).bind λb=>if b then(ge (ρ.set nt (.shr d))).bind λy=>.ok (some y) else .ok none)
def rY(nt:Nat)(ρ:aI)(gt:aI->R Bool)(e:aI->R (List D))(c:aI->R Bool)(ge:aI->R D):D->R (List D):=λd=>EW ((V_ nt d ρ).bind λa=>(gt a).bind λb=>if b then(e a).bind λes=>gD (inR nt a c ge) es else .ok [])
def pO(f:D->R (List D)):List D->R (List D)
 |[]=>.ok []
 |d::r=>(f d).bind λxs=>(pO f r).bind λys=>.ok (xs++ys)
def Ki{f:D->R (List D)}{d:D}{r ys:List D}(h:pO f (d::r)=.ok ys):∃xs a,f d=.ok xs/\pO f r=.ok a/\ys=xs++a:=by
 unfold pO at h
 cases c:f d with
 |ok o=>
  rw[c,bind_ok] at h
  cases b:pO f r with
  |ok a=>rw[b,bind_ok] at h;cases h;exact⟨_,a,rfl,rfl,rfl⟩
  |ex x n=>rw[b] at h;cases h
  |no=>rw[b] at h;cases h
 |ex x n=>rw[c] at h;cases h
 |no=>rw[c] at h;cases h
def NO(nt:Nat)(ρ:aI)(gt:aI->R Bool)(b:aI->R (List D))(a:aI->R Bool)(ge:aI->R D)(d:D)(c:Str)(n):rY nt ρ gt b a ge d≠.ex c n:=by
 unfold rY;intro h;revert h;generalize R.bind _ _=r;cases r<;>exact λh=>by cases h
theorem Hx{f:D->R (List D)}(e:∀d c n,f d≠.ex c n):∀(l:List D) c n,pO f l≠.ex c n
 |[],c,n=>λh=>by cases h
 |d::r,c,n=>λh=>by
  unfold pO at h
  cases b:f d with
  |no=>rw[b] at h;cases h
  |ex x y=>exact e _ _ _ b
  |ok o=>
   rw[b,bind_ok] at h
   cases a:pO f r with
   |ok g=>rw[a,bind_ok] at h;cases h
   |ex x n=>exact Hx e _ _ _ a
   |no=>rw[a] at h;cases h
section
variable{c:C}{elt tg iter tg2 iter2:bJ}{ifs ifs2:List bJ}{scope:fG}{pos:Pos}{N':List Str}{nt:Nat}{ix:List Nat}{gi gi2:aI->R (List D)}{gt gt2:aI->R Bool}{ge:aI->R D}
def Rt(c:C)(N':List Str)(scope:fG)(nt:Nat)(tg:bJ)(ifs:List bJ)(tg2 iter2:bJ)(ifs2:List bJ)(elt:bJ)(gt:aI->R Bool)(gi2:aI->R (List D))(gt2:aI->R Bool)(ge:aI->R D):Prop:=
 ∀d A a b f e,PG (c.comp N' scope d A a b f e).X tg (EX c.X.K nt)/\XC (c.comp N' scope d A a b f e) ifs gt/\JI (c.comp N' scope d A a b f e) tg2 iter2 gi2/\PG (c.comp N' scope d A a b f e).X tg2 (pJ nt)/\XC (c.comp N' scope d A a b f e) ifs2 gt2/\JE (c.comp N' scope d A a b f e) elt ge
end
end J
namespace L2
open PySem PySem.Spec PyProof.Rows
end L2
namespace L2
open PySem PySem.Spec PyProof.Rows
end L2
namespace L2
open PySem PySem.Spec PyProof.Rows PySem.W
end L2
namespace L2
open PySem PySem.Spec PyProof.Rows PySem.W
end L2
namespace L2
open PySem PySem.Spec PyProof.Rows
end L2
namespace L2
open PySem PySem.Spec PyProof.Rows
abbrev q15(c:TE)(e:St)(H:Hp)(a:List L2.V)(m:Nat)(R:Nat->List L2.V->Hp->Prop):Prop:=c e H λy d=>∃b,b<m/\R b (a++[y]) d
abbrev LIn(nt:Nat)(b:TT)(c:TE)(d:St)(a:List V)(Z:List V->Hp->Prop)(J:It)(e:Hp):Prop:=GIn nt b (λa=>a.length<sizeLine) (q15 c) d a Z J e
def Ru{X:Cx}{n tg iter l g:bJ}{q k:List bJ}{t:TI}{o:TT}{scope:fG}{G:Pos}{M:TE}{N':List Str}{nt:Nat}{ix:List Nat}(O:X.calm=true)(A:∀(env:Env) x,bW g env x=pure x)
  (w:∀u C j i y v,PI (bT X N' scope u C j i y v) l g t/\PG (bT X N' scope u C j i y v) l (pJ nt)/\JM (bT X N' scope u C j i y v) k o/\PE (bT X N' scope u C j i y v) n M):
  JP X N' scope nt (nt+1) ix (.ListComp n [⟨tg,iter,q,0⟩,⟨l,g,k,0⟩] scope G) tg q (Cm []) (λ_=>HO.lst) [] (λ_=>True) (λI H B m V=>t I H (LIn nt o M I B λp H'=>∃L,L<m/\V L p H')):=
 q14 (o0:=Xp [] 0) (P:=Xq) (Bd:=Ui X n) (λ⟨_,_,h,_⟩ _ z=>(by rw[h] at z;cases z)) rfl (λ_=>⟨[],0,rfl,.nil,ca _⟩) (λ_ ⟨E,T,h,Q,hz⟩ e=>⟨hz,E,T,Q,by rw[e,h]⟩) bD (λit=>Gv (iter:=iter) (λ_ _=>rfl) λenv D K s h=>h) (λit=>Gv (iter:=g) (λ_ _=>rfl) λa b c d h=>Gx rfl a b c d h) (λS N h=>by
  rcases S with rfl|rfl
  ·exact OZ N h
  ·exact UV N h) (Gw λa b c d e f=>(w a b c d e f).2.2.2) O A λa b c d e f=>⟨(w a b c d e f).1,(w a b c d e f).2.1,(w a b c d e f).2.2.1⟩
inductive Rv (nt:Nat) (ix:List Nat) (g:TG) (tt:TT) (wi2:TI) (tt2:TT) (te:TE) (σ:St) (Q:VK) (J:It) (H1:Hp):Prop
 |mk (W:Nat->Nat->List V->Hp->Prop) (w0:∃m,W 0 m [] H1) (turn:∀i m acc H,W i m acc H->(J.stop i H/\∀p,H p=none->Q (.ref p) (upd H p (.lst acc))) \/
   (J.go i H/\∀x H',J.yld i H x H'->g x (mT (nt+1) ix σ) H' λσ2 H2=>tt σ2 H2 λb H3=>
    if b=true then wi2 σ2 H3 (LIn nt tt2 te σ2 acc λacc' H'=>∃m',m'<m/\W (i+1) m' acc' H') else ∃m',m'<m/\W (i+1) m' acc H3)):Rv nt ix g tt wi2 tt2 te σ Q J H1
def Md(nt:Nat)(ix:List Nat)(f:TI)(g:TG)(e:TT)(b:TI)(a:TT)(d:TE):TE:=λc H Q=>f c H (Rv nt ix g e b a d c Q)
def Fb{X:Cx}{E tg iter o j:bJ}{p l:List bJ}{scope:fG}{B:Pos}{wi N:TI}{g:TG}{tt M:TT}{te:TE}{N':List Str}{nt:Nat}{ix:List Nat}
  (hc:X.calm=true) (S:mo X scope N' (nt+1) ix) (lo:Ug nt g) (hi:PI X tg iter wi)
  (U:∀z C k n K G,PG (bT X N' scope z C k n K G) tg g/\JM (bT X N' scope z C k n K G) p tt/\PI (bT X N' scope z C k n K G) o j N/\PG (bT X N' scope z C k n K G) o (pJ nt)/\JM (bT X N' scope z C k n K G) l M/\PE (bT X N' scope z C k n K G) E te)
  (P:∀(env:Env) x,bW j env x=pure x) (hs:∀x,bW iter X.env x=pure x:=by intro _;rfl):PE X (.ListComp E [⟨tg,iter,p,0⟩,⟨o,j,l,0⟩] scope B) (Md nt ix wi g tt N M te):=by
 intro u s σ H Q I h
 obtain⟨z,Y,c1,c2⟩:=oK (scope:=scope) (env:=X.env) λy hy hf=>I.ok.has y.1 (S.free y hy hf)
 show ay _ _ (Ac (.ListComp E [⟨tg,iter,p,0⟩,⟨o,j,l,0⟩] scope B) scope X.env (P2 [⟨tg,iter,p,0⟩,⟨o,j,l,0⟩] B) (Cm []) (firstAsync [⟨tg,iter,p,0⟩,⟨o,j,l,0⟩]) (firstIter [⟨tg,iter,p,0⟩,⟨o,j,l,0⟩] X.env)) _ _ _
 refine iX (use:=none) rfl hs Y S.kind S.loc (gG (hi u s σ H _ I h) λv s1 h1=>gG h1 λa0 s2 h2=>?_)
 obtain⟨it,fp,tn,J,H2,e,I2,T,O,f2,W,w0,L⟩:=h2
 subst e
 refine AS (RR:=λt C=>Jh (aD X.prog X.w) X.A X.xe none (EP X u σ Q) t C) (Ru hc P λa b c d e f=>(U a b c d e f).2.2) hc S lo (λa b c d e f=>⟨(U a b c d e f).1,(U a b c d e f).2.1⟩) c1 c2 I2 T O f2 w0 (λi m t H w=>(L i m t H w).imp id λh=>⟨h.1,trivial,h.2⟩) ?_
 intro D C m s' t H' hD _ q hn hI
 exact⟨m,hn,λh' sb=>⟨.ref D,_,hI h' sb,rfl,q⟩⟩
end L2
namespace J
open PySem L2
def yF(nt:Nat)(ix:List Nat)(c:aI->R (List D))(gt:aI->R Bool)(b:aI->R (List D))(a:aI->R Bool)(ge:aI->R D):aI->R D:=λρ=>(c ρ).bind λds=>(pO (rY nt (m5 (nt+1) ix ρ) gt b a ge) ds).bind λys=>if ys.length<=900 then .ok (.list ys) else .no
inductive lcJ (K:af) (f:D->R (Option D)) (ds ys tl:List D) (H1 Hs1:Hp) (i m:Nat) (acc:List V) (H':Hp):Prop
 |mk (done bM zs ya Hs':_) (h0:ds=done++bM) (h1:done.length=i) (h2:bM.length=m) (h3:db H1 Hs1 H' Hs') (h4:RDs K Hs' acc ya) (h6:gD f bM=.ok zs) (h8:ys=ya++(zs++tl)):lcJ K f ds ys tl H1 Hs1 i m acc H'
inductive lcK (K:af) (f:D->R (List D)) (ds ys:List D) (H1 Hs1:Hp) (i m:Nat) (acc:List V) (H':Hp):Prop
 |mk (done bM zs ya Hs':_) (h0:ds=done++bM) (h1:done.length=i) (h2:bM.length=m) (h3:db H1 Hs1 H' Hs') (h4:RDs K Hs' acc ya) (h6:pO f bM=.ok zs) (h8:ys=ya++zs):lcK K f ds ys H1 Hs1 i m acc H'
section
variable{K:af}{cls:Str->av}{E:XK}{σ:St}{H:Hp}{Q:VK}{ρ ρ':aI}{H0 Hs0 H1 Hs1 Hn:Hp}{la:Nat->Option av}{nt:Nat}{ix:List Nat}{gi gi2:aI->R (List D)}{gt gt2:aI->R Bool}{ge:aI->R D}{J:It}{es zs ys ya tl:List D}{va:List V}
def Y9{Z:List V->Hp->Prop}(f:Fr K H0 Hs0 la ρ' σ H1 Hs1)(sn:eD Hn H1)(it:T8 K J es Hn Hs1)(Y:gD (inR nt ρ' gt2 ge) es=.ok zs)(hl:ys.length<=900)(k:RDs K Hs1 va ya)(j:ys=ya++(zs++tl))
  (q:∀P T H' e,ys=T++tl->db H1 Hs1 H' e->RDs K e P T->Z P H'):
  LIn nt (λσ H Q=>∃ ρ',GK K cls E0 ρ' (gt2 ρ') σ H Q) (λσ H Q=>∃ ρ',TR K cls E0 ρ' (ge ρ') σ H Q) σ va Z J H1:=by
 refine⟨lcJ K (inR nt ρ' gt2 ge) es ys tl H1 Hs1,⟨es.length,[],es,zs,ya,Hs1,rfl,rfl,rfl,.refl f.st.sub,k,Y,j⟩,?_⟩
 rintro i m A H' ⟨done,bM,zs,ya,e,c,g,z,st,k,hz,j⟩
 obtain⟨L,h,p⟩:=it H' e (sn.trans st.all) st.sh st.sub
 cases bM with
 |nil=>
  left;cases hz;rw[cq] at c;subst c
  exact⟨h i ∅,q A ya H' e j st k⟩
 |cons d bM=>
  right
  have s:i<es.length:=by rw[c,aS,aX];omega
  have U:ya.length<=ys.length:=by rw[j,aS];omega
  refine⟨L i s,fE (by rw[k.length];omega),λx H2 O=>?_⟩
  obtain⟨d',M,N,w,r2⟩:=p i x H2 s O
  have G:d'=d:=by
   rw[c,aU ∅] at N;simp[g] at N;exact N.symm
  subst G
  obtain⟨o,u,a,t,rfl⟩:=rX hz
  have a:=xn a
  have S:=((f.step st).step w).set nt r2
  refine⟨_,_,_,_,M,S,?_⟩
  cases B:gt2 (ρ'.set nt (.shr d')) with
  |no=>rw[B] at a;cases a
  |ex x n=>rw[B] at a;cases a
  |ok b=>
   rw[B,bind_ok] at a;intro H3 l s3
   cases b with
   |false=>
    rw[if_neg bd] at a;cases a
    exact zU ⟨bM.length,by rw[<- z];simp,done++[d'],bM,u,ya,l,by rw[c];simp,by simp[g],rfl,(st.trans w).trans s3,k.same (w.trans s3).sh,t,by simpa using j⟩
   |true=>
    rw[if_pos rfl] at a
    refine zV ⟨_,_,_,_,l,S.step s3,?_⟩
    cases he:ge (ρ'.set nt (.shr d')) with
    |no=>rw[he] at a;cases a
    |ex x n=>rw[he] at a;cases a
    |ok y=>
     rw[he,bind_ok] at a;cases a;intro v H4 I s4 X
     exact⟨bM.length,by rw[<- z];simp,done++[d'],bM,u,ya++[y],I,by rw[c];simp,by simp[g],rfl,((st.trans w).trans s3).trans s4,(k.same ((w.trans s3).trans s4).sh).append (.cons X .nil),t,by rw[j];simp⟩
theorem UW(N:nt=1\/nt=2)
  (q:TN K cls E ρ (yF nt ix gi gt gi2 gt2 ge ρ) σ H Q):
  Md nt ix (XB K cls E ρ (gi ρ)) (EX K nt) (λσ H Q=>∃ ρ',GK K cls E0 ρ' (gt ρ') σ H Q) (λσ H Q=>∃ ρ',XB K cls E0 ρ' (gi2 ρ') σ H Q) (λσ H Q=>∃ ρ',GK K cls E0 ρ' (gt2 ρ') σ H Q) (λσ H Q=>∃ ρ',TR K cls E0 ρ' (ge ρ') σ H Q) σ H Q:=by
 obtain⟨H0,Hs0,la,Hs,f,q⟩:=q;refine⟨H0,Hs0,la,Hs,f,?_⟩;unfold yF at q
 cases X:gi ρ with
 |no=>rw[X] at q;exact q
 |ex x n=>rw[X] at q;exact q
 |ok ds=>
  rw[X,bind_ok] at q;intro J H1 Hs1 Hn s1 sn it
  cases w:pO (rY nt (m5 (nt+1) ix ρ) gt gi2 gt2 ge) ds with
  |no=>rw[w] at q;exact q.elim
  |ex x n=>exact(Hx (NO _ _ _ _ _ _) _ _ _ w).elim
  |ok ys=>
   rw[w,bind_ok] at q
   by_cases I:ys.length<=900
   ·rw[if_pos I] at q
    obtain⟨lb,fb⟩:=(f.step s1).block (nt+1) ix
    refine⟨lcK K (rY nt (m5 (nt+1) ix ρ) gt gi2 gt2 ge) ds ys H1 Hs1,
     ⟨ds.length,[],ds,ys,[],Hs1,rfl,rfl,rfl,.refl s1.sub,.nil,w,rfl⟩,?_⟩
    rintro i m a1 H' ⟨done,bM,zs,ya,k,c,e,l,st,G,hz,y⟩
    obtain⟨Y,g,s⟩:=it H' k (sn.trans st.all) st.sh st.sub
    cases bM with
    |nil=>
     left;cases hz;rw[cq] at c y;subst y c
     exact⟨g i ∅,λp hp=>q p _ H' k (s1.trans st) hp (.lst G)⟩
    |cons d bM=>
     right
     have t:i<ds.length:=by rw[c,aS,aX];omega
     refine⟨Y i t,λx H2 P=>?_⟩
     obtain⟨d',O,hd,v,r2⟩:=s i x H2 t P
     have L:d'=d:=by
      rw[c,aU ∅] at hd;simp[e] at hd;exact hd.symm
     subst L
     obtain⟨o,h,a,u,rfl⟩:=Ki hz
     have a:=xn a
     cases z:V_ nt d' (m5 (nt+1) ix ρ) with
     |no=>rw[z] at a;cases a
     |ex x n=>rw[z] at a;cases a
     |ok ρ'=>
      rw[z,bind_ok] at a
      refine xp N ((fb.step st).step v) r2 z λa3 M=>⟨ρ',?_⟩
      refine⟨_,_,_,O,M,?_⟩
      cases U:gt ρ' with
      |no=>rw[U] at a;cases a
      |ex x n=>rw[U] at a;cases a
      |ok b=>
       rw[U,bind_ok] at a;intro H3 j s3
       cases b with
       |false=>
        rw[if_neg bd] at a;cases a
        exact zU ⟨bM.length,by rw[<- l];simp,done++[d'],bM,h,ya,j,by rw[c];simp,by simp[e],rfl,(st.trans v).trans s3,G.same (v.trans s3).sh,u,by simpa using y⟩
       |true=>
        rw[if_pos rfl] at a
        refine zV ⟨ρ',_,_,_,j,M.step s3,?_⟩
        cases he:gi2 ρ' with
        |no=>rw[he] at a;cases a
        |ex x n=>rw[he] at a;cases a
        |ok es=>
         rw[he,bind_ok] at a;intro J2 H4 a0 a2 s4 T S
         refine Y9 (tl:=h) (ys:=ys) (ya:=ya) ((M.step s3).step s4) T S a I (G.same ((v.trans s3).trans s4).sh) y λvb yb H5 A B s5 rb=>?_
         exact⟨bM.length,by rw[<- l];simp,done++[d'],bM,h,yb,A,by rw[c];simp,by simp[e],rfl,(((st.trans v).trans s3).trans s4).trans s5,rb,u,B⟩
   ·rw[if_neg I] at q;exact q.elim
end
section
variable{c:C}{elt tg iter tg2 iter2:bJ}{ifs ifs2:List bJ}{scope:fG}{pos:Pos}{N':List Str}{nt:Nat}{ix:List Nat}{gi gi2:aI->R (List D)}{gt gt2:aI->R Bool}{ge:aI->R D}
def Rw(nt:Nat)(e:nt=1\/nt=2)(n:c.X.calm=true)(S:mo c.X scope N' (nt+1) ix)(o:JI c tg iter gi)(t:Rt c N' scope nt tg ifs tg2 iter2 ifs2 elt gt gi2 gt2 ge)
  (i:∀(env:Env) x,bW iter2 env x=pure x:=by intro _ _;rfl) (hs:∀x,bW iter c.X.env x=pure x:=by intro _;rfl):
  JN c (.ListComp elt [⟨tg,iter,ifs,0⟩,⟨tg2,iter2,ifs2,0⟩] scope pos) (yF nt ix gi gt gi2 gt2 ge):=.of λρ=>
 tU (Fb n S (xo e) (o ρ) (λk A g f y l=>by
  obtain⟨j,w,m,p,v,u⟩:=t k A g f y l
  exact⟨j,λa s d H Q I h=>by obtain⟨b,q⟩:=h;exact w b a s d H Q I q,λa s d H Q I h=>by obtain⟨b,q⟩:=h;exact m b a s d H Q I q,p,λa s d H Q I h=>by obtain⟨b,q⟩:=h;exact v b a s d H Q I q,λa s d H Q I h=>by obtain⟨b,q⟩:=h;exact u b a s d H Q I q⟩) i hs) λd H Q q=>UW e q
end
end J
namespace ST
open PySem
def pP(m:Nat)(p:jK):jK:=
 if p.more > 0 then {p with j:=p.j+1,more:=p.more-1} else
 {p with j:=(gJ m p.i p.perturb).1,more:=bO m (gJ m p.i p.perturb).1-(gJ m p.i p.perturb).1,i:=(gJ m p.i p.perturb).1,perturb:=(gJ m p.i p.perturb).2}
def Rx(t:fh)(p:jK):t.advance p=pP t.mask p:=by
 unfold SetTable.advance pP;split<;>rfl
def Ww(m:Nat)(h:Int):jK:={j:=b_ h % (m+1),more:=bO m (b_ h % (m+1))-b_ h % (m+1),i:=b_ h % (m+1),perturb:=b_ h,dummy:=none}
def Ry(t:fh)(h:Int):t.probeStart h=Ww t.mask h:=rfl
def ZP(m:Nat)(h:Int):Nat->jK
 | 0=>Ww m h
 |n+1=>pP m (ZP m h n)
theorem Hy(m:Nat)(h:Int):∀n,(ZP m h n).dummy=none
 | 0=>rfl
 |n+1=>by
  show(pP m (ZP m h n)).dummy=none;unfold pP;split<;>exact Hy m h n
def jy(m:Nat)(h:Int):Nat->Nat×Nat
 | 0=>(b_ h % (m+1),b_ h)
 |k+1=>gJ m (jy m h k).1 (jy m h k).2
def Rz(m:Nat)(q:Nat×Nat):jK:={j:=q.1,more:=bO m q.1-q.1,i:=q.1,perturb:=q.2,dummy:=none}
def RA(m i:Nat):bO m i-i<=9:=by
 unfold bO;split<;>omega
theorem Bv(m:Nat)(h:Int)(n:Nat)(q:Nat×Nat)(e:ZP m h n=Rz m q):∀k,k<=bO m q.1-q.1->ZP m h (n+k)={Rz m q with j:=q.1+k,more:=bO m q.1-q.1-k}
 | 0,_=>by rw[kJ,e];rfl
 |k+1,b=>by
  have a:=Bv m h n q e k ∅;show pP m (ZP m h (n+k))=_;rw[a];unfold pP;rw[if_pos (show bO m q.1-q.1-k > 0 by omega)];simp only[Rz];congr 1
theorem Wx(m:Nat)(h:Int):∀k,∃n,n<=10*k/\ZP m h n=Rz m (jy m h k)
 | 0=>⟨0,aA _,rfl⟩
 |k+1=>by
  obtain⟨n,b,e⟩:=Wx m h k;have r:=RA m (jy m h k).1;have a:=Bv m h n _ e (bO m (jy m h k).1-(jy m h k).1) (aA _);refine⟨n+(bO m (jy m h k).1-(jy m h k).1)+1,by omega,?_⟩;show pP m (ZP m h (n+(bO m (jy m h k).1-(jy m h k).1)))=_;rw[a];unfold pP;rw[if_neg (by simp)];rfl
def Me(m:Nat)(h:Int)(k:Nat):(jy m h k).1<m+1:=by
 cases k with
 |zero=>exact nl _ (pq m)
 |succ k=>exact nl _ (pq m)
theorem DL(m:Nat)(h:Int):∀k,(jy m h k).2=b_ h / 32 ^ k
 | 0=>by simp[jy]
 |k+1=>by
  show(jy m h k).2 / 32=_;rw[DL m h k,Jn,Jo]
def NQ(h:Int):b_ h<2 ^ 64:=by
 unfold b_;have a:=oG h (b:=(2 ^ 64:Int)) ⋯;have c:=lM h (b:=(2 ^ 64:Int)) ⋯;omega
def NR(m:Nat)(h:Int)(k:Nat)(a:13<=k):(jy m h k).2=0:=by
 rw[DL];refine Tq (aK (NQ h) ?_);calc 2 ^ 64<=32 ^ 13:=by decide
  _<=32 ^ k:=MX ⋯ a
def RC(N i:Nat):Nat:=(i*5+1) % N
def Bw(N:Nat):Nat->Nat->Nat
 | 0,a=>a
 |k+1,a=>Bw N k (RC N a)
theorem u9(N:Nat):∀(p q a:Nat),Bw N (p+q) a=Bw N q (Bw N p a)
 | 0,q,a=>by rw[e_];rfl
 |p+1,q,a=>by rw[Nat.succ_add];exact u9 N p q (RC N a)
def Mf(N:Nat):Nat->Nat->List Nat
 | 0,_=>[]
 |k+1,a=>a::Mf N k (RC N a)
theorem Bx(N:Nat):∀(n a b:Nat),b∈Mf N n a->∃k,k<n/\Bw N k a=b
 | 0,_,_,h=>nomatch h
 |n+1,a,b,h=>by
  rcases List.mem_cons.mp h with rfl|h
  ·exact⟨0,pq n,rfl⟩
  ·obtain⟨k,c,e⟩:=Bx N n _ _ h;exact⟨k+1,Tr c,e⟩
structure Kj (N:Nat):Prop where
 all:∀b,b<N->b∈Mf N N 0
 back:Bw N N 0=0
def Kj.to(c:Kj N)(d:a<N)(e:b<N):∃k,k<N/\Bw N k a=b:=by
 obtain⟨p,f,rfl⟩:=Bx N N 0 a (c.all a d);obtain⟨q,g,rfl⟩:=Bx N N 0 b (c.all b e);by_cases h:p<=q
 ·exact⟨q-p,by omega,by rw[<- u9,show p+(q-p)=q by omega]⟩
 ·refine⟨q+N-p,by omega,?_⟩;rw[<- u9,show p+(q+N-p)=N+q by omega,u9,c.back]
def By(h:((bx N).all λb=>(Mf N N 0).contains b)=true)(c:Bw N N 0=0):Kj N:=by
 refine⟨λb a=>?_,c⟩;rw[cA] at h;have:=h b (List.mem_range.mpr a);simpa using this
def Ya:Kj 8:=By ∎ ∎
def UX:Kj 32:=By ∎ ∎
def RE:Kj 128:=By ∎ ∎
def rn(m:Nat):Prop:=m=7\/m=31\/m=127
def Mh(h:rn m):Kj (m+1):=by
 rcases h with rfl|rfl|rfl
 ·exact Ya
 ·exact UX
 ·exact RE
theorem Fc(m:Nat)(h:Int):∀k,(jy m h (13+k)).1=Bw (m+1) k (jy m h 13).1
 | 0=>rfl
 |k+1=>by
  have e:Bw (m+1) (k+1) (jy m h 13).1=RC (m+1) (Bw (m+1) k (jy m h 13).1):=by rw[u9];rfl
  rw[e,<- Fc m h k];show(gJ m (jy m h (13+k)).1 (jy m h (13+k)).2).1=_;unfold gJ RC;rw[NR m h (13+k) ∅];try simp
def UY(a:rn m)(h:Int)(c:j<=m):∃n,n<10*(m+15)/\(ZP m h n).j=j:=by
 obtain⟨k,f,e⟩:=(Mh a).to (Me m h 13) (show j<m+1 by omega);obtain⟨n,d,b⟩:=Wx m h (13+k);exact⟨n,by omega,by rw[b];exact(Fc m h k).trans e⟩
theorem RF(m:Nat)(h:Int):∀n,(ZP m h n).j+(ZP m h n).more<=m
 | 0=>by
  have:=nl (b_ h) (show 0<m+1 by omega);show b_ h % (m+1)+(bO m (b_ h % (m+1))-b_ h % (m+1))<=m;unfold bO;split<;>omega
 |n+1=>by
  have a:=RF m h n;show(pP m (ZP m h n)).j+(pP m (ZP m h n)).more<=m;unfold pP;split
  ·simp only;omega
  ·simp only;have:=nl ((ZP m h n).i*5+1+(ZP m h n).perturb / 32) (show 0<m+1 by omega);unfold bO gJ;simp only;split<;>omega
def Mi(m:Nat)(h:Int)(n:Nat):(ZP m h n).j<=m:=by have:=RF m h n;omega
def UZ{p:Nat->Prop}[DecidablePred p]:∀n,p n->∃k,k<=n/\p k/\∀i,i<k->¬ p i:=by
 intro n;induction n using Nat.strongRecOn with
 |ind n c=>
  intro d;by_cases h:∃i,i<n/\p i
  ·obtain⟨i,b,a⟩:=h;obtain⟨k,g,e,f⟩:=c i b a;exact⟨k,by omega,e,f⟩
  ·exact⟨n,aA _,d,λi b a=>h ⟨i,b,a⟩⟩
theorem DM:∀{l l':List Nat},l.Nodup->(∀x∈l,x∈l')->l.length<=l'.length
 |[],_,_,_=>ca _
 |a::r,l',d,h=>by
  obtain⟨f,g⟩:=List.nodup_cons.mp d;have b:=h a aq;have:=DM (l':=l'.erase a) g λx c=>(kq (λ(e:x=a)=>f (by rw[<- e];exact c))).mpr (h x (ak _ c));rw[lc b] at this;have:0<l'.length:=m8 b
  simp only[aX];omega
def RG(l:List Nat)(f:l.length<=m):∃j,j<=m/\j∉l:=by
 by_cases h:∃j,j<=m/\j∉l
 ·exact h
 ·have a:∀j,j<=m->j∈l:=λj c=>by
   by_cases b:j∈l
   ·exact b
   ·exact(h ⟨j,c,b⟩).elim
  have d:(bx (m+1)).Nodup:=T3;have sub:∀x∈bx (m+1),x∈l:=λx e=>a x (by have:=List.mem_range.mp e;omega);have:(bx (m+1)).length<=l.length:=DM d sub
  rw[eg] at this;omega
def Hz{m:Nat}(a:rn m)(h:Int)(l:List Nat)(d:l.length<=m):∃E,E<10*(m+15)/\(ZP m h E).j∉l/\∀n,n<E->(ZP m h n).j∈l:=by
 obtain⟨j,f,b⟩:=RG l d;obtain⟨n,q,e⟩:=UY a h f;obtain⟨k,s,c,g⟩:=UZ (p:=λn=>(ZP m h n).j∉l) n (by rw[e];exact b);exact⟨k,by omega,c,λi o=>Decidable.not_not.mp (g i o)⟩
theorem wl(xs:Array Nat)(j:Nat)(l:xs.toList.Pairwise (·<·)):∀(fuel lo c:Nat),lo<=c->c<=xs.size->c-lo<=fuel->(∀i,i<lo->xs.getD i j<j)->(∀i,c<=i->i<xs.size->j<=xs.getD i j) ->
  ∃r,nr xs j fuel lo c=r/\r<=xs.size/\(∀i,i<r->xs.getD i j<j)/\∀i,r<=i->i<xs.size->j<=xs.getD i j
 | 0,lo,c,o,n,p,f,k=>⟨lo,rfl,by omega,f,λi e=>k i ∅⟩
 |fuel+1,lo,c,o,n,p,f,k=>by
  unfold nr;have mono:∀a b,a<b->b<xs.size->xs.getD a j<xs.getD b j:=λa b d g=>by
   have:=List.pairwise_iff_getElem.mp l a b (by simpa using eN d g) (by simpa using g) d;simpa[Array.getD,eN d g,g] using this
  by_cases m:lo<c
  ·rw[if_pos m];simp only;by_cases h:xs.getD ((lo+c) / 2) j<j
   ·rw[if_pos h];refine wl xs j l fuel _ c ∅ n ∅ (λi e=>?_) k;by_cases he:i=(lo+c) / 2
    ·rw[he];exact h
    ·exact eN (mono i ((lo+c) / 2) ∅ ∅) h
   ·rw[if_neg h];refine wl xs j l fuel lo _ ∅ ∅ ∅ f (λi e hs=>?_);by_cases he:i=(lo+c) / 2
    ·rw[he];omega
    ·have:=mono ((lo+c) / 2) i ∅ hs;omega
  ·rw[if_neg m];exact⟨lo,rfl,by omega,f,λi e hs=>k i ∅ hs⟩
structure RH (xs:List Nat) (j r:Nat):Prop where
 le:r<=xs.length
 lo:∀x∈xs.take r,x<j
 hi:∀x∈xs.drop r,j<=x
def Bz(xs:List Nat)(j:Nat)(l:xs.Pairwise (·<·)):RH xs j (bS xs.toArray j):=by
 obtain⟨r,e,b,d,f⟩:=wl xs.toArray j (by simpa using l) xs.toArray.size 0 xs.toArray.size (ca _) (aA _) ∅ (λi h=>absurd h (dR i)) (λi b d=>absurd d ∅);have k:bS xs.toArray j=r:=e;rw[k];have g:∀i (a:i<xs.length),xs.toArray.getD i j=xs[i]:=λi a=>by simp[Array.getD,a]
 simp only[ba] at b f;refine⟨b,λx c=>?_,λx c=>?_⟩
 ·obtain⟨i,a,rfl⟩:=List.mem_iff_getElem.mp c;rw[sL] at a;rw[List.getElem_take,<- g i ∅];exact d i ∅
 ·obtain⟨i,a,rfl⟩:=List.mem_iff_getElem.mp c;rw[m_] at a;rw[List.getElem_drop,<- g (r+i) ∅];exact f (r+i) ∅ ∅
theorem RH.at(b:RH xs j r)(e:xs.Pairwise (·<·)):xs[r]?=some j↔j∈xs:=by
 constructor
 ·intro h;exact bV h
 ·intro h;rw[<- cW r xs] at h;rcases List.mem_append.mp h with h|h
  ·exact absurd (b.lo j h) (cr j)
  ·cases c:xs.drop r with
   |nil=>rw[c] at h;cases h
   |cons y l=>
    have f:j<=y:=b.hi y (by rw[c];exact aq);have d:xs[r]?=some y:=by
     have:=congrArg (λl=>l[0]?) c;simpa using this
    rw[c] at h;rcases List.mem_cons.mp h with rfl|h
    ·exact d
    ·have a:(xs.drop r).Pairwise (·<·):=e.sublist (List.drop_sublist _ _);rw[c] at a;have:=(List.pairwise_cons.mp a).1 j h;omega
def RH.ins(b:RH xs j r)(l:xs.Pairwise (·<·))(h:j∉xs):(xs.take r++j::xs.drop r).Pairwise (·<·):=by
 have u:=l;rw[<- cW r xs] at u;obtain⟨m,k,i⟩:=List.pairwise_append.mp u;refine List.pairwise_append.mpr ⟨m,List.pairwise_cons.mpr ⟨λx g=>?_,k⟩,λa f c d=>?_⟩
 ·have n:=b.hi x g;have o:j≠x:=λe=>h (e ▸ nI g);omega
 ·rcases List.mem_cons.mp d with rfl|d
  ·exact b.lo a f
  ·exact i a f c d
abbrev Ga:=Nat×(Int×ai)
structure HA (m:Nat) (ps:List Ga) (es:Array (Int×ai)) (t:fh):Prop where
 mask:t.mask=m
 place:t.place=(ps.map (·.1)).toArray
 es:es=(ps.map (·.2)).toArray
 dum:t.dummies=#[]
 up:(ps.map (·.1)).Pairwise (·<·)
theorem HA.slot{m:Nat}{ps:List Ga}{es:Array (Int×ai)}{t:fh}(T:HA m ps es t)(j:Nat):(j∉ps.map (·.1)/\t.slot j=.empty)\/∃i e,ps[i]?=some (j,e)/\t.slot j=.live i:=by
 have b:=Bz (ps.map (·.1)) j T.up;unfold SetTable.slot;rw[T.place];simp only;by_cases h:j∈ps.map (·.1)
 ·right;have e:=(b.at T.up).mpr h;rw[aP] at e;cases d:ps[bS (ps.map (·.1)).toArray j]? with
  |none=>rw[d] at e;cases e
  |some q=>
   rw[d] at e;obtain⟨a,c⟩:=q;cases e;refine⟨_,c,d,?_⟩;rw[if_pos];rw[mS,aP,d];simp
 ·left;refine⟨h,?_⟩;rw[if_neg,if_neg]
  ·rw[T.dum];simp[Dc]
  ·rw[mS];intro e;exact h ((b.at T.up).mp (by simpa using e))
structure Wz (m:Nat) (ps:List Ga):Prop where
 hm:rn m
 le:∀q∈ps,q.1<=m
 way:∀q∈ps,∃n,(ZP m q.2.1 n).j=q.1/\∀i,i<n->(ZP m q.2.1 i).j∈ps.map (·.1)
structure HB (m:Nat) (ps:List Ga) (h:Int) (E:Nat):Prop where
 lt:E<10*(m+15)
 no:(ZP m h E).j∉ps.map (·.1)
 yes:∀n,n<E->(ZP m h n).j∈ps.map (·.1)
def NS(b:rn m)(h:Int)(d:ps.length<=m):∃E,HB m ps h E:=by
 obtain⟨E,a,e,c⟩:=Hz b h (ps.map (·.1)) (by rw[ao];exact d);exact⟨E,a,e,c⟩
def Wz.before(W:Wz m ps)(F:HB m ps h E)(b:q∈ps)(e:q.2.1=h):∃n,n<E/\(ZP m h n).j=q.1:=by
 obtain⟨n,a,c⟩:=W.way q b;rw[e] at a c;refine⟨n,?_,a⟩;rcases zQ n E with z|z|z
 ·exact z
 ·subst z;exact absurd (by rw[a];exact br (f:=λq:Ga=>q.1) b) F.no
 ·exact absurd (c E z) F.no
inductive ZPr (m:Nat) (ps:List Ga) (h:Int) (E n:Nat) (r:Option SetTable.Met):Prop
 |emp (e:r=some (.empty (ZP m h E).j none)) (no:∀k,n<=k->k<E->∀q∈ps,q.1=(ZP m h k).j->q.2.1≠h)
 |cand (k i:Nat) (x:Int×ai) (h1:n<=k) (h2:k<E) (hp:ps[i]?=some ((ZP m h k).j,x)) (hx:x.1=h) (e:r=some (.candidate (ZP m h k).j i (ZP m h (k+1)))) (no:∀k',n<=k'->k'<k->∀q∈ps,q.1=(ZP m h k').j->q.2.1≠h)
def HC{l:List Nat}(d:l.Pairwise (·<·)){i j:Nat}{a:Nat}(g:l[i]?=some a)(k:l[j]?=some a):i=j:=by
 obtain⟨b,c⟩:=List.getElem?_eq_some_iff.mp g;obtain⟨e,f⟩:=List.getElem?_eq_some_iff.mp k;rcases zQ i j with h|h|h
 ·have:=List.pairwise_iff_getElem.mp d i j b e h;rw[c,f] at this;omega
 ·exact h
 ·have:=List.pairwise_iff_getElem.mp d j i e b h;rw[c,f] at this;omega
def DN{m:Nat}{ps:List Ga}{es:Array (Int×ai)}{t:fh}(T:HA m ps es t){i:Nat}{j:Nat}{x:Int×ai}(b:ps[i]?=some (j,x)){q:Ga}(d:q∈ps)(e:q.1=j):q.2=x:=by
 obtain⟨k,a⟩:=List.mem_iff_getElem?.mp d;have c:(ps.map (·.1))[i]?=some j:=by rw[aP,b];rfl
 have f:(ps.map (·.1))[k]?=some j:=by rw[aP,a,<- e];rfl
 have:=HC T.up c f;subst this;rw[b] at a;cases a;rfl
def DO{m:Nat}{ps:List Ga}{es:Array (Int×ai)}{t:fh}(T:HA m ps es t){i:Nat}{e:Ga}(h:ps[i]?=some e):es[i]?=some e.2:=by
 rw[T.es,mS,aP,h];rfl
theorem DP{m:Nat}{ps:List Ga}{es:Array (Int×ai)}{t:fh}{h:Int}{E:Nat}{c:Nat->Int}(T:HA m ps es t)(F:HB m ps h E)(u:∀i e,ps[i]?=some e->c i=e.2.1):∀(fuel n:Nat),n<=E->E-n<fuel->ZPr m ps h E n (tE t c h fuel (ZP m h n))
 | 0,_,_,G=>absurd G (dR _)
 |fuel+1,n,I,G=>by
  unfold tE;rcases T.slot (ZP m h n).j with⟨o,hs⟩|⟨i,e,hp,hs⟩
  ·rw[hs];have:n=E:=by
    rcases da n E with z|z
    ·exact absurd (F.yes n z) o
    ·omega
   subst this;exact .emp (by simp only[Hy]) λk A p=>absurd p ∅
  ·rw[hs];simp only;have H:n<E:=by
    rcases da n E with z|z
    ·exact z
    ·have:n=E:=by omega
     subst this;exact absurd (br (f:=(·.1)) (bV hp)) F.no
   have B:t.advance (ZP m h n)=ZP m h (n+1):=by rw[Rx,T.mask];rfl
   by_cases s:c i=h
   ·rw[if_pos (by simpa using s),B];exact .cand n i e (aA _) H hp ((u i _ hp).symm.trans s) rfl λv A p=>absurd p ∅
   ·rw[if_neg (by simpa using s),B];have d:∀q∈ps,q.1=(ZP m h n).j->q.2.1≠h:=λq g l=>by
     rw[DN T hp g l];intro z;exact s ((u i _ hp).trans z)
    rcases DP T F u fuel (n+1) H ∅ with⟨w,o⟩|⟨k,i',x,A,p,hp',hx,w,o⟩
    ·refine .emp w λk a b q g l=>?_;by_cases y:k=n
     ·subst y;exact d q g l
     ·exact o k ∅ b q g l
    ·refine .cand k i' x ∅ p hp' hx w λv a b q g l=>?_;by_cases y:v=n
     ·subst y;exact d q g l
     ·exact o v ∅ b q g l
def BA{a:Type}(xs:List a)(p:Nat)(x:a):lK xs.toArray p x=(xs.take p++x::xs.drop p).toArray:=by
 apply Array.ext';rw[SetTable.toList_insertAt]
def mx(ps:List Ga)(p:Nat)(e:Ga):List Ga:=ps.take p++e::ps.drop p
def RI(T:HA m ps es t)(W:Wz m ps)(F:HB m ps h E):HA m (mx ps (t.put (ZP m h E).j).2 ((ZP m h E).j,(h,x))) (lK es (t.put (ZP m h E).j).2 (h,x)) (t.put (ZP m h E).j).1/\Wz m (mx ps (t.put (ZP m h E).j).2 ((ZP m h E).j,(h,x))):=by
 have b:=Bz (ps.map (·.1)) (ZP m h E).j T.up;have o:(t.put (ZP m h E).j).2=bS (ps.map (·.1)).toArray (ZP m h E).j:=by
  show bS t.place _=_;rw[T.place]
 rw[o];have d:(mx ps (bS (ps.map (·.1)).toArray (ZP m h E).j) ((ZP m h E).j,(h,x))).map (·.1)=(ps.map (·.1)).take (bS (ps.map (·.1)).toArray (ZP m h E).j)++(ZP m h E).j::(ps.map (·.1)).drop (bS (ps.map (·.1)).toArray (ZP m h E).j):=by
  unfold mx;rw[bI,aC,G8,rK]
 have mem:∀a,a∈ps.map (·.1)->a∈(mx ps (bS (ps.map (·.1)).toArray (ZP m h E).j) ((ZP m h E).j,(h,x))).map (·.1):=λa g=>by
  rw[d];rw[<- cW (bS (ps.map (·.1)).toArray (ZP m h E).j) (ps.map (·.1))] at g;rcases List.mem_append.mp g with z|z
  ·exact bU _ z
  ·exact aF _ (ak _ z)
 refine⟨⟨T.mask,?_,?_,?_,?_⟩,⟨W.hm,λq e=>?_,λq e=>?_⟩⟩
 ·show lK t.place (bS t.place _) _=_;rw[T.place,BA,d]
 ·rw[T.es,BA];unfold mx;rw[bI,aC,G8,rK]
 ·show(if Dc t.dummies _ then _ else t.dummies)=#[];rw[T.dum];simp[Dc]
 ·rw[d];exact b.ins T.up F.no
 ·rcases List.mem_append.mp e with z|z
  ·exact W.le q (vD z)
  ·rcases List.mem_cons.mp z with rfl|z
   ·exact Mi m h E
   ·exact W.le q (nI z)
 ·have c:q∈ps->∃n,(ZP m q.2.1 n).j=q.1/\∀i,i<n->(ZP m q.2.1 i).j∈(mx ps (bS (ps.map (·.1)).toArray (ZP m h E).j) ((ZP m h E).j,(h,x))).map (·.1):=λz=>by
   obtain⟨n,k,l⟩:=W.way q z;exact⟨n,k,λi f=>mem _ (l i f)⟩
  rcases List.mem_append.mp e with z|z
  ·exact c (vD z)
  ·rcases List.mem_cons.mp z with rfl|z
   ·exact⟨E,rfl,λi f=>mem _ (F.yes i f)⟩
   ·exact c (nI z)
def Kk(a:rn m)(h:Int)(b:j<=m):∃K,K<m+15/\(jy m h K).1=j:=by
 obtain⟨k,c,e⟩:=(Mh a).to (Me m h 13) (show j<m+1 by omega);exact⟨13+k,by omega,(Fc m h k).trans e⟩
theorem zv(owner:Array (Option Nat))(h:Int)(l:owner.getD (jy m h K).1 (some 0)=none):
  ∀(fuel k n:Nat),k<=K->K-k<fuel->ZP m h n=Rz m (jy m h k)->(∀i,i<n->owner.getD (ZP m h i).j (some 0)≠none) ->
   ∃N,cx m owner fuel (jy m h k).1 (jy m h k).2=some (ZP m h N).j/\owner.getD (ZP m h N).j (some 0)=none/\∀i,i<N->owner.getD (ZP m h i).j (some 0)≠none
 | 0,_,_,_,o,_,_=>absurd o (dR _)
 |fuel+1,k,n,w,o,e,d=>by
  have run:=Bv m h n _ e;have s:(jy m h k).1<=bO m (jy m h k).1:=by unfold bO;split<;>omega
  have b:∀r,r<bO m (jy m h k).1+1-(jy m h k).1->(ZP m h (n+r)).j=(jy m h k).1+r:=λr f=>by
   rw[run r ∅]
  unfold cx;split
  ·rename_i r f
   obtain⟨q,g,p⟩:=List.find?_range_eq_some.mp f;have g:=List.mem_range.mp g;refine⟨n+r,by rw[b r g],by rw[b r g];simpa using q,λi t=>?_⟩;by_cases c:i<n
   ·exact d i c
   ·have:=p (i-n) ∅;rw[show i=n+(i-n) by omega,b (i-n) ∅];intro z;rw[z] at this;cases this
  ·rename_i f
   have a:=List.find?_range_eq_none.mp f;have v:k≠K:=λz=>by
    subst z;have:=a 0 ∅;rw[kJ,l] at this;cases this
   have u:=run (bO m (jy m h k).1-(jy m h k).1) (aA _);refine zv owner h l fuel (k+1) (n+(bO m (jy m h k).1-(jy m h k).1)+1) ∅ ∅ ?_ λi t=>?_
   ·show pP m (ZP m h (n+(bO m (jy m h k).1-(jy m h k).1)))=_;rw[u];unfold pP;rw[if_neg (by simp)];rfl
   ·by_cases c:i<n
    ·exact d i c
    ·have:=a (i-n) ∅;rw[show i=n+(i-n) by omega,b (i-n) ∅];intro z;rw[z] at this;cases this
structure vq (m:Nat) (hs:List Int) (owner:Array (Option Nat)) (us:List Nat):Prop where
 size:owner.size=m+1
 le:∀x∈us,x<=m
 at_:∀j,j<=m->∀q:Nat,owner[j]?=some (some q)↔us[q]?=some j
 way:∀(q j:Nat) (h:Int),us[q]?=some j->hs[q]?=some h->∃n,(ZP m h n).j=j/\∀i,i<n->(ZP m h i).j∈us
def vq.getD(L:vq m hs owner us)(a:j<=m):owner.getD j (some 0)=none↔j∉us:=by
 have hs:j<owner.size:=by rw[L.size];omega
 rw[d_,bq hs];simp only[kj];constructor
 ·intro z b;obtain⟨q,c⟩:=List.mem_iff_getElem?.mp b;have:=(L.at_ j a q).mpr c;rw[bq hs,z] at this;cases this
 ·intro z;cases e:owner[j] with
  |none=>rfl
  |some q=>
   refine absurd ?_ z;exact bV ((L.at_ j a q).mp (by rw[bq hs,e]))
def xz(m:Nat)(a:Option (Array (Option Nat)×Nat))(h:Int):Option (Array (Option Nat)×Nat):=a.bind λx=>(cx m x.1 (fo m) (b_ h % (m+1)) (b_ h)).bind λj=>some (x.1.setIfInBounds j (some x.2),x.2+1)
def CM(m:Nat)(hs:Array Int):lI m hs=(hs.toList.foldl (xz m) (some (l9 (m+1) none,0))).map (·.1):=by
 rw[MU];rfl
def vq.step(y:rn m)(L:vq m hs owner us)(B:hs[us.length]?=some h)(p:us.length<=m):∃j,xz m (some (owner,us.length)) h=some (owner.setIfInBounds j (some us.length),us.length+1)/\vq m hs (owner.setIfInBounds j (some us.length)) (us++[j]):=by
 obtain⟨O,f,l⟩:=RG us p;obtain⟨K,M,s⟩:=Kk y h f;obtain⟨N,A,v,w⟩:=zv owner h (K:=K) (by rw[s];exact(L.getD f).mpr l) (fo m) 0 0 (ca _) (by unfold fo;omega) rfl (λi b=>absurd b (dR _));have H:(ZP m h N).j∉us:=(L.getD (Mi m h N)).mp v;have before:∀i,i<N->(ZP m h i).j∈us:=λi b=>Decidable.not_not.mp λz=>w i b ((L.getD (Mi m h i)).mpr z);refine⟨(ZP m h N).j,?_,?_⟩
 ·have g:cx m owner (fo m) (b_ h % (m+1)) (b_ h)=some (ZP m h N).j:=A;unfold xz;simp only[ze,g]
 ·have o:=Mi m h N;refine⟨by rw[qT];exact L.size,λx G=>?_,λj E q=>?_,λq j h' d a=>?_⟩
  ·rcases List.mem_append.mp G with z|z
   ·exact L.le x z
   ·rw[List.mem_singleton.mp z];exact o
  ·rw[Array.getElem?_setIfInBounds];by_cases e:(ZP m h N).j=j
   ·rw[if_pos e,if_pos (by rw[L.size];omega)];constructor
    ·intro z;cases z;rw[aU (aA _),Ju,<- e];rfl
    ·intro z;by_cases a:q<us.length
     ·rw[bA a] at z;exact absurd (e ▸ bV z) H
     ·rw[aU ∅] at z;have:q-us.length=0:=by
       obtain⟨c,_⟩:=List.getElem?_eq_some_iff.mp z;simpa using c
      rw[show q=us.length by omega]
   ·rw[if_neg e,L.at_ j E q];constructor
    ·intro z;obtain⟨c,_⟩:=List.getElem?_eq_some_iff.mp z;rw[bA c];exact z
    ·intro z;by_cases a:q<us.length
     ·rw[bA a] at z;exact z
     ·rw[aU ∅] at z;exact absurd (List.mem_singleton.mp (bV z)).symm e
  ·by_cases k:q<us.length
   ·rw[bA k] at d;obtain⟨n,t,u⟩:=L.way q j h' d a;exact⟨n,t,λi b=>bU _ (u i b)⟩
   ·rw[aU ∅] at d;have P:q-us.length=0:=by
     obtain⟨c,_⟩:=List.getElem?_eq_some_iff.mp d;simpa using c
    have I:q=us.length:=by omega
    subst I;rw[B] at a;cases a;exact⟨N,(List.mem_singleton.mp (bV d)).symm,λi b=>bU _ (before i b)⟩
theorem vq.fold(g:rn m):∀(r:List Int) {owner:Array (Option Nat)}{b:List Nat},vq m hs owner b->hs.drop b.length=r->hs.length<=m+1->∃o' a,r.foldl (xz m) (some (owner,b.length))=some (o',a.length)/\vq m hs o' a/\a.length=b.length+r.length
 |[],owner,b,L,_,_=>⟨owner,b,rfl,L,rfl⟩
 |h::r,owner,b,L,e,k=>by
  have i:hs[b.length]?=some h:=by
   have:=congrArg (λl=>l[0]?) e;simpa using this
  obtain⟨q,_⟩:=List.getElem?_eq_some_iff.mp i;obtain⟨j,n,p⟩:=L.step g i ∅;rw[eY,n];have f:(b++[j]).length=b.length+1:=by simp
  obtain⟨o',a,d,o,c⟩:=vq.fold g r p (by
   rw[f];have:=congrArg List.tail e;simpa using this) k
  rw[f] at d c;exact⟨o',a,d,o,by rw[c,aX];omega⟩
def NT(c:rn m)(hs:List Int)(g:hs.length<=m):∃o a,lI m hs.toArray=some o/\vq m hs o a/\a.length=hs.length:=by
 have d:vq m hs (l9 (m+1) none) []:=⟨by simp,(λ_ z=>nomatch z),(λj f q=>by
  rw[Array.getElem?_replicate];constructor
  ·intro z;split at z<;>cases z
  ·intro z;cases z),λq j h z _=>by simp at z⟩
 obtain⟨o,a,e,L,le⟩:=d.fold c hs rfl ∅;refine⟨o,a,?_,L,by simpa using le⟩;rw[CM];have b:hs.toArray.toList.foldl (xz m) (some (l9 (m+1) none,0))=some (o,a.length):=e;rw[b];rfl
def k8(m:Nat)(o:Array (Option Nat)):List (Nat×Nat):=(bx (m+1)).filterMap λj=>(o.getD j none).map (j,·)
def k_(L:vq m hs o us):(j,q)∈k8 m o↔us[q]?=some j:=by
 unfold k8;rw[OR];constructor
 ·rintro⟨d,b,a⟩;have b:=List.mem_range.mp b;cases e:o.getD d none with
  |none=>rw[e] at a;cases a
  |some q'=>
   rw[e] at a;cases a;refine(L.at_ j ∅ q).mp ?_;rw[d_,bq (by rw[L.size];omega)] at e;rw[bq (by rw[L.size];omega)];simpa using e
 ·intro h;have c:=L.le j (bV h);have:=(L.at_ j c q).mpr h;refine⟨j,List.mem_range.mpr ∅,?_⟩;rw[d_,this];rfl
def DQ(m:Nat)(o:Array (Option Nat)):((k8 m o).map (·.1)).Pairwise (·<·):=by
 unfold k8;rw[OP];refine(List.pairwise_lt_range (n:=m+1)).filterMap _ λa b e x d y c=>?_;cases g:o.getD a none with
 |none=>rw[g] at d;cases d
 |some _=>
  cases f:o.getD b none with
  |none=>rw[f] at c;cases c
  |some _=>rw[g] at d;rw[f] at c;cases d;cases c;exact e
def NU(L:vq m hs o us):((k8 m o).map (·.2)).Nodup:=by
 have g:(k8 m o).Nodup:=by
  have h:=DQ m o;have c:(k8 m o).Pairwise (λa b=>a.1<b.1):=List.pairwise_map.mp h;exact c.imp λh e=>by rw[e] at h;exact cr _ h
 refine List.pairwise_map.mpr ?_;refine List.Pairwise.imp_of_mem (λ{a b} f j i e=>?_) g;obtain⟨p,k⟩:=a;obtain⟨n,l⟩:=b;simp only at e;subst e;have d:=(k_ L).mp f;have c:=(k_ L).mp j;rw[d] at c;cases c;exact i rfl
def HD(L:vq m hs o us):((k8 m o).map (·.2)).Perm (bx us.length):=by
 refine(kn (NU L) T3).mpr λq=>?_;rw[m6,List.mem_range];constructor
 ·rintro⟨⟨j,q'⟩,a,rfl⟩;exact(List.getElem?_eq_some_iff.mp ((k_ L).mp a)).1
 ·intro h;exact⟨(us[q],q),(k_ L).mpr (bp h),rfl⟩
def rZ(m:Nat)(o:Array (Option Nat))(es:List (Int×ai)):List Ga:=(k8 m o).filterMap λx=>(es[x.2]?).map (x.1,·)
def DR(L:vq m (es.map (·.1)) o us)(i:us.length=es.length):(rZ m o es).map (·.1)=(k8 m o).map (·.1)/\(rZ m o es).map (·.2)=((k8 m o).map (·.2)).filterMap λq=>es[q]?:=by
 have a:∀x∈k8 m o,∃e,es[x.2]?=some e:=λx d=>by
  obtain⟨h,_⟩:=List.getElem?_eq_some_iff.mp ((k_ L (j:=x.1) (q:=x.2)).mp d);exact⟨_,bp ∅⟩
 unfold rZ;generalize k8 m o=ll at a ⊢;induction ll with
 |nil=>exact⟨rfl,rfl⟩
 |cons x r b=>
  obtain⟨e,he⟩:=a x aq;obtain⟨f,g⟩:=b λy c=>a y (ak _ c);rw[iQ];simp only[he,dn,aC,iQ];exact⟨by rw[f],by rw[g]⟩
def NV(k:rn m)(L:vq m (es.map (·.1)) o us)(d:us.length=es.length):Wz m (rZ m o es):=by
 have sub:∀x,x∈us->x∈(rZ m o es).map (·.1):=λx l=>by
  rw[(DR L d).1];obtain⟨q,c⟩:=List.mem_iff_getElem?.mp l;exact List.mem_map.mpr ⟨(x,q),(k_ L).mpr c,rfl⟩
 have get:∀e∈rZ m o es,∃q,us[q]?=some e.1/\es[q]?=some e.2:=λe he=>by
  unfold rZ at he;obtain⟨⟨j,q⟩,b,a⟩:=List.mem_filterMap.mp he;cases c:es[q]? with
  |none=>simp only[c] at a;cases a
  |some v=>
   simp only[c] at a;cases a;exact⟨q,(k_ L).mp b,c⟩
 refine⟨k,λe he=>?_,λe he=>?_⟩
 ·obtain⟨q,b,_⟩:=get e he;exact L.le _ (bV b)
 ·obtain⟨q,b,a⟩:=get e he;obtain⟨n,f,g⟩:=L.way q e.1 e.2.1 b (by rw[aP,a];rfl);exact⟨n,f,λi h=>sub _ (g i h)⟩
def Fd{es:List (Int×ai)}{l:List Nat}(h:l.Perm (bx es.length)):(l.filterMap λq=>es[q]?).Perm es:=by
 refine(h.filterMap _).trans (.of_eq ?_);have e:(bx es.length).map (λi=>es[i]?)=es.map some:=by
  refine n5 (by simp) λi a c=>?_;simp only[ao,eg] at a;rw[n8,xZ,n8];exact bp a
 have b:(bx es.length).filterMap (λi=>es[i]?)=((bx es.length).map (λi=>es[i]?)).filterMap id:=by rw[jq];rfl
 rw[b,e,jq];simp
def NW{m finger moves:Nat}{led plain:Bool}(c:rn m)(es:List (Int×ai))(g:es.length<=m):∃t' a ps,pE m finger moves led plain (es.toArray.map (·.1))=some (t',a)/\t'.led=led/\t'.plain=plain/\t'.moves=moves/\HA m ps (a.filterMap λq=>es.toArray[q]?) t'/\Wz m ps/\(ps.map (·.2)).Perm es:=by
 obtain⟨o,i,e,L,b⟩:=NT c (es.map (·.1)) (by rw[ao];exact g);rw[ao] at b;obtain⟨d,f⟩:=DR L b;have h:((rZ m o es).map (·.2)).Perm es:=by
  rw[f];exact Fd (by rw[<- b];exact HD L)
 refine⟨_,_,rZ m o es,by unfold pE;rw[List.map_toArray,e];rfl,rfl,rfl,rfl,?_,NV c L b,h⟩;refine⟨rfl,?_,?_,rfl,?_⟩
 ·rw[d];rfl
 ·rw[f];apply Array.ext';rw[Gc];simp only[mS];rfl
 ·rw[d];exact DQ m o
end ST
namespace L2
open PySem PySem.Spec PyProof.Rows ST
abbrev hT(a:bj)(w:bF)(xs:List Str):Int:=tupleKeyHash (strKind a w) xs
abbrev RJ(a:bj)(w:bF)(h:bZ)(x:av×List Str):Prop:=fW (strKind a w) h x.2 x.1
def U_(a:bj)(w:bF)(x:av×List Str):Int×ai:=(hT a w x.2,.ref x.1)
structure Mj (Pg:bj) (w:bF) (h:bZ) (a:av) (m:Nat) (ps:List Ga) (es:Array (Int×ai)) (ep:Nat) (t:fh) (acc:List (av×List Str)):Prop where
 at_:h.get? a=some {cls:=.type "set",dict:=none,data:=.set es ep t}
 tb:HA m ps es t
 wf:Wz m ps
 led:t.led=!w.params.followText "set-order"
 pl:es.size=0\/t.plain=false
 few:ps.length*5<m*3
 el:(ps.map (·.2)).Perm (acc.map (U_ Pg w))
theorem Mj.size(I:Mj Pg w h a m ps es ep t acc):es.size=ps.length/\acc.length=ps.length/\t.fits es.size=true/\t.gaveWay=false:=by
 have b:es.size=ps.length:=by rw[I.tb.es];simp
 have c:acc.length=ps.length:=by have:=I.el.length_eq;simpa using this.symm
 refine⟨b,c,?_,?_⟩
 ·unfold kG pH;rw[I.tb.place,I.tb.dum,I.tb.mask,b];have:=I.few;simp;omega
 ·unfold SetTable.gaveWay;rw[I.tb.mask];rcases I.wf.hm with e|e|e<;>rw[e]<;>rfl
def HE(n:Nat)(h:Jv v=true):ny n v=pure false:=by
 cases v with
 |ref a=>simp[Jv] at h
 |_=>first|rfl|simp[ny]|(unfold ny;rfl)
def DS(e:fW (strKind Pg w) s.heap xs b)(h:Q false s):ay (aD Pg w) A (ny 8 (.ref b)) Q E s:=by
 have hT:=e.typeIs;obtain⟨o,items,n,ho,_,g,f⟩:=e;unfold ny;refine a9 (lB hT ?_);show ay _ _ (if("tuple" == "tuple")=true then _ else _) _ _ s;rw[if_pos ⋯];refine a9 (aa ?_);simp only[g_,aV,if_false];refine a9 (dZ ho g ?_);refine a9 ?_;show ay _ _ (forIn items _ _) _ _ s;rw[<- pv];refine Ew _ (λbM r s'=>r.1=none/\s'=s/\∀v∈bM,Jv v=true) _ ?_ ?_ _ _ ⟨rfl,rfl,f.byValue⟩
 ·rintro v bM r s' ⟨d,rfl,a⟩;rw[HE _ (a v aq)];refine a9 (aa ?_);simp only[aV,if_false];exact aa ⟨rfl,rfl,λu c=>a u (ak _ c)⟩
 ·rintro⟨i,j⟩ s' ⟨d,rfl,_⟩;simp only at d;subst d;exact aa h
def CN(f:fW (strKind Pg w) s.heap xs b)(g:∀y∈l,∃q ys,y=.ref q/\fW (strKind Pg w) s.heap ys q)(h:Q false s):ay (aD Pg w) A (searchCouldBeSeen (.ref b) l) Q E s:=by
 unfold searchCouldBeSeen;refine a9 ?_;refine Ew _ (λbM r s'=>r.1=none/\s'=s/\∀y∈bM,∃q ys,y=.ref q/\fW (strKind Pg w) s.heap ys q) _ ?_ ?_ _ _ ⟨rfl,rfl,g⟩
 ·rintro v bM r s' ⟨d,rfl,a⟩;obtain⟨q,ys,rfl,e⟩:=a v aq;have tl:∀y∈bM,∃q ys,y=.ref q/\fW (strKind Pg w) s'.heap ys q:=λu c=>a u (ak _ c);dsimp only;refine Eu ?_;split
  ·exact aa ⟨rfl,rfl,tl⟩
  ·refine a9 (T4 f ?_);simp only[g_,aV,if_false];refine a9 (T4 e ?_);simp only[g_,aV,if_false];refine a9 (DS f ?_);simp only[aV,if_false];refine a9 (DS e ?_);simp only[aV,if_false];exact aa ⟨rfl,rfl,tl⟩
 ·rintro⟨i,j⟩ s' ⟨d,rfl,_⟩;simp only at d;subst d;exact aa h
def zw(h:Q true s):ay (aD Pg w) A (isSame (.ref r) (.ref r)) Q E s:=by
 unfold isSame;show ay _ _ (if(r==r)=true then _ else _) _ _ s;rw[if_pos (by simp)];exact aa h
theorem HF(I:Mj Pg w s.heap a m ps es ep t acc)(u:∀x∈acc,RJ Pg w s.heap x)(X:fW (strKind Pg w) s.heap xs b)(hu:A.units<eM)(F:HB m ps (hT Pg w xs) N)
  (q1:xs∈acc.map (·.2)->Q (.there none) s) (q2:xs∉acc.map (·.2)->Q (.free (ZP m (hT Pg w xs) N).j false) s):
  ∀(fuel n:Nat) (d:Option jK),n<=N->N-n<fuel->d.getD (t.probeStart (hT Pg w xs))=ZP m (hT Pg w xs) n->(∀k,k<n->∀q∈ps,q.1=(ZP m (hT Pg w xs) k).j->∀r,q.2.2=.ref r->¬ fW (strKind Pg w) s.heap xs r) ->
   ay (aD Pg w) A (MY a (.ref b) (hT Pg w xs) true fuel d) Q E s
 | 0,_,_,_,hf,_,_=>absurd hf (dR _)
 |fuel+1,n,d,hn,hf,Y,K=>by
  obtain⟨sz,la,o,gw⟩:=I.size;unfold MY;refine a9 (aT I.at_ rfl o ?_);dsimp only;rw[gw,Y,if_neg bd];have hA:∀(i:Nat) (e:Ga),ps[i]?=some e->(λi:Nat=>((es[i]?.map (λx:Int×ai=>x.1)).getD 0:Int)) i=e.2.1:=λi e he=>by
   simp only[DO I.tb he];rfl
  have pr:=DP I.tb F hA (10*fo t.mask) n hn (by have:=F.lt;rw[I.tb.mask];unfold fo;omega);have tup:∀q∈ps,∃x∈acc,q.2=U_ Pg w x:=λq B=>by
   have:=I.el.mem_iff.mp (br (f:=(·.2)) B);obtain⟨x,h1,U⟩:=List.mem_map.mp this;exact⟨x,h1,U.symm⟩
  split
  ·rename_i a3 g
   rw[show tE t (λi:Nat=>((es[i]?.map (λx:Int×ai=>x.1)).getD 0:Int)) (hT Pg w xs) (10*fo t.mask) (ZP m (hT Pg w xs) n)=some a3 from g] at pr;rcases pr with⟨l,H⟩|⟨k,i,x,h1,U,hp,hx1,l,H⟩
   ·cases l;refine aa (q2 λz=>?_);obtain⟨y,h,S⟩:=List.mem_map.mp z;obtain⟨e,he,ee⟩:=List.mem_map.mp (I.el.mem_iff.mpr (br (f:=U_ Pg w) h));have eh:e.2.1=hT Pg w xs:=by rw[ee,<- S];rfl
    obtain⟨k,k1,k2⟩:=I.wf.before F he eh;by_cases a1:k<n
    ·refine K k a1 e he k2.symm y.1 (by rw[ee];rfl) ?_;rw[<- S];exact u y h
    ·exact H k ∅ k1 e he k2.symm eh
   ·cases l;obtain⟨y,h,S⟩:=tup _ (bV hp);simp only at S;subst S;have O:=DO I.tb hp;simp only at O;have G:∀v∈nJ (λx=>x.snd) (Array.filter (λx=>x.fst==hT Pg w xs) es).toList,∃q ys,v=.ref q/\fW (strKind Pg w) s.heap ys q:=λv hv=>by
     obtain⟨e,he,rfl⟩:=List.mem_map.mp hv;rw[Array.toList_filter] at he;have he:=(List.mem_filter.mp he).1;rw[I.tb.es] at he;obtain⟨p,a0,rfl⟩:=List.mem_map.mp he;obtain⟨z,hz,ez⟩:=tup p a0;exact⟨z.1,z.2,by rw[ez];rfl,u z hz⟩
    have sl:t.slot (ZP m (hT Pg w xs) k).j=.live i:=by
     rcases I.tb.slot (ZP m (hT Pg w xs) k).j with⟨z,_⟩|⟨i',e',hp',hs'⟩
     ·exact absurd (br (f:=(·.1)) (bV hp)) z
     ·have:=HC I.tb.up (i:=i) (j:=i') (a:=(ZP m (hT Pg w xs) k).j) (by rw[aP,hp];rfl) (by rw[aP,hp'];rfl);rw[hs',this]
    have same:t.sameMemory t.moves t.mask=some true:=by unfold SetTable.sameMemory;rw[if_pos (by simp)]
    have bM:∀(Z:Sem SetFound),(y.2≠xs->Z=MY a (.ref b) (hT Pg w xs) true fuel (some (ZP m (hT Pg w xs) (k+1))))->y.2≠xs->ay (aD Pg w) A Z Q E s:=λZ hZ L=>by
     rw[hZ L];refine HF I u X hu F q1 q2 fuel (k+1) _ U ∅ rfl λP a4 q B eq r T=>?_;by_cases c1:P<n
     ·exact K P c1 q B eq r T
     ·by_cases c2:P<k
      ·intro hz;obtain⟨z,a2,M⟩:=tup q B;rw[M] at T;cases T;have:=(u z a2).inj hz;exact H P ∅ c2 q B eq (by rw[M,<- this];rfl)
      ·have:P=k:=by omega
       subst this;have e2:=DN I.tb hp B eq;rw[e2] at T;cases T;intro hz;exact L ((u y h).inj hz)
    dsimp only;refine Eu ?_;split
    ·refine a9 (CN X G ?_);rw[if_neg bd];rw[O];refine a9 (cH (rP hu (u y h) X ?_));refine a9 (aT I.at_ rfl o ?_);by_cases c:y.2=xs
     ·rw[decide_eq_true c,if_pos (show(true&&true)=true from rfl)];exact aa (q1 (c ▸ br (f:=(·.2)) h))
     ·rw[decide_eq_false c,if_neg ⋯];dsimp only;rw[same];dsimp only;rw[if_pos rfl,sl];dsimp only;rw[O];refine a9 (zw ?_);refine a9 (aa ?_);exact bM _ (λ_=>rfl) c
    ·rw[O];refine a9 (cH (rP hu (u y h) X ?_));refine a9 (aT I.at_ rfl o ?_);by_cases c:y.2=xs
     ·rw[decide_eq_true c,if_pos (show(true&&true)=true from rfl)];exact aa (q1 (c ▸ br (f:=(·.2)) h))
     ·rw[decide_eq_false c,if_neg ⋯];dsimp only;rw[same];dsimp only;rw[if_pos rfl,sl];dsimp only;rw[O];refine a9 (zw ?_);refine a9 (aa ?_);exact bM _ (λ_=>rfl) c
  ·rename_i g
   exfalso;rcases pr with⟨l,H⟩|⟨k,i,x,h1,U,hp,hx1,l,H⟩
   ·exact g _ l
   ·exact g _ l
def V1(h:(strKind Pg w).is x v=true):∃a,v=.str x a:=by
 cases v with
 |str y a=>
  have:=(strKind Pg w).inj _ _ _ h (Xr Pg w y a);exact⟨a,by rw[this]⟩
 |_=>simp[Ep,qO] at h
def CO(c:fW (strKind Pg w) s.heap xs b)(a:xs≠[])(h:Q false s):ay (aD Pg w) A (G9 8 (.ref b)) Q E s:=by
 have hT:=c.typeIs;obtain⟨o,items,n,ho,_,g,d⟩:=c;unfold G9;refine a9 (wG hT F.slot_tuple_hash.lookup ?_);show ay _ _ (zc (.ref b)>>=_) _ _ s;refine a9 (dZ ho g ?_);refine a9 ?_;show ay _ _ (forIn items _ _) _ _ s;rw[<- pv];cases xs with
 |nil=>exact absurd rfl a
 |cons x r=>
  generalize items.toList=l at d;cases d with
  | @cons _ v _ j f _=>
   obtain⟨i,rfl⟩:=V1 f;rw[jD];have e:G9 7 (.str x i)=pure false:=by unfold G9;rfl
   rw[e];refine a9 (a9 (aa ?_));refine aa ?_;refine aa ?_;exact aa h
def V2(T:HA m ps es t)(a:ps.length<=m):t.fits es.size=true:=by
 unfold kG pH;rw[T.place,T.dum,T.mask,T.es];simp;exact a
def Kl(f:s.heap.get? a=some {cls:=.type "set",dict:=none,data:=.set es ep t})(T:HA m ps es t)(i:ps.length<=m)(x:bR wanted=m' + 1)(k:rn m')(p:ps.length<=m')
  (h:∀c es' t',HA m' c es' t'->Wz m' c->(c.map (·.2)).Perm (ps.map (·.2))->t'.led=t.led->t'.plain=t.plain->Q () {s with heap:=s.heap.update a (ku es' t')}):ay (aD Pg w) A (Jr a wanted) Q E s:=by
 obtain⟨t',b,c,e,v,o,y,g,u,l⟩:=NW (finger:=t.finger) (moves:=t.movedTo (bR wanted-1)) (led:=t.led) (plain:=t.plain) k (ps.map (·.2)) (by rw[ao];exact p);rw[<- T.es] at e g;have le:c.length=ps.length:=by have:=l.length_eq;simpa using this
 have sz:es.size=ps.length:=by rw[T.es];simp
 have d:(b.filterMap (λq=>es[q]?)).size=ps.length:=by rw[g.es];simp[le]
 have j:m'<=127:=by rcases k with z|z|z<;>omega
 have n:(128:Nat)<=sizeLine:=by decide
 unfold Jr;refine a9 (aT f rfl (V2 T i) ?_);show ay _ _ (if bR wanted > sizeLine then _ else _) _ _ s;rw[if_neg ∅];refine a9 ?_;unfold z0;rw[show bR wanted-1=m' by omega] at e ⊢;rw[e];show ay _ _ (if((b.filterMap (es[·]?)).size != es.size)=true then _ else pure (b.filterMap (es[·]?),_)) _ _ s;rw[if_neg (by rw[d,sz];simp)];refine aa ?_;exact gW f rfl (h c _ t' g u l v o) (by rw[d];omega)
inductive A6 (Pg:bj) (w:bF) (h:bZ) (a:av) (acc:List (av×List Str)):Prop
 |mk (m:Nat) (ps:List Ga) (es:Array (Int×ai)) (ep:Nat) (t:fh) (I:Mj Pg w h a m ps es ep t acc):A6 Pg w h a acc
def q0c{h:bZ}{a:av}{es es':Array (Int×ai)}{c:Nat}{t t':fh}(b:h.get? a=some {cls:=.type "set",dict:=none,data:=.set es c t}):(h.update a (ku es' t')).get? a=some {cls:=.type "set",dict:=none,data:=.set es' (c+1) t'}:=
 dm (ku es' t') b rfl
def HA.unplain(T:HA m ps es t):HA m ps es {t with plain:=false}:=⟨T.mask,T.place,T.es,T.dum,T.up⟩
def NX{a:av}{c:List (av×List Str)}{b:av}{xs:List Str}{Q:Bool->au->Prop}(hS:A6 Pg w s.heap a c)(hk:∀x∈c,RJ Pg w s.heap x)(hx:fW (strKind Pg w) s.heap xs b)(L:xs≠[])(hu:A.units<eM)(hr:c.length<70)
  (h:∀h',bK a s.heap h'->A6 Pg w h' a (if xs∈c.map (·.2) then c else c++[(b,xs)])->∀r,Q r {s with heap:=h'}):
  ay (aD Pg w) A (Co a (.ref b) (hT Pg w xs)) Q E s:=by
 obtain⟨m,ps,es,G,t,I⟩:=hS
 obtain⟨sz,la,v,gw⟩:=I.size
 have few:=I.few
 obtain⟨N,Fr⟩:=NS I.wf.hm (ps:=ps) (hT Pg w xs) ∅
 unfold Co setAddHashedIn
 refine cH (a9 (aT I.at_ rfl v ?_))
 dsimp only
 have bs:byScan (.ref b) es=false:=by unfold byScan Value.scannable;rfl
 rw[bs,if_neg bd]
 have X:m<=127:=by rcases I.wf.hm with z|z|z<;>omega
 refine a9 ?_
 unfold setSearch
 refine HF I hk hx hu Fr (λz=>?_) (λz=>?_) 100000 0 none (ca _) (by have:=Fr.lt;omega) (by show t.probeStart _=_;rw[Ry,I.tb.mask];rfl) (λk P=>absurd P (dR _))
 ·exact aa (h s.heap (.refl ..) (by rw[if_pos z];exact⟨m,ps,es,G,t,I⟩) _)
 ·dsimp only
  refine a9 (aT I.at_ rfl v ?_)
  dsimp only
  rw[if_neg z] at h
  obtain⟨f,y⟩:=RI (x:=.ref b) I.tb I.wf Fr
  have q:(t.put (ZP m (hT Pg w xs) N).j).1.plain=t.plain:=rfl
  have e:(t.put (ZP m (hT Pg w xs) N).j).1.led=t.led:=rfl
  generalize a4:t.put (ZP m (hT Pg w xs) N).j=tp at f y q e ⊢
  obtain⟨O,p⟩:=tp
  dsimp only at f y q e ⊢
  have U:(mx ps p ((ZP m (hT Pg w xs) N).j,(hT Pg w xs,bi b))).length=ps.length+1:=by
   unfold mx
   rw[aS,aX,<- Nat.add_assoc,<- aS,cW]
  have i:((mx ps p ((ZP m (hT Pg w xs) N).j,(hT Pg w xs,bi b))).map (·.2)).Perm ((c++[(b,xs)]).map (U_ Pg w)):=by
   have a1:(mx ps p ((ZP m (hT Pg w xs) N).j,(hT Pg w xs,bi b))).Perm (((ZP m (hT Pg w xs) N).j,(hT Pg w xs,bi b))::ps):=by
    unfold mx
    refine List.perm_middle.trans ?_
    rw[cW]
   refine(a1.map _).trans ?_
   rw[bI,aC]
   exact((I.el.cons _).trans (Db _ _).symm)
  have u:(lK es p (hT Pg w xs,bi b)).size=ps.length+1:=by rw[f.es];simpa using U
  generalize a0:mx ps p ((ZP m (hT Pg w xs) N).j,(hT Pg w xs,bi b))=ps1 at f y U i
  generalize a2:lK es p (hT Pg w xs,bi b)=e1 at f u ⊢
  have fin:∀d:fh,HA m ps1 e1 d->d.led=t.led->d.plain=false->ay (aD Pg w) A (storeSet a e1 d>>=λ_=>(if(!false&&d.tooFull)=true then Jr a (gV (es.size+1))>>=λ_=>pure true else pure true)) Q E s:=λd n ld pl=>by
   refine a9 (gW I.at_ rfl ?_ (by have a3:(128:Nat)<=sizeLine:=⋯;rw[u];omega))
   have l:=q0c (es':=e1) (t':=d) I.at_
   refine Eu ?_
   have tf:d.tooFull=decide ((ps.length+1)*5 ≥ m*3):=by
    unfold SetTable.tooFull pH
    rw[n.place,n.dum,n.mask]
    simp[U]
   split
   ·rename_i g
    rw[tf] at g
    have g:=of_decide_eq_true (by simpa using g:decide ((ps.length+1)*5 ≥ m*3)=true)
    have cs:(m=7/\ps.length=4)\/(m=31/\ps.length=18):=by
     rcases I.wf.hm with z|z|z<;>omega
    have B:∃o,rn o/\bR (gV (es.size+1))=o + 1/\ps1.length*5<o * 3:=by
     rcases cs with⟨_,z⟩|⟨_,z⟩
     ·refine⟨31,.inr (.inl rfl),?_,by omega⟩
      rw[sz,z];decide
     ·refine⟨127,.inr (.inr rfl),?_,by omega⟩
      rw[sz,z];decide
    obtain⟨o,M,hw,Y⟩:=B
    refine a9 (Kl (s:={s with heap:=s.heap.update a (ku e1 d)}) l n ∅ hw M ∅ λH es' t' T' W' pm K T=>aa ?_)
    refine h _ ((bv s.heap a _).trans (bv _ a _)) ⟨o,H,es',G+1+1,t',⟨q0c l,T',W',K.trans (ld.trans I.led),.inr (T.trans pl),?_,pm.trans i⟩⟩ _
    have:=pm.length_eq
    simp only[ao] at this
    omega
   ·rename_i g
    rw[tf] at g
    have g:¬ ((ps.length+1)*5 ≥ m*3):=λz=>g (by simpa using z)
    refine aa (h _ (bv s.heap a _) ⟨m,ps1,e1,G+1,d,⟨l,n,y,ld.trans I.led,.inr pl,by omega,i⟩⟩ _)
  cases S:O.plain with
  |true=>
   rw[if_pos rfl]
   refine a9 (CO hx L ?_)
   exact fin {O with plain:=false} (L2.HA.unplain f) e rfl
  |false=>
   rw[if_neg bd]
   refine a9 (aa ?_)
   exact fin O f e S
end L2
namespace L2
open PySem PySem.Spec PyProof.Rows
structure mX (w:bF) (h:bZ) (a:av) (es:Array (Int×ai)) (ep:Nat) (t:fh):Prop where
 at_:h.get? a=some {cls:=.type "set",dict:=none,data:=.set es ep t}
 few:es.size<iP
 fits:t.fits es.size=true
 led:t.led=!w.params.followText "set-order"
 pl:es.size=0\/t.plain=false
def mX.keep(x:mX w h S es ep t)(k:∀o,h.get? S=some o->h'.get? S=some o):mX w h' S es ep t:=⟨k _ x.at_,x.few,x.fits,x.led,x.pl⟩
def ro(c:xa s.heap I S first i n ep)(f:mX w s.heap S es ep t)(g:n=es.size)
  (h:ay (aD prog w) A.in1 (do
   if let .int slot _:=first then
    match <- t5 S slot.toNat i ep with
    |some (x,next)=>
     dY (.ref I) 0 (bC next)
     dY (.ref I) 1 (bC (i+1))
     ret x
    |none=>dY (.ref I) 2 .none;lY (<- oF (.type "StopIteration") [])
   else
    let some places <- zc first|kS "internal:set_iterator"
    match places[i]? with
    |some (.int a _)=>
     let x <- Cr S a.toNat ep
     dY (.ref I) 1 (bC (i+1))
     ret x
    |some _=>kS "internal:set_iterator"
    |none=>dY (.ref I) 0 (bC 0);dY (.ref I) 2 .none;lY (<- oF (.type "StopIteration") []))
   (λfin s'=>∃v,fin=.done (.ret v)/\Q (some v) s') (λe s'=>ay (aD prog w) A (Jj e (.type "StopIteration")) (λb d=>b=true/\Q none d) E s') s):
  ay (aD prog w) A (ml (.ref I)) Q E s:=by
 unfold ml;refine a9 (ki ?_);refine cF (name:=gY "__next__") ⟨_,c,rfl⟩ SI.slot_next ?_;refine bH SI.slot_next ⟨_,c,rfl⟩ SI.entry_next ?_ (SI.args_next _);show ay _ _ (fieldsOf (.ref I)>>=_) _ _ s;refine a9 (yg c rfl ?_);show ay _ _ (setEntries S>>=_) _ _ s;refine a9 (qJ f.at_ rfl f.fits ?_);rw[if_neg (by rw[g];simp)];refine cz h (λfin s' z=>?_) λe s' z=>?_
 ·obtain⟨v,rfl,q⟩:=z;exact⟨v,rfl,aa q⟩
 ·refine a9 (cz z (λb d ⟨j,q⟩=>?_) λ_ _ z=>z);subst j;exact aa q
def HG(q:A.handled=none)(g:w.params.followText "set-order"=true)(j:S≠I):
  Ad prog w A I [I,S] [I] es.size (λi v=>((jw (w.params.setOrder S ep) es).toList.map (·.2))[i]?=some v) (λi h=>xa h I S (.int 0 0) i es.size ep/\mX w h S es ep t) where
 sub:=λb d=>by simp at d;simp[d]
 frame:=λi h h' st k=>⟨k I (by simp) _ st.1,st.2.keep λo e=>k S (by simp) o e⟩
 item:=λi s Q E p st l=>by
  obtain⟨c,a⟩:=st;refine ro c a rfl ?_;dsimp only;unfold t5 IX;refine a9 (a9 (aT a.at_ rfl a.fits (a9 (dv ?_))));rw[g];simp only[if_true,bne_self_eq_false,aV,if_false];refine a9 (a9 (aT a.at_ rfl a.fits (a9 (dv ?_))));rw[g];simp only[if_true];refine a9 (fJ (aa (aa ?_)));have f:i<(jw (w.params.setOrder S ep) es).size:=by rw[oo];exact p
  show ay _ _ (match ((jw (w.params.setOrder S ep) es)[i]?).map λe=>(e.2,(0:Int).toNat) with
   |some (x,next)=>do dY (.ref I) 0 (bC next);dY (.ref I) 1 (bC (i+1));ret x
   |none=>do dY (.ref I) 2 .none;lY (<- oF (.type "StopIteration") [])) _ _ s
  rw[getElem?_pos _ i f];refine EJ (nx:=0) c λh' n m=>⟨_,rfl,l _ h' s.toks ?_ ⟨n,a.keep λo e=>(m.2 S j).trans e⟩ λb o d e=>(m.2 b λz=>d (by simp[z])).trans e⟩;simp[f]
 done:=λs Q E st l=>by
  obtain⟨c,a⟩:=st;refine ro c a rfl ?_;dsimp only;unfold t5 IX;refine a9 (a9 (aT a.at_ rfl a.fits (a9 (dv ?_))));rw[g];simp only[if_true,bne_self_eq_false,aV,if_false];refine a9 (a9 (aT a.at_ rfl a.fits (a9 (dv ?_))));rw[g];simp only[if_true];refine a9 (fJ (aa (aa ?_)));show ay _ _ (match ((jw (w.params.setOrder S ep) es)[es.size]?).map λe=>(e.2,(0:Int).toNat) with
   |some (x,next)=>do dY (.ref I) 0 (bC next);dY (.ref I) 1 (bC (es.size+1));ret x
   |none=>do dY (.ref I) 2 .none;lY (<- oF (.type "StopIteration") [])) _ _ s
  rw[getElem?_neg _ es.size (by rw[oo];exact cr _)];exact uD (by simpa using q) c rfl (by simp) λh' u=>l h' s.toks λb o d e=>u b o (λz=>d (by simp[z])) e
 self:=λi s Q E st h=>uE st.1 h
def Fe(y:A.handled=none)(n:S≠I)(hT:T≠I)(B:∀p∈ps,p<es.size)(x:ps.length=es.size):
  Ad prog w A I [I,S,T] [I] es.size (λi v=>(ps.map λp=>(es.getD p (0,.none)).2)[i]?=some v) (λi h=>xa h I S (.ref T) i es.size ep/\mX w h S es ep t/\Zc h T ps) where
 sub:=λb f=>by simp at f;simp[f]
 frame:=λi h h' st k=>⟨k I (by simp) _ st.1,st.2.1.keep λo e=>k S (by simp) o e,let ⟨o,q,e,d⟩:=st.2.2;⟨o,q,k T (by simp) o e,d⟩⟩
 item:=λi s Q E H st u=>by
  obtain⟨a,g,o,q,e,d⟩:=st;refine ro a g rfl ?_;dsimp only;refine a9 (dZ e d ?_);have c:i<ps.length:=by omega
  dsimp only;rw[show((ps.map λ(p:Nat)=>mO (p:Int) 0).toArray)[i]?=some (.int (ps[i]:Nat) 0) by simp[c]];dsimp only;unfold Cr;refine a9 (a9 (aT g.at_ rfl g.fits ?_));have l:=B ps[i] (kF c);simp only[bne_self_eq_false,aV,if_false,jV];rw[getElem?_pos es ps[i] l];refine aa ?_;refine a9 (fU a rfl (by simp) ?_);have m:xa (s.heap.update I (df (·.setIfInBounds 1 (bC (i+1))))) I S (.ref T) (i+1) es.size ep:=a.put (by simp[bC]);have j:bK I s.heap (s.heap.update I (df (·.setIfInBounds 1 (bC (i+1))))):=bv ..;refine aa ⟨_,rfl,u _ _ s.toks ?_ ⟨m,g.keep λo e=>(j.2 S n).trans e,o,q,(j.2 T hT).trans e,d⟩ λb o f e=>(j.2 b λz=>f (by simp[z])).trans e⟩;simp[c,l]
 done:=λs Q E st u=>by
  obtain⟨a,g,o,q,e,d⟩:=st;refine ro a g rfl ?_;dsimp only;refine a9 (dZ e d ?_);dsimp only;rw[show((ps.map λ(p:Nat)=>mO (p:Int) 0).toArray)[es.size]?=none by simp[<- x]];dsimp only;refine a9 (fU a rfl (by simp) ?_);have m:xa (s.heap.update I (df (·.setIfInBounds 0 (bC 0)))) I S (.int 0 0) es.size es.size ep:=a.put (by simp[bC]);have j:bK I s.heap (s.heap.update I (df (·.setIfInBounds 0 (bC 0)))):=bv ..;exact uD (s:={s with heap:=s.heap.update I (df (·.setIfInBounds 0 (bC 0)))}) (by simpa using y) m rfl (by simp) λh' G=>u h' s.toks λb o f e=>G b o (λz=>f (by simp[z])) ((j.2 b λz=>f (by simp[z])).trans e)
 self:=λi s Q E st h=>uE st.1 h
def vL(b:w.params.followText "set-order"=false)(a:mX w s.heap S es ep t)(d:es.size<=1)
  (h:Q (match es[bS t.place slot]?,t.place[bS t.place slot]? with|some (_,x),some j=>some (x,j+1)|_,_=>none) s):ay (aD prog w) B (t5 S slot g ep) Q E s:=by
 unfold t5;refine a9 (aT a.at_ rfl a.fits (a9 (dv ?_)));rw[b];simp only[aV,if_false];split
 ·rename_i z
  exact absurd (show(!t.plain&&decide (es.size > 1))=true from z) (by simp;omega)
 ·have c:t.led=true:=by rw[a.led,b];rfl
  exact PU c (aa h)
def Km(H:A.handled=none)(u:w.params.followText "set-order"=false)(p:S≠I)(m:es.size<=1):
  Ad prog w A I [I,S] [I] es.size (λi v=>(es.toList.map (·.2))[i]?=some v)
   (λi h=>∃k,xa h I S (.int (k:Nat) 0) i es.size ep/\mX w h S es ep t/\(i=0->k=0)/\(i=1->es.size=1->∃j,t.place=#[j]/\k=j+1)) where
 sub:=λb f=>by simp at f;simp[f]
 frame:=λi h h' st k=>let ⟨c,a1,a2,a3⟩:=st;⟨c,k I (by simp) _ a1,a2.keep λo e=>k S (by simp) o e,a3⟩
 item:=λi s Q E L st q=>by
  obtain⟨c,a,d,x,y⟩:=st;have n:i=0:=by omega
  subst n;obtain rfl:c=0:=x rfl;have g:es.size=1:=by omega
  obtain⟨j,l⟩:=Dq (t:=t) (by rw[<- g];exact d.fits);refine ro a d rfl ?_;dsimp only;refine a9 (vL u d m ?_);rw[show(((0:Nat):Int).toNat)=0 from rfl,GD l,getElem?_pos es 0 ∅,l];refine EJ (nx:=j+1) a λh' m B=>⟨_,rfl,q _ h' s.toks ?_ ⟨j+1,m,d.keep λo e=>(B.2 S p).trans e,by simp,λ_ _=>⟨j,l,rfl⟩⟩ λb o f e=>(B.2 b λz=>f (by simp[z])).trans e⟩;simp[g]
 done:=λs Q E st q=>by
  obtain⟨c,a,d,x,y⟩:=st;refine ro a d rfl ?_;dsimp only;refine a9 (vL u d m ?_);have hz:es[bS t.place ((c:Nat):Int).toNat]?=none:=by
   rcases gj es.size with z|z
   ·rw[getElem?_neg];omega
   ·have g:es.size=1:=by omega
    obtain⟨j,l,G⟩:=y g g;rw[G,show(((j+1:Nat):Int).toNat)=j+1 from rfl,GE l,getElem?_neg];omega
  rw[hz];exact uD (by simpa using H) a rfl (by simp) λh' K=>q h' s.toks λb o f e=>K b o (λz=>f (by simp[z])) e
 self:=λi s Q E st h=>let ⟨_,a1,_⟩:=st;uE a1 h
def HH(X:A.handled=none)(g:mX w s.heap S es ep t)
  (h:∀(I:av) (l:List av) (a:List ai) (St:Nat->bZ->Prop) (h':bZ) (d:Cg),s.heap.objs.size<=I->(∀b∈l,b=S\/s.heap.objs.size<=b)->(∀b∈l,b<h'.objs.size)->a.Perm (es.toList.map (·.2))->(∀B:cD,B.handled=none->Ad prog w B I l [I] a.length (λi v=>a[i]?=some v) St)->St 0 h' ->
   (∀b o,s.heap.get? b=some o->h'.get? b=some o)->D9 {s with heap:=h',drawn:=d} (.ref I) "set_iterator"->Q (.ref I) {s with heap:=h',drawn:=d}):ay (aD prog w) A (qp (.ref S)) Q E s:=by
 have hT:s.TypeIs (.ref S) "set":=⟨_,g.at_,rfl⟩;have m:=aB g.at_;refine tj hT vy (bH vy hT SI.entry_iter ?_ (F.args_set_iter_1 _));show ay _ _ (jx S>>=_) _ _ s;unfold jx;refine a9 (a9 (qJ g.at_ rfl g.fits (aa ?_)));show ay _ _ (Th S>>=_) _ _ s;unfold Th;refine a9 (a9 (aT g.at_ rfl g.fits (a9 (dv (aa ?_)))));have fin:∀(first:ai) (l:List av) (a:List ai) (St:Nat->bZ->Prop) (h':bZ) (d:Cg),(∀b o,s.heap.get? b=some o->h'.get? b=some o)->s.heap.objs.size<=h'.objs.size ->
   (∀b∈l,b=S\/b=h'.objs.size\/(s.heap.objs.size<=b/\b<h'.objs.size))->a.Perm (es.toList.map (·.2))->(∀B:cD,B.handled=none->Ad prog w B h'.objs.size l [h'.objs.size] a.length (λi v=>a[i]?=some v) St) ->
   (∀c:bZ,(∀b o,h'.get? b=some o->c.get? b=some o)->xa c h'.objs.size S first 0 es.size ep->St 0 c) ->
   ay (aD prog w) A.in1 (Ti S>>=λe=>newFields "set_iterator" [first,bC 0,.ref S,bC es.size,bC e]>>=λx=>ret x) (λfin s'=>∃v,fin=.done (.ret v)/\∃P r,s'.TypeIs v P/\Jd (.type P) "__next__"=pure (some r)/\Q v s') E {s with heap:=h',drawn:=d}:=by
  intro first l a St h' d kp hsz q H W st
  have u:mX w h' S es ep t:=g.keep λo e=>kp S o e;refine a9 (wpAny_setEpoch_of (s:={s with heap:=h',drawn:=d}) u.at_ rfl u.fits ?_);refine a9 (bD ?_ (by size_fits));have O:∀b o,h'.get? b=some o->(h'.push {cls:=.type "set_iterator",dict:=none,data:=.fields #[first,bC 0,.ref S,bC es.size,bC ep]}).get? b=some o:=λb o e=>ah _ e;have it:(h'.push {cls:=.type "set_iterator",dict:=none,data:=.fields #[first,bC 0,.ref S,bC es.size,bC ep]}).get? h'.objs.size=some {cls:=.type "set_iterator",dict:=none,data:=.fields #[first,bC 0,.ref S,bC es.size,bC ep]}:=aE _ rfl;refine aa ⟨_,rfl,"set_iterator",_,⟨_,it,rfl⟩,SI.slot_next.lookup,h h'.objs.size l a St _ d hsz (λb f=>?_) (λb f=>?_) H W (st _ O it) (λb o e=>O b o (kp b o e)) ⟨_,it,rfl⟩⟩
  ·rcases q b f with z|z|z
   ·exact .inl z
   ·exact .inr (by rw[z];exact hsz)
   ·exact .inr z.1
  ·rw[cf];rcases q b f with z|z|z
   ·rw[z];exact eu (aK m hsz)
   ·rw[z];exact fk _
   ·exact eu z.2
 dsimp only;split
 ·rename_i z
  have z:(!w.params.followText "set-order" && (!t.plain&&decide (es.size > 1)))=true:=z;refine a9 (rQ _ _ _ _ (by simp) λys d H=>?_);simp only[Jk];have K:ys.length=es.size:=by have:=H.length_eq;rwa[eg] at this
  have U:=eX g.few;refine a9 (bD ?_ (by show(ys.map λ(i:Nat)=>bC i).toArray.size<=sizeLine;simp;omega));have n:∀ob:Obj,(s.heap.push ob).objs.size=s.heap.objs.size+1:=λob=>cf ..;refine fin (.ref s.heap.objs.size) [s.heap.objs.size+1,S,s.heap.objs.size] (ys.map λp=>(es.getD p (0,.none)).2)
   (λi h=>xa h (s.heap.objs.size+1) S (.ref s.heap.objs.size) i es.size ep/\mX w h S es ep t/\Zc h s.heap.objs.size ys) (s.heap.push _) d
   (λb o e=>ah _ e) (by rw[n];exact jr _) (λb f=>?_) ?_ (λB L=>?_) (λc k it=>⟨by rw[n] at it;exact it,g.keep λo e=>k S o (ah _ e),_,_,k _ _ (aE _ rfl),rfl⟩)
  ·simp only[bg,bt,or_false] at f;rcases f with y|y|y
   ·exact .inr (.inl (by rw[n];exact y))
   ·exact .inl y
   ·exact .inr (.inr ⟨by rw[y];exact aA _,by rw[n,y];exact fk _⟩)
  ·refine(H.map _).trans (.of_eq ?_);apply n5
   ·simp
   ·intro k M Y;have:k<es.size:=by simpa using M
    simp[this]
  ·rw[ao,K,n];exact Fe L (aM (eu m)) (aM (fk _)) (λp T=>List.mem_range.mp (H.mem_iff.mp T)) K
 ·rename_i z
  have z:¬ (!w.params.followText "set-order" && (!t.plain&&decide (es.size > 1)))=true:=z;refine a9 (aa ?_);have G:S≠s.heap.objs.size:=aM m;cases N:w.params.followText "set-order" with
  |true=>
   refine fin (bC 0) [s.heap.objs.size,S] ((jw (w.params.setOrder S ep) es).toList.map (·.2)) (λi h=>xa h s.heap.objs.size S (.int 0 0) i es.size ep/\mX w h S es ep t) s.heap s.drawn (λ_ _ e=>e) (aA _) (λb f=>?_) ((uB _ es).map _) (λB L=>?_) (λc k it=>⟨it,g.keep λo e=>k S o e⟩)
   ·simp only[bg,bt,or_false] at f;exact f.elim (λz=>.inr (.inl z)) .inl
   ·rw[ao,az,oo];exact HG L N G
  |false=>
   have M:es.size<=1:=by
    rw[N] at z;rcases g.pl with y|y
    ·omega
    ·rw[y] at z;simpa using z
   refine fin (bC 0) [s.heap.objs.size,S] (es.toList.map (·.2)) (λi h=>∃k,xa h s.heap.objs.size S (.int (k:Nat) 0) i es.size ep/\mX w h S es ep t/\(i=0->k=0)/\(i=1->es.size=1->∃j,t.place=#[j]/\k=j+1)) s.heap s.drawn (λ_ _ e=>e) (aA _) (λb f=>?_) (.refl _) (λB L=>?_) (λc k it=>⟨0,it,g.keep λo e=>k S o e,λ_=>rfl,λy=>by cases y⟩)
   ·simp only[bg,bt,or_false] at f;exact f.elim (λz=>.inr (.inl z)) .inl
   ·rw[ao,az];exact Km L N G M
def Ff(X:A.handled=none)(N:mX w s.heap S es ep t)
  (h:∀(a:List ai) (h':bZ) (d:Cg) (tk:Nat),a.Perm (es.toList.map (·.2))->(∀b o,s.heap.get? b=some o->h'.get? b=some o)->s.heap.objs.size<=h'.objs.size->Q a {s with heap:=h',drawn:=d,toks:=tk}):
  ay (aD prog w) A (qR (.ref S)) Q E s:=by
 have B:=aB N.at_;unfold qR;refine a9 (rN (dC nG ?_));rw[cw nH _];show ay _ A.in1 (Cm []>>=λl=>again (.builtin "list.__iadd__" ⟨[l,.ref S],[]⟩)) _ _ s;refine a9 (bD ?_);refine aa ⟨im gN _,dC sM ?_⟩;rw[cw gN _];let s1:au:={s with heap:=s.heap.push {cls:=.type "list",data:=.seq ([]:List ai).toArray}}
 have p:s1.heap.objs.size=s.heap.objs.size+1:=cf ..;have H:s1.heap.get? s.heap.objs.size=some {cls:=.type "list",data:=.seq ([]:List ai).toArray}:=aE _ rfl;have k:mX w s1.heap S es ep t:=N.keep λo e=>ah _ e;show ay _ A.in1 (eS (.ref s.heap.objs.size) (.ref S) (.ref s.heap.objs.size)) _ _ s1;have K:s1.TypeIs (.ref S) "set":=⟨_,k.at_,rfl⟩;unfold eS;refine a9 (lB K ?_);have e1:jW (.ref s.heap.objs.size) (.ref S)=false:=by simp[jW,eZ B]
 have e2:(gH "set" == gH "list")=false:=by decide
 have e3:(gH "set" == gH "tuple")=false:=by decide
 simp only[e1,e2,e3,G4,aV,if_false];refine a9 (HH (A:=A.in1) (by simpa using X) k λI fp a St h' d hI L a0 Y W st kp tI=>?_);let f:au:={s1 with heap:=h',drawn:=d}
 have O:mX w f.heap S es ep t:=k.keep λo e=>kp S o e;have n:f.TypeIs (.ref S) "set":=⟨_,O.at_,rfl⟩;refine a9 (cH ?_);unfold wR;refine a9 (wG (s:=f) n F.slot_set_len.lookup ?_);dsimp only;rw[show splitId "set.__len__"=some ("set","__len__") from by decide +kernel];dsimp only;refine a9 (gE (b:=true) (s:=f) n (by rw[yf];kernel_rfl) ?_);rw[if_neg ⋯,if_pos ⋯];refine a9 (lB (s:=f) n (aa ?_));rw[if_pos ⋯];refine a9 (dk ?_);have nS:s.heap.objs.size∉fp:=λz=>by
  rcases L _ z with q|q
  ·exact absurd B (by rw[<- q];exact cr _)
  ·rw[p] at q;exact absurd q (MP _)
 have y:f.heap.get? s.heap.objs.size=some {cls:=.type "list",data:=.seq ([]:List ai).toArray}:=kp _ _ H;refine a9 ?_;show ay _ A.in1 (OM s.heap.objs.size (·.push .none)>>=λ_=>OM s.heap.objs.size (·.pop)) _ _ f;refine a9 (qt y rfl ?_);have u:=dm (de (·.push eC)) y rfl;refine qt u rfl ?_;have P:=dm (de (·.pop)) u rfl;have x:∀b o,b≠s.heap.objs.size->f.heap.get? b=some o->((f.heap.update s.heap.objs.size (de (·.push eC))).update s.heap.objs.size (de (·.pop))).get? b=some o:=
  λb o g e=>(dE _ _ (dO g)).trans ((dE _ _ (dO g)).trans e)
 have zl:a.length<=sizeLine:=by rw[Y.length_eq,ao,az];exact eX N.few
 have W1:=W A.in1 (by simpa using X);refine aa ⟨im SS _,Tj (A:=A) W1.toS zl _ nS _ a.length 0 {f with heap:=(f.heap.update s.heap.objs.size (de (·.push eC))).update s.heap.objs.size (de (·.pop))} _ _ rfl (ca _) (W1.frame 0 _ _ st λb g o e=>x b o (λz=>nS (z ▸ g)) e) P (ItemsOf.nil _) λs' c c' G v i=>?_⟩;show ay _ A (load s.heap.objs.size>>=_) _ _ s';refine a9 (AC v (aa ?_));have m:c.toList=a:=by
  apply zd;intro j;rw[aW];by_cases T:j<c.size
  ·have:=i.2 j c[j] (by simp[T]);rw[this];simp[T]
  ·rw[getElem?_neg c j T,cV (by rw[<- i.1];omega)]
 rw[m];obtain⟨M,g3,d3,t3,o3⟩:=s';obtain rfl:g3=s.gens:=G.gens;obtain rfl:d3=d:=G.drawn;obtain rfl:o3=s.os:=G.os;have U:∀b o,s.heap.get? b=some o->M.get? b=some o:=λb o e=>by
  have g:=aB e;refine G.heap b o ?_ (x b o (aM g) (kp b o (ah _ e)));simp only[bg,bt,or_false,not_or];exact⟨aM g,aM (aK g (by have q:=hI;rw[p] at q;exact SU q))⟩
 refine h a M _ t3 Y U ?_;have:=aB (show M.get? s.heap.objs.size=some _ from v);exact cB this
def CQ(g:A6 prog w s.heap a acc)(k:∀x∈acc,RJ prog w s.heap x)(i:fW (strKind prog w) s.heap xs b)(f:xs≠[])(n:A.units+2<eM)(j:acc.length<70)
  (h:∀h' d,bK a s.heap h'->A6 prog w h' a (if xs∈acc.map (·.2) then acc else acc++[(b,xs)])->Q .none {s with heap:=h',toks:=d}):
  ay (aD prog w) A (call (.builtin "set.add") [.ref a,.ref b]) Q E s:=by
 have hT:s.TypeIs (.ref a) "set":=by obtain⟨m,ps,es,o,t,I⟩:=id g;exact⟨_,I.at_,rfl⟩
 refine bH F.slot_set_add hT F.entry_set_add ?_ (F.args_set_add_2 _ _);unfold js.«set.add» vh;simp only[SW,bind_assoc];unfold vU;refine a9 (aa ?_);try dsimp only
 refine a9 (aa ?_);try dsimp only
 refine a9 ?_;unfold setAdd;have c:A.in1.units<eM:=by show A.units+1<eM;omega
 refine cH (a9 (wpAny_pyHash_tuple c i ?_));refine NX (s:={s with toks:=s.toks+(xs.length+1)}) g k i f c j λh' l e r=>?_;exact aa ⟨_,rfl,h h' _ l e⟩
def A6.keep(x:A6 Pg w h a acc)(k:∀o,h.get? a=some o->h'.get? a=some o):A6 Pg w h' a acc:=
 let ⟨m,ps,es,ep,t,I⟩:=x;⟨m,ps,es,ep,t,⟨k _ I.at_,I.tb,I.wf,I.led,I.pl,I.few,I.el⟩⟩
def Kn(b:bj)(w:bF)(e:h.get? a=some (i0 w)):A6 b w h a []:=
 ⟨7,[],#[],0,_,⟨e,⟨rfl,rfl,rfl,rfl,.nil⟩,⟨.inl rfl,(λ_ z=>nomatch z),(λ_ z=>nomatch z)⟩,rfl,.inl rfl,by decide,.nil⟩⟩
def vM(c:bj)(w:bF)(a:av)(b:List (av×List Str)):HO:=.ext λh=>A6 c w h a b
def RK(x:A6 P w h a acc):dQ P w H h a (vM P w a acc):=
 ⟨x,let ⟨_,_,_,_,_,I⟩:=x;⟨_,I.at_⟩,λ_ _ y k=>y.keep k⟩
def Mk{pins σ H s}(I:ck X pins σ H s)(h:H a=some (.tup (x.map V.str))):fW (strKind X.prog X.w) s.heap x a:=by
 obtain⟨j,o,b,n,d,e,g,i,ss⟩:=Ht I h;cases d;refine⟨o,b,n,e,g,i,?_⟩;have:∀{b:List ai}{x:List Str},TS.Ss b x->ItemsAre (strKind X.prog X.w) x b:=by
  intro b;induction b with
  |nil=>
   intro x h;cases x with
   |nil=>exact .nil
   |cons _ _=>exact h.elim
  |cons v r c=>
   intro x h;cases x with
   |nil=>exact h.elim
   |cons y ys=>
    obtain⟨⟨t,rfl⟩,f⟩:=h;exact .cons (Xr _ _ y t) (c f)
 exact this ss
def q0d(b:bj)(w:bF)(D:av)(o:Obj)(a:List (av×List Str)):Prop:=∀h:bZ,h.get? D=some o->A6 b w h D a
abbrev RL(d:TE)(e:St)(H:Hp)(a:List (av×List Str))(m:Nat)(f:Nat->List (av×List Str)->Hp->Prop):Prop:=d e H λy b=>∃q z c,y=.ref q/\z≠[]/\b q=some (.tup (z.map V.str))/\(∀x∈a,b x.1=some (.tup (x.2.map V.str)))/\c<m/\f c (if z∈a.map (·.2) then a else a++[(q,z)]) b
def NY(N:X.A.units+2<eM)(G:∀d C b a j f,PE (bT X N' scope d C b a j f) elt te):
  Dm X N' scope M (λD o c=>(∀v,o.data≠.cell v)/\q0d X.prog X.w D o c) (λc=>c.length<70) (RL te) (Q7 X elt):=by
 intro d C b a j f D pl o c t Q s7 K m V B h2 P _ L Y U T fin;refine gG (G d C b a j f _ s7 t Q _ U T) λu8 s8 n=>?_;obtain⟨y,H8,l,r8,q,z,m',E,hz,S,k,hm,q8⟩:=n;obtain⟨pD,pN,_⟩:=l.pin (D,_) (aF _ aq);subst E;cases r8;refine CQ (Y.2 _ pD) (λx hx=>show fW (strKind X.prog X.w) s8.heap _ _ from Mk (X:=bT X N' scope d C b a j f) l (k x hx)) (show fW (strKind X.prog X.w) s8.heap _ _ from Mk (X:=bT X N' scope d C b a j f) l S) hz N L λh9 a0 s i=>?_;obtain⟨m9,O,I,H,t9,p⟩:=id i;have g:=p.at_;exact fin _ _ H8 _ m' ((l.swap s g (λ_ z=>nomatch z) B h2 P).tok _) ⟨λ_ z=>(nomatch z),λh e=>i.keep λo u=>by rw[g] at u;cases u;exact e⟩ hm q8
def RM(j:X.A.units+2<eM)(m:∀k C f g n l,PE (bT X N' scope k C f g n l) elt te):
  JP X N' scope nt nt ix (.SetComp elt [⟨tg,iter,ifs,0⟩] scope pos) tg ifs (P1 (.type "set")) (vM X.prog X.w) [] (λi=>i.length<70) (RL te):=
 ⟨_,_,λ_=>Q7 X elt,λ_=>True,λh=>h.1,rfl,λ_=>⟨λ_ z=>(nomatch z),λ_ e=>Kn X.prog X.w e⟩,λ_ h e=>RK (h.2 _ e),qw,λ_=>Gv (iter:=iter) (λ_ _=>rfl) λa b c d h=>GJ rfl a b c d h,mf,⟨aA _,λ_ _ _=>trivial⟩,λ_=>NY j m⟩
inductive RN (Pg:bj) (w:bF) (nt:Nat) (ix:List Nat) (g:TG) (tt:TT) (te:TE) (σ:St) (Q:VK) (J:It) (H1:Hp):Prop
 |mk (W:Nat->Nat->List (av×List Str)->Hp->Prop) (w0:∃m,W 0 m [] H1) (turn:∀i m acc H,W i m acc H ->
 (J.stop i H/\∀p,H p=none->Q (.ref p) (upd H p (vM Pg w p acc))) \/
 (J.go i H/\acc.length<70/\∀x H',J.yld i H x H'->g x (mT nt ix σ) H' λσ2 H2=>tt σ2 H2 λb H3=>
  if b=true then RL te σ2 H3 acc m (λm' acc' H4=>W (i+1) m' acc' H4) else ∃m',m'<m/\W (i+1) m' acc H3)):RN Pg w nt ix g tt te σ Q J H1
def Ml(d:bj)(w:bF)(nt:Nat)(ix:List Nat)(e:TI)(g:TG)(c:TT)(b:TE):TE:=λa H Q=>e a H (RN d w nt ix g c b a Q)
def HI(N:X.A.units+2<eM)
  (U:X.calm=true) (S:mo X scope N' nt ix) (lo:Ug nt g) (Y:PI X tg iter wi)
  (t:∀o C j i z p,PG (bT X N' scope o C j i z p) tg g/\JM (bT X N' scope o C j i z p) ifs tt/\PE (bT X N' scope o C j i z p) elt te)
  (hs:∀x,bW iter X.env x=pure x:=by intro _;rfl):PE X (.SetComp elt [⟨tg,iter,ifs,0⟩] scope pos) (Ml X.prog X.w nt ix wi g tt te):=by
 intro k s E H Q I h;obtain⟨o,B,c1,M⟩:=oK (scope:=scope) (env:=X.env) λy K hf=>I.ok.has y.1 (S.free y K hf);show ay _ _ (Ac (.SetComp elt [⟨tg,iter,ifs,0⟩] scope pos) scope X.env (P2 [⟨tg,iter,ifs,0⟩] pos) (P1 (.type "set")) (firstAsync [⟨tg,iter,ifs,0⟩]) (firstIter [⟨tg,iter,ifs,0⟩] X.env)) _ _ _;refine iX (use:=none) rfl hs B S.kind S.loc (gG (Y k s E H _ I h) λv s1 G=>gG G λO s2 h2=>?_);obtain⟨it,fp,tn,J,H2,e,I2,T,u,f2,W,L,n⟩:=h2;subst e;refine AS (RR:=λl C=>Jh (aD X.prog X.w) X.A X.xe none (EP X k E Q) l C) (RM N λa b c d e f=>(t a b c d e f).2.2) U S lo (λa b c d e f=>⟨(t a b c d e f).1,(t a b c d e f).2.1⟩) c1 M I2 T u f2 L n ?_;intro D C m s' l H' hD _ q hn P;exact⟨m,hn,λh' sb=>⟨.ref D,_,P h' sb,rfl,q⟩⟩
def yG(hc:X.calm=true)(hu:X.A.units+2<eM):kL X (.builtin "sorted") (λxs H Q=>∃p a,xs=[.ref p]/\H p=some (vM X.prog X.w p a)/\wK H (a.map (·.1)) (a.map (·.2))/\(a.map (·.2)).Nodup/\a.length<=64/\∀l bs,H l=none->wK H bs (mj (a.map (·.2)))->Q (.ref l) (upd H l (.lst (bs.map V.ref)))):=by
 intro U s σ H xs P Q I r h;obtain⟨p,a,rfl,hq,y,Y,hz,q⟩:=h;obtain⟨u,rfl,rx⟩:=md r;cases rx;have hh:=I.ok.hd hc;obtain⟨⟨m,ps,es,ep,t,S⟩,_⟩:=(show dQ X.prog X.w H s.heap p (vM X.prog X.w p a) from I.hok p _ hq);obtain⟨n,la,E,gw⟩:=S.size;have SA:mX X.w s.heap p es ep t:=⟨S.at_,by rw[n,<- la];exact qr hz ⋯,E,S.led,S.pl⟩;refine TS.sorted_T hu (Ff (by simpa using hh) SA λj h' d tk po kp sz=>?_);have c:j.Perm ((a.map (·.1)).map bi):=by
  refine po.trans ?_;rw[S.tb.es];refine(S.el.map (·.2)).trans (.of_eq ?_);rw[cK,cK];rfl
 obtain⟨as,rfl,M⟩:=yE c;obtain⟨ys,t9,T⟩:=(Bo I y).perm c;have i:∀v x,TS.Tk s.heap v x->TS.Tk h' v x:=λv x ⟨b,o,P,m,e0,e1,e2⟩=>⟨b,o,P,m,e0,kp b o e1,e2⟩;have f:as.length=a.length:=by rw[M.length_eq,ao]
 refine⟨ys,t9.keep i,T.nodup_iff.2 Y,by rw[ao,f];exact hz,λk a0 zs e G K L t2 p3 up=>?_⟩;obtain⟨bs,rfl,O⟩:=yE L;obtain rfl:=Hr Y (p3.trans T) up;obtain⟨ws,g,_⟩:=(Bo I y).perm (L.trans c);have:=(g.keep i).inj t2;subst this;have N:∀b o,s.heap.get? b=some o->k.get? b=some o:=λb o e=>G b o (kp b o e);have B:dQ X.prog X.w (upd H h'.objs.size (.lst (bs.map V.ref))) k h'.objs.size (.lst (bs.map V.ref)):=
  ⟨by rw[ao,O.length_eq,f];exact c8 hz (by rw[il];decide),bs.map bi,e,uN bs,K⟩
 have fr:=I.hok.fresh sz;exact⟨.ref h'.objs.size,_,I.call' (s':={s with heap:=k,drawn:=d,toks:=tk}) (ch:=[]) rfl (Un.laid N sz fr) (I.hok.laid N sz B) I.bare (λb z=>absurd z (by simp)),rfl,q _ bs fr (Rs I y (λb hb=>M.mem_iff.1 (O.mem_iff.1 hb)) g)⟩
end L2
namespace J
open PySem L2
section
open PyProof.Rows (envOfC)
section
variable{c:C}{e a b d:bJ}{g ga gb gc:aI->R D}{pos p cpos:Pos}{x:Str}
def pQ:List (List Str)->List (List Str)->List (List Str)
 |acc,[]=>acc
 |acc,x::r=>pQ (if x∈acc then acc else acc++[x]) r
theorem BB(z:List Str):∀(l f:List (List Str)),pQ f (l++[z])=if z∈pQ f l then pQ f l else pQ f l++[z]
 |[],f=>rfl
 |x::l,f=>by
  show pQ _ (l++[z])=_;rw[BB z l];rfl
theorem xA:∀(l f:List (List Str)),(pQ f l).length<=f.length+l.length
 |[],f=>by simp[pQ]
 |y::r,f=>by
  rw[pQ];have:=xA r (if y∈f then f else f++[y]);by_cases h:y∈f
  ·rw[if_pos h] at this ⊢;simp only[aX];omega
  ·rw[if_neg h] at this ⊢;simp only[aX,aS,eR,du] at this ⊢;omega
inductive WA (K:af) (Pg:bj) (w:bF) (cls:Str->av) (E:XK) (ρ:aI) (r:R (List (List Str))) (σ:St) (H:Hp) (Q:VK):Prop
 |mk (H0 Hs0:Hp) (la:Nat->Option av) (Hs:Hp) (f:Fr K H0 Hs0 la ρ σ H Hs) (q:Fin K cls E H Hs r λts=>∀p acc H' Hs',db H Hs H' Hs'->H' p=none->acc.map (·.2)=ts->wK Hs' (acc.map (·.1)) (acc.map (·.2))->Q (.ref p) (upd H' p (vM Pg w p acc))):WA K Pg w cls E ρ r σ H Q
def V3(K:af)(f:bj)(w:bF)(cls:Str->av)(E:XK)(ρ:aI)(r:R (List (List Str))):TE:=WA K f w cls E ρ r
structure V4 (c:C) (e:bJ) (g:aI->R (List (List Str))):Prop where of ::
 run:∀ ρ,PE c.X e (V3 c.X.K c.X.prog c.X.w c.cls c.E ρ (g ρ))
instance{c:C}{e:bJ}{g:aI->R (List (List Str))}:CoeFun (V4 c e g) (λ_=>∀ ρ,PE c.X e (V3 c.X.K c.X.prog c.X.w c.cls c.E ρ (g ρ))):=⟨V4.run⟩
theorem Yb{K:af}{y:bj}{w:bF}{cls:Str->av}{E:XK}{ρ:aI}{r:R (List (List Str))}{v:Type}{k:List (List Str)->R v}{o:St}{H:Hp}{u l Hs:Hp}{la:Nat->Option av}{Q:V->Hp->Prop}{q:v->Prop}(f:Fr K u l la ρ o H Hs)
  (h:Fin K cls E H Hs (r.bind k) q) (m:∀p i H' j,r=.ok (i.map (·.2))->db H Hs H' j->Fr K u l la ρ o H' j->H' p=none->wK j (i.map (·.1)) (i.map (·.2))->Q (.ref p) (upd H' p (vM y w p i))):V3 K y w cls E ρ r o H Q:=by
 refine⟨u,l,la,Hs,f,?_⟩;cases r with
 |ok d=>exact λp i H' j s n e t=>by subst e;exact m p i H' j rfl s (f.step s) n t
 |ex c n=>exact h
 |no=>exact h
variable{gset:aI->R (List (List Str))}
def oq(g:aI->R (List (List Str))):aI->R D:=λρ=>(g ρ).bind λts=>if ts.Nodup/\ts.length<=64 then .ok (.list ((mj ts).map qA)) else .no
def HJ(u:c.X.calm=true)(L:c.X.A.units+64<eM)(h:V4 c e gset)(G:Gl c.X "sorted")(y:c.X.mg "sorted"=none)(he:a_ [e] c.X.env=(false,fO e c.X.env)::a_ [] c.X.env:=by rfl):
  JE c (.Call (.Name "sorted" p) [e] [] cpos) (oq gset):=.of λρ=>by
 refine tU (tP (yG u ∅) G y i7 (i_ (h ρ) kU he) (he:=he)) λM H Q o=>?_;obtain⟨N,I,la,Hs,f,q⟩:=o;dsimp only[L2.Yz,L2.Lm,L2.TZ];refine Yb (w:=c.X.w) f q λp i n k B s1 z v E=>?_;unfold oq at q;rw[B,bind_ok] at q;by_cases hz:(i.map (·.2)).Nodup/\(i.map (·.2)).length<=64
 ·rw[if_pos hz] at q;have j:db n k (upd n p (vM c.X.prog c.X.w p i)) k:=.mine z.st.sub v;refine⟨p,i,rfl,bB,nU j.sub E,hz.1,by simpa using hz.2,λl bs t tb=>?_⟩;obtain⟨m,st,r⟩:=wk (K:=c.X.K) tb j.sub;have s:db (upd n p (vM c.X.prog c.X.w p i)) m (upd (upd n p (vM c.X.prog c.X.w p i)) l (.lst (bs.map V.ref))) (upd m l (.lst (bs.map V.ref))):=.new st.sub t;exact q _ _ _ (s1.trans (j.trans (st.trans s))) (.list (.inl (.of bB)) (r.same s.sh))
 ·rw[if_neg hz] at q;exact q.elim
variable{elt iter tg:bJ}{ifs:List bJ}{scope:fG}{N':List Str}{nt:Nat}{ix:List Nat}{gi:aI->R (List D)}{gt:aI->R Bool}{ge:aI->R D}
def pR(nt:Nat)(ix:List Nat)(gi:aI->R (List D))(gt:aI->R Bool)(ge:aI->R D):aI->R (List (List Str)):=λρ=>(gi ρ).bind λds=>if ds.length<=60 then(gD (jl nt (m5 nt ix ρ) gt ge) ds).bind λys=>match gK ys with
 |some ts=>if []∈ts then .no else .ok (pQ [] ts)
 |none=>.no else .no
theorem vN:∀{xs:List D}{ss:List (List Str)},gK (xs++ys)=some ss->∃s1 i,gK xs=some s1/\gK ys=some i/\ss=s1++i
 |[],ss,h=>⟨[],ss,rfl,h,rfl⟩
 |d::r,ss,h=>by
  cases d with
  |tuple ts=>
   have h:(fw ts).bind (λy=>(gK (r++ys)).map (y::·))=some ss:=h;cases f:fw ts with
   |none=>rw[f] at h;cases h
   |some y=>
    cases j:gK (r++ys) with
    |none=>rw[f,j] at h;cases h
    |some z=>
     rw[f,j] at h;cases h;obtain⟨s1,i,k,l,rfl⟩:=vN j;exact⟨y::s1,i,by show(fw ts).bind (λy=>(gK r).map (y::·))=_;rw[f,k];rfl,l,rfl⟩
  |_=>cases h
theorem Mm{H:Hp}{a:av}{x:List Str}(h:H a=some (.tup (x.map V.str))):∀{f:List av}{xs:List (List Str)},wK H f xs->wK H (f++[a]) (xs++[x])
 |[],[],_=>⟨h,trivial⟩
 |_::_,_::_,t=>⟨t.1,Mm h t.2⟩
 |[],_::_,t=>t.elim
 |_::_,[],t=>t.elim
theorem Mn:∀{f:List (av×List Str)},wK H (f.map (·.1)) (f.map (·.2))->∀x∈f,H x.1=some (.tup (x.2.map V.str))
 |[],_,_,hx=>nomatch hx
 |a::f,t,x,hx=>by
  rcases List.mem_cons.mp hx with rfl|hx
  ·exact t.1
  ·exact Mn t.2 x hx
inductive q0e (f:D->R (Option D)) (ds:List D) (ss:List (List Str)) (H1 Hs1:Hp) (i m:Nat) (acc:List (av×List Str)) (H':Hp):Prop
 |mk (done bM zs sa sz Hs':_) (h0:ds=done++bM) (h1:done.length=i) (h2:bM.length=m) (h3:db H1 Hs1 H' Hs') (h4:acc.map (·.2)=pQ [] sa) (h4':wK Hs' (acc.map (·.1)) (acc.map (·.2))) (h5:sa.length<=i) (h6:gD f bM=.ok zs) (h7:gK zs=some sz) (h8:ss=sa++sz):q0e f ds ss H1 Hs1 i m acc H'
theorem RO(a6:nt=1\/nt=2)
  (q:V3 K Pg w cls E ρ (pR nt ix gi gt ge ρ) σ H Q):
  Ml Pg w nt ix (XB K cls E ρ (gi ρ)) (EX K nt) (λσ H Q=>∃h,GK K cls E0 h (gt h) σ H Q) (λσ H Q=>∃h,TR K cls E0 h (ge h) σ H Q) σ H Q:=by
 obtain⟨H0,b7,la,Hs,f,q⟩:=q;refine⟨H0,b7,la,Hs,f,?_⟩;unfold pR at q;cases hi:gi ρ with
 |no=>rw[hi] at q;exact q
 |ex x n=>rw[hi] at q;exact q
 |ok ds=>
  rw[hi,bind_ok] at q;intro J H1 S Hn s1 sn it;by_cases hl:ds.length<=60
  ·rw[if_pos hl] at q;cases hm:gD (jl nt (m5 nt ix ρ) gt ge) ds with
   |no=>rw[hm] at q;exact q.elim
   |ex x n=>exact(xq (B4 _ _ _ _) _ _ _ hm).elim
   |ok ys=>
    rw[hm,bind_ok] at q;cases hs:gK ys with
    |none=>rw[hs] at q;exact q.elim
    |some ss=>
     rw[hs] at q;dsimp only at q;by_cases I:[]∈ss
     ·rw[if_pos I] at q;exact q.elim
     ·rw[if_neg I] at q;obtain⟨lb,fb⟩:=(f.step s1).block nt ix;refine⟨q0e (jl nt (m5 nt ix ρ) gt ge) ds ss H1 S,
       ⟨ds.length,[],ds,ys,[],ss,S,rfl,rfl,rfl,.refl s1.sub,rfl,trivial,ca _,hm,hs,rfl⟩,?_⟩
      rintro i m t H' ⟨done,bM,zs,L,sz,T,l,B,U,st,k,A,yl,hz,a1,X⟩;obtain⟨b6,G,Y⟩:=it H' T (sn.trans st.all) st.sh st.sub;cases bM with
      |nil=>
       left;cases hz;cases a1;rw[cq] at l X;subst X l;exact⟨G i ∅,λp hp=>q p t H' T (s1.trans st) hp k A⟩
      |cons d bM=>
       right;have a2:i<ds.length:=by rw[l,aS,aX];omega
       have a4:=xA L [];simp at a4;have b8:t.length=(pQ [] L).length:=by rw[<- k,ao]
       refine⟨b6 i a2,by omega,λx H2 b0=>?_⟩;obtain⟨d',a7,hd,s2,r2⟩:=Y i x H2 a2 b0;have a5:d'=d:=by
        rw[l,aU ∅] at hd;simp[B] at hd;exact hd.symm
       subst a5;obtain⟨o,a0,j,a3,rfl⟩:=rX hz;have j:=xn j;obtain⟨so,O,M,hsz,rfl⟩:=vN a1;cases hb:V_ nt d' (m5 nt ix ρ) with
       |no=>rw[hb] at j;cases j
       |ex x n=>rw[hb] at j;cases j
       |ok h=>
        rw[hb,bind_ok] at j;refine xp a6 ((fb.step st).step s2) r2 hb λc0 f2=>⟨h,?_⟩;refine⟨_,_,_,a7,f2,?_⟩;cases ht:gt h with
        |no=>rw[ht] at j;cases j
        |ex x n=>rw[ht] at j;cases j
        |ok b=>
         rw[ht,bind_ok] at j;intro H3 P s3;cases b with
         |false=>
          rw[if_neg bd] at j;cases j;cases M;refine zU ⟨bM.length,by rw[<- U];simp,done++[d'],bM,a0,L,O,P,by rw[l];simp,by simp[B],rfl,(st.trans s2).trans s3,k,nU s3.sh (nU s2.sh A),by omega,a3,hsz,by simpa using X⟩
         |true=>
          rw[if_pos rfl] at j;refine zV ⟨h,_,_,_,P,f2.step s3,?_⟩;cases he:ge h with
          |no=>rw[he] at j;cases j
          |ex x n=>rw[he] at j;cases j
          |ok y=>
           rw[he,bind_ok] at j;cases j;intro v H4 N s4 r4;have s:wK N (t.map (·.1)) (t.map (·.2)):=nU s4.sh (nU s3.sh (nU s2.sh A));have u:=((st.trans s2).trans s3).trans s4;have ho:=lr M;cases so with
           |nil=>cases ho
           |cons z so=>
            cases so with
            |cons _ _=>cases ho
            |nil=>
             have ho:[y]=[qA z]:=ho;cases ho;cases r4 with
             | @tuple a ys _ qa ra=>
              rw[j5 ra] at qa;have a8:z≠[]:=λe=>I (by rw[X,e];simp);refine⟨a,z,bM.length,rfl,a8,u.sub _ _ qa,λx hx=>u.sub _ _ (Mn s x hx),by rw[<- U];simp,done++[d'],bM,a0,L++[z],O,N,by rw[l];simp,by simp[B],rfl,u,?_,?_,by simp;omega,a3,hsz,by rw[X];simp⟩
              ·rw[BB z L [],<- k];split
               ·rfl
               ·rw[bI];rfl
              ·split
               ·exact s
               ·rw[bI,bI];exact Mm qa s
  ·rw[if_neg hl] at q;exact q.elim
def NZ(nt:Nat)(f:nt=1\/nt=2)(h:c.X.calm=true)(k:c.X.A.units+64<eM)(S:mo c.X scope N' nt ix)(i:JI c tg iter gi)(j:uI c N' scope nt tg ifs elt gt ge)(hs:∀x,bW iter c.X.env x=pure x:=by intro _;rfl):
  V4 c (.SetComp elt [⟨tg,iter,ifs,0⟩] scope pos) (pR nt ix gi gt ge):=.of λρ=>tU (HI ∅ h S (xo f) (i ρ) j.at hs) λl H Q q=>RO f q
end
end
end J
namespace L2
open PySem PySem.Spec PyProof.Rows
section
open PySem.AutoSeq1 (wpAny_loadPart')
def Fg(t:TS.Tk h (.ref a) x):fW (strKind Pg w) h x a:=by
 obtain⟨j,o,b,n,d,e,g,i,ss⟩:=t;cases d;refine⟨o,b,n,e,g,i,?_⟩;have:∀{b:List ai}{x:List Str},TS.Ss b x->ItemsAre (strKind Pg w) x b:=by
  intro b;induction b with
  |nil=>
   intro x h;cases x with
   |nil=>exact .nil
   |cons _ _=>exact h.elim
  |cons v r c=>
   intro x h;cases x with
   |nil=>exact h.elim
   |cons y ys=>
    obtain⟨⟨t,rfl⟩,f⟩:=h;exact .cons (Xr _ _ y t) (c f)
 exact this ss
def Fh(l b:av)(f:List av)(n:Nat)(ts:List (List Str))(z:List Str)(j:Nat)(K:ts[j]?=some z)(H:∀i,i<j->ts[i]?≠some z)(o:f.length<=sizeLine)(k:Nat):
  ∀i:Nat,j-i=k->i<=j->Meets (js.«list.remove.loop» ⟨[.ref l,.ref b,bC i],[]⟩)
   (λA R s=>A.units+2<eM/\(∀(i:Nat) (x:List Str),ts[i]?=some x->∃a,f[i]?=some a/\TS.Tk s.heap (.ref a) x)/\ts.length=f.length/\TS.Tk s.heap (.ref b) z/\s.heap.get? l=some {cls:=.type "list",dict:=none,data:=.seq (f.map bi).toArray n,slots:=#[]}/\R (.ok (.ret .none)) {s with heap:=s.heap.update l (de λxs=>xs.eraseIdxIfInBounds j)}):=by
 induction k with
 |zero=>
  intro i Q v prog w A R s h;obtain⟨P,g,d,M,O⟩:=s;obtain⟨I,t,c,u,m,h⟩:=h;have p:i=j:=by omega
  subst p;wp_walk using wpAny_loadPart' m;obtain⟨a,y,G⟩:=t i z K;have E:((f.map bi).toArray)[((i:Nat):Int).toNat]?=some (.ref a):=by simp[y]
  rw[E];refine a9 (rP (by show A.units+1<eM;omega) (Fg G) (Fg u) ?_);rw[decide_eq_true rfl];have B:((f.map bi).toArray.eraseIdxIfInBounds i).size<=sizeLine+1:=c8 (MeetsSeq.size_erased _ _) (rJ (by simpa using o));wp_walk using (qt m rfl (hz:=(by simpa using o)) (_hz':=B)),wpAny_loadPart' m;simpa using h
 |succ k L=>
  intro i Q v prog w A R s h;obtain⟨P,g,d,M,O⟩:=s;obtain⟨I,t,c,u,m,h⟩:=h;have S:=(List.getElem?_eq_some_iff.mp K).1;have q:i<ts.length:=by omega
  wp_walk using wpAny_loadPart' m;obtain⟨a,y,G⟩:=t i ts[i] (bp q);have E:((f.map bi).toArray)[((i:Nat):Int).toNat]?=some (.ref a):=by simp[y]
  have N:((i:Int)+1)=((i+1:Nat):Int):=by push_cast;rfl
  rw[E];refine a9 (rP (by show A.units+1<eM;omega) (Fg G) (Fg u) ?_);rw[decide_eq_false (λe=>H i ∅ (by rw[bp q,e]))];wp_walk;rw[N];exact⟨im jL _,dC Ah (by
   rw[cw jL _];exact L (i+1) ∅ ∅ prog w A R _ ⟨I,t,c,u,m,h⟩)⟩
def Fi(l b:av)(c:List av)(n:Nat)(ts:List (List Str))(z:List Str)(j:Nat)(t:ts[j]?=some z)(k:∀i,i<j->ts[i]?≠some z)(f:c.length<=sizeLine):
  Meets (js.«list.remove» ⟨[.ref l,.ref b],[]⟩)
   (λA R s=>A.units+2<eM/\(∀(i:Nat) (x:List Str),ts[i]?=some x->∃a,c[i]?=some a/\TS.Tk s.heap (.ref a) x)/\ts.length=c.length/\TS.Tk s.heap (.ref b) z/\s.heap.get? l=some {cls:=.type "list",dict:=none,data:=.seq (c.map bi).toArray n,slots:=#[]}/\R (.ok (.ret .none)) {s with heap:=s.heap.update l (de λxs=>xs.eraseIdxIfInBounds j)}):=by
 intro prog w A R s h;obtain⟨v,g,d,y,u⟩:=s;obtain⟨p,o,e,q,m,h⟩:=h;wp_walk using wpAny_loadPart' m;exact⟨im jL _,dC Ah (by
  rw[cw jL _];exact Fh l b c n ts z j t k f _ 0 rfl (ca _) prog w A R _ ⟨p,o,e,q,m,h⟩)⟩
theorem uP{a b:Type}(f:a->b):∀(l:List a) (k:Nat),(l.map f).eraseIdx k=(l.eraseIdx k).map f
 |[],_=>rfl
 |_::_,0=>rfl
 |x::l,k+1=>congrArg (f x::·) (uP f l k)
theorem Mo:∀{b:List av}{xs:List (List Str)}{i:Nat}{x:List Str},wK H b xs->xs[i]?=some x->∃a,b[i]?=some a/\H a=some (.tup (x.map V.str))
 |a::b,y::xs,0,x,t,h=>by cases h;exact⟨a,rfl,t.1⟩
 |a::b,y::xs,i+1,x,t,h=>Mo (i:=i) t.2 h
 |[],[],_,_,_,h=>nomatch h
 |[],_::_,_,_,t,_=>t.elim
 |_::_,[],_,_,t,_=>t.elim
inductive DT (x:V) (vs:List V) (H:Hp) (Q:VK):Prop
 |mk (l b as ts z j:_) (h0:x=.ref l) (h1:vs=[.ref b]) (h2:H l=some (.lst (as.map V.ref))) (h3:wK H as ts) (h4:H b=some (.tup (nJ V.str z))) (h5:ts[j]?=some z) (h6:∀i:Nat,i<j->ts[i]?≠some z) (h7:Q .non (upd H l (.lst ((as.eraseIdx j).map V.ref)))):DT x vs H Q
def RP:V->List V->Hp->VK->Prop:=DT
def Ko(p:X.A.units+2<eM):MtM X "list.remove" RP:=by
 intro f s N H x P v O Q I o B h;obtain⟨l,b,c,ts,z,j,rfl,rfl,k,t,y,K,d,q⟩:=h;cases o;obtain⟨u,rfl,E⟩:=B.one;cases E;obtain⟨g,w,n,r,M,e⟩:=I.lstM k;obtain rfl:=F8 r;rw[ao] at g;refine call_meets F.slot_list_remove ⟨_,e,rfl⟩ F.entry_list_remove (F.args_list_remove_2 _ _) (Fi l b c n ts z j K d g) ⟨p,λi x L=>?_,(J.Fa t).symm,Ht I y,e,?_⟩
 ·obtain⟨a,m,G⟩:=Mo t L;exact⟨a,m,Ht I G⟩
 ·refine⟨.non,_,I.lset (its':=(c.eraseIdx j).map bi) k e ?_ (uN _) ?_,rfl,q⟩
  ·rw[List.eraseIdxIfInBounds_toArray,uP]
  ·rw[ao];have:=List.length_eraseIdx_le (l:=c) (i:=j);omega
end
end L2
namespace J
open PySem L2
theorem HK:∀{ts:List (List Str)},z∈ts->∃j:Nat,ts[j]?=some z/\(∀i,i<j->ts[i]?≠some z)/\ts.erase z=ts.eraseIdx j
 |[],h=>nomatch h
 |y::r,h=>by
  by_cases e:y=z
  ·subst e;exact⟨0,rfl,λi a=>absurd a (dR _),by rw[vF];rfl⟩
  ·obtain⟨j,b,c,d⟩:=HK (z:=z) (ts:=r) ((List.mem_cons.mp h).resolve_left λq=>e q.symm);refine⟨j+1,b,λi a=>?_,?_⟩
   ·cases i with
    |zero=>intro q;cases q;exact e rfl
    |succ i=>exact c i ∅
   ·rw[vG (by simpa using e),d];rfl
def BC(i:Nat)(g:aI->R D):aI->R Fl:=λρ=>match ρ[i]? with
 |some (Sl.own (.list ds))=>(g ρ).bind λd=>match gK ds,gK [d] with
  |some ts,some [z]=>if z∈ts then .ok (.nx (ρ.set i (.own (.list ((ts.erase z).map qA))))) else .no
  |_,_=>.no
 |_=>.no
def Kq(i:Nat)(hu:c.X.A.units+64<eM)(h:JE c e g)(T:c.X.N[i]?=some x:=by rfl)(hv:T6 c.X.env.scope x:=by first|exact jC rfl|exact gy (jC rfl)|exact gy (gy rfl))(hd:(x==("__debug__" : Str))=false:=by decide)
  (y:(x==("__classdict__" : Str))=false:=by decide)
  (n:Ab (.Name x p) "remove" c.X.env (fO (.Name x p) c.X.env)=fO (.Name x p) c.X.env:=by rfl)
  (u:((kR cpos (a_ [e] c.X.env)).all (λx=>!x.1)&&(Tb cpos (G5 [] c.X.env)).all (λx=>x.1.isSome)
   && decide ([e].length+([]:List yY).length+(if([]:List yY).isEmpty then 0 else 1)<30))=true:=by rfl)
  (m:(apos.endLine==cpos.line)=true:=by rfl) (t:a_ [e] c.X.env=(false,fO e c.X.env)::a_ [] c.X.env:=by rfl) (l:(kR cpos (a_ [] c.X.env)).any (·.1)=false:=by rfl)
  (hs:iN (.Call (.Attribute (.Name x p) "remove" apos) [e] [] cpos) none pos.line c.X.env=pure false:=by rfl):
  JS c (.Expr (.Call (.Attribute (.Name x p) "remove" apos) [e] [] cpos) pos) (BC i g):=.of λρ=>by
 refine CJ (Aj (Py qS PySem.F.slot_list_remove PySem.F.type_list_remove (Ko ∅) (tL T hv hd y) (i_ (h ρ) kU t) n u m t l) hs) λD σ H w=>?_;obtain⟨H0,M,la,Hs,f,q⟩:=w;replace q:rc c.X.K c.cls c.E H0 M la D (BC i g ρ):=q;unfold BC at q;split at q
 ·rename_i ds ho
  obtain⟨a,o,P,O,k3,k4,k5⟩:=f.ow i _ ho;cases k5 with
  | @lst vs _ r=>
   refine⟨_,P,.inl ⟨rfl,_,.of O⟩,?_⟩;refine sE f q λd v H1 G e1 s1 I r1=>?_;rw[e1,bind_ok] at q;cases s:gK ds with
   |none=>rw[s] at q;exact q.elim
   |some ts=>
    cases k:gK [d] with
    |none=>rw[s,k] at q;exact q.elim
    |some U=>
     cases U with
     |nil=>rw[s,k] at q;exact q.elim
     |cons z zr=>
      cases zr with
      |cons _ _=>rw[s,k] at q;exact q.elim
      |nil=>
       rw[s,k] at q;dsimp only at q;by_cases hz:z∈ts
       ·rw[if_pos hz] at q;obtain⟨j,Y,j2,j3⟩:=HK hz;have L:=r.same s1.sh;rw[lr s] at L;obtain⟨as,rfl,ta⟩:=Bu L;have B:=lr k;have B:[d]=[qA z]:=B;cases B;cases r1 with
        | @tuple b ys _ Q rb=>
         rw[j5 rb] at Q;refine⟨a,b,as,ts,z,j,rfl,rfl,s1.all _ _ O,nU I.st.sub ta,I.st.sub _ _ Q,Y,j2,?_⟩;have S:=RDs.erase j L;rw[uP,uP,<- j3] at S;exact q _ _ G (I.write i ho P (.lst S))
       ·rw[if_neg hz] at q;exact q.elim
 ·exact q.elim
def xB:Sl->Sl
 |.own (.list ds)=>.shr (.list ds)
 |.shr d=>.shr d
 |_=>.no
def zx(ρ:aI):aI:=ρ.map xB
def yH(g:aI->R Bool):aI->R Bool:=λρ=>match g (zx ρ) with
 |.ok b=>.ok b
 |_=>.no
def HL:(∃ds,s=.own (.list ds)/\xB s=.shr (.list ds))\/(∃d,s=.shr d/\xB s=.shr d)\/xB s=.no:=by
 cases s with
 |shr d=>exact .inr (.inl ⟨d,rfl,rfl⟩)
 |own d=>cases d<;>first|exact .inl ⟨_,rfl,rfl⟩|exact .inr (.inr rfl)
 |_=>exact .inr (.inr rfl)
def HM{ρ:aI}{i:Nat}{s:Sl}(h:(zx ρ)[i]?=some s):(∃ds,ρ[i]?=some (.own (.list ds))/\s=.shr (.list ds))\/(∃d,ρ[i]?=some (.shr d)/\s=.shr d)\/s=.no:=by
 unfold zx at h;rw[aP] at h;cases e:ρ[i]? with
 |none=>rw[e] at h;cases h
 |some t=>
  rw[e] at h;have h:xB t=s:=c6 h;subst h;rcases HL (s:=t) with⟨ds,rfl,a⟩|⟨d,rfl,a⟩|a
  ·exact .inl ⟨ds,rfl,a⟩
  ·exact .inr (.inl ⟨d,rfl,a⟩)
  ·exact .inr (.inr a)
def Fr.lent{K:af}{m k H Hs:Hp}{la:Nat->Option av}{ρ:aI}{l:St}(f:Fr K m k la ρ l H Hs):Fr K H (A5 (λ_=>true) H Hs) (λ_=>none) (zx ρ) l H (A5 (λ_=>true) H Hs):=by
 refine⟨.refl (Rh f.st.sub),by rw[<- f.len];simp[zx],λi d h=>?_,λi d h=>?_,λi d h=>?_,λi j d e a h _ _ _=>?_,λi a h=>(nomatch h),λi d h=>?_,λi j d e h _=>?_⟩
 ·rcases HM h with⟨ds,b,h2⟩|⟨d',b,h2⟩|h2
  ·cases h2;obtain⟨a,o,g,c,p,q,n⟩:=f.ow i _ b;cases n with
   | @lst s _ r=>exact⟨_,g,.list (.inl (.of (Rg c p rfl))) (r.same yB)⟩
  ·cases h2;obtain⟨v,g,c⟩:=f.sh i _ b;exact⟨v,g,c.same yB⟩
  ·cases h2
 all_goals (rcases HM h with⟨ds,b,h2⟩|⟨d',b,h2⟩|h2<;>cases h2)
def V5(h:JT c e g):JT c e (yH g):=.of λρ=>YB (h (zx ρ)) λk H Q a=>by
 obtain⟨l,i,la,Hs,f,q⟩:=a;refine⟨_,_,_,_,f.lent,?_⟩;unfold yH at q;cases d:g (zx ρ) with
 |no=>rw[d] at q;exact q.elim
 |ex y n=>rw[d] at q;exact q.elim
 |ok b=>
  rw[d] at q;exact λH' j s=>q H' _ (NG f.st.sub s)
end J
namespace L2
open PySem PySem.Spec PyProof.Rows
def Fj(ho:s.heap.get? a=some o)(i:o.cls=.type "tuple")(l:o.data=.seq items n)(hz:items.size<=sizeLine)
  (q:∀h',(∀b o',s.heap.get? b=some o'->h'.get? b=some o')->s.heap.objs.size<=h'.objs.size->Q items.toList {s with heap:=h'}):ay (aD prog w) A (qR (.ref a)) Q E s:=by
 unfold qR;refine a9 (rN (dC nG ?_));rw[cw nH _];refine a9 (bD ?_);refine aa ⟨im gN _,dC sM ?_⟩;rw[cw gN _];have c:(s.heap.push {cls:=.type "list",data:=.seq ([]:List ai).toArray}).get? s.heap.objs.size=some {cls:=.type "list",data:=.seq #[] 0}:=aE _ rfl;have d:=dm (de (·++items)) c rfl;have fin:ay (aD prog w) A (match bi s.heap.objs.size with | .ref a=>(do let o <- load a;match o.data with | .seq xs _=>pure xs.toList|_=>kS "internal:collect")|_=>kS "internal:collect") Q E {s with heap:=(s.heap.push {cls:=.type "list",data:=.seq ([]:List ai).toArray}).update s.heap.objs.size (de (·++items))}:=by
  show ay _ A (load s.heap.objs.size>>=_) _ _ _;refine a9 (AC d (aa ?_));show Q ((#[]:Array ai)++items).toList _;rw[show((#[]:Array ai)++items).toList=items.toList by simp];refine q _ (λb o' g=>(dE _ _ (eZ (aB g))).trans (ah _ g)) ?_;rw[sO,cf];exact jr _
 show ay _ A.in1 (eS (.ref s.heap.objs.size) (.ref a) (.ref s.heap.objs.size)) _ _ _;refine cz (wpAny_extend_seq (hsz:=hz) (A:=A) (R:=λr s'=>r=.ok (.ret (.ref s.heap.objs.size))/\s'={s with heap:=(s.heap.push {cls:=.type "list",data:=.seq ([]:List ai).toArray}).update s.heap.objs.size (de (·++items))})
  (s:={s with heap:=s.heap.push {cls:=.type "list",data:=.seq ([]:List ai).toArray}}) _ a _ 0 (.inr rfl) c (ah _ ho) i l ⟨rfl,rfl⟩) (λf s' h=>?_) (λe s' h=>absurd h.1 (by simp))
 cases f with
 |done f=>
  obtain⟨e,rfl⟩:=h;cases e;exact fin
 |again m=>exact⟨h.1,nh h.2 λr k j=>by obtain⟨rfl,rfl⟩:=j;exact fin⟩
def yI:kL X (.builtin "sorted") (λxs H Q=>∃p ss,xs=[.ref p]/\mD X.K H p (ss.map V.str)/\ss.length<64/\∀l,H l=none->Q (.ref l) (upd H l (.lst ((jk ss).map V.str)))):=by
 intro k s N H xs O Q I r h;obtain⟨p,ss,rfl,A,hz,q⟩:=h;obtain⟨u,rfl,v⟩:=md r;cases v;obtain⟨B,G,⟨o,t,a,n,z⟩,M⟩:=I.tuple A;have j:=k7 G;have m:=gm j;refine zh (Fj t a z (by rw[ba,m,il];omega) λh' kp sz=>?_);refine⟨ss,by simpa using j,by simpa[m] using hz,λa c L e d f g x E=>?_⟩;have y:∀b o,s.heap.get? b=some o->a.get? b=some o:=λb o e=>d b o (kp b o e);obtain rfl:=AT x E;have fr:=I.hok.fresh sz;have i:dQ X.prog X.w (upd H h'.objs.size (.lst ((jk ss).map V.str))) a h'.objs.size (.lst ((jk ss).map V.str)):=
  ⟨by rw[ao,(hG ss).length_eq];exact c8 (cB hz) (by rw[il];decide),c,e,nO g,f⟩
 exact⟨.ref h'.objs.size,_,I.laid (t':=s.toks) y sz i,rfl,q _ fr⟩
end L2
namespace J
open PySem L2
def pS:D->R D
 |.tuple ds=>match fw ds with
  |some ss=>if ss.length<64 then .ok (.list ((jk ss).map .str)) else .no
  |none=>.no
 |_=>.no
def Kr:Nw X (.builtin "sorted") (i8 pS):=by
 refine tZ (λd c n=>?_) λe s k H x u Q Hs d d' I m sub i b q=>?_
 ·unfold pS;split<;>(try split)<;>(try split)<;>exact λh=>by cases h
 ·unfold pS at b;split at b
  ·split at b
   ·split at b
    ·rename_i ss hs hz
     cases b;obtain⟨a,o,rfl,f,g,_⟩:=i.tuple sub;rw[mV hs] at g;rw[j5 g] at f;exact yI e s k H _ _ Q I (.cons m .nil) ⟨a,ss,rfl,f,hz,λl j=>q _ _ _ (.new sub j) (.list (.of bB) (tT _))⟩
    ·cases b
   ·cases b
  ·cases b
end J
namespace L2
open PySem PySem.Spec PyProof.Rows
def N_:tO X (cj .IsNot) (λx y H Q=>∃a b,x=.bl a/\y=.bl b/\Q (.bl (!(a==b))) H):=by
 intro c s g H x y v u Q I d f h;obtain⟨a,b,rfl,rfl,q⟩:=h;cases d;cases f;show ay _ _ (isSame (.bool a) (.bool b)>>=_) _ _ s;refine a9 ?_;unfold isSame;refine aa ?_;refine aa ?_;have e:(wL a==wL b)=(a==b):=by cases a<;>cases b<;>decide
 rw[e];exact⟨.bl _,H,I,rfl,q⟩
end L2
namespace J
open PySem L2
def WB(c:Bool):D->D->R D
 |.bool a,.bool b=>if c then .ok (.bool (!(a==b))) else .no
 |_,_=>.no
def O0:Am X (cj .IsNot) (WB true):=by
 refine⟨λb s i H x y v u Q I m p ⟨Hs,z,w,sub,f,l,d,e,q⟩=>?_,λx y c n=>?_⟩
 ·unfold WB at e;split at e
  ·rename_i g j
   cases e;have k:x=.bl g:=by
    rcases f with h|⟨a,o,rfl,_,_,h⟩
    ·cases h;rfl
    ·cases h
   have t:y=.bl j:=by
    rcases l with h|⟨a,o,rfl,_,_,h⟩
    ·cases h;rfl
    ·cases h
   exact N_ b s i H x y v u Q I m p ⟨_,_,k,t,q _ H Hs (.refl sub) (.bool _)⟩
  ·cases e
 ·unfold WB;split<;>(try split)<;>exact λh=>by cases h
end J
namespace Z
open PySem L2 J
def lT:aI->R Fl:=(eL (xk (bX (ag (dh 1 [1] (gC (rB 0)) kT (g2 (rB 0) (rB 1) (r6 false))) aJ) (i8 (eA λbs=>bs.any id)))))
def eU:List D->R D:=i4 2 lT
def uQ:aI->R Fl:=(eL (bX (ag (dh 1 [1] (gC (rB 0)) (fF (g2 (rB 0) (rB 1) (r6 true))) (rS 0)) aJ) (i8 ig)))
def ou:List D->R D:=i4 2 uQ
def xC:aI->R Fl:=(eL (bX (ag (oR (R8 (u6 (rB 0)) (u6 (rB 1)))) aJ) (i8 ig)))
def xD:List D->R D:=i4 2 xC
def uR:aI->R Fl:=(bh (gF (yc (j6 (fF (rT (rB 0) "str"))) (j6 (fF (tW (kI 1) (bX (ag (rB 0) aJ) (i8 nA)) (kI 6) VU VU)))) (eL (kB false)) (λρ=>.ok (.nx ρ))) (eL (bX (ag (dh 1 [] (gC (rB 0)) kT (tW (λ_=>.ok (.str "a")) (rB 0) (λ_=>.ok (.str "z")) VU VU)) aJ) (i8 (eA λbs=>bs.all id)))))
def rq:List D->R D:=i4 1 uR
def j8:aI->R Fl:=(bh (gF (yc (j6 (fF (rT (rB 0) "tuple"))) (j6 (fF (bX (ag (dh 1 [] (gC (rB 0)) kT (f9 1 rq (ag (rS 0) aJ))) aJ) (i8 (eA λbs=>bs.all id)))))) (eL (kB false)) (λρ=>.ok (.nx ρ))) (eL (bX (ag (dh 2 [] (Uy (ag (rS 0) (ag (zm (rB 0) (yx (kI 1)) Ao) aJ))) kT (g2 (rB 0) (rB 1) K6)) aJ) (i8 (eA λbs=>bs.all id)))))
def hW:List D->R D:=i4 1 j8
def pT:aI->R Fl:=(eL (q_ (f9 1 hW (ag (rS 1) aJ)) (bX (ag (dh 1 [0] (gC (rB 1)) kT (g2 (rB 0) (rB 1) (r6 false))) aJ) (i8 (eA λbs=>bs.all id)))))
def lv:List D->R D:=i4 2 pT
def r_:aI->R Fl:=(bh (gF (yc (j6 (fF (rT (rB 0) "int"))) (fF (rT (rB 0) "bool"))) (eL (kB false)) (λρ=>.ok (.nx ρ))) (eL (tW (rB 1) (rB 0) (rB 2) VU VU)))
def sd:List D->R D:=i4 3 r_
def pU:aI->R Fl:=(bh (gF (yc (j6 (fF (rT (rB 1) "tuple"))) (fF (g2 (bX (ag (rB 1) aJ) (i8 nA)) (kI 6) (pj true)))) (eL (kB false)) (λρ=>.ok (.nx ρ))) (bh (A1 (rS 1) (mw 6 (cO (bN 2) (cO (bN 3) (cO (bN 4) (cO (bN 5) (cO (bN 6) (cO (bN 7) nB)))))))) (bh (gF (yc (j6 (fF (f9 1 rq (ag (rS 2) aJ)))) (j6 (fF (f9 3 sd (ag (rS 7) (ag (kI 0) (ag (kI 9) aJ))))))) (eL (kB false)) (λρ=>.ok (.nx ρ))) (bh (gF (j6 (fF (bX (ag (dh 1 [0] (gC (fv (ag (rS 3) (ag (rS 4) (ag (rS 5) (ag (rS 6) aJ)))) .tuple)) kT (f9 2 lv (ag (rS 1) (ag (rS 0) aJ)))) aJ) (i8 (eA λbs=>bs.all id))))) (eL (kB false)) (λρ=>.ok (.nx ρ))) (eL (q_ (f9 2 eU (ag (rS 3) (ag (rS 4) aJ))) (f9 2 eU (ag (rS 5) (ag (rS 6) aJ)))))))))
def pV:List D->R D:=i4 8 pU
def uS:aI->R Fl:=(bh (gF (yc (j6 (fF (rT (rB 0) "tuple"))) (fF (g2 (bX (ag (rB 0) aJ) (i8 nA)) (kI 2) (pj true)))) (eL (kB false)) (λρ=>.ok (.nx ρ))) (bh (A1 (rS 0) (mw 2 (cO (bN 1) (cO (bN 2) nB)))) (bh (gF (yc (j6 (fF (f9 1 hW (ag (rS 1) aJ)))) (fF (g2 (bX (ag (rB 1) aJ) (i8 nA)) (kI 6) YD))) (eL (kB false)) (λρ=>.ok (.nx ρ))) (bh (gF (yc (j6 (fF (rT (rB 2) "tuple"))) (fF (g2 (bX (ag (rB 2) aJ) (i8 nA)) (kI 6) YD))) (eL (kB false)) (λρ=>.ok (.nx ρ))) (bh (gF (j6 (fF (bX (ag (dh 1 [1] (gC (rB 2)) kT (f9 2 pV (ag (rS 1) (ag (rS 0) aJ)))) aJ) (i8 (eA λbs=>bs.all id))))) (eL (kB false)) (λρ=>.ok (.nx ρ))) (eL (g2 (xu (yz 1 [] (gC (rB 2)) kT (g2 (rB 0) (kI 0) bu))) (bX (ag (rB 2) aJ) (i8 nA)) (pj false))))))))
def uT:List D->R D:=i4 3 uS
def mF:aI->R Fl:=(gF (j6 (fF (f9 2 lv (ag (g2 (rB 0) (kI 0) bu) (ag (rS 1) aJ))))) (λ_=>.no) (λρ=>.ok (.nx ρ)))
def mG:List D->R D:=i4 2 mF
def uU:aI->R Fl:=(bh (A1 (rS 1) (mw 2 (cO (bN 2) (cO (bN 3) nB)))) (eL (q_ (bX (ag (dh 1 [0] (gC (rB 2)) kT (g2 (rB 0) (rB 1) (r6 false))) aJ) (i8 (eA λbs=>bs.all id))) (f9 2 eU (ag (rS 3) (ag (rS 0) aJ))))))
def uV:List D->R D:=i4 4 uU
def pW:aI->R Fl:=(eL (f9 2 uV (ag (rS 1) (ag (fv (ag (g2 (rB 0) (kI 1) bu) (ag (g2 (rB 0) (kI 2) bu) aJ)) .tuple) aJ))))
def pX:List D->R D:=i4 2 pW
def lU:aI->R Fl:=(bh (R9 2 3 (ag (g2 (rB 0) (kI 3) bu) (ag (g2 (rB 0) (kI 4) bu) aJ))) (eL (f9 2 xD (ag (f9 2 ou (ag (rS 1) (ag (rS 3) aJ))) (ag (rS 2) aJ)))))
def lV:List D->R D:=i4 4 lU
def uW:aI->R Fl:=(bh (gF (j6 (fF (f9 1 uT (ag (rS 0) aJ)))) (λ_=>.no) (λρ=>.ok (.nx ρ))) (eL (rS 0)))
def uX:List D->R D:=i4 1 uW
def mH:aI->R Fl:=(bh (sR (f9 1 uX (ag (rS 0) aJ))) (sR (f9 2 mG (ag (rS 0) (ag (rS 1) aJ)))))
def eB:List D->R D:=i4 2 mH
def pY:aI->R Fl:=(eL (yF 2 [0] (yy (ag (rS 0) aJ)) kT (gC (zm (rB 3) (yx (rS 0)) Ao)) kT (fv (ag (rS 1) (ag (rS 2) aJ)) .tuple)))
def iR:List D->R D:=i4 1 pY
def pZ:aI->R Fl:=(eL (q_ (g2 (g2 (rB 0) (kI 0) bu) (rB 1) (r6 false)) (g2 (g2 (rB 0) (kI 1) bu) (rB 1) (r6 false))))
def fN:List D->R D:=i4 2 pZ
def xE:aI->R Fl:=(bh (A1 (zm (rB 0) (yx (kI 1)) (yx (kI 5))) (mw 4 (cO (bN 3) (cO (bN 4) (cO (bN 5) (cO (bN 6) nB)))))) (bh (ir 7 (f9 2 ou (ag (rS 1) (ag (rS 5) aJ)))) (bh (gF (yc (fF (g2 (bX (ag (rB 7) aJ) (i8 nA)) (kI 2) (pj false))) (yc (j6 (fF (f9 2 eU (ag (rS 1) (ag (rS 6) aJ))))) (j6 (fF (f9 2 eU (ag (rS 7) (ag (rS 4) aJ))))))) (eL (kB false)) (λρ=>.ok (.nx ρ))) (bh (ir 8 (g2 (rB 3) (rB 7) fY)) (eL (xk (bX (ag (dh 1 [8] (gC (rB 2)) kT (f9 2 fN (ag (rS 0) (ag (rS 1) aJ)))) aJ) (i8 (eA λbs=>bs.any id)))))))))
def xF:List D->R D:=i4 9 xE
def nV:aI->R Fl:=(eL (bX (ag (dh 1 [1,2] (gC (g2 (rB 0) (kI 1) bu)) kT (f9 3 xF (ag (rS 0) (ag (rS 1) (ag (rS 2) aJ))))) aJ) (i8 (eA λbs=>bs.any id))))
def eF:List D->R D:=i4 3 nV
def uY:aI->R Fl:=(bh (gF (yc (j6 (fF (rT (rB 1) "tuple"))) (fF (g2 (bX (ag (rB 1) aJ) (i8 nA)) (kI 2) (pj true)))) (eL (kB false)) (λρ=>.ok (.nx ρ))) (eL (bX (ag (dh 1 [0] (gC (rB 1)) kT (q_ (rT (rB 0) "str") (g2 (rB 0) (g2 (rB 1) (kI 0) bu) (r6 false)))) aJ) (i8 (eA λbs=>bs.all id)))))
def k9:List D->R D:=i4 2 uY
def At:aI->R Fl:=(bh (sR (f9 2 eB (ag (rS 0) (ag (rS 1) aJ)))) (bh (i9 2 (dh 1 [1] (gC (f9 1 iR (ag (g2 (rB 0) (kI 0) bu) aJ))) (j6 (fF (f9 2 fN (ag (rS 0) (ag (rS 1) aJ))))) (rS 0))) (bh (NB 2 (i9 3 (dh 1 [0,2] (gC (rB 2)) (j6 (fF (f9 3 eF (ag (rS 1) (ag (rS 0) (ag (rS 2) aJ)))))) (rS 0)))) (bh (ii (fF (g2 (rB 3) (rB 2) (pj true))) (bh (NB 3 (ir 2 (rS 3))) (NB 2 (i9 3 (dh 1 [0,2] (gC (rB 2)) (j6 (fF (f9 3 eF (ag (rS 1) (ag (rS 0) (ag (rS 2) aJ)))))) (rS 0))))) 100000) (eL (rS 3))))))
def se:List D->R D:=i4 4 At
def mI:aI->R Fl:=(bh (sR (f9 2 eB (ag (rS 0) (ag (rS 1) aJ)))) (bh (gF (yc (j6 (fF (rT (rB 2) "list"))) (j6 (fF (bX (ag (dh 1 [0] (gC (rB 2)) kT (f9 2 k9 (ag (rS 1) (ag (rS 0) aJ)))) aJ) (i8 (eA λbs=>bs.all id)))))) (λ_=>.no) (λρ=>.ok (.nx ρ))) (bh (ir 3 (oq (pR 1 [] (gC (rB 2)) kT (bX (ag (bX (ag (rB 0) aJ) (i8 pS)) aJ) (i8 ig))))) (eL (xk (bX (ag (dh 1 [1,0,3] (gC (rB 3)) kT (K3 (f9 2 fN (ag (rS 0) (ag (rS 1) aJ))) (f9 3 eF (ag (rS 2) (ag (rS 0) (ag (rS 3) aJ)))))) aJ) (i8 (eA λbs=>bs.any id))))))))
def gR:List D->R D:=i4 4 mI
def nW:aI->R Fl:=(eL (dh 1 [1] (gC (g2 (rB 0) (kI 1) bu)) (fF (f9 2 pX (ag (rS 0) (ag (rS 1) aJ)))) (fv (ag (rS 0) (ag (f9 2 lV (ag (rS 0) (ag (rS 1) aJ))) aJ)) .tuple)))
def lW:List D->R D:=i4 2 nW
def nX:aI->R Fl:=(bh (i9 2 (YF (rS 1) (fv aJ .list))) (bh (i9 3 (fv (ag (rS 1) aJ) .list)) (bh (ii (F6 (rB 3)) (bh (i9 4 (fv aJ .list)) (bh (xr 3 (bN 5) (kY (gC (f9 2 lW (ag (rS 0) (ag (rS 5) aJ)))) (mw 2 (cO (bN 6) (cO (bN 7) nB))) (gF (fF (g2 (rB 7) (rB 2) (XU true))) (bh (zq 2 (rS 7) (g2 (g2 (rB 2) (rB 5) Wt) (fv (ag (g2 (rB 6) (kI 0) bu) aJ) .list) fY)) (we 4 (rS 7))) (λρ=>.ok (.nx ρ))))) (NB 4 (ir 3 (rS 4))))) 100000) (gFz 2 (eL (rS 2))))))
def nY:List D->R D:=i4 8 nX
def uZ:aI->R Fl:=(bh (sR (f9 2 eB (ag (rS 0) (ag (rS 1) aJ)))) (eL (bX (ag (f9 2 nY (ag (rS 0) (ag (rS 1) aJ))) aJ) (i8 uO))))
def lw:List D->R D:=i4 2 uZ
def mJ:aI->R Fl:=(bh (gF (fF (g2 (rB 1) (bX (ag (rB 0) aJ) (i8 nA)) K6)) (eL (g2 (rB 0) (rB 1) bu)) (λρ=>.ok (.nx ρ))) (bh (gF (fF (g2 (rB 0) (fv aJ .list) (pj false))) (eL (kI 0)) (λρ=>.ok (.nx ρ))) (eL (g2 (g2 (g2 (rB 0) (g2 (rB 1) (bX (ag (rB 0) aJ) (i8 nA)) Nu) bu) (kI 31) zZ) (rB 1) fY))))
def mK:List D->R D:=i4 2 mJ
def p_:aI->R Fl:=(bh (ir 3 (g2 (g2 (g2 (g2 (f9 2 mK (ag (rS 0) (ag (rS 1) aJ))) (g2 (kI 7919) (rB 1) zZ) fY) (kI 1) fY) (kI 48271) zZ) (kI 2147483647) Nu)) (eL (g2 (g2 (g2 (g2 (g2 (rB 3) (rB 3) zZ) (g2 (kI 7) (rB 3) zZ) fY) (rB 1) fY) (kI 2147483629) Nu) (rB 2) Nu)))
def bP:List D->R D:=i4 4 p_
def sf:aI->R Fl:=(bh (ir 2 (λ_=>.ok (.str ""))) (bh (kY (Dx (ag (g2 (fv (ag (kI 1) (ag (kI 2) (ag (kI 3) (ag (kI 6) (ag (kI 1) (ag (kI 4) aJ)))))) .list) (f9 3 bP (ag (rS 0) (ag (rS 1) (ag (kI 6) aJ)))) bu) aJ)) (bN 3) (ir 2 (g2 (rB 2) (g2 (λ_=>.ok (.str "abcdefghijklmnopqrstuvwxyz")) (f9 3 bP (ag (rS 0) (ag (g2 (g2 (rB 1) (kI 1) fY) (rB 3) fY) (ag (kI 26) aJ)))) bu) fY))) (eL (rS 2))))
def my:List D->R D:=i4 4 sf
def q9:aI->R Fl:=(bh (i9 3 (λ_=>.ok (.dict []))) (bh (kY (Dx (ag (f9 3 bP (ag (rS 0) (ag (rS 1) (ag (g2 (rB 2) (kI 1) fY) aJ)))) aJ)) (bN 4) (F1 3 (f9 2 my (ag (rS 0) (ag (g2 (g2 (rB 1) (kI 1) fY) (g2 (kI 8) (rB 4) zZ) fY) aJ))) (kB true))) (eL (bX (ag (bX (ag (bX (ag (rB 3) aJ) (i8 kP)) aJ) (i8 uH)) aJ) (i8 ig)))))
def qc:List D->R D:=i4 5 q9
def sg:aI->R Fl:=(eL (bX (ag (dh 2 [0,1,3] (yy (ag (rS 2) aJ)) (fF (g2 (f9 3 bP (ag (rS 2) (ag (g2 (rB 3) (rB 0) fY) (ag (kI 12) aJ)))) (rB 4) K6)) (rS 1)) aJ) (i8 ig)))
def si:List D->R D:=i4 4 sg
def sj:aI->R Fl:=(bh (ir 4 (g2 (rB 2) (f9 3 bP (ag (rS 0) (ag (g2 (rB 1) (kI 10) fY) (ag (bX (ag (rB 2) aJ) (i8 nA)) aJ)))) bu)) (bh (ir 5 (g2 (rB 2) (f9 3 bP (ag (rS 0) (ag (g2 (rB 1) (kI 11) fY) (ag (bX (ag (rB 2) aJ) (i8 nA)) aJ)))) bu)) (bh (ir 6 (g2 (rB 2) (f9 3 bP (ag (rS 0) (ag (g2 (rB 1) (kI 12) fY) (ag (bX (ag (rB 2) aJ) (i8 nA)) aJ)))) bu)) (bh (ir 7 (zm (fv (ag (rS 4) (ag (rS 5) aJ)) .list) Ao (yx (g2 (kI 1) (g2 (f9 3 bP (ag (rS 0) (ag (g2 (rB 1) (kI 13) fY) (ag (kI 3) aJ)))) (kI 2) Qd) fY)))) (bh (i9 8 (dh 1 [7,0,1] (gC (fv (ag (rS 6) aJ) .list)) (K1 (fF (g2 (rB 0) (rB 1) (r6 true))) (fF (g2 (f9 3 bP (ag (rS 2) (ag (g2 (rB 3) (kI 14) fY) (ag (kI 4) aJ)))) (kI 0) (pj false)))) (rS 0))) (bh (i9 9 (dh 1 [6,0,1] (gC (fv (ag (rS 4) aJ) .list)) (K1 (fF (g2 (rB 0) (rB 1) (pj true))) (fF (g2 (f9 3 bP (ag (rS 2) (ag (g2 (rB 3) (kI 15) fY) (ag (kI 3) aJ)))) (kI 0) (pj false)))) (rS 0))) (bh (NB 8 (NB 9 (i9 10 (dh 1 [] (gC (fv (ag (rS 7) (ag (rS 8) (ag (fv (ag (rS 6) aJ) .list) (ag (rS 9) aJ)))) .tuple)) kT (bX (ag (oR (u6 (rB 0))) aJ) (i8 ig)))))) (eL (fv (ag (rS 3) (ag (g2 (rB 10) (kI 0) bu) (ag (g2 (rB 10) (kI 1) bu) (ag (g2 (rB 10) (kI 2) bu) (ag (g2 (rB 10) (kI 3) bu) (ag (f9 3 bP (ag (rS 0) (ag (rS 1) (ag (kI 5) aJ)))) aJ)))))) .tuple)))))))))
def sk:List D->R D:=i4 11 sj
def ka:aI->R Fl:=(bh (gF (K1 (fF (g2 (rB 2) (fv aJ .tuple) (pj true))) (fF (g2 (f9 3 bP (ag (rS 0) (ag (kI 97) (ag (kI 2) aJ)))) (kI 0) (pj false)))) (eL (f9 4 sk (ag (rS 0) (ag (rS 1) (ag (rS 2) (ag (rS 3) aJ)))))) (λρ=>.ok (.nx ρ))) (bh (UF 4) (bh (kY (yy (ag (rS 2) aJ)) (mw 2 (cO (bN 5) (cO (bN 6) nB))) (bh (ir 7 (f9 3 bP (ag (rS 0) (ag (g2 (g2 (rB 1) (kI 10) fY) (rB 5) fY) (ag (kI 8) aJ))))) (bh (gF (fF (g2 (rB 7) (kI 3) K6)) (rf 4 (g2 (fv (ag (kI 0) (ag (kI 0) (ag (kI 1) aJ))) .list) (rB 7) bu) (rS 6)) (λρ=>.ok (.nx ρ))) (bh (ir 7 (f9 3 bP (ag (rS 0) (ag (g2 (g2 (rB 1) (kI 20) fY) (rB 5) fY) (ag (kI 8) aJ))))) (gF (fF (g2 (rB 7) (kI 4) K6)) (rf 4 (g2 (fv (ag (kI 2) (ag (kI 2) (ag (kI 3) (ag (kI 3) aJ)))) .list) (rB 7) bu) (rS 6)) (λρ=>.ok (.nx ρ))))))) (bh (λρ=>(i9 8 (dh 1 [] (gC (rB 4)) kT (bX (ag (rB 0) aJ) (i8 ig)))) (fz ρ)) (eL (fv (ag (rS 3) (ag (g2 (rB 8) (kI 0) bu) (ag (g2 (rB 8) (kI 1) bu) (ag (g2 (rB 8) (kI 2) bu) (ag (g2 (rB 8) (kI 3) bu) (ag (f9 3 bP (ag (rS 0) (ag (rS 1) (ag (kI 5) aJ)))) aJ)))))) .tuple))))))
def kc:List D->R D:=i4 9 ka
def oV:aI->R Fl:=(bh (ir 4 (f9 3 qc (ag (rS 0) (ag (rS 1) (ag (rS 2) aJ))))) (bh (i9 5 (λ_=>.ok (.dict []))) (bh (kY (Dx (ag (f9 3 bP (ag (rS 0) (ag (g2 (rB 1) (kI 60) fY) (ag (g2 (rB 3) (kI 1) fY) aJ)))) aJ)) (bN 6) (bh (ir 7 (f9 2 my (ag (rS 0) (ag (g2 (g2 (rB 1) (kI 70) fY) (g2 (kI 40) (rB 6) zZ) fY) aJ)))) (F1 5 (rS 7) (f9 4 kc (ag (rS 0) (ag (g2 (g2 (rB 1) (kI 80) fY) (g2 (kI 40) (rB 6) zZ) fY) (ag (rS 4) (ag (rS 7) aJ)))))))) (bh (ir 8 (bX (ag (rB 5) aJ) (i8 kP))) (bh (ir 9 (f9 3 bP (ag (rS 0) (ag (g2 (rB 1) (kI 61) fY) (ag (g2 (bX (ag (rB 8) aJ) (i8 nA)) (kI 1) fY) aJ))))) (eL (fv (ag (rS 4) (ag (bX (ag (dh 1 [5] (gC (g2 (zm (rB 8) (yx (rS 9)) Ao) (zm (rB 8) Ao (yx (rS 9))) fY)) kT (g2 (rB 1) (rB 0) bu)) aJ) (i8 ig)) aJ)) .tuple)))))))
def oW:List D->R D:=i4 10 oV
def oX:aI->R Fl:=(bh (i9 3 (fv aJ .list)) (bh (i9 4 (fv aJ .list)) (bh (kY (yy (ag (rS 2) aJ)) (mw 2 (cO (bN 5) (cO (bN 6) nB))) (bh (ir 7 (f9 3 bP (ag (rS 0) (ag (g2 (rB 1) (rB 5) fY) (ag (kI 8) aJ))))) (gF (fF (g2 (rB 7) (kI 2) K6)) (we 3 (rS 6)) (gF (fF (g2 (rB 7) (kI 2) (pj false))) (we 4 (rS 6)) (λρ=>.ok (.nx ρ)))))) (eL (fv (ag (bX (ag (rB 3) aJ) (i8 ig)) (ag (bX (ag (rB 4) aJ) (i8 ig)) aJ)) .tuple)))))
def wn:List D->R D:=i4 8 oX
def sr:aI->R Fl:=(bh (ir 3 (f9 4 oW (ag (rS 0) (ag (kI 100) (ag (rS 1) (ag (rS 2) aJ)))))) (bh (ir 4 (f9 4 si (ag (rS 0) (ag (kI 20) (ag (g2 (rB 3) (kI 0) bu) (ag (g2 (fv (ag (kI 2) (ag (kI 4) aJ)) .list) (f9 3 bP (ag (rS 0) (ag (kI 97) (ag (kI 2) aJ)))) bu) aJ)))))) (eL (fv (ag (rS 3) (ag (rS 4) (ag (f9 3 wn (ag (rS 0) (ag (kI 30) (ag (g2 (rB 3) (kI 0) bu) aJ)))) aJ))) .tuple))))
def l5:List D->R D:=i4 5 sr
def nZ:aI->R Fl:=(bh (i9 4 (dh 1 [0] (gC (fv (ag (rS 1) (ag (rS 2) aJ)) .tuple)) (fF (g2 (rB 0) (g2 (rB 1) (kI 3) bu) (r6 true))) (rS 0))) (bh (gF (yc (fF (g2 (bX (ag (rB 4) aJ) (i8 nA)) (kI 2) (pj false))) (yc (fF (g2 (rB 1) (g2 (rB 0) (kI 4) bu) (r6 false))) (yc (fF (g2 (rB 2) (g2 (rB 0) (kI 4) bu) (r6 false))) (fF (bX (ag (dh 1 [0] (gC (rB 4)) kT (g2 (rB 0) (g2 (rB 1) (kI 2) bu) (r6 false))) aJ) (i8 (eA λbs=>bs.any id))))))) (eL (kB false)) (λρ=>.ok (.nx ρ))) (bh (ir 5 (g2 (bX (ag (g2 (rB 0) (kI 1) bu) aJ) (i8 kP)) (rB 4) fY)) (eL (xk (bX (ag (dh 1 [5] (gC (rB 3)) kT (q_ (g2 (g2 (rB 0) (kI 0) bu) (rB 1) (r6 false)) (g2 (g2 (rB 0) (kI 1) bu) (rB 1) (r6 false)))) aJ) (i8 (eA λbs=>bs.any id))))))))
def iu:List D->R D:=i4 6 nZ
def qd:aI->R Fl:=(bh (ir 2 (g2 (rB 0) (kI 0) bu)) (bh (i9 3 (fv aJ .list)) (bh (kY (yy (ag (rS 2) aJ)) (mw 2 (cO (bN 4) (cO (bN 5) nB))) (kY (gC (zm (rB 2) (yx (rS 4)) Ao)) (bN 6) (gF (yc (fF (g2 (rB 5) (rB 1) (r6 true))) (fF (g2 (rB 6) (rB 1) (r6 true)))) (we 3 (fv (ag (rS 5) (ag (rS 6) aJ)) .tuple)) (λρ=>.ok (.nx ρ))))) (bh (ir 7 (UC (kI 1))) (bh (ii (fF (g2 (rB 7) (bX (ag (rB 3) aJ) (i8 nA)) (pj true))) (bh (ir 7 (bX (ag (rB 3) aJ) (i8 nA))) (kY (gC (bX (ag (rB 3) aJ) (i8 kP))) (bN 8) (gF (yH (fF (bX (ag (dh 1 [8,3] (gC (g2 (rB 0) (kI 1) bu)) kT (f9 4 iu (ag (rS 0) (ag (g2 (rB 1) (kI 0) bu) (ag (g2 (rB 1) (kI 1) bu) (ag (rS 2) aJ)))))) aJ) (i8 (eA λbs=>bs.any id))))) (BC 3 (rS 8)) (λρ=>.ok (.nx ρ))))) 100000) (eL (rS 3)))))))
def iS:List D->R D:=i4 9 qd
def Mp:aI->R Fl:=(bh (A1 (f9 3 l5 (ag (rS 0) (ag (kI 6) (ag (kI 6) aJ)))) (mw 3 (cO (bN 1) (cO (bN 2) (cO (bN 3) nB))))) (bh (ir 4 (f9 2 se (ag (rS 1) (ag (rS 2) aJ)))) (bh (gF (yc (fF (g2 (rB 4) (f9 2 iS (ag (rS 1) (ag (rS 2) aJ))) (pj true))) (fF (g2 (f9 3 gR (ag (rS 1) (ag (rS 2) (ag (rS 4) aJ)))) (kB true) (WB true)))) (eL (kB false)) (λρ=>.ok (.nx ρ))) (bh (kY (gC (f9 2 lw (ag (rS 1) (ag (rS 2) aJ)))) (bN 5) (gF (fF (bX (ag (dh 1 [5] (gC (rB 4)) kT (q_ (g2 (g2 (rB 0) (kI 0) bu) (rB 1) (r6 false)) (g2 (g2 (rB 0) (kI 1) bu) (rB 1) (r6 false)))) aJ) (i8 (eA λbs=>bs.any id)))) (eL (kB false)) (λρ=>.ok (.nx ρ)))) (eL (kB true))))))
def F_law:List D->R D:=i4 6 Mp
end Z
section
set_option hygiene false
namespace Z
open PySem L2 J
local macro_rules | `(tactic| left)=>`(tactic| simp only[q01,XZ,q02,q03,GW,xv,GX,ZG,Qr,Qs,W4,ZH,LF,GY,LG,GZ,G_,Ha,Qt,Qu,Qv,LH,Qw,LI,ZJ,W6,W7,Qy,W8,Qz,W9,ZM,QA,Wa,QB,LJ,QC,Wd,LK,QD,LL,QE,QF,QG,QJ,Hb,Hc,We,QK,LM,QL,ZS,Wg,Wh,QM,Wi,QN,QO,Wj,Wk,QP,ZW,QQ,QR,Wl,Wm,QS,XI,QT,Wn,Wo,QU,LN,LO,Wr,Dy,Dz,DA,QW,ZY,QY,QZ,Q_,R0,R1,R4,DC,Bf,fY,zZ,Nu,Qd,K4,K6,VU,YD,Nv,nA,aC,fK,aX,du,ao,T5,jF,MZ,M_,y8,y9,Nat.reduceSub,Nat.reduceAdd,TC,TD,Ju,if_true,if_false,ite_true,ite_false,aV,decide_true,decide_false,cond_true,cond_false,g_,ko,aA,ca,Jw,Int.reduceLE,Int.reduceAdd,Int.reduceMul,Nat.reduceLT,Int.reduceNeg,reduceIte])
local macro_rules | `(tactic| walk_at "yy")=>`(tactic| simp only[q01,XZ,q02,q03,GW,xv,GX,W4,ZH,LF,GY,LG,GZ,G_,Ha,Qt,Qu,Qv,LH,Qw,LI,ZJ,W6,W7,Qy,W8,Qz,W9,ZM,QA,Wa,QB,LJ,QC,Wd,LK,QD,LL,QE,QF,QG,QJ,Hb,Hc,We,QK,LM,QL,ZS,Wg,Wh,QM,Wi,QN,QO,Wj,Wk,QP,ZW,QQ,QR,Wl,Wm,QS,XI,QT,Wn,Wo,QU,LN,LO,Wr,Dy,Dz,DA,QW,ZY,QY,QZ,Q_,R0,R1,R4,DC,Bf,fY,nA,aC,fK,aX,du,ao,T5,jF,MZ,M_,y8,y9,Nat.reduceSub,Nat.reduceAdd,TC,TD,Ju,if_true,if_false,ite_true,ite_false,aV,decide_true,decide_false,cond_true,cond_false,g_,ko,aA,ca,Jw,Int.reduceLE,Int.reduceAdd,Int.reduceMul,Nat.reduceLT,Int.reduceNeg,reduceIte])
def dL(h:g (cL n ds)=.ok (.rt d)):i4 n g ds=.ok d:=by unfold i4;rw[h]
def Mq(a:List Int)(k:Int):Int:=if k<a.length then a.getD k.toNat 0 else if a=[] then 0 else a.getD (k % a.length).toNat 0*31+k
def RQ(a:List Int):fD (a.map .int)=true:=by
 induction a with
 |nil=>rfl
 |cons x r b=>simp[fD,h_,b]
def V6(a:List Int):bw (.list (a.map .int)) (.list [])=decide (a=[]):=by
 cases a with
 |nil=>rfl
 |cons x r=>simp[bw,dz]
def Yc(a:List Int):pj false (.list (a.map .int)) (.list [])=.ok (.bool (decide (a=[]))):=by
 unfold pj;have b:(iZ (a.map .int)).canLay0=true:=by simp only[h_];exact RQ a
 have d:(iZ []).canLay0=true:=rfl;have c:min (iZ (a.map .int)).depth (iZ []).depth<=60:=c8 (AF _ _) ⋯;rw[b,d,decide_eq_true c,V6];rfl
def Yd(a:List Int)(k:Int)(c:0<=k)(d:k<a.length):J6 (a.map ji) k=some (.int (a.getD k.toNat 0)):=by
 have b:k.toNat<a.length:=by omega
 have:=uz (xs:=a.map ji) (j:=k.toNat) (v:=.int (a.getD k.toNat 0)) (by rw[aP,bp b];simp[b])
 rwa[fQ c] at this
def RS(a:List Int)(k:Int)(c:0<=k)(b:k<a.length):bu (.list (a.map .int)) (.int k)=.ok (.int (a.getD k.toNat 0)):=by
 have e:∀xs k,bu (.list xs) k=K8 (.list xs) k:=λ_ _=>rfl;rw[e];unfold K8;simp only[Yd a k c b]
def Mr(a:-(2 ^ 64)<j)(b:j<2 ^ 64):Ds i j=true:=by
 unfold Ds;simp only[lE,bc,decide_eq_true_eq];exact .inr ⟨a,b⟩
def u_(a:-(2 ^ 64)<i)(b:i<2 ^ 64):Ds i j=true:=by
 unfold Ds;simp only[lE,bc,decide_eq_true_eq];exact .inl ⟨a,b⟩
def V7(a:List Int)(k:Int)(d:0<=k):mK [.list (a.map .int),.int k]=.ok (.int (Mq a k)):=by
 unfold mK;refine dL ?_;unfold mJ cL Mq;left;by_cases h:k<a.length
 ·simp only[h,decide_true,cond_true,if_true,RS a k d h,bind_ok];left
 ·simp only[h,decide_false,cond_false,if_false];left;rw[Yc];left;by_cases b:a=[]
  ·simp only[b,decide_true,cond_true,if_true];left
  ·have c:(0:Int)<a.length:=by have:0<a.length:=List.length_pos_iff.mpr b;omega
   simp only[b,decide_false,cond_false,if_false,c,decide_true];left;simp only[b,decide_false,cond_false,if_false,c,decide_true,if_true];left;rw[RS a _ (oG _ ∅) (lM _ c)];left;rw[Mr ⋯ ⋯];left
def BD(a:List Int)(k:Int):Int:=(Mq a k+7919*k+1)*48271 % 2147483647
def gT(a:List Int)(k m:Int):Int:=(BD a k*BD a k+7*BD a k+k) % 2147483629 % m
def iw(a:List Int)(k m:Int)(h:0<m):0<=gT a k m:=oG _ ∅
def j9(a:List Int)(k m:Int)(h:0<m):gT a k m<m:=lM _ h
def ij(a:List Int)(k m:Int)(c:0<=k)(b:0<m):bP [.list (a.map .int),.int k,.int m]=.ok (.int (gT a k m)):=by
 have e:0<=BD a k:=oG _ ⋯;have d:BD a k<2147483647:=lM _ ⋯;unfold bP;refine dL ?_;unfold p_ cL;left;rw[V7 a k c];left;rw[u_ ⋯ ⋯];left;rw[Mr ⋯ ⋯];left;rw[show(Mq a k+7919*k+1)*48271 % 2147483647=BD a k from rfl,u_ (i:=BD a k) ∅ ∅];left;rw[u_ (i:=7) ⋯ ⋯];left;rw[decide_eq_true b];left;rfl
theorem ua{d e:Type}{kt:D->aI->R aI}{gb:aI->R Fl}(c:d->D)(f:e->d->e)(P:List d->e->aI->Prop)(h:∀x bM b ρ,P (x::bM) b ρ->∃ ρ1 a,kt (c x) ρ=.ok ρ1/\gb ρ1=.ok (.nx a)/\P bM (f b x) a):
  ∀(xs:List d) (b:e) (ρ:aI),P xs b ρ->∃a,lO kt gb (xs.map c) ρ=.ok (.nx a)/\P [] (xs.foldl f b) a
 |[],b,ρ,p=>⟨ρ,rfl,p⟩
 |x::r,b,ρ,p=>by
  obtain⟨ρ1,g,j,l,m⟩:=h x r b ρ p;obtain⟨i,n,k⟩:=ua c f P h r (f b x) g m;refine⟨i,?_,k⟩;rw[aC];unfold lO;rw[j];simp only[l];exact n
def Ms{d g:Type}{kt:D->aI->R aI}{gb i:aI->R Fl}{r:R Fl}(c:d->D)(f:g->d->g)(P:List d->g->aI->Prop){xs:List d}(b:g){ρ:aI}
  (h:∀x bM b ρ,P (x::bM) b ρ->∃ ρ1 a,kt (c x) ρ=.ok ρ1/\gb ρ1=.ok (.nx a)/\P bM (f b x) a) (j:P xs b ρ) (k:∀a,P [] (xs.foldl f b) a->i a=r):(lO kt gb (xs.map c) ρ).bind (UH i)=r:=by
 obtain⟨a,e,p⟩:=ua c f P h xs b ρ j;rw[e,bind_ok,xv];exact k a p
def Fk(n:Nat)(h:n<=1000):K9 [.int (n:Int)]=.ok ((bx n).map λ(i:Nat)=>ji (i:Int)):=by
 have e:K9 [.int (n:Int)]=.ok (u0 0 (n:Int).toNat):=UI ∅ ∅;rw[e];unfold u0;rw[jV];exact congrArg R.ok (gP λa _=>congrArg ji (Int.zero_add _))
def DU(x:Str):Bool:=decide (1<=x.cps.size)&&decide (x.cps.size<=6/\x.cps.size≠5)&&x.cps.toList.all λc=>decide (97<=c)&&decide (c<=122)
def vO(a:List Int)(k:Int):Nat:=[1,2,3,6,1,4].getD (gT a k 6).toNat 0
def Fm(a:List Int)(k:Int)(i:Nat):Nat:=97+(gT a (k+1+i) 26).toNat
def mY(a:List Int)(k:Int):Str:=⟨((bx (vO a k)).map (Fm a k)).toArray⟩
def Mt(a:List Int)(k:Int):1<=vO a k/\(vO a k<=6/\vO a k≠5):=by
 have c:=iw a k 6 ⋯;have b:=j9 a k 6 ⋯;unfold vO;have:∀j:_root_.Fin 6,1<=[1,2,3,6,1,4].getD j.val 0/\([1,2,3,6,1,4].getD j.val 0<=6/\[1,2,3,6,1,4].getD j.val 0≠5):=by decide
 exact this ⟨(gT a k 6).toNat,by omega⟩
def V8(a:List Int)(k:Int)(i:Nat):97<=Fm a k i/\Fm a k i<=122:=by
 have c:=iw a (k+1+i) 26 ⋯;have b:=j9 a (k+1+i) 26 ⋯;unfold Fm;omega
def HN(a:List Int)(k:Int):DU (mY a k)=true:=by
 have⟨h1,h2⟩:=Mt a k;unfold DU mY;simp only[ba,ao,eg,bc,decide_eq_true_eq,cA];refine⟨⟨h1,h2⟩,λc b=>?_⟩;obtain⟨i,_,rfl⟩:=List.mem_map.mp b;exact V8 a k i
def RT(j:Int)(d:0<=j)(g:j<26):bu (.str "abcdefghijklmnopqrstuvwxyz") (.int j)=.ok (.str ⟨#[97+j.toNat]⟩):=by
 have e:∀x k,bu (.str x) k=K8 (.str x) k:=λ_ _=>rfl;rw[e];unfold K8;have c:("abcdefghijklmnopqrstuvwxyz" : Str).cps.toList=(bx 26).map (97 + ·):=by decide +kernel
 have f:("abcdefghijklmnopqrstuvwxyz" : Str).length<=1000:=by decide +kernel
 have b:j.toNat<26:=by omega
 have a:=uz (xs:=(bx 26).map (97 + ·)) (j:=j.toNat) (v:=97+j.toNat) (by rw[aP,MS b];rfl);rw[fQ d] at a;simp only[f,if_true,c,a]
def V9(j:Int)(a:0<=j)(c:j<6):bu (.list [.int 1,.int 2,.int 3,.int 6,.int 1,.int 4]) (.int j)=.ok (.int (([1,2,3,6,1,4].getD j.toNat 0:Nat):Int)):=by
 obtain⟨n,rfl⟩:=Int.eq_ofNat_of_zero_le a;have b:n<6:=by omega
 match n,b with
 | 0,_=>rfl
 | 1,_=>rfl
 | 2,_=>rfl
 | 3,_=>rfl
 | 4,_=>rfl
 | 5,_=>rfl
def Fo(l:List Nat):∀(b:Str),l.foldl (λ(a:Str) c=>a++⟨#[c]⟩) b=⟨(b.cps.toList++l).toArray⟩:=by
 induction l with
 |nil=>intro b;simp
 |cons c r d=>
  intro b;rw[eY,d];show(⟨((b.cps++#[c]).toList++r).toArray⟩:Str)=_;simp
def O1:("" : Str).cps.toList=[]:=by decide +kernel
def Mu(b:List Int)(k:Int)(f:0<=k):my [.list (b.map .int),.int k]=.ok (.str (mY b k)):=by
 have h:=iw b k 6 ⋯;have d:=j9 b k 6 ⋯;have⟨w1,w2⟩:=Mt b k;unfold my;refine dL ?_;unfold sf cL;left;rw[Bh (ds:=(bx (vO b k)).map λ(i:Nat)=>ji i)]
 ·refine Ms (λ(i:Nat)=>ji i) (λ(a:Str) i=>a++⟨#[Fm b k i]⟩) (λbM a ρ=>a.length+bM.length<=900/\∃z,ρ=[.shr (.list (b.map .int)),.shr (.int k),.shr (.str a),z]) "" ?_ ⟨by rw[eg,show("" : Str).length=0 by decide];omega,_,rfl⟩ ?_
  ·rintro i bM a ρ ⟨j,z,rfl⟩;simp only[aX] at j;refine⟨_,[.shr (.list (b.map .int)),.shr (.int k),.shr (.str (a++⟨#[Fm b k i]⟩)),.shr (.int i)],rfl,?_,?_,_,rfl⟩
   ·left;rw[ij b _ 26 ∅ ⋯];left;rw[RT _ (iw _ _ _ ⋯) (j9 _ _ _ ⋯)];left;have hz:a.length+(⟨#[97+(gT b (k+1+i) 26).toNat]⟩:Str).length<=1000:=by
     show a.length+1<=1000;omega
    rw[if_pos hz];left;rw[show 97+(gT b (k+1+i) 26).toNat=Fm b k i from rfl]
   ·show(a.cps++#[_]).size+bM.length<=900;rw[Array.size_append];show a.cps.size+1+bM.length<=900;have:a.length=a.cps.size:=rfl
    omega
  ·rintro e ⟨_,z,rfl⟩;left;have:(bx (vO b k)).foldl (λ(a:Str) i=>a++⟨#[Fm b k i]⟩) ""=mY b k:=by
    have:=Fo ((bx (vO b k)).map (Fm b k)) "";rw[List.foldl_map] at this;rw[this,O1];unfold mY;rw[jF]
   rw[this]
 ·left;rw[ij b k 6 f ⋯];left;have c:=V9 (gT b k 6) h d;have g:[1,2,3,6,1,4].getD (gT b k 6).toNat 0=vO b k:=rfl;rw[g] at c;rw[c];left;rw[Fk (vO b k) ∅]
def n_(l:List (Str×D)):List (D×D):=l.map λp=>(.str p.1,p.2)
def xG(l:List (Str×D))(x:Str)(d:D):List (Str×D):=if l.any (λp=>decide (p.1=x)) then l.map (λp=>if p.1=x then(p.1,d) else p) else l++[(x,d)]
def xH(x y:Str):bw (.str x) (.str y)=decide (x=y):=by
 show(x==y)=_;rw[uw]
def Va(l:List (Str×D))(x:Str)(d:D):A3 (n_ l) (.str x) d=n_ (xG l x d):=by
 unfold A3 xG n_;rw[jt];have e:((λa:D×D=>bw a.1 (.str x))∘λp:Str×D=>(aN p.1,p.2))=λp=>decide (p.1=x):=by
  funext p;exact xH p.1 x
 rw[e];split
 ·rw[cK,cK];apply gP;intro p _;simp only[Function.comp,xH];by_cases h:p.1=x
  ·simp[h]
  ·simp[h]
 ·simp
def BE(l:List (Str×D)):jm (n_ l)=true:=by
 unfold jm n_;rw[tx,cA];intro p _;rfl
def HQ(l:List (Str×D))(x:Str)(d:D):(xG l x d).length<=l.length+1:=by
 unfold xG;split<;>simp
def DV(l:List (Str×D))(x:Str)(d:D):(xG l x d).map (·.1)=if x∈l.map (·.1) then l.map (·.1) else l.map (·.1)++[x]:=by
 unfold xG;have e:(l.any λp=>decide (p.1=x))=decide (x∈l.map (·.1)):=by
  rw[lD];simp only[n6,decide_eq_true_eq,m6]
 rw[e];by_cases h:x∈l.map (·.1)
 ·rw[decide_eq_true h,if_pos rfl,if_pos h,cK];apply gP;intro p _;by_cases a:p.1=x<;>simp[a]
 ·rw[decide_eq_false h,if_neg bd,if_neg h,bI];rfl
def RU{Q:Str->D->Prop}{l:List (Str×D)}{x:Str}{d:D}(h:∀p∈l,Q p.1 p.2)(b:Q x d):∀p∈xG l x d,Q p.1 p.2:=by
 unfold xG;split
 ·intro p hp;obtain⟨c,a,rfl⟩:=List.mem_map.mp hp;by_cases e:c.1=x
  ·rw[if_pos e];rw[e];exact b
  ·rw[if_neg e];exact h c a
 ·intro p hp;rcases List.mem_append.mp hp with hp|hp
  ·exact h p hp
  ·rw[List.mem_singleton.mp hp];exact b
def O3{l:List Str}{x:Str}(h:l.Nodup):(if x∈l then l else l++[x]).Nodup:=by
 by_cases a:x∈l
 ·rw[if_pos a];exact h
 ·rw[if_neg a];exact EG h a
def WC(c:ρ[i]?=some (Sl.own (.dict (n_ l))))(f:g ρ=.ok d)(b:gk ρ=.ok (.str x))(h:l.length<1000):F1 i gk g ρ=.ok (.nx (ρ.set i (.own (.dict (n_ (xG l x d)))))):=by
 have a:(n_ l).length<1000:=by unfold n_;rw[ao];exact h
 have e:F1 i gk g ρ=(g ρ).bind λd=>(gk ρ).bind λk=>match vI k with
  |some _=>if(n_ l).length<1000/\jm (n_ l)=true then .ok (.nx (ρ.set i (.own (.dict (A3 (n_ l) k d))))) else .no
  |none=>.no:=by
  unfold F1;simp only[c];try rfl
 rw[e,f,Bf,b,Bf];simp only[vI,if_pos (lX a (BE l)),Va]
def HR(l:List (Str×D)):kP (.dict (n_ l))=.ok (.list ((l.map (·.1)).map .str)):=by
 have e:∀a,kP (.dict a)=if jm a=true then .ok (.list (a.map (·.1))) else .no:=λ_=>rfl
 rw[e,if_pos (BE l)];unfold n_;rw[cK,cK];rfl
def sorted_strs(ss:List Str)(h:ss.length<64):uH (.list (ss.map .str))=.ok (.list ((jk ss).map .str)):=by
 have e:∀ds,uH (.list ds)=match fw ds with
  |some ss=>if ss.length<64 then .ok (.list ((jk ss).map .str)) else .no
  |none=>.no:=λ_=>rfl
 rw[e,strsOf_map];simp only[if_pos h]
def jd(ds:List D):ig (.list ds)=.ok (.tuple ds):=id rfl
def Fp(a:List Int)(k:Int)(n:Nat):List Str:=(bx n).map λ(i:Nat)=>mY a (k+1+8*(i:Int))
def Fq(a:List Int)(k m:Int):List Str:=jk (eJ [] (Fp a k (gT a k (m+1)).toNat))
structure RV (fs:List Str) (n:Nat):Prop where
 ok:∀x∈fs,DU x=true
 up:fs.Pairwise λa b=>qN a b=true
 len:fs.length<=n
def RW{c:Type}{a b:List c}(h:a.Perm b):a.length=b.length:=h.length_eq
def Ks(a:List Int)(k m:Int)(d:0<=m):RV (Fq a k m) m.toNat:=by
 have e:=iw a k (m+1) ∅;have c:=j9 a k (m+1) ∅;have b:=hG (eJ [] (Fp a k (gT a k (m+1)).toNat));refine⟨λx hx=>?_,?_,?_⟩
 ·have hx:=b.mem_iff.mp hx;rw[j_] at hx;rcases hx with hx|hx
  ·cases hx
  ·obtain⟨i,_,rfl⟩:=List.mem_map.mp hx;exact HN _ _
 ·exact yv (qY _) (b.nodup_iff.mpr (jR _ [] i5))
 ·unfold Fq;rw[RW b];have:=j4 (Fp a k (gT a k (m+1)).toNat) [];unfold Fp at this ⊢;simp at this;omega
def O4(f:Nat->Str)(l:List Nat):∀b:List (Str×D),((l.foldl (λ(a:List (Str×D)) i=>xG a (f i) (.bool true)) b).map (·.1))=eJ (b.map (·.1)) (l.map f):=by
 induction l with
 |nil=>intro b;rfl
 |cons i r c=>
  intro b;rw[eY,c,aC,DV];rfl
def RX(b:List Int)(k m:Int)(h:0<=k)(o:0<=m)(f:m<=20):qc [.list (b.map .int),.int k,.int m]=.ok (.tuple ((Fq b k m).map .str)):=by
 have j:=iw b k (m+1) ∅;have n:=j9 b k (m+1) ∅;unfold qc;refine dL ?_;unfold q9 cL;left;rw[Bh (ds:=(bx (gT b k (m+1)).toNat).map λ(i:Nat)=>ji i)]
 ·refine Ms (λ(i:Nat)=>ji i) (λ(a:List (Str×D)) i=>xG a (mY b (k+1+8*(i:Int))) (.bool true)) (λbM a ρ=>a.length+bM.length<=60/\∃z,ρ=[.shr (.list (b.map .int)),.shr (.int k),.shr (.int m),.own (.dict (n_ a)),z]) [] ?_ ⟨by simp;omega,_,rfl⟩ ?_
  ·rintro i bM a ρ ⟨c,z,rfl⟩;simp only[aX] at c;refine⟨_,[.shr (.list (b.map .int)),.shr (.int k),.shr (.int m),.own (.dict (n_ (xG a (mY b (k+1+8*(i:Int))) (.bool true)))),.shr (.int i)],rfl,?_,?_,_,rfl⟩
   ·refine(WC (l:=a) (x:=mY b (k+1+8*(i:Int))) (d:=.bool true) rfl rfl ?_ ∅).trans rfl;left;rw[u_ ⋯ ⋯];left;rw[Mu b _ ∅]
   ·have:=HQ a (mY b (k+1+8*(i:Int))) (.bool true);omega
  ·rintro g ⟨c,z,rfl⟩;simp only[du] at c;left;rw[HR];left;have e:=O4 (λi=>mY b (k+1+8*(i:Int))) (bx (gT b k (m+1)).toNat) [];rw[e,sorted_strs]
   ·left;rw[jd];left;rfl
   ·rw[<- e,ao];omega
 ·left;rw[ij b k (m+1) h ∅];left;have:=Fk (gT b k (m+1)).toNat ∅;rw[fQ j] at this;exact this
structure lG where
 name:Str
 needs:List Str
 bars:List Str
 makes:List Str
 ends:List Str
 price:Int
abbrev aL(xs:List Str):D:=.tuple (xs.map .str)
def gx(e:lG):D:=.tuple [.str e.name,aL e.needs,aL e.bars,aL e.makes,aL e.ends,.int e.price]
structure yJ (fs xs:List Str):Prop where
 up:xs.Pairwise λa b=>qN a b=true
 mem:∀x∈xs,x∈fs
structure sU (fs:List Str) (e:lG):Prop where
 name:DU e.name=true
 needs:yJ fs e.needs
 bars:yJ fs e.bars
 makes:yJ fs e.makes
 ends:yJ fs e.ends
 nb:∀x∈e.needs,x∉e.bars
 me:∀x∈e.makes,x∉e.ends
 p0:0<=e.price
 p9:e.price<=9
def srt(xs:List Str):List Str:=jk (eJ [] xs)
def qf:x∈srt xs↔x∈xs:=by
 unfold srt;rw[(hG _).mem_iff,j_];simp
def Ku(xs:List Str):(srt xs).Pairwise λa b=>qN a b=true:=yv (qY _) ((hG _).nodup_iff.mpr (jR _ [] i5))
def Au(h:∀x∈xs,x∈fs):yJ fs (srt xs):=⟨Ku xs,λx a=>h x (qf.mp a)⟩
def Ft(fs:List Str)(j:Int)(c:0<=j)(d:j<fs.length):∃x,x∈fs/\bu (aL fs) (.int j)=.ok (.str x):=by
 have a:j.toNat<fs.length:=by omega
 refine⟨fs[j.toNat],kF a,?_⟩;have e:∀xs k,bu (.tuple xs) k=K8 (.tuple xs) k:=λ_ _=>rfl;rw[e];have b:=uz (xs:=fs.map aN) (j:=j.toNat) (v:=.str fs[j.toNat]) (by rw[aP,bp a];rfl);rw[fQ c] at b;unfold K8;simp only[b]
theorem BF(x:Str):∀ys:List Str,((ys.map aN).any λy=>bw y (.str x))=decide (x∈ys)
 |[]=>rfl
 |y::r=>by
  rw[aC,fH,BF x r,xH];by_cases h:y=x
  ·subst h;simp
  ·simp[h,dO h]
def BG(ys:List Str):(ys.map aN).all nL=true:=by
 rw[tx,cA];intro _ _;rfl
def Fu(a:Bool)(x:Str)(ys:List Str):r6 a (.str x) (.list (ys.map .str))=.ok (.bool (if a then !decide (x∈ys) else decide (x∈ys))):=by
 have e:r6 a (.str x) (.list (ys.map .str))=if nL (.str x)&&(ys.map aN).all nL then .ok (.bool (if a then !((ys.map aN).any λy=>bw y (.str x)) else(ys.map aN).any λy=>bw y (.str x))) else .no:=rfl
 rw[e,BG,BF];rfl
def kz(a:Bool)(x:Str)(ys:List Str):r6 a (.str x) (aL ys)=.ok (.bool (if a then !decide (x∈ys) else decide (x∈ys))):=by
 have e:r6 a (.str x) (aL ys)=if nL (.str x)&&(ys.map aN).all nL then .ok (.bool (if a then !((ys.map aN).any λy=>bw y (.str x)) else(ys.map aN).any λy=>bw y (.str x))) else .no:=rfl
 rw[e,BG,BF];rfl
def nC(c:Bool)(a b:Int):pj c (.int a) (.int b)=.ok (.bool (if c then !decide (a=b) else decide (a=b))):=by
 have e:pj c (.int a) (.int b)=.ok (.bool (if c then !(a==b) else(a==b))):=rfl;rw[e,uw]
def xI(h:DU x=true):(aN x).canLay0=true:=by
 unfold DU at h;simp only[bc,cA,decide_eq_true_eq] at h;show PyData.strOk x=true;unfold PyData.strOk;rw[<- zP,cA];intro c a;have:=h.2 c a;exact decide_eq_true ∅
def Vb(a:Bool)(b:DU x=true)(c:DU y=true):pj a (.str x) (.str y)=.ok (.bool (if a then !decide (x=y) else decide (x=y))):=by
 unfold pj;rw[xI b,xI c,xH];rfl
def Kv(ss:List Str)(h:ss.length<60):wg (.list (ss.map .str))=.ok (eJ [] ss):=by
 have e:∀ds,wg (.list ds)=match fw ds with
  |some ss=>if ss.length<60 then .ok (eJ [] ss) else .no
  |none=>.no:=λ_=>rfl
 rw[e,strsOf_map];simp only[if_pos h]
def Vc(g:aI->R D)(s:Sl)(ρ:aI):u6 g (s::ρ)=(g (s::ρ)).bind wg:=id rfl
def WD:List Str->R D:=λss=>if ss.length<64 then .ok (.list ((jk ss).map .str)) else .no
def DW(g:aI->R (List Str))(s:Sl)(ρ:aI):oR g (s::ρ)=(g (s::ρ)).bind WD:=id rfl
def HS(ss:List Str)(h:ss.length<64):WD ss=.ok (.list ((jk ss).map .str)):=if_pos h
def O5(ss:List Str)(h:ss.length<60)(ρ:aI):(bX (J.ag (oR (u6 (rB 0))) J.aJ) (i8 ig)) (.shr (.list (ss.map .str))::ρ)=.ok (aL (srt ss)):=by
 left;rw[DW,Vc];left;rw[Kv ss h];left;rw[HS _ (by have:=j4 ss [];simp at this;omega)];left;rw[jd];rfl
def HU(a:ρ=s::r)(h:gt (.shr (.str x)::r)=.ok b):gD (jl 1 ρ gt (rS 0)) [.str x]=.ok ((if b then [x] else []).map .str):=by
 subst a;have e:=uK (ρ:=s::r) (gt:=gt) (ge:=(rS 0)) (d:=.str x) (y:=.str x) (b:=b) h λ_=>rfl;unfold gD;rw[e,Bf];unfold gD;rw[Bf];cases b<;>rfl
def Ye(p q r t:List Str)(a:p.length<60)(b:q.length<60)(d:r.length<60)(c:t.length<60):gD (jl 1 [Sl.no] kT (bX (J.ag (oR (u6 (rB 0))) J.aJ) (i8 ig))) [.list (p.map .str),.list (q.map .str),.list (r.map .str),.list (t.map .str)]=.ok [aL (srt p),aL (srt q),aL (srt r),aL (srt t)]:=
 dJ _ (λss:List Str=>iZ (ss.map .str)) (λss=>aL (srt ss)) [p,q,r,t] λss hs=>fS rfl (O5 ss (by simp at hs;rcases hs with h|h|h|h<;>(rw[h];assumption)) _)
def WE(a b c d:D):bu (.list [a,b,c,d]) (.int 0)=.ok a:=id rfl
def WF(a b c d:D):bu (.list [a,b,c,d]) (.int 1)=.ok b:=id rfl
def WG(a b c d:D):bu (.list [a,b,c,d]) (.int 2)=.ok c:=id rfl
def WH(a b c d:D):bu (.list [a,b,c,d]) (.int 3)=.ok d:=id rfl
def Vd(d:List Int)(k:Int)(P:0<=k)(fs:List Str)(B:∀x∈fs,DU x=true)(T:0<fs.length)(t:Str)(N:DU t=true):
  ∃e,sk [.list (d.map .int),.int k,aL fs,.str t]=.ok (gx e)/\sU fs e/\e.name=t:=by
 have l:(0:Int)<(fs.length:Int):=by omega
 obtain⟨a,s,L⟩:=Ft fs (gT d (k+10) fs.length) (iw _ _ _ l) (j9 _ _ _ l);obtain⟨b,M,O⟩:=Ft fs (gT d (k+11) fs.length) (iw _ _ _ l) (j9 _ _ _ l);obtain⟨c,w,Q⟩:=Ft fs (gT d (k+12) fs.length) (iw _ _ _ l) (j9 _ _ _ l);have I:=iw d (k+13) 3 ⋯;have G:=j9 d (k+13) 3 ⋯;obtain⟨i,v,y,o⟩:∃i:List Str,(∀x∈i,x∈fs)/\i.length<60/\Ly (.list [.str a,.str b]) none (some (1+gT d (k+13) 3 / 2))=.ok (.list (i.map .str)):=by
  by_cases h:gT d (k+13) 3=2
  ·exact⟨[a,b],by simp[s,M],by simp,by rw[h];rfl⟩
  ·have:gT d (k+13) 3 / 2=0:=by omega
   exact⟨[a],by simp[s],by simp,by rw[this];rfl⟩
 let m:Bool:=!decide (c∈i)&&decide (gT d (k+14) 4=0)
 let j:Bool:=!decide (a=c)&&decide (gT d (k+15) 3=0)
 have K:=iw d k 5 ⋯;have S:=j9 d k 5 ⋯;refine⟨⟨t,srt i,srt (if m then [c] else []),srt [c],srt (if j then [a] else []),gT d k 5⟩,?_,⟨N,Au v,Au ?_,Au (by simp[w]),Au ?_,λx u h=>?_,λx u h=>?_,K,by show gT d k 5<=9;omega⟩,rfl⟩
 ·unfold sk;refine dL ?_;unfold sj cL;left;rw[ij d _ _ ∅ l];left;rw[L];left;rw[ij d (k+11) _ ∅ l];left;rw[O];left;rw[ij d (k+12) _ ∅ l];left;rw[Q];left;rw[ij d (k+13) 3 ∅ ⋯];left;simp only[Jw,decide_true,rG,if_true];left;rw[o];left;rw[HU (b:=m) rfl]
  ·left;rw[HU (b:=j) rfl]
   ·left;simp only[NB];rw[F2 rfl,F2 rfl];left;have z:=Ye i (if m then [c] else []) [c] (if j then [a] else []) y (by cases m<;>simp) (by simp) (by cases j<;>simp);rw[show([c].map aN)=[aN c] from rfl] at z;rw[z];left;rw[WE];left;rw[WF];left;rw[WG];left;rw[WH];left;rw[ij d k 5 P ⋯];left;rfl
   ·left;rw[Vb true (B a s) (B c w)];left;by_cases q:a=c
    ·simp only[j,q,decide_true,g_,D8,if_true,cond_false]
    ·simp only[j,q,decide_false,ko,wS,if_true,cond_true];rw[ij d (k+15) 3 ∅ ⋯];left;rw[nC];left
  ·left;rw[Fu];left;by_cases p:c∈i
   ·simp only[m,p,decide_true,g_,D8,if_true,cond_false]
   ·simp only[m,p,decide_false,ko,wS,if_true,cond_true];rw[ij d (k+14) 4 ∅ ⋯];left;rw[nC];left
 ·intro x n;cases f:m
  ·simp[f] at n
  ·simp[f] at n;rw[n];exact w
 ·intro x n;cases g:j
  ·simp[g] at n
  ·simp[g] at n;rw[n];exact s
 ·have h:x∈(if m then [c] else []):=qf.mp h;cases f:m
  ·simp[f] at h
  ·simp[f] at h;subst h;have:(!decide (x∈i))=true:=by
    have:(!decide (x∈i)&&decide (gT d (k+14) 4=0))=true:=f
    simp only[bc] at this;exact this.1
   simp at this;exact this (qf.mp u)
 ·cases g:j
  ·have h:x∈(if j then [a] else []):=qf.mp h;simp[g] at h
  ·skip;have E:x∈[c]:=qf.mp u;have H:x∈(if j then [a] else []):=qf.mp h;simp only[cC] at E;simp only[g,if_true,cC] at H;have:(!decide (a=c)&&decide (gT d (k+15) 3=0))=true:=g
   simp only[bc] at this;have A:=this.1;simp at A;exact A (H.symm.trans E)
def Fv(a:ρ[i]?=some (Sl.ow2 dss))(c:gi ρ=.ok (.int j))(e:0<=j)(h:dss[j.toNat]?=some ds)(b:g ρ=.ok d)(f:ds.length<1000):rf i gi g ρ=.ok (.nx (ρ.set i (.ow2 (dss.set j.toNat (ds++[d]))))):=by
 unfold rf;simp only[a,c,bind_ok,if_pos e,h,b,if_pos f]
def qg(n:Nat):List Str->List (Nat×Str)
 |[]=>[]
 |x::r=>(n,x)::qg (n+1) r
abbrev cI(p:Nat×Str):D:=.tuple [.int (p.1:Nat),.str p.2]
theorem Av:∀(xs:List Str) (n:Nat),mi n (xs.map .str)=(qg n xs).map cI
 |[],_=>rfl
 |x::r,n=>by
  show gO [.int n,.str x]::mi (n+1) (r.map .str)=cI (n,x)::(qg (n+1) r).map cI;rw[Av r (n+1)]
theorem v5:∀(xs:List Str) (n:Nat),(qg n xs).map (·.2)=xs
 |[],_=>rfl
 |x::r,n=>by
  show x::(qg (n+1) r).map (·.2)=x::r;rw[v5 r]
theorem HV:∀(fs:List Str),(∀x∈fs,DU x=true)->fD (fs.map .str)=true
 |[],_=>rfl
 |x::r,h=>by
  have a:=xI (h x aq);have c:=HV r λy b=>h y (ak _ b);simp only[aC,fD,a,c,rG]
def Mv(fs:List Str)(c:∀x∈fs,DU x=true):pj true (aL fs) (.tuple [])=.ok (.bool (!decide (fs=[]))):=by
 unfold pj;have a:(aL fs).canLay0=true:=by simp only[h_];exact HV fs c
 have e:(gO []).canLay0=true:=rfl;have b:min (aL fs).depth (gO []).depth<=60:=c8 (AF _ _) ⋯;have d:bw (aL fs) (.tuple [])=decide (fs=[]):=by
  cases fs with
  |nil=>rfl
  |cons x r=>simp[bw,dz]
 rw[a,e,decide_eq_true b,d];rfl
structure qB (pre p q:List Str):Prop where
 sp:p.Sublist pre
 sq:q.Sublist pre
 d:∀x∈p,x∉q
def qB.skip(h:qB pre p q)(x:Str):qB (pre++[x]) p q:=⟨h.sp.trans (lf _ _),h.sq.trans (lf _ _),h.d⟩
def qB.left(h:qB pre p q)(x:Str)(c:x∉pre):qB (pre++[x]) (p++[x]) q:=⟨h.sp.append (gd _),h.sq.trans (lf _ _),λy b a=>by
 rcases List.mem_append.mp b with h1|h1
 ·exact h.d y h1 a
 ·rw[List.mem_singleton.mp h1] at a;exact c (h.sq.subset a)⟩
def qB.right(h:qB pre p q)(x:Str)(c:x∉pre):qB (pre++[x]) p (q++[x]):=⟨h.sp.trans (lf _ _),h.sq.append (gd _),λy a b=>by
 rcases List.mem_append.mp b with h1|h1
 ·exact h.d y a h1
 ·rw[List.mem_singleton.mp h1] at a;exact c (h.sp.subset a)⟩
abbrev o4(p q r t:List Str):Sl:=.ow2 [p.map .str,q.map .str,r.map .str,t.map .str]
def q0f(j:Int)(c:0<=j)(a:j<3):∃b:Bool,bu (.list [.int 0,.int 0,.int 1]) (.int j)=.ok (.int (if b then 0 else 1)):=by
 have:j=0\/j=1\/j=2:=by omega
 rcases this with h|h|h<;>subst h
 ·exact⟨true,rfl⟩
 ·exact⟨true,rfl⟩
 ·exact⟨false,rfl⟩
def q0g(j:Int)(c:0<=j)(a:j<4):∃b:Bool,bu (.list [.int 2,.int 2,.int 3,.int 3]) (.int j)=.ok (.int (if b then 2 else 3)):=by
 have:j=0\/j=1\/j=2\/j=3:=by omega
 rcases this with h|h|h|h<;>subst h
 ·exact⟨true,rfl⟩
 ·exact⟨true,rfl⟩
 ·exact⟨false,rfl⟩
 ·exact⟨false,rfl⟩
def xJ(p:List Str)(x:Str):(p++[x]).map aN=p.map .str++[.str x]:=by simp
def RY(g:qB pre p q)(i:x∉pre)(u:pre.length<900)(s:0<=j):
  ∃k q',qB (pre++[x]) k q'/\gF (fF (g2 (rB 7) (kI 3) K6)) (rf 4 (g2 (fv (J.ag (kI 0) (J.ag (kI 0) (J.ag (kI 1) J.aJ))) .list) (rB 7) bu) (rS 6)) (λρ=>.ok (.nx ρ)) [a,b,c,d,o4 p q r t,e,.shr (.str x),.shr (.int j),f]=.ok (.nx [a,b,c,d,o4 k q' r t,e,.shr (.str x),.shr (.int j),f]):=by
 by_cases h:j<3
 ·obtain⟨m,l⟩:=q0f j s h;have n:p.length<1000:=by have:=g.sp.length_le;omega
  have o:q.length<1000:=by have:=g.sq.length_le;omega
  cases m
  ·refine⟨p,q++[x],g.right x i,?_⟩;left;rw[decide_eq_true h];left;simp only[o4,xJ];refine(Fv (j:=1) (ds:=q.map .str) (d:=.str x) rfl ?_ ⋯ rfl rfl (by rw[ao];exact o)).trans rfl;left;rw[l];rfl
  ·refine⟨p++[x],q,g.left x i,?_⟩;left;rw[decide_eq_true h];left;simp only[o4,xJ];refine(Fv (j:=0) (ds:=p.map .str) (d:=.str x) rfl ?_ ⋯ rfl rfl (by rw[ao];exact n)).trans rfl;left;rw[l];rfl
 ·refine⟨p,q,g.skip x,?_⟩;left;rw[decide_eq_false h];left
def RZ(g:qB pre r t)(k:x∉pre)(u:pre.length<900)(s:0<=j):
  ∃i t',qB (pre++[x]) i t'/\gF (fF (g2 (rB 7) (kI 4) K6)) (rf 4 (g2 (fv (J.ag (kI 2) (J.ag (kI 2) (J.ag (kI 3) (J.ag (kI 3) J.aJ)))) .list) (rB 7) bu) (rS 6)) (λρ=>.ok (.nx ρ)) [a,b,c,d,o4 p q r t,e,.shr (.str x),.shr (.int j),f]=.ok (.nx [a,b,c,d,o4 p q i t',e,.shr (.str x),.shr (.int j),f]):=by
 by_cases h:j<4
 ·obtain⟨m,l⟩:=q0g j s h;have n:r.length<1000:=by have:=g.sp.length_le;omega
  have o:t.length<1000:=by have:=g.sq.length_le;omega
  cases m
  ·refine⟨r,t++[x],g.right x k,?_⟩;left;rw[decide_eq_true h];left;simp only[o4,xJ];refine(Fv (j:=3) (ds:=t.map .str) (d:=.str x) rfl ?_ ⋯ rfl rfl (by rw[ao];exact o)).trans rfl;left;rw[l];rfl
  ·refine⟨r++[x],t,g.left x k,?_⟩;left;rw[decide_eq_true h];left;simp only[o4,xJ];refine(Fv (j:=2) (ds:=r.map .str) (d:=.str x) rfl ?_ ⋯ rfl rfl (by rw[ao];exact n)).trans rfl;left;rw[l];rfl
 ·refine⟨r,t,g.skip x,?_⟩;left;rw[decide_eq_false h];left
def q0h(i:Nat)(ρ:aI):UF i ρ=.ok (.nx ((clear2 ρ).set i (.ow2 [[],[],[],[]]))):=id rfl
def qB.sub(d:fs.Pairwise λa b=>qN a b=true)(h:qB fs p q):yJ fs p/\yJ fs q:=⟨⟨d.sublist h.sp,λx c=>h.sp.subset c⟩,⟨d.sublist h.sq,λx c=>h.sq.subset c⟩⟩
def R_(p:List Str)(ρ:aI):(bX (J.ag (rB 0) J.aJ) (i8 ig)) (.shr (.list (p.map .str))::ρ)=.ok (aL p):=by
 left;rw[jd]
def q0i(p q r t:List Str):gD (jl 1 [Sl.no] kT (bX (J.ag (rB 0) J.aJ) (i8 ig))) [.list (p.map .str),.list (q.map .str),.list (r.map .str),.list (t.map .str)]=.ok [aL p,aL q,aL r,aL t]:=
 dJ _ (λss:List Str=>iZ (ss.map .str)) (λss=>aL ss) [p,q,r,t] λss hs=>fS rfl (R_ ss _)
def O6(g:List Int)(k:Int)(P:0<=k)(fs:List Str)(I:∀x∈fs,DU x=true)(L:fs.Pairwise λa b=>qN a b=true)(M:fs.Nodup)(hl:fs.length<=6)(m:Str)(N:DU m=true):
  ∃e,kc [.list (g.map .int),.int k,aL fs,.str m]=.ok (gx e)/\sU fs e/\e.name=m:=by
 have Q:=iw g k 5 ⋯;have p1:=j9 g k 5 ⋯;have go:∀ ρ:aI,ρ=[.shr (.list (g.map .int)),.shr (.int k),.shr (aL fs),.shr (.str m),.no,.no,.no,.no,.no]->(!decide (fs=[])&&decide (gT g 97 2=0))=false->∃e,ka ρ=.ok (.rt (gx e))/\sU fs e/\e.name=m:=by
  rintro ρ rfl s;obtain⟨o,u,p,q,r,t,n,v,z⟩:∃o,(kY (yy (J.ag (rS 2) J.aJ)) (mw 2 (cO (bN 5) (cO (bN 6) nB))) (bh (ir 7 (f9 3 bP (J.ag (rS 0) (J.ag (g2 (g2 (rB 1) (kI 10) fY) (rB 5) fY) (J.ag (kI 8) J.aJ))))) (bh (gF (fF (g2 (rB 7) (kI 3) K6)) (rf 4 (g2 (fv (J.ag (kI 0) (J.ag (kI 0) (J.ag (kI 1) J.aJ))) .list) (rB 7) bu) (rS 6)) (λρ=>.ok (.nx ρ))) (bh (ir 7 (f9 3 bP (J.ag (rS 0) (J.ag (g2 (g2 (rB 1) (kI 20) fY) (rB 5) fY) (J.ag (kI 8) J.aJ))))) (gF (fF (g2 (rB 7) (kI 4) K6)) (rf 4 (g2 (fv (J.ag (kI 2) (J.ag (kI 2) (J.ag (kI 3) (J.ag (kI 3) J.aJ)))) .list) (rB 7) bu) (rS 6)) (λρ=>.ok (.nx ρ))))))) [.shr (.list (g.map .int)),.shr (.int k),.shr (aL fs),.shr (.str m),o4 [] [] [] [],.no,.no,.no,.no]=.ok (.nx o)/\∃p q r t,qB fs p q/\qB fs r t/\∃A E w,o=[.shr (.list (g.map .int)),.shr (.int k),.shr (aL fs),.shr (.str m),o4 p q r t,A,E,w,.no]:=by
   rw[Bh (ds:=(qg 0 fs).map cI)]
   ·have H:=ua cI (λ(a:Unit) (_:Nat×Str)=>a) (λbM _ ρ=>∃l,l++bM.map (·.2)=fs/\∃p q r t,qB l p q/\qB l r t/\∃A E w,ρ=[.shr (.list (g.map .int)),.shr (.int k),.shr (aL fs),.shr (.str m),o4 p q r t,A,E,w,.no]) (kt:=mw 2 (cO (bN 5) (cO (bN 6) nB))) (gb:=(bh (ir 7 (f9 3 bP (J.ag (rS 0) (J.ag (g2 (g2 (rB 1) (kI 10) fY) (rB 5) fY) (J.ag (kI 8) J.aJ))))) (bh (gF (fF (g2 (rB 7) (kI 3) K6)) (rf 4 (g2 (fv (J.ag (kI 0) (J.ag (kI 0) (J.ag (kI 1) J.aJ))) .list) (rB 7) bu) (rS 6)) (λρ=>.ok (.nx ρ))) (bh (ir 7 (f9 3 bP (J.ag (rS 0) (J.ag (g2 (g2 (rB 1) (kI 20) fY) (rB 5) fY) (J.ag (kI 8) J.aJ))))) (gF (fF (g2 (rB 7) (kI 4) K6)) (rf 4 (g2 (fv (J.ag (kI 2) (J.ag (kI 2) (J.ag (kI 3) (J.ag (kI 3) J.aJ)))) .list) (rB 7) bu) (rS 6)) (λρ=>.ok (.nx ρ)))))));obtain⟨o,u,l,n,p,q,r,t,v,z,X⟩:=H (by
     rintro⟨i,x⟩ bM _ ρ ⟨l,n,p,q,r,t,v,z,A,E,w,rfl⟩;have G:x∉l:=by
      rw[<- n,aC] at M;have:=(List.nodup_append.mp M).2.2;intro G;exact this x G x aq rfl
     have B:l.length<900:=by
      have:=congrArg nF n;rw[aS] at this;omega
     obtain⟨K,q',T,S⟩:=RY (a:=.shr (.list (g.map .int))) (b:=.shr (.int k)) (c:=.shr (aL fs)) (d:=.shr (.str m)) (e:=.shr (.int (i:Nat))) (f:=.no) (r:=r) (t:=t) (j:=gT g (k+10+i) 8) v G B (iw _ _ _ ⋯);obtain⟨O,t',k3,U⟩:=RZ (a:=.shr (.list (g.map .int))) (b:=.shr (.int k)) (c:=.shr (aL fs)) (d:=.shr (.str m)) (e:=.shr (.int (i:Nat))) (f:=.no) (p:=K) (q:=q') (j:=gT g (k+20+i) 8) z G B (iw _ _ _ ⋯);refine⟨[.shr (.list (g.map .int)),.shr (.int k),.shr (aL fs),.shr (.str m),o4 p q r t,.shr (.int (i:Nat)),.shr (.str x),w,.no],[.shr (.list (g.map .int)),.shr (.int k),.shr (aL fs),.shr (.str m),o4 K q' O t',.shr (.int (i:Nat)),.shr (.str x),.shr (.int (gT g (k+20+i) 8)),.no],rfl,?_,l++[x],?_,K,q',O,t',T,k3,_,_,_,rfl⟩
     ·rw[GW,Qt];walk_at "yy";rw[ij g _ 8 ∅ ⋯];walk_at "yy";rw[S];walk_at "yy";rw[ij g _ 8 ∅ ⋯];walk_at "yy";rw[U]
     ·rw[<- n];simp) (qg 0 fs) () [.shr (.list (g.map .int)),.shr (.int k),.shr (aL fs),.shr (.str m),o4 [] [] [] [],.no,.no,.no,.no] ⟨[],by rw[v5];rfl,[],[],[],[],⟨gd _,gd _,λ_ h=>nomatch h⟩,⟨gd _,gd _,λ_ h=>nomatch h⟩,_,_,_,rfl⟩
    refine⟨o,u,p,q,r,t,?_,?_,X⟩
    ·simp only[fK,cq] at n;rw[<- n];exact v
    ·simp only[fK,cq] at n;rw[<- n];exact z
   ·left;rw[Av]
  obtain⟨s1,Y⟩:=n.sub L;obtain⟨s3,s4⟩:=v.sub L;obtain⟨A,E,w,rfl⟩:=z;refine⟨⟨m,p,q,r,t,gT g k 5⟩,?_,⟨N,s1,Y,s3,s4,n.d,v.d,Q,by show gT g k 5<=9;omega⟩,rfl⟩;unfold ka;have y:K1 (fF (g2 (rB 2) (fv J.aJ .tuple) (pj true))) (fF (g2 (f9 3 bP (J.ag (rS 0) (J.ag (kI 97) (J.ag (kI 2) J.aJ)))) (kI 0) (pj false))) [.shr (.list (g.map .int)),.shr (.int k),.shr (aL fs),.shr (.str m),.no,.no,.no,.no,.no]=.ok false:=by
   left;rw[Mv fs I];left;by_cases h:fs=[]
   ·simp only[h,decide_true,g_,cond_false]
   ·simp only[h,decide_false,ko,cond_true,wS] at s ⊢;rw[ij g 97 2 ⋯ ⋯];left;rw[nC];left;rw[s]
  rw[GW,ZG,y];simp only[Bf,Qr,q0h,clear2,aC,fK,y9,y8,Bf,xv,GW];rw[show Sl.ow2 [[],[],[],[]]=o4 [] [] [] [] from rfl,u];left;rw[q0i];left;rw[WE];left;rw[WF];left;rw[WG];left;rw[WH];left;rw[ij g k 5 P ⋯];left;rfl
 by_cases s:(!decide (fs=[])&&decide (gT g 97 2=0))=true
 ·have h0:0<fs.length:=by
   rcases fs with _|⟨x,r⟩
   ·simp at s
   ·simp
  obtain⟨e,u,n⟩:=Vd g k P fs I h0 m N;refine⟨e,?_,n⟩;unfold kc;refine dL ?_;unfold ka cL;left;rw[Mv fs I];left;simp only[bc] at s;rw[s.1];left;rw[ij g 97 2 ⋯ ⋯];left;rw[nC];left;rw[s.2];left;rw[u];left
 ·obtain⟨e,u,n⟩:=go _ rfl (Bool.eq_false_iff.mpr s);exact⟨e,by unfold kc;exact dL u,n⟩
def Fw(ds:List D)(t:Nat)(h:t<=ds.length):z_ ds (some (t:Int)) none=ds.drop t:=by
 unfold z_;rw[HT.Ln,HT.Gj,oH h,m7 (by rw[m_];exact aA _)]
def Yf(ds:List D)(t:Nat)(h:t<=ds.length):z_ ds none (some (t:Int))=ds.take t:=by
 unfold z_;rw[HT.Ln,HT.Gj,oH h,List.drop_zero,Nat.sub_zero]
def q0j(ds:List D)(t:Nat)(h:t<=ds.length):Ly (.list ds) (some (t:Int)) none=.ok (.list (ds.drop t)):=by
 rw[<- Fw ds t h];rfl
def q0k(ds:List D)(t:Nat)(h:t<=ds.length):Ly (.list ds) none (some (t:Int))=.ok (.list (ds.take t)):=by
 rw[<- Yf ds t h];rfl
def Yg(c:(l.map (·.1)).Nodup)(b:p∈l):bu (.dict (n_ l)) (.str p.1)=.ok p.2:=by
 have e:∀a x,bu (.dict a) (.str x)=if jm a=true then(match nM a (.str x) with
   |some d=>.ok d
   |none=>.no) else .no:=λ_ _=>rfl
 rw[e,if_pos (BE l)];have:nM (n_ l) (.str p.1)=some p.2:=by
  unfold nM n_;clear e;induction l with
  |nil=>cases b
  |cons q r f=>
   rw[aC] at c;obtain⟨g,i⟩:=List.nodup_cons.mp c;rw[aC,cP,xH];rcases List.mem_cons.mp b with h|h
   ·subst h;simp
   ·have:q.1≠p.1:=λz=>g (z ▸ br h)
    rw[decide_eq_false this];exact f i h
 rw[this]
structure g6 (fs:List Str) (es:List lG):Prop where
 rise:RV fs 6
 len:es.length<=6
 nd:(es.map (·.name)).Nodup
 ok:∀e∈es,sU fs e
def c7(fs:List Str)(es:List lG):D:=.tuple [aL fs,.tuple (es.map gx)]
theorem q0l(fs:List Str):∀(l:List (Str×D)),(∀p∈l,∃e,p.2=gx e/\sU fs e/\e.name=p.1)->∃es:List lG,l.map (·.2)=es.map gx/\es.map (·.name)=l.map (·.1)/\∀e∈es,sU fs e
 |[],_=>⟨[],rfl,rfl,λ_ h=>nomatch h⟩
 |p::r,h=>by
  obtain⟨e,a,g,d⟩:=h p aq;obtain⟨es,c,b,i⟩:=q0l fs r λq f=>h q (ak _ f);refine⟨e::es,by rw[aC,aC,a,c],by rw[aC,aC,d,b],λx j=>?_⟩;rcases List.mem_cons.mp j with z|z
  ·rw[z];exact g
  ·exact i x z
def O7{a:Type}(l:List a)(t:Nat):(l.drop t++l.take t).Perm l:=by
 refine List.perm_append_comm.trans ?_;rw[cW]
def mZ{l:List Str}(h:l.Pairwise λa b=>qN a b=true):l.Nodup:=h.imp λc z=>by
 rw[z,mq] at c;cases c
def Ve(b:List Int)(k:Int)(T:0<=k)(m n:Int)(g:0<=m)(hm:m<=6)(X:0<=n)(hn:n<=6):∃fs es,oW [.list (b.map .int),.int k,.int m,.int n]=.ok (c7 fs es)/\g6 fs es/\fs.length<=m.toNat/\es.length<=n.toNat:=by
 have c:=Ks b k m g;generalize w:Fq b k m=fs at c;have A:=c.len;have c:RV fs 6:=⟨c.ok,c.up,by have:=c.len;omega⟩;have M:=mZ c.up;have K:=iw b (k+60) (n+1) ∅;have m1:=j9 b (k+60) (n+1) ∅;suffices H:∃es,oW [.list (b.map .int),.int k,.int m,.int n]=.ok (c7 fs es)/\g6 fs es/\es.length<=n.toNat from H.elim λes h=>⟨fs,es,h.1,h.2.1,A,h.2.2⟩
 unfold oW;suffices H:∃es,oV (cL 10 [.list (b.map .int),.int k,.int m,.int n])=.ok (.rt (c7 fs es))/\g6 fs es/\es.length<=n.toNat from H.elim λes h=>⟨es,dL h.1,h.2⟩
 have H:=ua (λ(i:Nat)=>ji i) (λ(a:Unit) (_:Nat)=>a) (λbM _ ρ=>∃l,l.length+bM.length<=n.toNat/\(l.map (·.1)).Nodup/\(∀p∈l,∃e,p.2=gx e/\sU fs e/\e.name=p.1)/\∃y s,ρ=[.shr (.list (b.map .int)),.shr (.int k),.shr (.int m),.shr (.int n),.shr (aL fs),.own (.dict (n_ l)),y,s,.no,.no]) (kt:=bN 6) (gb:=bh (ir 7 (f9 2 my (J.ag (rS 0) (J.ag (g2 (g2 (rB 1) (kI 70) fY) (g2 (kI 40) (rB 6) zZ) fY) J.aJ)))) (F1 5 (rS 7) (f9 4 kc (J.ag (rS 0) (J.ag (g2 (g2 (rB 1) (kI 80) fY) (g2 (kI 40) (rB 6) zZ) fY) (J.ag (rS 4) (J.ag (rS 7) J.aJ)))))));obtain⟨S,B,l,z,q,v,y,s,P⟩:=H (by
  rintro i bM _ ρ ⟨l,z,q,v,y,s,rfl⟩;simp only[aX] at z;have N:=HN b (k+70+40*(i:Int));obtain⟨e,j,Y,I⟩:=O6 b (k+80+40*(i:Int)) ∅ fs c.ok c.up M c.len (mY b (k+70+40*(i:Int))) N;have pl:=HQ l (mY b (k+70+40*(i:Int))) (gx e);refine⟨[.shr (.list (b.map .int)),.shr (.int k),.shr (.int m),.shr (.int n),.shr (aL fs),.own (.dict (n_ l)),.shr (.int i),s,.no,.no],[.shr (.list (b.map .int)),.shr (.int k),.shr (.int m),.shr (.int n),.shr (aL fs),.own (.dict (n_ (xG l (mY b (k+70+40*(i:Int))) (gx e)))),.shr (.int i),.shr (.str (mY b (k+70+40*(i:Int)))),.no,.no],rfl,?_,xG l (mY b (k+70+40*(i:Int))) (gx e),by omega,?_,?_,_,_,rfl⟩
  ·left;rw[u_ ⋯ ⋯];left;rw[Mu b _ ∅];left;refine(WC (l:=l) (x:=mY b (k+70+40*(i:Int))) (d:=gx e) rfl ?_ rfl ∅).trans rfl;left;rw[u_ ⋯ ⋯];left;exact j
  ·rw[DV];exact O3 q
  ·exact RU (Q:=λx d=>∃e,d=gx e/\sU fs e/\e.name=x) v ⟨e,rfl,Y,I⟩) (bx (gT b (k+60) (n+1)).toNat) () [.shr (.list (b.map .int)),.shr (.int k),.shr (.int m),.shr (.int n),.shr (aL fs),.own (.dict (n_ [])),.no,.no,.no,.no] ⟨[],by rw[eg];simp only[du];omega,i5,λ_ h=>(nomatch h),_,_,rfl⟩
 simp only[du,kJ] at z;have O:=iw b (k+61) ((l.length:Int)+1) ∅;have t1:=j9 b (k+61) ((l.length:Int)+1) ∅;obtain⟨t,G⟩:∃t:Nat,gT b (k+61) ((l.length:Int)+1)=t:=⟨_,(fQ O).symm⟩;have tl:t<=l.length:=by omega
 have f:=O7 l t;obtain⟨es,u,E,U⟩:=q0l fs (l.drop t++l.take t) λp o=>v p (f.mem_iff.mp o);have kl:es.length=l.length:=by
  have:=congrArg nF u;rw[ao,ao,f.length_eq] at this;exact this.symm
 refine⟨es,?_,⟨c,by omega,?_,U⟩,by omega⟩
 ·unfold oV cL;walk_at "yy";rw[RX b k m T g ∅,w];walk_at "yy";rw[Bh (ds:=(bx (gT b (k+60) (n+1)).toNat).map λ(i:Nat)=>ji i)]
  ·rw[show I_ []=I_ (n_ []) from rfl,B,P];walk_at "yy";rw[HR];walk_at "yy";rw[ij b _ _ ∅ ∅,G];walk_at "yy";clear H B;rw[q0j _ t (by simpa using tl)];walk_at "yy";rw[q0k _ t (by simpa using tl)];walk_at "yy";have j:(List.drop t (nJ aN (nJ (λx=>x.fst) l))++List.take t (nJ aN (nJ (λx=>x.fst) l)))=(l.drop t++l.take t).map λp=>aN p.1:=by
    rw[bI,rK,G8,cK];rfl
   rw[j,if_pos (by rw[<- aS,j,ao,f.length_eq];omega)];have pl:=f.length_eq;have px:∀p∈l.drop t++l.take t,p∈l:=λp o=>f.mem_iff.mp o;clear j f E;generalize l.drop t++l.take t=L at pl px u ⊢;walk_at "yy";rw[if_pos ∅];rw[dJ _ (λp:Str×D=>aN p.1) (λp=>p.2) L λp o=>fS rfl (by
    walk_at "yy";exact Yg q (px p o))]
   walk_at "yy";rw[jd];walk_at "yy";rw[u];rfl
  ·walk_at "yy";rw[ij b (k+60) (n+1) ∅ ∅];walk_at "yy";have:=Fk (gT b (k+60) (n+1)).toNat ∅;rw[fQ K] at this;exact this
 ·rw[E];exact((f.map _).nodup_iff).mpr q
theorem DX{a:Type}(b:a->Bool):∀xs:List a,pM (xs.map λx=>bQ (b x))=some (xs.map b)
 |[]=>rfl
 |x::r=>by
  show(pM (r.map λx=>bQ (b x))).map (b x::·)=_;rw[DX b r];rfl
def iy{a:Type}(k:List Bool->Bool)(b:a->Bool)(xs:List a):eA k (.list (xs.map λx=>bQ (b x)))=.ok (.bool (k (xs.map b))):=by
 have e:∀ds,eA k (.list ds)=match pM ds with
  |some bs=>.ok (.bool (k bs))
  |none=>.no:=λ_=>rfl
 rw[e,DX]
def S0(a:gt (.shr d::.shr d'::ρ)=.ok true)(c:ge (.shr d::.shr d'::ρ)=.ok y):jl 2 (s::s'::ρ) gt ge (.tuple [d,d'])=.ok (some y):=by
 have e:jl 2 (s::s'::ρ) gt ge (.tuple [d,d'])=EW ((gt (.shr d::.shr d'::ρ)).bind λb=>if b then(ge (.shr d::.shr d'::ρ)).bind λy=>.ok (some y) else .ok none):=id rfl;rw[e,a,bind_ok,if_pos rfl,c];rfl
def Yh(x:Str):wJ (.str x)=true:=id rfl
def S1(i:Int):wJ (.int i)=true:=id rfl
theorem Fx{a:Type}(c:a->D)(h:∀x,wJ (c x)=true):∀xs:List a,noDs (xs.map c)=true
 |[]=>rfl
 |x::r=>by
  show(wJ (c x)&&noDs (r.map c))=true;rw[h x,Fx c h r];rfl
def S2(xs:List D):wJ (.tuple xs)=noDs xs:=id rfl
def v6(xs:List Str):wJ (aL xs)=true:=by
 rw[S2];exact Fx _ (λ_=>rfl) xs
def Mw(e:lG):wJ (gx e)=true:=by
 have:wJ (gx e)=(true&&(wJ (aL e.needs)&&(wJ (aL e.bars)&&(wJ (aL e.makes)&&(wJ (aL e.ends)&&(true&&true)))))):=rfl
 rw[this,v6,v6,v6,v6];rfl
def WI(es:List lG):wJ (.tuple (es.map gx))=true:=by
 rw[S2];exact Fx _ Mw es
def Vf(fs:List Str)(es:List lG):wJ (c7 fs es)=true:=by
 have:wJ (c7 fs es)=(wJ (aL fs)&&(wJ (.tuple (es.map gx))&&true)):=rfl
 rw[this,v6,WI];rfl
def Yi(x:Str):GN "str" (.str x)=true:=id rfl
def Fy(x:List D):GN "tuple" (.tuple x)=true:=id rfl
def Yj(x:Int):GN "int" (.int x)=true:=id rfl
def Yk(x:Int):GN "bool" (.int x)=false:=id rfl
def Vg:∀c:_root_.Fin 123,97<=c.val->(!qN ⟨#[c.val]⟩ "a")=true/\(!qN "z" ⟨#[c.val]⟩)=true:=by decide +kernel
def DY(h:DU x=true):rq [.str x]=.ok (.bool true):=by
 have f:=h;unfold DU at h;simp only[bc,decide_eq_true_eq,cA] at h;obtain⟨⟨e,j⟩,a⟩:=h;have i:x.length=x.cps.size:=rfl;unfold rq;refine dL ?_;unfold uR cL;left;rw[Yh,Yi];left;rw[if_pos ∅];left;rw[decide_eq_true ∅];left;rw[decide_eq_true ∅];left;unfold qy;left;rw[if_pos (by rw[az];omega)];rw[dJ _ (λc:Nat=>aN ⟨#[c]⟩) (λ_=>bQ true) x.cps.toList λc b=>fS rfl (by
  obtain⟨d,g⟩:=a c b;obtain⟨b1,b2⟩:=Vg ⟨c,by omega⟩ d;left;simp only at b1 b2;rw[b1];left;rw[b2])]
 left;rw[iy _ (λ_=>true)];left;simp
theorem HW:∀(xs ys:List Str),A2 (xs.map .str) (ys.map .str)=(xs.zip ys).map λp=>gO [.str p.1,.str p.2]
 |[],_=>rfl
 |_::_,[]=>rfl
 |x::r,y::a=>by
  show gO [.str x,.str y]::A2 (r.map .str) (a.map .str)=_;rw[HW r a];rfl
theorem S3:∀{l:List Str},(l.Pairwise λa b=>qN a b=true)->∀p∈l.zip (l.drop 1),qN p.1 p.2=true
 |[],_,p,c=>by cases c
 |[_],_,p,c=>by cases c
 |a::b::r,h,p,c=>by
  obtain⟨d,e⟩:=List.pairwise_cons.mp h;rcases List.mem_cons.mp c with z|z
  ·rw[z];exact d b aq
  ·exact S3 e p z
def Vh(xs:List Str):Ly (aL xs) (some 1) none=.ok (aL (xs.drop 1)):=by
 have e:Ly (aL xs) (some 1) none=.ok (.tuple (z_ (xs.map .str) (some 1) none)):=rfl;rw[e];cases xs with
 |nil=>rfl
 |cons x r=>
  rw[show(1:Int)=((1:Nat):Int) from rfl,Fw _ 1 (by simp)];rfl
def zy(e:∀x∈xs,DU x=true)(f:xs.Pairwise λa b=>qN a b=true)(g:xs.length<=6):hW [aL xs]=.ok (.bool true):=by
 unfold hW;refine dL ?_;unfold j8 cL;left;rw[v6,Fy];left;rw[if_pos ∅];rw[dJ _ (λx:Str=>aN x) (λ_=>bQ true) xs λx d=>fS rfl (by
  left;rw[DY (e x d)])]
 left;rw[iy _ (λ_=>true)];left;rw[show((xs.map λ_=>true).all id)=true by simp];left;rw[Vh];left;rw[HW];left;rw[if_pos (by simp;omega)];rw[dJ _ (λp:Str×Str=>gO [.str p.1,.str p.2]) (λ_=>bQ true) (xs.zip (xs.drop 1)) λp c=>S0 rfl (by
  left;rw[S3 f p c])]
 left;rw[iy _ (λ_=>true)];left;simp
def oY(b:∀x∈fs,DU x=true)(h:yJ fs xs)(c:xs.length<=6):lv [aL fs,aL xs]=.ok (.bool true):=by
 unfold lv;refine dL ?_;unfold pT cL;left;rw[zy (λx a=>b x (h.mem x a)) h.up c];left;rw[if_pos ∅];rw[dJ _ (λx:Str=>aN x) (λ_=>bQ true) xs λx a=>fS rfl (by
  left;rw[kz,decide_eq_true (h.mem x a)];rfl)]
 left;rw[iy _ (λ_=>true)];left;simp
def DZ(h:∀x∈xs,x∉ys)(b:xs.length<=6):eU [aL xs,aL ys]=.ok (.bool true):=by
 unfold eU;refine dL ?_;unfold lT cL;left;rw[if_pos ∅];rw[dJ _ (λx:Str=>aN x) (λ_=>bQ false) xs λx a=>fS rfl (by
  left;rw[kz,decide_eq_false (h x a)];rfl)]
 left;rw[iy _ (λ_=>false)];left;simp
def Kw(b:l<=i)(a:i<=m):sd [.int i,.int l,.int m]=.ok (.bool true):=by
 unfold sd;refine dL ?_;unfold r_ cL;left;rw[S1,Yj];left;rw[S1,Yk];left;rw[decide_eq_true b];left;rw[decide_eq_true a]
theorem Fz:∀(xs fs:List Str),xs.Nodup->(∀x∈xs,x∈fs)->xs.length<=fs.length
 |[],_,_,_=>ca _
 |x::r,fs,c,h=>by
  obtain⟨d,e⟩:=List.nodup_cons.mp c;have b:=h x aq;have:=Fz r (fs.erase x) e λy a=>(kq λ(z:y=x)=>d (z ▸ a)).mpr (h y (ak _ a));rw[lc b] at this;have:0<fs.length:=m8 b
  rw[aX];omega
def kQ(h:yJ fs xs)(a:fs.length<=6):xs.length<=6:=by
 exact c8 (Fz xs fs (mZ h.up) h.mem) a
def q16(a b c d e f g:D):QV (mw 6 (cO (bN 2) (cO (bN 3) (cO (bN 4) (cO (bN 5) (cO (bN 6) (cO (bN 7) nB))))))) [Sl.shr a,Sl.shr (.tuple [b,c,d,e,f,g]),.no,.no,.no,.no,.no,.no] (.tuple [b,c,d,e,f,g])=.ok (.nx [Sl.shr a,Sl.shr (.tuple [b,c,d,e,f,g]),.shr b,.shr c,.shr d,.shr e,.shr f,.shr g]):=id rfl
def HX(a:RV fs 6)(g:sU fs e):pV [aL fs,gx e]=.ok (.bool true):=by
 have f:=kQ g.needs a.len;have h:=kQ g.bars a.len;have d:=kQ g.makes a.len;have i:=kQ g.ends a.len;unfold pV;refine dL ?_;unfold pU cL;left;rw[Mw];unfold gx;left;rw[Fy];left;rw[nC];left;rw[show decide (((6:Nat):Int)=6)=true from rfl];left;rw[q16]
 ·left;rw[DY g.name];left;rw[Kw g.p0 g.p9];left;have b:=dJ (jl 1 [Sl.no,Sl.shr (aL fs)] kT (f9 2 lv (J.ag (rS 1) (J.ag (rS 0) J.aJ)))) (λx:List Str=>aL x) (λ_=>bQ true) [e.needs,e.bars,e.makes,e.ends] λx c=>fS rfl (by
   left;simp only[bg,bt,or_false] at c;rcases c with z|z|z|z<;>rw[z]
   ·rw[oY a.ok g.needs f]
   ·rw[oY a.ok g.bars h]
   ·rw[oY a.ok g.makes d]
   ·rw[oY a.ok g.ends i])
  simp only[aC,fK] at b;rw[b];left;rw[show eA (λbs=>bs.all id) (.list [.bool true,.bool true,.bool true,.bool true])=.ok (.bool true) from rfl];left;rw[DZ g.nb f];left;rw[DZ g.me d];left
def S4(l:List Str)(b:l.Nodup):(eJ [] l).length=l.length:=by
 have c:=Fz (eJ [] l) l (jR l [] i5) λx a=>((j_ l [] x).mp a).elim (λh=>nomatch h) id;have d:=Fz l (eJ [] l) b λx a=>(j_ l [] x).mpr (.inr a);omega
def O8(es:List lG)(c:es.length<=6)(a:(es.map (·.name)).Nodup)(s:Sl)(ρ:aI)(h:(s::ρ)[2]?=some (.shr (.tuple (es.map gx)))):xu (yz 1 [] (gC (rB 2)) kT (g2 (rB 0) (kI 0) bu)) (s::ρ)=.ok (.int (es.length:Nat)):=by
 have b:J8 (s::ρ) 2=.ok (.tuple (es.map gx)):=by unfold J8;rw[h]
 unfold xu yz;rw[XI,XZ,b];left;rw[if_pos ∅];rw[dJ _ gx (λe=>aN e.name) es λe he=>fS rfl (by
  left;rfl)]
 left;have:(es.map λe=>aN e.name)=(es.map (·.name)).map .str:=by rw[cK];rfl
 rw[this,strsOf_map];simp only[Bf,S4 _ a,ao]
def q17(b c:D):QV (mw 2 (cO (bN 1) (cO (bN 2) nB))) [Sl.shr (.tuple [b,c]),.no,.no] (.tuple [b,c])=.ok (.nx [Sl.shr (.tuple [b,c]),.shr b,.shr c]):=id rfl
def O9(g:g6 fs es):uT [c7 fs es]=.ok (.bool true):=by
 have b:=g.rise.len;have a:=g.len;unfold uT;refine dL ?_;unfold uS cL;left;rw[Vf];unfold c7;left;rw[Fy];left;rw[nC];left;rw[show decide (((2:Nat):Int)=2)=true from rfl];left;rw[q17];left;rw[zy g.rise.ok g.rise.up b];left;rw[decide_eq_false ∅];left;rw[WI,Fy];left;rw[decide_eq_false ∅];left;rw[if_pos ∅];rw[dJ _ gx (λ_=>bQ true) es λe he=>fS rfl (by
  left;rw[HX g.rise (g.ok e he)])]
 left;rw[iy _ (λ_=>true)];left;rw[show((es.map λ_=>true).all id)=true by simp];left;rw[O8 es a g.nd _ _ rfl];left;rw[nC,decide_eq_true rfl];rfl
def Kx(g:g6 fs es):uX [c7 fs es]=.ok (c7 fs es):=by
 unfold uX;refine dL ?_;unfold uW cL;left;rw[O9 g];left
theorem Oa{a:Type}(c:a->D)(h:∀x,bw (c x) (c x)=true):∀xs:List a,dz (xs.map c) (xs.map c)=true
 |[]=>by simp[dz]
 |x::r=>by simp[dz,h x,Oa c h r]
theorem HY{a:Type}(c:a->D):∀xs:List a,(∀x∈xs,(c x).canLay0=true)->fD (xs.map c)=true
 |[],_=>rfl
 |x::r,h=>by
  have b:=h x aq;have e:=HY c r λy d=>h y (ak _ d);simp only[aC,fD,b,e,rG]
theorem D_{a:Type}(c:a->D)(n:Nat)(h:∀x,(c x).depth<=n):∀xs:List a,sX (xs.map c)<=n
 |[]=>by simp[sX]
 |x::r=>by
  simp only[aC,sX];exact Nat.max_le.mpr ⟨h x,D_ c n h r⟩
def S5(a:ρ[i]?=some (Sl.own (.list ds)))(b:g ρ=.ok d)(c:ds.length<1000):we i g ρ=.ok (.nx (ρ.set i (.own (.list (ds++[d]))))):=by
 unfold we;simp only[a,b,bind_ok,if_pos c]
def S6(a:gt (.shr d::.shr d'::ρ)=.ok b)(c:b=true->ge (.shr d::.shr d'::ρ)=.ok y):jl 2 (s::s'::ρ) gt ge (.tuple [d,d'])=.ok (if b then some y else none):=by
 have e:jl 2 (s::s'::ρ) gt ge (.tuple [d,d'])=EW ((gt (.shr d::.shr d'::ρ)).bind λb=>if b then(ge (.shr d::.shr d'::ρ)).bind λy=>.ok (some y) else .ok none):=id rfl;rw[e,a,bind_ok];cases b with
 |true=>rw[if_pos rfl,c rfl];rfl
 |false=>rfl
theorem E1:∀(xs:List Str) (n:Nat),(qg n xs).length=xs.length
 |[],_=>rfl
 |x::r,n=>by
  show(qg (n+1) r).length+1=r.length+1;rw[E1 r]
def Vi(a:List Int)(k:Int)(c:0<=k)(fs:List Str)(d:fs.length<=6)(m:Int):∃ss:List Str,si [.list (a.map .int),.int k,aL fs,.int m]=.ok (aL ss)/\ss.Sublist fs:=by
 refine⟨((qg 0 fs).filter λq=>decide (gT a (k+(q.1:Int)) 12<m)).map (·.2),?_,?_⟩
 ·unfold si;refine dL ?_;unfold sg cL;left;rw[Av];left;rw[if_pos (by rw[E1];omega)];rw[j7 _ cI (λq=>aN q.2) (λq=>decide (gT a (k+(q.1:Int)) 12<m)) (qg 0 fs) λq b=>S6 (by
   left;rw[ij a _ 12 ∅ ⋯];left) λ_=>rfl]
  left;rw[jd];left;unfold aL;rw[cK];rfl
 ·have:=(fP (l:=qg 0 fs) (p:=λq=>decide (gT a (k+(q.1:Int)) 12<m))).map (·.2);rw[v5] at this;exact this
def Ky(d:fs.Pairwise λa b=>qN a b=true)(h:xs.Sublist fs):yJ fs xs:=⟨d.sublist h,λx c=>h.subset c⟩
structure WJ (fs m b:List Str):Prop where
 must:yJ fs m
 bars:yJ fs b
 mb:∀x∈m,x∉b
abbrev su(m b:List Str):D:=.tuple [aL m,aL b]
def Mx(p:List Str)(x:Str):p.map aN++[aN x]=(p++[x]).map .str:=by simp
def Vj(e:List Int)(k:Int)(I:0<=k)(fs:List Str)(o:fs.Pairwise λa b=>qN a b=true)(B:fs.length<=6):∃m b,wn [.list (e.map .int),.int k,aL fs]=.ok (su m b)/\WJ fs m b:=by
 have w:=mZ o;suffices H:∃p q,oX (cL 8 [.list (e.map .int),.int k,aL fs])=.ok (.rt (su p q))/\qB fs p q by
  obtain⟨p,q,n,f⟩:=H;exact⟨p,q,dL n,Ky o f.sp,Ky o f.sq,f.d⟩
 unfold oX cL;walk_at "yy";rw[Bh (ds:=(qg 0 fs).map cI)]
 ·have H:=ua cI (λ(a:Unit) (_:Nat×Str)=>a) (λbM _ ρ=>∃c,c++bM.map (·.2)=fs/\∃p q,qB c p q/\∃s t j,ρ=[.shr (.list (e.map .int)),.shr (.int k),.shr (aL fs),.own (.list (p.map .str)),.own (.list (q.map .str)),s,t,j]) (kt:=mw 2 (cO (bN 5) (cO (bN 6) nB))) (gb:=bh (ir 7 (f9 3 bP (J.ag (rS 0) (J.ag (g2 (rB 1) (rB 5) fY) (J.ag (kI 8) J.aJ))))) (gF (fF (g2 (rB 7) (kI 2) K6)) (we 3 (rS 6)) (gF (fF (g2 (rB 7) (kI 2) (pj false))) (we 4 (rS 6)) (λρ=>.ok (.nx ρ)))));obtain⟨A,n,c,f,p,q,g,s,t,j,y⟩:=H (by
   rintro⟨i,x⟩ bM _ ρ ⟨c,f,p,q,g,s,t,j,rfl⟩;have l:x∉c:=by
    rw[<- f,aC] at w;have:=(List.nodup_append.mp w).2.2;intro l;exact this x l x aq rfl
   have z:c.length<900:=by
    have:=congrArg nF f;rw[aS] at this;omega
   have E:=g.sp.length_le;have G:=g.sq.length_le;refine⟨[.shr (.list (e.map .int)),.shr (.int k),.shr (aL fs),.own (.list (p.map .str)),.own (.list (q.map .str)),.shr (.int (i:Nat)),.shr (.str x),j],?_⟩;by_cases u:gT e (k+(i:Nat)) 8<2
   ·refine⟨[.shr (.list (e.map .int)),.shr (.int k),.shr (aL fs),.own (.list ((p++[x]).map .str)),.own (.list (q.map .str)),.shr (.int (i:Nat)),.shr (.str x),.shr (.int (gT e (k+(i:Nat)) 8))],rfl,?_,c++[x],by rw[<- f];simp,_,_,g.left x l,_,_,_,rfl⟩;left;rw[ij e _ 8 ∅ ⋯];left;rw[decide_eq_true u];left;rw[<- Mx];exact S5 (ds:=p.map .str) rfl rfl (by rw[ao];omega)
   ·by_cases v:gT e (k+(i:Nat)) 8=2
    ·refine⟨[.shr (.list (e.map .int)),.shr (.int k),.shr (aL fs),.own (.list (p.map .str)),.own (.list ((q++[x]).map .str)),.shr (.int (i:Nat)),.shr (.str x),.shr (.int (gT e (k+(i:Nat)) 8))],rfl,?_,c++[x],by rw[<- f];simp,_,_,g.right x l,_,_,_,rfl⟩;left;rw[ij e _ 8 ∅ ⋯];left;rw[decide_eq_false u];left;rw[nC];left;rw[decide_eq_true v];left;rw[<- Mx];exact S5 (ds:=q.map .str) rfl rfl (by rw[ao];omega)
    ·refine⟨[.shr (.list (e.map .int)),.shr (.int k),.shr (aL fs),.own (.list (p.map .str)),.own (.list (q.map .str)),.shr (.int (i:Nat)),.shr (.str x),.shr (.int (gT e (k+(i:Nat)) 8))],rfl,?_,c++[x],by rw[<- f];simp,_,_,g.skip x,_,_,_,rfl⟩;left;rw[ij e _ 8 ∅ ⋯];left;rw[decide_eq_false u];left;rw[nC];left;rw[decide_eq_false v];left) (qg 0 fs) () [.shr (.list (e.map .int)),.shr (.int k),.shr (aL fs),.own (.list []),.own (.list []),.no,.no,.no] ⟨[],by rw[v5];rfl,[],[],⟨gd _,gd _,λ_ h=>nomatch h⟩,_,_,_,rfl⟩
  refine⟨p,q,?_,?_⟩
  ·rw[n,y];left;rw[jd];left;rw[jd];left
  ·simp only[fK,cq] at f;rw[<- f];exact g
 ·left;rw[Av]
def Yl(j:Int)(b:0<=j)(a:j<2):∃m:Int,bu (.list [.int 2,.int 4]) (.int j)=.ok (.int m):=by
 have:j=0\/j=1:=by omega
 rcases this with h|h<;>subst h
 ·exact⟨2,rfl⟩
 ·exact⟨4,rfl⟩
def Ym(fs:List Str)(es:List lG):bu (c7 fs es) (.int 0)=.ok (aL fs):=id rfl
def q0m(fs:List Str)(es:List lG):bu (c7 fs es) (.int 1)=.ok (.tuple (es.map gx)):=id rfl
def Vk(a:List Int)(m n:Int)(d:0<=m)(f:m<=6)(e:0<=n)(g:n<=6):∃fs es ss c b,l5 [.list (a.map .int),.int m,.int n]=.ok (.tuple [c7 fs es,aL ss,su c b])/\g6 fs es/\yJ fs ss/\WJ fs c b/\fs.length<=m.toNat/\es.length<=n.toNat:=by
 obtain⟨fs,es,l,gb,i⟩:=Ve a 100 ⋯ m n d f e g;obtain⟨pt,h⟩:=Yl (gT a 97 2) (iw _ _ _ ⋯) (j9 _ _ _ ⋯);obtain⟨ss,hs,k⟩:=Vi a 20 ⋯ fs gb.rise.len pt;obtain⟨c,b,j,o⟩:=Vj a 30 ⋯ fs gb.rise.up gb.rise.len;refine⟨fs,es,ss,c,b,?_,gb,Ky gb.rise.up k,o,i⟩;unfold l5;refine dL ?_;unfold sr cL;left;rw[l];left;rw[Ym];left;rw[ij a 97 2 ⋯ ⋯];left;rw[h];left;rw[hs];left;rw[Ym];left;rw[j];left
def BH(b:xs.length<=60):eU [aL xs,aL ys]=.ok (.bool (!xs.any λx=>decide (x∈ys))):=by
 unfold eU;refine dL ?_;unfold lT cL;left;rw[if_pos ∅];rw[dJ _ (λx:Str=>aN x) (λx=>bQ (decide (x∈ys))) xs λx a=>fS rfl (by
  left;rw[kz];rfl)]
 left;rw[iy _ (λx=>decide (x∈ys))];left;rw[jt];rfl
def q18(e:lG):bu (gx e) (.int 0)=.ok (.str e.name):=id rfl
def EB(h:xs[j]?=some v):bu (.list xs) (.int (j:Nat))=.ok v:=by
 have e:bu (.list xs) (.int (j:Nat))=K8 (.list xs) (.int (j:Nat)):=rfl;rw[e];unfold K8;simp only[uz h]
def iz(st a b:List Str):Bool:=(a.all λx=>decide (x∈st)) && !b.any λx=>decide (x∈st)
def S7(h:g (cL n ds)=.ok (.nx ρ)):i4 n g ds=.ok .none:=by unfold i4;rw[h]
def q19(a x y:D):QV (mw 2 (cO (bN 2) (cO (bN 3) nB))) [Sl.shr a,.shr (.tuple [x,y]),.no,.no] (.tuple [x,y])=.ok (.nx [.shr a,.shr (.tuple [x,y]),.shr x,.shr y]):=id rfl
def Kz(c:a.length<=60)(f:b.length<=60):uV [aL st,su a b]=.ok (.bool (iz st a b)):=by
 unfold uV;refine dL ?_;unfold uU cL su;left;rw[q19];left;rw[if_pos ∅];rw[dJ _ (λx:Str=>aN x) (λx=>bQ (decide (x∈st))) a λx d=>fS rfl (by
  left;rw[kz];rfl)]
 left;rw[iy _ (λx=>decide (x∈st))];left;rw[BH ∅];unfold iz;rw[tx];have e:(id∘λx=>decide (x∈st))=λx=>decide (x∈st):=rfl;rw[e];cases(a.all λx=>decide (x∈st))<;>rfl
def Ob(g:g6 fs es)(h:yJ fs ss):mG [c7 fs es,aL ss]=.ok .none:=by
 unfold mG;refine S7 (ρ:=[.shr (c7 fs es),.shr (aL ss)]) ?_;unfold mF cL;left;rw[Ym];left;rw[oY g.rise.ok h (kQ h g.rise.len)];left
def BI(g:g6 fs es)(h:yJ fs ss):eB [c7 fs es,aL ss]=.ok .none:=by
 unfold eB;refine S7 (ρ:=[.shr (c7 fs es),.shr (aL ss)]) ?_;unfold mH cL;left;rw[Kx g];left;rw[Ob g h];left
structure S8 (e:lG):Prop where
 needs:e.needs.length<=6
 bars:e.bars.length<=6
 makes:e.makes.length<=6
 ends:e.ends.length<=6
def HZ(g:g6 fs es)(he:e∈es):S8 e:=
 ⟨kQ (g.ok e he).needs g.rise.len,kQ (g.ok e he).bars g.rise.len,kQ (g.ok e he).makes g.rise.len,kQ (g.ok e he).ends g.rise.len⟩
def q1a(e:lG):bu (gx e) (.int 1)=.ok (aL e.needs):=id rfl
def q1b(e:lG):bu (gx e) (.int 2)=.ok (aL e.bars):=id rfl
def S9:∀{a b:List Str},(a.Pairwise λx y=>qN x y=true)->(b.Pairwise λx y=>qN x y=true)->(∀x,x∈a↔x∈b)->a=b:=by
 intro a b c d h;have e:=mZ c;have g:=mZ d;have p:a.Perm b:=(kn e g).mpr h;exact p.eq_of_pairwise (λx y _ _ f i=>by
  have:=qX f i;rw[mq] at this;cases this) c d
def cp(e:lG)(st:List Str):List Str:=srt ((st.filter λx=>!decide (x∈e.ends))++e.makes)
def wo:x∈cp e st↔(x∈st/\x∉e.ends)\/x∈e.makes:=by
 unfold cp;rw[qf];simp[cR]
def q0n(a gb:aI->R (List Str))(s:Sl)(ρ:aI)(b:a (s::ρ)=.ok xs)(d:gb (s::ρ)=.ok ys)(c:xs.length+ys.length<=15):R8 a gb (s::ρ)=.ok (eJ xs ys):=by
 unfold R8 J.XM;rw[b,bind_ok,d,bind_ok,if_pos c]
def E2(ss:List Str)(h:ss.length<60):wg (aL ss)=.ok (eJ [] ss):=by
 have e:∀ds,wg (.tuple ds)=match fw ds with
  |some ss=>if ss.length<60 then .ok (eJ [] ss) else .no
  |none=>.no:=λ_=>rfl
 rw[e,strsOf_map];simp only[if_pos h]
def Yn(xs ys:List Str):jk (eJ (eJ [] xs) (eJ [] ys))=srt (xs++ys):=by
 refine S9 (yv (qY _) ((hG _).nodup_iff.mpr (jR _ _ (jR _ [] i5)))) (Ku _) λx=>?_;rw[(hG _).mem_iff,j_,j_,j_,qf,cQ];simp
def Oc(h:xs.length+ys.length<=12):xD [aL xs,aL ys]=.ok (aL (srt (xs++ys))):=by
 have b:=j4 xs [];have a:=j4 ys [];simp only[du] at b a;have c:=j4 (eJ [] ys) (eJ [] xs);unfold xD;refine dL ?_;unfold xC cL;left;rw[DW,q0n _ _ _ _ (E2 xs ∅) (E2 ys ∅) ∅];left;rw[HS _ ∅,Yn];left;rw[jd];left
def BJ(h:xs.length<=60):ou [aL xs,aL ys]=.ok (aL (xs.filter λx=>!decide (x∈ys))):=by
 unfold ou;refine dL ?_;unfold uQ cL;left;rw[if_pos ∅];rw[j7 _ (λx:Str=>aN x) (λx=>aN x) (λx=>!decide (x∈ys)) xs λx a=>uK (by
  left;rw[kz];rfl) λ_=>rfl]
 left;rw[jd];left
def q0o(h:gs (s::ρ)=.ok [d,e]):R9 i j gs (s::ρ)=.ok (.nx (((s::ρ).set i (.shr d)).set j (.shr e))):=by
 unfold R9;rw[h];rfl
def Od(he:S8 e)(hs:st.length<=6):lV [gx e,aL st]=.ok (aL (cp e st)):=by
 have:=he.makes;have a:(st.filter λx=>!decide (x∈e.ends)).length<=st.length:=dq _ _;unfold lV;refine dL ?_;unfold lU cL;left;rw[q0o (d:=aL e.makes) (e:=aL e.ends) rfl];left;rw[BJ ∅];left;rw[Oc ∅];rfl
def Oe(he:S8 e):pX [gx e,aL st]=.ok (.bool (iz st e.needs e.bars)):=by
 have:=he.needs;have:=he.bars;unfold pX;refine dL ?_;unfold pW cL;left;rw[q1a];left;rw[q1b];left;rw[Kz ∅ ∅];left
abbrev KA(a:List lG):D:=.list (a.map λe=>aN e.name)
def v7(a:kt d ρ=.ok ρ1)(b:gb ρ1=.ok (.nx ρ2)):lO kt gb (d::r) ρ=lO kt gb r ρ2:=by
 rw[lO,a];simp only[b]
def Of:iz st a b=true↔(∀x∈a,x∈st)/\∀x∈b,x∉st:=by
 unfold iz;simp only[bc,cA,decide_eq_true_eq,zf,gI]
def Yo(fs:List Str):List (List Str):=fs.foldl (λa f=>a++a.map (·++[f])) [[]]
def Yp(h:ρ[i]?=some (Sl.shr d)):xr i kt gb ρ=kY (gC λρ=>J7 ρ i) kt gb ρ:=by
 unfold xr;rw[h]
theorem FA:∀(fs:List Str) (a:List (List Str)) (t u:List Str),t∈a->u.Sublist fs->t++u∈fs.foldl (λa f=>a++a.map (·++[f])) a
 |[],a,t,u,b,c=>by
  cases c;rw[cq];exact b
 |f::r,a,t,u,b,c=>by
  rw[eY];cases c with
  |cons _ h=>exact FA r _ t u (bU _ b) h
  |cons_cons _ h=>
   rename_i d
   have:=FA r (a++a.map (·++[f])) (t++[f]) d (aF _ (br b)) h
   rwa[e8] at this
def Sc(c:fs.Pairwise λa b=>qN a b=true)(h:yJ fs xs):xs.Sublist fs:=by
 have e:xs=fs.filter λx=>decide (x∈xs):=S9 h.up (c.sublist fP) λx=>by
  rw[cR,decide_eq_true_eq];exact⟨λz=>⟨h.mem x z,z⟩,λz=>z.2⟩
 rw[e];exact fP
def Sd(c:fs.Pairwise λa b=>qN a b=true)(h:yJ fs xs):xs∈Yo fs:=FA fs [[]] [] xs (List.mem_singleton.mpr rfl) (Sc c h)
def A7:List lG->List Str->Option (List Str)
 |[],st=>some st
 |e::r,st=>if iz st e.needs e.bars then A7 r (cp e st) else none
def KB(d:fs.Pairwise λa b=>qN a b=true)(g:sU fs e)(h:yJ fs st):yJ fs (cp e st):=by
 refine⟨Ku _,λx c=>?_⟩;rcases wo.mp c with z|z
 ·exact h.mem x z.1
 ·exact g.makes.mem x z
def gL(l:List (List Str×D)):List (D×D):=l.map λp=>(aL p.1,p.2)
abbrev sV(l:List (List Str×D)):List (List Str):=l.map (·.1)
def KC(x:List Str):aL x=tD (x.map jU):=by
 unfold aL tD;rw[cK];rfl
def oZ(x:List Str):sS (aL x)=some (x.map jU):=by rw[KC,Rc]
def Vl{a b:List Str}(h:a.map (jU:Str->iL)=b.map jU):a=b:=by
 induction a generalizing b with
 |nil=>cases b with|nil=>rfl|cons _ _=>cases h
 |cons x r c=>
  cases b with
  |nil=>cases h
  |cons y t=>
   simp only[aC,yn] at h;rw[c h.2,Sum.inr.inj h.1]
def Se(x y:List Str):bw (aL x) (aL y)=decide (x=y):=by
 rw[KC,KC,F5];by_cases h:x=y
 ·rw[h];simp
 ·rw[decide_eq_false h,decide_eq_false λz=>h (Vl z)]
def H_(l:List (List Str×D)):M0 (gL l)=gL l:=by cases l<;>rfl
def sv(h:l≠[]):lQ (gL l)=true:=by
 have b:((gL l).all λa=>(sS a.1).isSome)=true:=by
  unfold gL;rw[tx,cA];intro p _;show(sS (aL p.1)).isSome=true;rw[oZ];rfl
 unfold lQ;rw[b];cases l with
 |nil=>exact(h rfl).elim
 |cons _ _=>rfl
theorem yK(x:List Str):∀l:List (List Str×D),nM (gL l) (aL x)=(l.find? λp=>decide (p.1=x)).map (·.2)
 |[]=>rfl
 |p::r=>by
  have a:=yK x r;unfold nM gL at a ⊢;rw[aC,cP,cP,Se];by_cases h:p.1=x
  ·rw[decide_eq_true h];rfl
  ·rw[decide_eq_false h];exact a
def Sf(c:(sV l).Nodup)(a:p∈l):(l.find? λq=>decide (q.1=p.1))=some p:=by
 induction l with
 |nil=>cases a
 |cons q r b=>
  obtain⟨d,e⟩:=List.nodup_cons.mp c;rw[cP];rcases List.mem_cons.mp a with h|h
  ·subst h;simp
  ·have:q.1≠p.1:=λz=>d (by show q.1∈_;rw[z];exact br h)
   rw[decide_eq_false this];exact b e h
def Og{a:Type}{l:List a}{x:a}(h:x∈l):l≠[]:=λz=>by rw[z] at h;cases h
def Yq(c:M0 ds=gL l)(b:(sV l).Nodup)(a:p∈l):Wt (.dict ds) (aL p.1)=.ok p.2:=by
 unfold Wt;simp only[oZ,c];rw[if_pos (sv (Og a)),yK,Sf b a];rfl
def Vm(a:(sV l).Nodup)(b:p∈l):Wt (.dict (gL l)) (aL p.1)=.ok p.2:=Yq (H_ l) a b
theorem E3(x:List Str):∀l:List (List Str×D),((l.find? λp=>decide (p.1=x)).map (·.2)).isSome=decide (x∈sV l)
 |[]=>by simp
 |p::r=>by
  rw[cP];by_cases h:p.1=x
  ·rw[decide_eq_true h];simp[h]
  ·rw[decide_eq_false h];simp only;rw[E3 x r];simp[dO h]
def Vn(h:l≠[])(x:List Str):XU true (aL x) (.dict (gL l))=.ok (.bool (!decide (x∈sV l))):=by
 unfold XU;simp only[oZ,H_];rw[if_pos (sv h),yK,E3];rfl
def Vo(h:x∉sV l)(d:D):A3 (gL l) (aL x) d=gL (l++[(x,d)]):=by
 have e:((gL l).any λb=>bw b.1 (aL x))=false:=by
  unfold gL;rw[jt,gI];intro p a;show ¬bw (aL p.1) (aL x)=true;rw[Se,decide_eq_true_eq];exact λz=>h (by rw[<- z];exact br a)
 unfold A3;rw[e,if_neg bd];unfold gL;rw[bI];rfl
def Yr(f:ρ[i]?=some (Sl.own (.dict (gL l))))(h:g ρ=.ok d)(c:gk ρ=.ok (aL x))(b:l≠[])(m:l.length<1000)(j:x∉sV l):zq i gk g ρ=.ok (.nx (ρ.set i (.own (.dict (gL (l++[(x,d)])))))):=by
 have a:(gL l).length<1000:=by unfold gL;rw[ao];exact m
 have e:zq i gk g ρ=(g ρ).bind λd=>(gk ρ).bind λk=>match sS k with
  |some _=>if(gL l).length<1000/\lQ (gL l)=true then .ok (.nx (ρ.set i (.own (.dict (A3 (gL l) k d))))) else .no
  |none=>.no:=by
  unfold zq;simp only[f];try rfl
 rw[e,h,Bf,c,Bf];simp only[oZ,if_pos (lX a (sv b)),Vo j]
def q1c(a:l≠[])(h:ρ[i]?=some (Sl.own (.dict (gL l)))):gFz i g ρ=g (ρ.set i (.own (.dict ((.none,.none)::gL l)))):=by
 unfold gFz;congr 1;unfold mW;rw[h];cases l with
 |nil=>exact(a rfl).elim
 |cons p r=>rfl
def q1d(a:gk (s::ρ)=.ok (aL x))(b:gv (s::ρ)=.ok d):YF gk gv (s::ρ)=.ok (.dict (gL [(x,d)])):=by
 unfold YF;rw[a,bind_ok,b,bind_ok];simp only[oZ];rfl
def q0p(h:g (s::ρ)=.ok (.list ds)):F6 g (s::ρ)=.ok (!ds.isEmpty):=by
 unfold F6;rw[h,bind_ok]
theorem Ic{b:Type}[DecidableEq b]:∀{l m:List b},l.Nodup->(∀x∈l,x∈m)->l.length<=m.length
 |[],_,_,_=>ca _
 |x::r,m,d,h=>by
  obtain⟨e,f⟩:=List.nodup_cons.mp d;have c:=h x aq;have:=Ic (l:=r) (m:=m.erase x) f λy a=>(kq λz=>e (by rw[<- z];exact a)).mpr (h y (ak _ a));rw[lc c] at this;have:=m8 c;simp only[aX];omega
theorem Ie:∀(fs:List Str) (a:List (List Str)),(fs.foldl (λa f=>a++a.map (·++[f])) a).length=a.length*2 ^ fs.length
 |[],a=>by simp
 |f::r,a=>by
  rw[eY,Ie r,aS,ao,aX,Jo,<- Nat.two_mul,Jp 2,Nat.mul_assoc,Jp 2]
def Vp(h:fs.length<=6):(Yo fs).length<=64:=by
 unfold Yo;rw[Ie];have:2 ^ fs.length<=2 ^ 6:=MX ⋯ h
 simp only[aX,du];omega
def Sg(a:RV fs 6)(c:(sV l).Nodup)(h:∀x∈sV l,yJ fs x):l.length<=64:=by
 have:=Ic c λx b=>Sd a.up (h x b);rw[ao] at this;exact c8 this (Vp a.len)
def Rch(es:List lG)(st x:List Str):Prop:=∃a:List lG,(∀e∈a,e∈es)/\A7 a st=some x
theorem Ig(e:lG):∀(b:List lG) (st x:List Str),A7 b st=some x->iz x e.needs e.bars=true->A7 (b++[e]) st=some (cp e x)
 |[],st,x,h,g=>by cases h;show(if iz st e.needs e.bars then A7 [] (cp e st) else none)=_;rw[g];rfl
 |a::r,st,x,h,g=>by
  show(if iz st a.needs a.bars then A7 (r++[e]) (cp a st) else none)=_;have h':(if iz st a.needs a.bars then A7 r (cp a st) else none)=some x:=h;split at h'
  ·rename_i c
   rw[if_pos c];exact Ig e r _ _ h' g
  ·cases h'
theorem BK{es:List lG}{M:List Str->Prop}(c:∀x,M x->∀e∈es,iz x e.needs e.bars=true->M (cp e x)):∀(d:List lG) (st x:List Str),M st->(∀e∈d,e∈es)->A7 d st=some x->M x
 |[],st,x,b,_,h=>by cases h;exact b
 |a::r,st,x,b,he,h=>by
  have h':(if iz st a.needs a.bars then A7 r (cp a st) else none)=some x:=h;split at h'
  ·rename_i f
   exact BK c r _ _ (c st b a (he a aq) f) (λe h=>he e (ak _ h)) h'
  ·cases h'
def Sh(g:g6 fs es)(hs:yJ fs st):lW [c7 fs es,aL st]=.ok (.list ((es.filter λe=>iz st e.needs e.bars).map λe=>gO [gx e,aL (cp e st)])):=by
 have a:=kQ hs g.rise.len;have b:=g.len;unfold lW;refine dL ?_;unfold nW cL;left;rw[q0m];left;rw[if_pos ∅];rw[j7 _ gx (λe=>gO [gx e,aL (cp e st)]) (λe=>iz st e.needs e.bars) es λe he=>uK (by
  left;rw[Oe (HZ g he)];left) λ_=>(by
  left;rw[Od (HZ g he) a];left)]
 left
abbrev LZ:=List (List Str×List lG)
def kf(l:LZ):List (List Str×D):=l.map λp=>(p.1,KA p.2)
structure pB (fs st:List Str) (es:List lG) (l:LZ):Prop where
 nd:(l.map (·.1)).Nodup
 beg:(st,[])∈l
 sub:∀p∈l,yJ fs p.1
 row:∀p∈l,(∀e∈p.2,e∈es)/\A7 p.2 st=some p.1/\p.2.length<l.length
def oy(l:LZ):sV (kf l)=l.map (·.1):=by
 unfold sV kf;rw[cK];rfl
def pB.ne(h:pB fs st es l):kf l≠[]:=by
 intro z;have:=List.map_eq_nil_iff.mp z;have a:=h.beg;rw[this] at a;cases a
def pB.few(g:g6 fs es)(h:pB fs st es l):l.length<=64:=by
 have:=Sg g.rise (l:=kf l) (by rw[oy];exact h.nd) λx a=>by
  rw[oy] at a;obtain⟨p,b,rfl⟩:=List.mem_map.mp a;exact h.sub p b
 unfold kf at this;rw[ao] at this;exact this
def jz(at0:List Str)(row:List lG)(b:LZ×List (List Str))(e:lG):LZ×List (List Str):=
 if cp e at0∈b.1.map (·.1) then b else(b.1++[(cp e at0,row++[e])],b.2++[cp e at0])
def Ys(g:g6 fs es)(h:pB fs st es b.1)(c:(at0,row)∈b.1)(he:e∈es)(n:iz at0 e.needs e.bars=true):pB fs st es (jz at0 row b e).1:=by
 unfold jz;split
 ·exact h
 ·rename_i d
  obtain⟨f,k,l⟩:=h.row _ c;refine⟨?_,bU _ h.beg,λp a=>?_,λp a=>?_⟩
  ·rw[bI];exact EG h.nd d
  ·rcases List.mem_append.mp a with z|z
   ·exact h.sub p z
   ·rw[List.mem_singleton.mp z];exact KB g.rise.up (g.ok e he) (h.sub _ c)
  ·rw[aS,eR];rcases List.mem_append.mp a with z|z
   ·obtain⟨j,i,o⟩:=h.row p z;exact⟨j,i,by omega⟩
   ·rw[List.mem_singleton.mp z];refine⟨λx m=>?_,Ig e _ _ _ k n,?_⟩
    ·rcases List.mem_append.mp m with y|y
     ·exact f x y
     ·rw[List.mem_singleton.mp y];exact he
    ·show(row++[e]).length<b.1.length+1;rw[aS,eR];have:row.length<b.1.length:=l
     omega
def Ih(at0:List Str)(row:List lG)(b:LZ×List (List Str))(e:lG):(∀p∈b.1,p∈(jz at0 row b e).1)/\cp e at0∈(jz at0 row b e).1.map (·.1)/\(∀x∈(jz at0 row b e).1.map (·.1),x∈b.1.map (·.1)\/x∈(jz at0 row b e).2)/\(∀x∈b.2,x∈(jz at0 row b e).2)/\(∀x∈(jz at0 row b e).2,x∈b.2\/x∈(jz at0 row b e).1.map (·.1))/\b.1.length+(jz at0 row b e).2.length=(jz at0 row b e).1.length+b.2.length:=by
 unfold jz;split
 ·rename_i h
  exact⟨λ_ h=>h,h,λ_ h=>.inl h,λ_ h=>h,λ_ h=>.inl h,rfl⟩
 ·refine⟨λp c=>bU _ c,?_,λx a=>?_,λx a=>bU _ a,λx a=>?_,?_⟩
  ·rw[bI];exact aF _ aq
  ·rw[bI] at a;rcases List.mem_append.mp a with z|z
   ·exact .inl z
   ·exact .inr (aF _ z)
  ·rcases List.mem_append.mp a with z|z
   ·exact .inl z
   ·rw[bI];exact .inr (aF _ z)
  ·simp only[aS,eR];omega
def inB:aI->R Fl:=(gF (fF (g2 (rB 7) (rB 2) (XU true))) (bh (zq 2 (rS 7) (g2 (g2 (rB 2) (rB 5) Wt) (fv (J.ag (g2 (rB 6) (kI 0) bu) J.aJ) .list) fY)) (we 4 (rS 7))) (λρ=>.ok (.nx ρ)))
def Oh:aI->R Fl:=kY (gC (f9 2 lW (J.ag (rS 0) (J.ag (rS 5) J.aJ)))) (mw 2 (cO (bN 6) (cO (bN 7) nB))) inB
def bfB:aI->R Fl:=bh (i9 4 (fv J.aJ .list)) (bh (xr 3 (bN 5) Oh) (NB 4 (ir 3 (rS 4))))
def Si:nX=bh (i9 2 (YF (rS 1) (fv J.aJ .list))) (bh (i9 3 (fv (J.ag (rS 1) J.aJ) .list)) (bh (ii (F6 (rB 3)) bfB 100000) (gFz 2 (eL (rS 2))))):=rfl
def Sj(h:p∈l):(p.1,KA p.2)∈kf l:=br (f:=λp:List Str×List lG=>(p.1,KA p.2)) h
def Yt(h:pB fs st es l)(a:(at0,row)∈l):Wt (.dict (gL (kf l))) (aL at0)=.ok (KA row):=by
 have:=Vm (l:=kf l) (by rw[oy];exact h.nd) (Sj a);exact this
def Sk(l:LZ)(x:List Str)(r:List lG):kf (l++[(x,r)])=kf l++[(x,KA r)]:=by
 unfold kf;rw[bI];rfl
def Vq(g:g6 fs es)(B S:D)(f m n:Sl)(h:pB fs st es b.1)(c:(at0,row)∈b.1)(k:b.2.length<=b.1.length):
  inB [.shr B,.shr S,.own (.dict (gL (kf b.1))),f,.own (.list (b.2.map aL)),.shr (aL at0),.shr (gx e),.shr (aL (cp e at0))]=.ok (.nx [.shr B,.shr S,.own (.dict (gL (kf (jz at0 row b e).1))),f,.own (.list ((jz at0 row b e).2.map aL)),.shr (aL at0),.shr (gx e),.shr (aL (cp e at0))]):=by
 have few:=h.few g;have i:=(h.row _ c).2.2;have j:row.length<b.1.length:=i;unfold inB;left;rw[Vn h.ne,oy];unfold jz;by_cases a:cp e at0∈b.1.map (·.1)
 ·rw[if_pos a,decide_eq_true a];left
 ·rw[if_neg a,decide_eq_false a];left;rw[Yr (l:=kf b.1) (x:=cp e at0) (d:=KA (row++[e])) rfl ?_ rfl h.ne (by unfold kf;rw[ao];omega) (by rw[oy];exact a)]
  ·left;rw[S5 (ds:=b.2.map aL) (d:=aL (cp e at0)) rfl rfl (by rw[ao];omega),Sk,bI];rfl
  ·left;rw[Yt h c];left;rw[q18];left;rw[if_pos ∅];simp only[KA,bI];rfl
theorem Ii{fs st at0:List Str}{es:List lG}{row:List lG}:∀(xs:List lG) (b:LZ×List (List Str)),(∀p∈b.1,p∈(xs.foldl (jz at0 row) b).1)/\(∀e∈xs,cp e at0∈(xs.foldl (jz at0 row) b).1.map (·.1))/\(∀x∈(xs.foldl (jz at0 row) b).1.map (·.1),x∈b.1.map (·.1)\/x∈(xs.foldl (jz at0 row) b).2)/\(∀x∈b.2,x∈(xs.foldl (jz at0 row) b).2)/\(∀x∈(xs.foldl (jz at0 row) b).2,x∈b.2\/x∈(xs.foldl (jz at0 row) b).1.map (·.1))/\b.1.length+(xs.foldl (jz at0 row) b).2.length=(xs.foldl (jz at0 row) b).1.length+b.2.length
 |[],b=>⟨λ_ h=>h,λ_ h=>(nomatch h),λ_ h=>.inl h,λ_ h=>h,λ_ h=>.inl h,rfl⟩
 |e::r,b=>by
  obtain⟨g,j,f,k,i,l⟩:=Ih at0 row b e;obtain⟨b1,b2,b3,b4,b5,m⟩:=Ii (fs:=fs) (st:=st) (es:=es) r (jz at0 row b e);rw[eY];have d:∀x∈(jz at0 row b e).1.map (·.1),x∈(r.foldl (jz at0 row) (jz at0 row b e)).1.map (·.1):=λx a=>by
   obtain⟨p,c,rfl⟩:=List.mem_map.mp a;exact br (b1 p c)
  refine⟨λp c=>b1 p (g p c),λx a=>?_,λx a=>?_,λx a=>b4 x (k x a),λx a=>?_,by omega⟩
  ·rcases List.mem_cons.mp a with z|z
   ·rw[z];exact d _ j
   ·exact b2 x z
  ·rcases b3 x a with z|z
   ·rcases f x z with y|y
    ·exact .inl y
    ·exact .inr (b4 x y)
   ·exact .inr z
  ·rcases b5 x a with z|z
   ·rcases i x z with y|y
    ·exact .inl y
    ·exact .inr (d x y)
   ·exact .inr z
def Yu(g:g6 fs es)(B S:D)(a c d:Sl)(h:pB fs st es b.1)(i:(at0,row)∈b.1)(n:b.2.length<=b.1.length)(xs:List lG)(k:∀e∈xs,e∈es/\iz at0 e.needs e.bars=true):
  pB fs st es (xs.foldl (jz at0 row) b).1/\∃f j,lO (mw 2 (cO (bN 6) (cO (bN 7) nB))) inB (xs.map λe=>gO [gx e,aL (cp e at0)]) [.shr B,.shr S,.own (.dict (gL (kf b.1))),a,.own (.list (b.2.map aL)),.shr (aL at0),c,d]=.ok (.nx [.shr B,.shr S,.own (.dict (gL (kf (xs.foldl (jz at0 row) b).1))),a,.own (.list ((xs.foldl (jz at0 row) b).2.map aL)),.shr (aL at0),f,j]):=by
 induction xs generalizing b c d with
 |nil=>exact⟨h,c,d,rfl⟩
 |cons e r l=>
  obtain⟨he,q⟩:=k e aq;obtain⟨m,v,s,w,u,t⟩:=Ih at0 row b e;have h':=Ys g h i he q;obtain⟨o,f,j,p⟩:=l (.shr (gx e)) (.shr (aL (cp e at0))) h' (m _ i) ∅ λx z=>k x (ak _ z);refine⟨o,f,j,?_⟩;rw[aC,v7 (ρ1:=[.shr B,.shr S,.own (.dict (gL (kf b.1))),a,.own (.list (b.2.map aL)),.shr (aL at0),.shr (gx e),.shr (aL (cp e at0))]) rfl (Vq g B S a c d h i n)];exact p
def FB(l:LZ)(x:List Str):List lG:=((l.find? λp=>decide (p.1=x)).map (·.2)).getD []
def Ij(h:x∈l.map (·.1)):(x,FB l x)∈l:=by
 unfold FB;induction l with
 |nil=>cases h
 |cons p r b=>
  rw[cP];by_cases a:p.1=x
  ·rw[decide_eq_true a];subst a;exact aq
  ·rw[decide_eq_false a];rcases List.mem_cons.mp h with z|z
   ·exact(a z.symm).elim
   ·exact ak _ (b z)
def o_(es:List lG)(b:LZ×List (List Str))(x:List Str):LZ×List (List Str):=(es.filter λe=>iz x e.needs e.bars).foldl (jz x (FB b.1 x)) b
def Sn(g:g6 fs es)(S:D)(c j i:Sl)(h:pB fs st es b.1)(l:at0∈b.1.map (·.1))(n:b.2.length<=b.1.length):
  pB fs st es (o_ es b at0).1/\∃a d,Oh [.shr (c7 fs es),.shr S,.own (.dict (gL (kf b.1))),c,.own (.list (b.2.map aL)),.shr (aL at0),j,i]=.ok (.nx [.shr (c7 fs es),.shr S,.own (.dict (gL (kf (o_ es b at0).1))),c,.own (.list ((o_ es b at0).2.map aL)),.shr (aL at0),a,d]):=by
 have f:=Ij l;obtain⟨k,a,d,m⟩:=Yu g (c7 fs es) S c j i h f n (es.filter λe=>iz at0 e.needs e.bars) λe he=>List.mem_filter.mp he;refine⟨k,a,d,?_⟩;unfold Oh;rw[Bh (ds:=(es.filter λe=>iz at0 e.needs e.bars).map λe=>gO [gx e,aL (cp e at0)])]
 ·exact m
 ·left;rw[Sh g (h.sub _ f)];left
def My(es:List lG)(b:LZ×List (List Str))(x:List Str):(∀p∈b.1,p∈(o_ es b x).1)/\(∀e∈es,iz x e.needs e.bars=true->cp e x∈(o_ es b x).1.map (·.1))/\(∀y∈(o_ es b x).1.map (·.1),y∈b.1.map (·.1)\/y∈(o_ es b x).2)/\(∀y∈b.2,y∈(o_ es b x).2)/\(∀y∈(o_ es b x).2,y∈b.2\/y∈(o_ es b x).1.map (·.1))/\b.1.length+(o_ es b x).2.length=(o_ es b x).1.length+b.2.length:=by
 obtain⟨b1,b2,b3,b4,b5,c⟩:=Ii (fs:=[]) (st:=[]) (es:=es) (at0:=x) (row:=FB b.1 x) (es.filter λe=>iz x e.needs e.bars) b;exact⟨b1,λe he a=>b2 e (List.mem_filter.mpr ⟨he,a⟩),b3,b4,b5,c⟩
theorem yL(es:List lG):∀(ring:List (List Str)) (b:LZ×List (List Str)),(∀p∈b.1,p∈(ring.foldl (o_ es) b).1)/\(∀x∈ring,∀e∈es,iz x e.needs e.bars=true->cp e x∈(ring.foldl (o_ es) b).1.map (·.1))/\(∀y∈(ring.foldl (o_ es) b).1.map (·.1),y∈b.1.map (·.1)\/y∈(ring.foldl (o_ es) b).2)/\(∀y∈b.2,y∈(ring.foldl (o_ es) b).2)/\(∀y∈(ring.foldl (o_ es) b).2,y∈b.2\/y∈(ring.foldl (o_ es) b).1.map (·.1))/\b.1.length+(ring.foldl (o_ es) b).2.length=(ring.foldl (o_ es) b).1.length+b.2.length
 |[],b=>⟨λ_ h=>h,λ_ h=>(nomatch h),λ_ h=>.inl h,λ_ h=>h,λ_ h=>.inl h,rfl⟩
 |x::r,b=>by
  obtain⟨i,k,g,l,j,m⟩:=My es b x;obtain⟨b1,b2,b3,b4,b5,n⟩:=yL es r (o_ es b x);rw[eY];have d:∀y∈(o_ es b x).1.map (·.1),y∈(r.foldl (o_ es) (o_ es b x)).1.map (·.1):=λy a=>by
   obtain⟨p,c,rfl⟩:=List.mem_map.mp a;exact br (b1 p c)
  refine⟨λp c=>b1 p (i p c),λy a e he f=>?_,λy a=>?_,λy a=>b4 y (l y a),λy a=>?_,by omega⟩
  ·rcases List.mem_cons.mp a with z|z
   ·subst z;exact d _ (k e he f)
   ·exact b2 y z e he f
  ·rcases b3 y a with z|z
   ·rcases g y z with w|w
    ·exact .inl w
    ·exact .inr (b4 y w)
   ·exact .inr z
  ·rcases b5 y a with z|z
   ·rcases j y z with w|w
    ·exact .inl w
    ·exact .inr (d y w)
   ·exact .inr z
def So(g:g6 fs es)(S:D)(d i a c:Sl)(h:pB fs st es b.1)(s:b.2.length<=b.1.length)(ring:List (List Str))(k:∀x∈ring,x∈b.1.map (·.1)):
  pB fs st es (ring.foldl (o_ es) b).1/\∃v f j,lO (bN 5) Oh (ring.map aL) [.shr (c7 fs es),.shr S,.own (.dict (gL (kf b.1))),d,.own (.list (b.2.map aL)),i,a,c]=.ok (.nx [.shr (c7 fs es),.shr S,.own (.dict (gL (kf (ring.foldl (o_ es) b).1))),d,.own (.list ((ring.foldl (o_ es) b).2.map aL)),v,f,j]):=by
 induction ring generalizing b i a c with
 |nil=>exact⟨h,i,a,c,rfl⟩
 |cons x r l=>
  obtain⟨n,H,B,I,G,E⟩:=My es b x;obtain⟨h',f,j,q⟩:=Sn g S d a c h (k x aq) s;obtain⟨t,o,A,u,w⟩:=l (.shr (aL x)) f j h' ∅ λy m=>by
   obtain⟨p,z,e⟩:=List.mem_map.mp (k y (ak _ m));rw[<- e];exact br (n p z)
  refine⟨t,o,A,u,?_⟩;rw[aC,v7 (ρ1:=[.shr (c7 fs es),.shr S,.own (.dict (gL (kf b.1))),d,.own (.list (b.2.map aL)),.shr (aL x),a,c]) rfl q];exact w
def Vr(g:g6 fs es)(S:D)(n u j k m:Sl)(h:pB fs st es l)(ring:List (List Str))(t:∀x∈ring,x∈l.map (·.1))(ho:n=.own (.list (ring.map aL))\/n=.shr (.list (ring.map aL))):
  pB fs st es (ring.foldl (o_ es) (l,[])).1/\∃s c f i,bfB [.shr (c7 fs es),.shr S,.own (.dict (gL (kf l))),n,u,j,k,m]=.ok (.nx [.shr (c7 fs es),.shr S,.own (.dict (gL (kf (ring.foldl (o_ es) (l,[])).1))),.shr (.list ((ring.foldl (o_ es) (l,[])).2.map aL)),s,c,f,i]):=by
 have L:=λo=>So g S o j k m (b:=(l,[])) h (ca _) ring t;unfold bfB;left;rcases ho with ho|ho
 ·subst ho;obtain⟨q,c,f,i,p⟩:=L (.lck (.list (ring.map aL)));refine⟨q,.shr (.list ((ring.foldl (o_ es) (l,[])).2.map aL)),c,f,i,?_⟩;have e:xr 3 (bN 5) Oh [.shr (c7 fs es),.shr S,.own (.dict (gL (kf l))),.own (.list (ring.map aL)),.own (.list []),j,k,m]=.ok (.nx [.shr (c7 fs es),.shr S,.own (.dict (gL (kf (ring.foldl (o_ es) (l,[])).1))),.own (.list (ring.map aL)),.own (.list ((ring.foldl (o_ es) (l,[])).2.map aL)),c,f,i]):=by
   show unl 3 _ (lO (bN 5) Oh (ring.map aL) [.shr (c7 fs es),.shr S,.own (.dict (gL (kf l))),.lck (.list (ring.map aL)),.own (.list []),j,k,m])=_;have a:=p;rw[fK] at a;rw[a];rfl
  rw[e];left;simp only[NB];rw[F2 rfl];left
 ·subst ho;obtain⟨q,c,f,i,p⟩:=L (.shr (.list (ring.map aL)));refine⟨q,.shr (.list ((ring.foldl (o_ es) (l,[])).2.map aL)),c,f,i,?_⟩;rw[Yp (d:=.list (ring.map aL)) rfl,Bh (ds:=ring.map aL)]
  ·have a:=p;rw[fK] at a;rw[a];left;simp only[NB];rw[F2 rfl];left
  ·left
structure Vs (fs st:List Str) (es:List lG) (l:LZ):Prop where
 ok:pB fs st es l
 all:∀x∈l.map (·.1),∀e∈es,iz x e.needs e.bars=true->cp e x∈l.map (·.1)
theorem Ik(g:g6 fs es)(S:D)(P:LZ->List (List Str)->Prop)(G:∀l ring,pB fs st es l->(∀x∈ring,x∈l.map (·.1))->pB fs st es (ring.foldl (o_ es) (l,[])).1->P l ring->P (ring.foldl (o_ es) (l,[])).1 (ring.foldl (o_ es) (l,[])).2):∀(k a:Nat) (b f c d i:Sl) (l:LZ) (ring:List (List Str)),pB fs st es l->(∀x∈ring,x∈l.map (·.1))->(∀x∈l.map (·.1),x∉ring->∀e∈es,iz x e.needs e.bars=true->cp e x∈l.map (·.1)) ->
  (b=.own (.list (ring.map aL))\/b=.shr (.list (ring.map aL)))->P l ring->65-l.length+(if ring=[] then 0 else 1)<=k->k<a ->
  ∃l' U v s o w,(Vs fs st es l'/\P l' [])/\ii (F6 (rB 3)) bfB a [.shr (c7 fs es),.shr S,.own (.dict (gL (kf l))),b,f,c,d,i]=.ok (.nx [.shr (c7 fs es),.shr S,.own (.dict (gL (kf l'))),U,v,s,o,w])
 |_,0,_,_,_,_,_,_,_,_,_,_,_,_,_,E=>absurd E (dR _)
 |k,a+1,b,f,c,d,i,l,ring,h,m,hc,ho,j,hk,E=>by
  have T:F6 (rB 3) [.shr (c7 fs es),.shr S,.own (.dict (gL (kf l))),b,f,c,d,i]=.ok (!(ring.map aL).isEmpty):=q0p (by rcases ho with z|z<;>subst z<;>rfl);rw[ii,T];cases ring with
  |nil=>exact⟨l,b,f,c,d,i,⟨⟨h,λx m=>hc x m (λz=>nomatch z)⟩,j⟩,rfl⟩
  |cons x r=>
   obtain⟨h',v,s,o,w,q⟩:=Vr g S b f c d i h (x::r) m ho;obtain⟨O,L,N,a4,a5,u⟩:=yL es (x::r) (l,[]);have few:=h'.few g;have A:=h.few g;simp only[du,kJ] at u;rw[if_neg (by simp)] at hk;have t:65-((x::r).foldl (o_ es) (l,[])).1.length+(if((x::r).foldl (o_ es) (l,[])).2=[] then 0 else 1)<=k-1:=by
    by_cases hz:((x::r).foldl (o_ es) (l,[])).2=[]
    ·rw[if_pos hz];rw[hz] at u;simp only[du,kJ] at u;omega
    ·rw[if_neg hz];have:=List.length_pos_iff.mpr hz;omega
   obtain⟨l',w3,w4,Q,w6,X,K,M⟩:=Ik g S P G (k-1) a (.shr (.list (((x::r).foldl (o_ es) (l,[])).2.map aL))) v s o w _ _ h' (λy n=>by
    rcases a5 y n with z|z
    ·cases z
    ·exact z) (λy n Y e he B=>by
    rcases N y n with z|z
    ·by_cases H:y∈x::r
     ·exact L y H e he B
     ·obtain⟨p,j,I⟩:=List.mem_map.mp (hc y z H e he B);rw[<- I];exact br (O p j)
    ·exact(Y z).elim) (.inr rfl) (G l (x::r) h m h' j) t ∅
   refine⟨l',w3,w4,Q,w6,X,K,?_⟩;simp only[aC,List.isEmpty_cons,ko];rw[q];exact M
structure q1e (es:List lG) (l:LZ):Prop where
 cls:∀p∈l,∀e∈es,iz p.1 e.needs e.bars=true->∃q∈l,q.1=cp e p.1/\q.2.length<=p.2.length+1
 up:l.Pairwise λp q=>p.2.length<=q.2.length
structure Yv (es:List lG) (l:LZ) (ring:List (List Str)) (d:Nat):Prop where
 top:∀p∈l,p.2.length<=d
 rin:∀p∈l,p.1∈ring->p.2.length=d
 cls:∀p∈l,p.1∉ring->∀e∈es,iz p.1 e.needs e.bars=true->∃q∈l,q.1=cp e p.1/\q.2.length<=p.2.length+1
 up:l.Pairwise λp q=>p.2.length<=q.2.length
theorem BL(at0:List Str)(row:List lG):∀(xs:List lG) (b:LZ×List (List Str)),∃t:LZ,xs.foldl (jz at0 row) b=(b.1++t,b.2++t.map (·.1))/\∀p∈t,p.2.length=row.length+1
 |[],b=>⟨[],by simp,λ_ h=>(nomatch h)⟩
 |e::r,b=>by
  rw[eY];by_cases a:cp e at0∈b.1.map (·.1)
  ·have:jz at0 row b e=b:=by unfold jz;rw[if_pos a]
   rw[this];exact BL at0 row r b
  ·have:jz at0 row b e=(b.1++[(cp e at0,row++[e])],b.2++[cp e at0]):=by unfold jz;rw[if_neg a]
   rw[this];obtain⟨t,c,d⟩:=BL at0 row r (b.1++[(cp e at0,row++[e])],b.2++[cp e at0]);refine⟨(cp e at0,row++[e])::t,by rw[c];simp,λp f=>?_⟩;rcases List.mem_cons.mp f with z|z
   ·subst z;simp
   ·exact d p z
def Sq(h:x∈l.map (·.1)):FB (l++t) x=FB l x:=by
 unfold FB;rw[List.find?_append];cases b:l.find? λp=>decide (p.1=x) with
 |some p=>rfl
 |none=>
  obtain⟨p,a,e⟩:=List.mem_map.mp h;have:=List.find?_eq_none.mp b p a;simp[e] at this
theorem Il(es:List lG)(d:Nat):∀(ring:List (List Str)) (b:LZ×List (List Str)),(∀x∈ring,x∈b.1.map (·.1))->(∀x∈ring,(FB b.1 x).length=d)->∃t:LZ,ring.foldl (o_ es) b=(b.1++t,b.2++t.map (·.1))/\∀p∈t,p.2.length=d+1
 |[],b,_,_=>⟨[],by simp,λ_ h=>(nomatch h)⟩
 |x::r,b,f,c=>by
  rw[eY];obtain⟨t,g,m⟩:=BL x (FB b.1 x) (es.filter λe=>iz x e.needs e.bars) b;have l:o_ es b x=(b.1++t,b.2++t.map (·.1)):=g;rw[l];obtain⟨i,j,k⟩:=Il es d r (b.1++t,b.2++t.map (·.1)) (λy a=>by rw[bI];exact bU _ (f y (ak _ a))) (λy a=>by rw[Sq (f y (ak _ a))];exact c y (ak _ a));refine⟨t++i,by rw[j];simp,λp n=>?_⟩;rcases List.mem_append.mp n with z|z
  ·rw[m p z,c x aq]
  ·exact k p z
def Oi(k:∀x∈ring,x∈l.map (·.1))(h':pB fs st es (ring.foldl (o_ es) (l,[])).1)(a:∃d,Yv es l ring d):∃d,Yv es (ring.foldl (o_ es) (l,[])).1 (ring.foldl (o_ es) (l,[])).2 d:=by
 obtain⟨d,D⟩:=a;obtain⟨s,j,o,w,v,u⟩:=yL es ring (l,[]);obtain⟨t,e,f⟩:=Il es d ring (l,[]) k λx c=>D.rin _ (Ij (k x c)) c;have g:=h'.nd;rw[e] at g j ⊢;rw[bI] at g;simp only[jF] at *;have top:∀p∈l++t,p.2.length<=d+1:=λp a=>by
  rcases List.mem_append.mp a with z|z
  ·exact rJ (D.top p z)
  ·exact Nat.le_of_eq (f p z)
 refine⟨d+1,top,λp a c=>?_,λp a c e he m=>?_,?_⟩
 ·rcases List.mem_append.mp a with z|z
  ·exact((List.nodup_append.mp g).2.2 p.1 (br z) p.1 c rfl).elim
  ·exact f p z
 ·rcases List.mem_append.mp a with z|z
  ·by_cases h:p.1∈ring
   ·obtain⟨q,b,i⟩:=List.mem_map.mp (j p.1 h e he m);exact⟨q,b,i,by rw[D.rin p z h];exact top q b⟩
   ·obtain⟨q,b,i,n⟩:=D.cls p z h e he m;exact⟨q,bU _ b,i,n⟩
  ·exact(c (br z)).elim
 ·refine List.pairwise_append.mpr ⟨D.up,?_,λp a q b=>by rw[f q b];exact rJ (D.top p a)⟩;exact List.pairwise_of_forall_mem_list λp a q b=>by rw[f p a,f q b];exact aA _
def Sr(g:g6 fs es)(hs:yJ fs st):∃l,(Vs fs st es l/\q1e es l)/\nY [c7 fs es,aL st]=.ok (.dict ((.none,.none)::gL (kf l))):=by
 have m:pB fs st es [(st,[])]:=⟨by simp,List.mem_singleton.mpr rfl,λp a=>by rw[List.mem_singleton.mp a];exact hs,λp a=>by rw[List.mem_singleton.mp a];exact⟨λ_ h=>(nomatch h),rfl,by simp⟩⟩;obtain⟨l,q,s,t,o,u,⟨j,d,i⟩,n⟩:=Ik g (aL st) (λl ring=>∃d,Yv es l ring d) (λl ring _ b h' a=>Oi b h' a) 65 100000 (.own (.list ([st].map aL))) .no .no .no .no [(st,[])] [st] m (λx b=>b) (λx b c=>(c b).elim) (.inl rfl) ⟨0,λp a=>by rw[List.mem_singleton.mp a];exact aA _,λp a _=>by rw[List.mem_singleton.mp a];rfl,λp a c=>by rw[List.mem_singleton.mp a] at c;exact(c aq).elim,by simp⟩ (by simp) ⋯;refine⟨l,⟨j,λp a e he k=>i.cls p a (λz=>nomatch z) e he k,i.up⟩,?_⟩;unfold nY;refine dL ?_;rw[Si];unfold cL;left;rw[q1d (x:=st) (d:=.list []) rfl rfl];left;have f:ii (F6 (rB 3)) bfB 100000 [.shr (c7 fs es),.shr (aL st),.own (.dict (gL [(st,.list [])])),.own (.list [aL st]),.no,.no,.no,.no]=_:=n;rw[f];left;rw[q1c j.ok.ne rfl];left
def Vs.keys(h:Vs fs st es l)(x:List Str):x∈l.map (·.1)↔Rch es st x:=by
 constructor
 ·intro d;obtain⟨p,c,rfl⟩:=List.mem_map.mp d;obtain⟨b,a,_⟩:=h.ok.row p c;exact⟨p.2,b,a⟩
 ·rintro⟨e,b,a⟩;exact BK (M:=λx=>x∈l.map (·.1)) h.all e st x (br (f:=(·.1)) h.ok.beg) b a
def Yw(l:LZ):((gL (kf l)).map (·.1))=(l.map (·.1)).map J.qA:=by
 rw[<- oy l];unfold gL sV;rw[cK,cK];rfl
def KD(g:g6 fs es)(hs:yJ fs st):∃a:List (List Str),a.Nodup/\(∀x,x∈a↔Rch es st x)/\(∀x∈a,yJ fs x)/\a.length<=64/\lw [c7 fs es,aL st]=.ok (.list ((mj a).map aL)):=by
 obtain⟨l,⟨b,_⟩,e⟩:=Sr g hs;have few:=b.ok.few g;have d:=b.ok.nd;refine⟨l.map (·.1),d,b.keys,λx h=>?_,by rw[ao];exact few,?_⟩
 ·obtain⟨p,f,rfl⟩:=m6.1 h;exact b.ok.sub p f
 have c:J.uO (.dict ((.none,.none)::gL (kf l)))=.ok (.list ((mj (l.map (·.1))).map aL)):=by
  unfold J.uO;dsimp only;rw[Yw,J.oU];dsimp only;unfold J.rm;rw[if_pos ⟨d,by rw[ao];exact few⟩];rfl
 unfold lw;refine dL ?_;unfold uZ cL;left;rw[BI g hs];left;rw[e];left;rw[c];left
def Mz(a:t ρ=.ok true)(c:b ρ=.ok (.nx ρ')):ii t b (n+1) ρ=ii t b n ρ':=by
 rw[ii,a];simp only[c]
def MA(a:t ρ=.ok false):ii t b (n+1) ρ=.ok (.nx ρ):=by
 rw[ii,a]
abbrev PZ:=Str×Str
def bn(p:PZ):D:=.tuple [.str p.1,.str p.2]
def dA:List Str->List PZ
 |[]=>[]
 |x::r=>((x::r).map λy=>(x,y))++dA r
def KF{fs r:List Str}{x:Str}{k:Nat}(h:fs.drop k=x::r):
  rY 2 [.no,.no,.no,.shr (aL fs)] kT (gC (zm (rB 3) (yx (rS 0)) Ao)) kT (fv (J.ag (rS 1) (J.ag (rS 2) J.aJ)) .tuple) (.tuple [.int k,.str x])=.ok ((x::r).map λy=>bn (x,y)):=by
 have b:k<=(fs.map aN).length:=by
  rw[ao];by_cases hz:k<=fs.length
  ·exact hz
  ·rw[tw ∅] at h;cases h
 have c:gC (zm (rB 3) (yx (rS 0)) Ao) [.shr (.int k),.shr (.str x),.no,.shr (aL fs)]=.ok ((x::r).map aN):=by
  have e:gC (zm (rB 3) (yx (rS 0)) Ao) [.shr (.int k),.shr (.str x),.no,.shr (aL fs)]=.ok (z_ (fs.map aN) (some (k:Int)) none):=rfl;rw[e,Fw _ k b,<- rK,h]
 have a:gD (inR 2 [.shr (.int k),.shr (.str x),.no,.shr (aL fs)] kT (fv (J.ag (rS 1) (J.ag (rS 2) J.aJ)) .tuple)) ((x::r).map aN)=.ok ((x::r).map λy=>bn (x,y)):=
  dJ _ (λy:Str=>aN y) (λy=>bn (x,y)) (x::r) λy _=>rfl
 have e:rY 2 [.no,.no,.no,.shr (aL fs)] kT (gC (zm (rB 3) (yx (rS 0)) Ao)) kT (fv (J.ag (rS 1) (J.ag (rS 2) J.aJ)) .tuple) (.tuple [.int k,.str x])=EW ((gC (zm (rB 3) (yx (rS 0)) Ao) [.shr (.int k),.shr (.str x),.no,.shr (aL fs)]).bind λes=>gD (inR 2 [.shr (.int k),.shr (.str x),.no,.shr (aL fs)] kT (fv (J.ag (rS 1) (J.ag (rS 2) J.aJ)) .tuple)) es):=rfl;rw[e,c,bind_ok,a];rfl
theorem BM(fs:List Str):∀(r:List Str) (k:Nat),fs.drop k=r ->
  pO (rY 2 [.no,.no,.no,.shr (aL fs)] kT (gC (zm (rB 3) (yx (rS 0)) Ao)) kT (fv (J.ag (rS 1) (J.ag (rS 2) J.aJ)) .tuple)) (mi k (r.map aN))=.ok ((dA r).map bn)
 |[],_,_=>rfl
 |x::r,k,h=>by
  have h':fs.drop (k+1)=r:=by rw[<- pI,h];rfl
  rw[aC,mi];unfold pO;rw[KF h,bind_ok,BM fs r (k+1) h',bind_ok,dA,bI,cK];rfl
theorem E4:∀fs:List Str,2*(dA fs).length<=fs.length*(fs.length+1)
 |[]=>by simp[dA]
 |x::r=>by
  have:=E4 r;rw[dA,aS,ao,aX];have e:(r.length+1)*(r.length+1+1)=r.length*(r.length+1)+2*(r.length+1):=by
   rw[Nat.add_mul,Nat.mul_add,Nat.one_mul];omega
  omega
def oz(h:fs.length<=6):(dA fs).length<=21:=by
 have a:=E4 fs;have b:fs.length*(fs.length+1)<=6*7:=Nat.mul_le_mul h ∅;omega
def FC(h:fs.length<=6):iR [aL fs]=.ok (.list ((dA fs).map bn)):=by
 have a:=oz h;unfold iR;refine dL ?_;unfold pY cL;have e:yF 2 [0] (yy (J.ag (rS 0) J.aJ)) kT (gC (zm (rB 3) (yx (rS 0)) Ao)) kT (fv (J.ag (rS 1) (J.ag (rS 2) J.aJ)) .tuple) [.shr (aL fs)]=(pO (rY 2 [.no,.no,.no,.shr (aL fs)] kT (gC (zm (rB 3) (yx (rS 0)) Ao)) kT (fv (J.ag (rS 1) (J.ag (rS 2) J.aJ)) .tuple)) (mi 0 (fs.map aN))).bind λys=>if ys.length<=900 then .ok (.list ys) else .no:=rfl
 show(yF 2 [0] (yy (J.ag (rS 0) J.aJ)) kT (gC (zm (rB 3) (yx (rS 0)) Ao)) kT (fv (J.ag (rS 1) (J.ag (rS 2) J.aJ)) .tuple) [.shr (aL fs)]).bind _=_;rw[e,BM fs fs 0 rfl,bind_ok,if_pos (by rw[ao];omega)];rfl
theorem v8:∀(fs:List Str) (p:PZ),p∈dA fs->p.1∈fs/\p.2∈fs
 |x::r,p,h=>by
  rw[dA] at h;rcases cQ.1 h with z|z
  ·obtain⟨y,b,rfl⟩:=m6.1 z;exact⟨aq,b⟩
  ·obtain⟨a,c⟩:=v8 r p z;exact⟨ak _ a,ak _ c⟩
def fm(xs:List Str)(p:PZ):Bool:=decide (p.1∈xs)&&decide (p.2∈xs)
def yM(p:PZ)(xs:List Str):fN [bn p,aL xs]=.ok (.bool (fm xs p)):=by
 unfold fN;refine dL ?_;unfold pZ cL;left;rw[show bu (bn p) (.int 0)=.ok (.str p.1) from rfl];left;rw[kz];unfold fm;cases decide (p.1∈xs) with
 |false=>
  left;rfl
 |true=>
  left;rw[show bu (bn p) (.int 1)=.ok (.str p.2) from rfl];left;rw[kz];left;rfl
def kA(e:lG)(p:PZ):List Str:=[p.1,p.2].filter λx=>!decide (x∈e.makes)
def kC(e:lG)(p:PZ)(P:List PZ):Bool:=!(decide ((kA e p).length=2)||(([p.1,p.2].any λx=>decide (x∈e.ends))||(kA e p).any λx=>decide (x∈e.bars))) && !P.any (fm (e.needs++kA e p))
def MB(e:lG)(p:PZ):(kA e p).length<=2:=dq _ _
def Oj(h:sU fs e)(a:fs.length<=6)(g:P.length<=21):xF [gx e,bn p,.list (P.map bn)]=.ok (.bool (kC e p P)):=by
 have f:=kQ h.needs a;have d:=MB e p;have w:ou [bn p,aL e.makes]=.ok (aL (kA e p)):=BJ (xs:=[p.1,p.2]) (by show 2<=60;omega);have s1:eU [bn p,aL e.ends]=.ok (.bool (!([p.1,p.2].any λx=>decide (x∈e.ends)))):=BH (xs:=[p.1,p.2]) (by show 2<=60;omega);have c:eU [aL (kA e p),aL e.bars]=.ok (.bool (!((kA e p).any λx=>decide (x∈e.bars)))):=BH ∅;unfold xF;refine dL ?_;unfold xE cL;left;rw[show(Ly (gx e) (some 1) (some 5)).bind (QV (mw 4 (cO (bN 3) (cO (bN 4) (cO (bN 5) (cO (bN 6) nB))))) [Sl.shr (gx e),Sl.shr (bn p),Sl.shr (iZ (nJ bn P)),Sl.no,Sl.no,Sl.no,Sl.no,Sl.no,Sl.no])=.ok (.nx [Sl.shr (gx e),Sl.shr (bn p),Sl.shr (iZ (nJ bn P)),Sl.shr (aL e.needs),Sl.shr (aL e.bars),Sl.shr (aL e.makes),Sl.shr (aL e.ends),Sl.no,Sl.no]) from rfl];left;rw[w];left;rw[nC];unfold kC;have b:decide (((kA e p).length:Int)=2)=decide ((kA e p).length=2):=by rw[lD,decide_eq_true_iff,decide_eq_true_iff];omega
 rw[b];cases decide ((kA e p).length=2) with
 |true=>
  left;rfl
 |false=>
  left;rw[s1];left;cases([p.1,p.2].any λx=>decide (x∈e.ends)) with
  |true=>
   left;rfl
  |false=>
   left;rw[c];left;cases((kA e p).any λx=>decide (x∈e.bars)) with
   |true=>
    left;rfl
   |false=>
    left;rw[if_pos ∅,<- bI];left;rw[if_pos ∅];rw[dJ _ bn (λq=>bQ (fm (e.needs++kA e p) q)) P λq _=>fS rfl (by
     left;rw[yM])]
    left;rw[iy _ (fm (e.needs++kA e p))];left;rw[jt,show(id∘fm (e.needs++kA e p))=fm (e.needs++kA e p) from rfl];rfl
def dB(es:List lG)(P:List PZ)(p:PZ):Bool:=es.any λe=>kC e p P
def BN(g:g6 fs es)(a:P.length<=21):eF [c7 fs es,bn p,.list (P.map bn)]=.ok (.bool (dB es P p)):=by
 have b:=g.len;unfold eF;refine dL ?_;unfold nV cL;left;rw[q0m];left;rw[if_pos ∅];rw[dJ _ gx (λe=>bQ (kC e p P)) es λe he=>fS rfl (by
  left;rw[Oj (g.ok e he) g.rise.len a])]
 left;rw[iy _ (λe=>kC e p P)];left;rw[jt];rfl
def iA(es:List lG)(P:List PZ):List PZ:=P.filter λp=>!dB es P p
def rz(es:List lG):Nat->List PZ->List PZ
 | 0,P=>iA es P
 |n+1,P=>if iA es P=P then iA es P else rz es n (iA es P)
def ub(es:List lG)(P:List PZ):(iA es P).length<=P.length:=dq _ _
theorem Im:∀A B:List PZ,dz (A.map bn) (B.map bn)=decide (A=B)
 |[],[]=>rfl
 |[],_::_=>by simp[dz]
 |_::_,[]=>by simp[dz]
 |a::A,b::B=>by
  rw[aC,aC,dz,Im A B];have:bw (bn a) (bn b)=decide (a=b):=by
   obtain⟨d,e⟩:=a;obtain⟨b1,b2⟩:=b;by_cases c:d=b1<;>by_cases f:e=b2<;>simp[bn,bw,dz,c,f]
  rw[this];simp
def BO{fs:List Str}(c:∀x∈fs,DU x=true){A:List PZ}(h:∀p∈A,p.1∈fs/\p.2∈fs):(iZ (A.map bn)).canLay0=true:=by
 simp only[h_];exact HY bn A λp a=>by
  have b:=xI (c _ (h p a).1);have d:=xI (c _ (h p a).2);simp only[h_] at b d;simp only[bn,h_,fD,b,d];rfl
def Ol(A:List PZ):(iZ (A.map bn)).depth<=60:=by
 have:=D_ bn 1 (λx=>by simp[bn,PyData.depth,sX]) A;simp only[PyData.depth];omega
def MC(a:Bool){fs:List Str}(b:∀x∈fs,DU x=true){A B:List PZ}(h:∀p∈A,p.1∈fs/\p.2∈fs)(h':∀p∈B,p.1∈fs/\p.2∈fs):pj a (.list (A.map bn)) (.list (B.map bn))=.ok (.bool (if a then !decide (A=B) else decide (A=B))):=by
 unfold pj;rw[BO b h,BO b h',decide_eq_true (c8 (Nat.min_le_left _ _) (Ol A)),show bw (.list (A.map bn)) (.list (B.map bn))=dz (A.map bn) (B.map bn) from by simp[bw],Im];rfl
def kpB:aI->R Fl:=NB 2 (i9 3 (dh 1 [0,2] (gC (rB 2)) (j6 (fF (f9 3 eF (J.ag (rS 1) (J.ag (rS 0) (J.ag (rS 2) J.aJ)))))) (rS 0)))
def apB:aI->R Fl:=bh (NB 3 (ir 2 (rS 3))) kpB
def Su:At=bh (sR (f9 2 eB (J.ag (rS 0) (J.ag (rS 1) J.aJ)))) (bh (i9 2 (dh 1 [1] (gC (f9 1 iR (J.ag (g2 (rB 0) (kI 0) bu) J.aJ))) (j6 (fF (f9 2 fN (J.ag (rS 0) (J.ag (rS 1) J.aJ))))) (rS 0))) (bh kpB (bh (ii (fF (g2 (rB 3) (rB 2) (pj true))) apB 100000) (eL (rS 3))))):=rfl
def Vt(g:g6 fs es)(b:P.length<=21):
  dh 1 [0,2] (gC (rB 2)) (j6 (fF (f9 3 eF (J.ag (rS 1) (J.ag (rS 0) (J.ag (rS 2) J.aJ)))))) (rS 0) [.shr (c7 fs es),s1,.shr (.list (P.map bn)),s3]=.ok (.list ((iA es P).map bn)):=by
 unfold dh;have a:gC (rB 2) [.shr (c7 fs es),s1,.shr (.list (P.map bn)),s3]=.ok (P.map bn):=rfl;rw[a,bind_ok,if_pos (by rw[ao];omega)];rw[j7 _ bn bn (λp=>!dB es P p) P λp _=>uK (by
  show j6 (fF (f9 3 eF (J.ag (rS 1) (J.ag (rS 0) (J.ag (rS 2) J.aJ))))) [.shr (bn p),.shr (c7 fs es),.shr (.list (P.map bn))]=_;left;rw[BN g b];left) λ_=>rfl]
 rfl
def Sv(g:g6 fs es)(b:P.length<=21)(a:s2=.own (.list (P.map bn))\/s2=.shr (.list (P.map bn))):
  kpB [.shr (c7 fs es),s1,s2,s3]=.ok (.nx [.shr (c7 fs es),s1,.shr (.list (P.map bn)),.own (.list ((iA es P).map bn))]):=by
 have e:kpB [.shr (c7 fs es),s1,s2,s3]=i9 3 (dh 1 [0,2] (gC (rB 2)) (j6 (fF (f9 3 eF (J.ag (rS 1) (J.ag (rS 0) (J.ag (rS 2) J.aJ)))))) (rS 0)) [.shr (c7 fs es),s1,.shr (.list (P.map bn)),s3]:=by
  rcases a with rfl|rfl<;>rfl
 rw[e];unfold i9;rw[Vt g b];rfl
theorem Io{fs:List Str}{es:List lG}{s1:Sl}(g:g6 fs es):∀(n N:Nat) (P:List PZ),(∀p∈P,p.1∈fs/\p.2∈fs)->P.length<=21->P.length<=n->n<N ->
  ∃h,ii (fF (g2 (rB 3) (rB 2) (pj true))) apB N [.shr (c7 fs es),s1,.shr (.list (P.map bn)),.own (.list ((iA es P).map bn))]=.ok (.nx [.shr (c7 fs es),s1,h,.own (.list ((rz es n P).map bn))])
 |n,0,_,_,_,_,c=>absurd c (dR _)
 |n,N+1,P,hs,o,f,c=>by
  have i:∀p∈iA es P,p.1∈fs/\p.2∈fs:=λp m=>hs p (cR.1 m).1;have k:=ub es P;have t:fF (g2 (rB 3) (rB 2) (pj true)) [.shr (c7 fs es),s1,.shr (.list (P.map bn)),.own (.list ((iA es P).map bn))]=.ok (!decide (iA es P=P)):=by
   have e:fF (g2 (rB 3) (rB 2) (pj true)) [.shr (c7 fs es),s1,.shr (.list (P.map bn)),.own (.list ((iA es P).map bn))]=(pj true (.list ((iA es P).map bn)) (.list (P.map bn))).bind λd=>match d with
    |.bool b=>.ok b
    |_=>.no:=rfl
   rw[e,MC true g.rise.ok i hs];rfl
  by_cases a:iA es P=P
  ·have l:rz es n P=iA es P:=by cases n with
    |zero=>rfl
    |succ n=>rw[rz,if_pos a]
   rw[l];rw[decide_eq_true a] at t;exact⟨_,MA t⟩
  ·rw[decide_eq_false a] at t;have lt:(iA es P).length<P.length:=Pa k λz=>a (List.filter_sublist.eq_of_length z)
   match n,f,c with
   | 0,f,_=>omega
   |n+1,f,c=>
    obtain⟨h,e⟩:=Io (s1:=s1) g n N (iA es P) i ∅ ∅ ∅;refine⟨h,?_⟩;have b:apB [.shr (c7 fs es),s1,.shr (.list (P.map bn)),.own (.list ((iA es P).map bn))]=.ok (.nx [.shr (c7 fs es),s1,.shr (.list ((iA es P).map bn)),.own (.list ((iA es (iA es P)).map bn))]):=by
     have j:apB [.shr (c7 fs es),s1,.shr (.list (P.map bn)),.own (.list ((iA es P).map bn))]=kpB [.shr (c7 fs es),s1,.shr (.list ((iA es P).map bn)),.shr (.list ((iA es P).map bn))]:=rfl;rw[j,Sv g ∅ (.inr rfl)]
    rw[Mz t b,e,rz,if_neg a]
def jf(fs:List Str)(es:List lG)(ss:List Str):List PZ:=rz es 21 ((dA fs).filter λp=>!fm ss p)
def Sw(g:g6 fs es)(h:yJ fs ss):se [c7 fs es,aL ss]=.ok (.list ((jf fs es ss).map bn)):=by
 have d:∀(a b:aI->R Fl) (ρ c:aI),a ρ=.ok (.nx c)->bh a b ρ=b c:=λa b ρ c h=>by unfold bh;rw[h];rfl
 have pl:=oz g.rise.len;have m:((dA fs).filter λp=>!fm ss p).length<=(dA fs).length:=dq _ _;have ps:∀p∈(dA fs).filter λp=>!fm ss p,p.1∈fs/\p.2∈fs:=λp f=>v8 fs p (cR.1 f).1;have k:dh 1 [1] (gC (f9 1 iR (J.ag (g2 (rB 0) (kI 0) bu) J.aJ))) (j6 (fF (f9 2 fN (J.ag (rS 0) (J.ag (rS 1) J.aJ))))) (rS 0) [.shr (c7 fs es),.shr (aL ss),.no,.no]=.ok (.list (((dA fs).filter λp=>!fm ss p).map bn)):=by
  unfold dh;have i:gC (f9 1 iR (J.ag (g2 (rB 0) (kI 0) bu) J.aJ)) [.shr (c7 fs es),.shr (aL ss),.no,.no]=(iR [aL fs]).bind u4:=rfl;rw[i,FC g.rise.len,bind_ok,show u4 (.list ((dA fs).map bn))=.ok ((dA fs).map bn) from rfl,bind_ok,if_pos (by rw[ao];omega)];rw[j7 _ bn bn (λp=>!fm ss p) (dA fs) λp _=>uK (by
   show j6 (fF (f9 2 fN (J.ag (rS 0) (J.ag (rS 1) J.aJ)))) [.shr (bn p),.shr (aL ss)]=_;left;rw[yM];left) λ_=>rfl]
  rfl
 obtain⟨l,j⟩:=Io (s1:=.shr (aL ss)) g 21 100000 _ ps ∅ ∅ ⋯;unfold se;refine dL ?_;rw[Su];show bh _ _ [.shr (c7 fs es),.shr (aL ss),.no,.no]=_;have e:f9 2 eB (J.ag (rS 0) (J.ag (rS 1) J.aJ)) [.shr (c7 fs es),.shr (aL ss),.no,.no]=eB [c7 fs es,aL ss]:=rfl;rw[d _ _ _ [.shr (c7 fs es),.shr (aL ss),.no,.no] (by unfold sR;rw[e,BI g h];rfl)];rw[d _ _ _ [.shr (c7 fs es),.shr (aL ss),.own (.list (((dA fs).filter λp=>!fm ss p).map bn)),.no] (by unfold i9;rw[k];rfl)];rw[d _ _ _ _ (Sv g ∅ (.inl rfl)),d _ _ _ _ j];rfl
theorem Aw:∀(n:Nat) (P:List PZ),p∈rz es n P->p∈P
 | 0,P,h=>(cR.1 h).1
 |n+1,P,h=>by
  rw[rz] at h;split at h
  ·exact(cR.1 h).1
  ·exact(cR.1 (Aw n _ h)).1
theorem BP:∀(n:Nat) (P:List PZ),P.length<=n->iA es (rz es n P)=rz es n P
 | 0,P,h=>by
  have:P=[]:=List.eq_nil_of_length_eq_zero ∅
  subst this;rfl
 |n+1,P,h=>by
  rw[rz];by_cases a:iA es P=P
  ·rw[if_pos a,a,a]
  ·rw[if_neg a];have lt:(iA es P).length<P.length:=Pa (ub es P) λz=>a (List.filter_sublist.eq_of_length z);exact BP n _ ∅
def Ax:fm xs p=true↔p.1∈xs/\p.2∈xs:=by
 unfold fm;rw[bc,decide_eq_true_iff,decide_eq_true_iff]
def KG(v:∀y∈e.makes,y∉e.ends)(A:iz x e.needs e.bars=true)(o:∀q∈P,fm x q=false)(f:fm x p=false)(n:fm (cp e x) p=true):kC e p P=true:=by
 obtain⟨u,g2⟩:=Of.1 A;obtain⟨b1,b2⟩:=Ax.1 n;have c:∀y∈[p.1,p.2],(y∈x/\y∉e.ends)\/y∈e.makes:=λy a=>by
  rcases bg.1 a with z|z
  ·rw[z];exact wo.1 b1
  ·rw[cC.1 z];exact wo.1 b2
 have b:∀y∈kA e p,y∈x:=λy a=>by
  obtain⟨h,d⟩:=cR.1 a;rcases c y h with z|z
  ·exact z.1
  ·rw[decide_eq_true z] at d;cases d
 have l:¬(kA e p).length=2:=λz=>by
  have:∀y∈[p.1,p.2],(!decide (y∈e.makes))=true:=List.length_filter_eq_length_iff.1 z
  have i:p.1∈kA e p:=cR.2 ⟨by simp,this _ (by simp)⟩;have E:p.2∈kA e p:=cR.2 ⟨by simp,this _ (by simp)⟩;rw[Ax.2 ⟨b _ i,b _ E⟩] at f;cases f
 have m:([p.1,p.2].any λy=>decide (y∈e.ends))=false:=by
  rw[gI];intro y a z;have z:=of_decide_eq_true z;rcases c y a with w|w
  ·exact w.2 z
  ·exact v y w z
 have B:((kA e p).any λy=>decide (y∈e.bars))=false:=by
  rw[gI];intro y a z;exact g2 y (of_decide_eq_true z) (b y a)
 have j:P.any (fm (e.needs++kA e p))=false:=by
  rw[gI];intro q k z;obtain⟨s,t⟩:=Ax.1 z;have g:∀y∈e.needs++kA e p,y∈x:=λy a=>(cQ.1 a).elim (u y) (b y);have:=o q k;rw[Ax.2 ⟨g _ s,g _ t⟩] at this;cases this
 unfold kC;rw[decide_eq_false l,m,B,j];rfl
theorem E5(g:g6 fs es)(d:∀q∈A,∀e∈es,kC e q A=false):∀(f:List lG) (st x:List Str),(∀e∈f,e∈es)->(∀q∈A,fm st q=false)->A7 f st=some x->∀q∈A,fm x q=false
 |[],st,x,_,hs,h=>by cases h;exact hs
 |a::r,st,x,he,hs,h=>by
  have h':(if iz st a.needs a.bars then A7 r (cp a st) else none)=some x:=h;split at h'
  ·rename_i i
   have b:=he a aq;refine E5 g d r (cp a st) x (λe h=>he e (ak _ h)) (λq c=>?_) h';cases j:fm (cp a st) q with
   |false=>rfl
   |true=>
    have:=KG (g.ok a b).me i hs (hs q c) j;rw[d q c a b] at this;cases this
  ·cases h'
def Ip(g:g6 fs es)(h:Rch es ss x):∀q∈jf fs es ss,fm x q=false:=by
 obtain⟨d,b,f⟩:=h;have pl:=oz g.rise.len;have i:((dA fs).filter λp=>!fm ss p).length<=(dA fs).length:=dq _ _;have c:iA es (jf fs es ss)=jf fs es ss:=BP 21 _ ∅;refine E5 g (λq a e he=>?_) d ss x b (λq a=>?_) f
 ·rw[<- c] at a;have:=(cR.1 a).2;have:dB es (jf fs es ss) q=false:=by simpa using this
  unfold dB at this;rw[gI] at this;simpa using this e he
 ·have:=(cR.1 (Aw 21 _ a)).2;simpa using this
def E6:∀q∈jf fs es ss,q.1∈fs/\q.2∈fs:=λq a=>v8 fs q (cR.1 (Aw 21 _ a)).1
def E7(g:g6 fs es):(jf fs es ss).length<=21:=by
 have pl:=oz g.rise.len;have b:((dA fs).filter λp=>!fm ss p).length<=(dA fs).length:=dq _ _;have:∀(n:Nat) (P:List PZ),(rz es n P).length<=P.length:=λn=>by
  induction n with
  |zero=>exact ub es
  |succ n a=>
   intro P;rw[rz];split
   ·exact ub es P
   ·exact c8 (a _) (ub es P)
 exact c8 (this 21 _) ∅
def KH(h:∀q∈P,q∈P')(a:kC e p P'=true):kC e p P=true:=by
 unfold kC at a ⊢;rw[bc] at a ⊢;refine⟨a.1,?_⟩;have b:=a.2;rw[zf,gI] at b ⊢;exact λq c=>b q (h q c)
def o6(h:∀q∈P,q∈P')(a:dB es P' p=true):dB es P p=true:=by
 unfold dB at a ⊢;rw[n6] at a ⊢;obtain⟨e,he,q⟩:=a;exact⟨e,he,KH h q⟩
def Om(c:∀p∈B,dB es B p=false):∀(n:Nat) (P:List PZ),(∀p∈B,p∈P)->∀p∈B,p∈rz es n P:=by
 have k:∀P,(∀p∈B,p∈P)->∀p∈B,p∈iA es P:=λP h p a=>by
  refine cR.2 ⟨h p a,?_⟩;cases q:dB es P p with
  |false=>rfl
  |true=>exact absurd ((c p a).symm.trans (o6 h q)) bd
 intro n;induction n with
 |zero=>exact λP h=>k P h
 |succ n b=>
  intro P h;rw[rz];split
  ·exact k P h
  ·exact b _ (k P h)
def uc(es:List lG):List PZ->List PZ->List PZ
 |[],a=>a
 |p::r,a=>if dB es a p=true then uc es r (a.erase p) else uc es r a
theorem sw:∀(b a:List PZ),(uc es b a).Sublist a
 |[],a=>.refl _
 |p::r,a=>by
  rw[uc];split
  ·exact(sw r _).trans List.erase_sublist
  ·exact sw r a
theorem xK(c:∀p∈B,dB es B p=false):∀(b a:List PZ),(∀p∈B,p∈a)->∀p∈B,p∈uc es b a
 |[],a,h=>h
 |q::r,a,h=>by
  rw[uc];split
  ·rename_i f
   refine xK c r _ λp d=>?_;refine(kq λe=>?_).mpr (h p d);subst e;exact absurd ((c p d).symm.trans (o6 h f)) bd
  ·exact xK c r a h
theorem Iq:∀(b a:List PZ),(∀p∈b,p∈a)->(uc es b a).length=a.length->(∀p∈b,dB es a p=false)/\uc es b a=a
 |[],a,_,_=>⟨(λ_ z=>nomatch z),rfl⟩
 |q::r,a,h,c=>by
  rw[uc] at c ⊢;by_cases d:dB es a q=true
  ·rw[if_pos d] at c;have g:=(sw r (a.erase q) (es:=es)).length_le;have j:=lc (h q aq);have i:=m8 (h q aq);omega
  ·rw[if_neg d] at c ⊢;obtain⟨e,f⟩:=Iq r a (λp hp=>h p (ak _ hp)) c;refine⟨λp hp=>?_,f⟩;rcases List.mem_cons.mp hp with rfl|hp
   ·simpa using d
   ·exact e p hp
def ud(es:List lG):Nat->List PZ->List PZ
 | 0,P=>P
 |n+1,P=>if(uc es P P).length=P.length then uc es P P else ud es n (uc es P P)
theorem BQ:∀(n:Nat) (P:List PZ),(ud es n P).Sublist P
 | 0,P=>.refl _
 |n+1,P=>by
  rw[ud];split
  ·exact sw P P
  ·exact(BQ n _).trans (sw P P)
theorem E8(a:∀p∈B,dB es B p=false):∀(n:Nat) (P:List PZ),(∀p∈B,p∈P)->∀p∈B,p∈ud es n P
 | 0,P,h=>h
 |n+1,P,h=>by
  rw[ud];split
  ·exact xK a P P h
  ·exact E8 a n _ (xK a P P h)
theorem zz:∀(n:Nat) (P:List PZ),P.length<n->∀p∈ud es n P,dB es (ud es n P) p=false
 | 0,P,h=>absurd h (dR _)
 |n+1,P,h=>by
  rw[ud];split
  ·rename_i a
   obtain⟨b,c⟩:=Iq P P (λ_ z=>z) a;rw[c];exact b
  ·rename_i a
   have:=(sw P P (es:=es)).length_le;exact zz n _ ∅
def BR:∀{l:List PZ},l.Sublist P->P.Nodup->l=P.filter λx=>decide (x∈l):=by
 induction P with
 |nil=>intro l h _;rw[List.sublist_nil.mp h];rfl
 |cons a P b=>
  intro l h f;obtain⟨c,d⟩:=List.nodup_cons.mp f;cases h with
  |cons _ h=>
   have:a∉l:=λz=>c (h.subset z)
   rw[Ai,if_neg (by simpa using this)];exact b h d
  | @cons_cons l' _ _ h=>
   rw[Ai,if_pos (by simp)];have e:=b h d;congr 1;refine e.trans (Pb λx g=>?_);have:x≠a:=λz=>c (z ▸ g)
   simp[this]
def Yx{P l l':List PZ}(h:l.Sublist P)(h':l'.Sublist P)(a:P.Nodup)(e:∀x,x∈l↔x∈l'):l=l':=by
 rw[BR h a,BR h' a];refine Pb λx _=>?_;simp only[e x]
theorem xL:∀(n:Nat) (P:List PZ),(rz es n P).Sublist P
 | 0,P=>fP
 |n+1,P=>by
  rw[rz];split
  ·exact fP
  ·exact(xL n _).trans fP
def BS(h:P.length<=n):∀p∈rz es n P,dB es (rz es n P) p=false:=λp a=>by
 rw[<- BP n P h] at a;have:=(cR.1 a).2;simpa using this
def Sx{es:List lG}{n m:Nat}{P:List PZ}(d:P.Nodup)(c:P.length<n)(e:P.length<=m):ud es n P=rz es m P:=by
 refine Yx (BQ n P) (xL m P) d λx=>⟨λb=>?_,λb=>?_⟩
 ·exact Om (zz n P c) m P (λp a=>(BQ n P).subset a) x b
 ·exact E8 (BS e) n P (λp a=>(xL m P).subset a) x b
theorem ue:∀{fs:List Str},fs.Nodup->(dA fs).Nodup
 |[],_=>.nil
 |x::r,c=>by
  obtain⟨f,g⟩:=List.nodup_cons.mp c;rw[dA,z9];refine⟨?_,ue g,λa d b i e=>?_⟩
  ·exact List.pairwise_map.mpr (c.imp λh e=>h (Prod.mk.inj e).2)
  ·obtain⟨y,_,rfl⟩:=List.mem_map.mp d;subst e;exact f (v8 r _ i).1
abbrev FD:aI->R D:=q_ (g2 (g2 (rB 0) (kI 0) bu) (rB 1) (r6 false)) (g2 (g2 (rB 0) (kI 1) bu) (rB 1) (r6 false))
def On(xs:List Str)(q:PZ):FD [.shr (bn q),.shr (.list (xs.map .str))]=.ok (.bool (fm xs q)):=by
 left;rw[show bu (bn q) (.int 0)=.ok (.str q.1) from rfl];left;rw[Fu];unfold fm;cases decide (q.1∈xs) with
 |false=>
  left;rfl
 |true=>
  left;rw[show bu (bn q) (.int 1)=.ok (.str q.2) from rfl];left;rw[Fu];rfl
def Sy(xs:List Str)(q:PZ):FD [.shr (bn q),.shr (aL xs)]=.ok (.bool (fm xs q)):=by
 left;rw[show bu (bn q) (.int 0)=.ok (.str q.1) from rfl];left;rw[kz];unfold fm;cases decide (q.1∈xs) with
 |false=>
  left;rfl
 |true=>
  left;rw[show bu (bn q) (.int 1)=.ok (.str q.2) from rfl];left;rw[kz];rfl
def KI(h:sU fs e)(f:fs.length<=6)(k:P.length<=21):iu [gx e,.str p.1,.str p.2,.list (P.map bn)]=.ok (.bool (kC e p P)):=by
 have j:=kQ h.needs f;have g:=MB e p;have a:gD (jl 1 [Sl.no,Sl.shr (gx e)] (fF (g2 (rB 0) (g2 (rB 1) (kI 3) bu) (r6 true))) (rS 0)) [aN p.1,aN p.2]=.ok ((kA e p).map aN):=by
  rw[show [aN p.1,aN p.2]=[p.1,p.2].map aN from rfl];rw[j7 _ (λx:Str=>aN x) (λx=>aN x) (λx=>!decide (x∈e.makes)) [p.1,p.2] λx i=>uK (by
   have z:fF (g2 (rB 0) (g2 (rB 1) (kI 3) bu) (r6 true)) [.shr (.str x),.shr (gx e)]=(r6 true (.str x) (aL e.makes)).bind λd=>match d with
    |.bool b=>.ok b
    |_=>.no:=rfl
   refine qM z ?_;rw[kz];rfl) λ_=>rfl]
  rfl
 unfold iu;refine dL ?_;unfold nZ cL;left;rw[a];left;rw[nC];unfold kC;have c:decide (((kA e p).length:Int)=2)=decide ((kA e p).length=2):=by rw[lD,decide_eq_true_iff,decide_eq_true_iff];omega
 rw[c];cases decide ((kA e p).length=2) with
 |true=>
  left;rfl
 |false=>
  left;rw[show bu (gx e) (.int 4)=.ok (aL e.ends) from rfl];left;rw[kz];rw[show([p.1,p.2].any λx=>decide (x∈e.ends))=(decide (p.1∈e.ends)||decide (p.2∈e.ends)) by simp];cases decide (p.1∈e.ends) with
  |true=>
   left;rfl
  |false=>
   left;rw[show bu (gx e) (.int 4)=.ok (aL e.ends) from rfl];left;rw[kz];cases decide (p.2∈e.ends) with
   |true=>
    left;rfl
   |false=>
    left;rw[if_pos ∅];rw[dJ _ aN (λx=>bQ (decide (x∈e.bars))) (kA e p) λx _=>fS rfl (by
     have z:g2 (rB 0) (g2 (rB 1) (kI 2) bu) (r6 false) [.shr (.str x),.shr (gx e)]=r6 false (.str x) (aL e.bars):=rfl;refine qM z ?_;rw[kz];rfl)]
    left;rw[iy _ (λx=>decide (x∈e.bars))];left;rw[jt,show(id∘λx=>decide (x∈e.bars))=λx=>decide (x∈e.bars) from rfl];cases((kA e p).any λx=>decide (x∈e.bars)) with
    |true=>
     left;rfl
    |false=>
     left;rw[show bu (gx e) (.int 1)=.ok (aL e.needs) from rfl];left;rw[show kP (aL e.needs)=zo (aL e.needs) from rfl];try unfold zo aL
     left;rw[if_pos ∅,<- bI];left;rw[if_pos ∅];rw[dJ _ bn (λq=>bQ (fm (e.needs++kA e p) q)) P λq _=>fS rfl (On (e.needs++kA e p) q)];left;rw[iy _ (fm (e.needs++kA e p))];left;rw[jt,show(id∘fm (e.needs++kA e p))=fm (e.needs++kA e p) from rfl];rfl
abbrev jA(fs ss:List Str)(es:List lG)(a:List PZ)(s4 s5 s6 s7 s8:Sl):aI:=[.shr (c7 fs es),.shr (aL ss),.shr (aL fs),.own (.list (a.map bn)),s4,s5,s6,s7,s8]
def Ir:aI->R Fl:=gF (yc (fF (g2 (rB 5) (rB 1) (r6 true))) (fF (g2 (rB 6) (rB 1) (r6 true)))) (we 3 (fv (J.ag (rS 5) (J.ag (rS 6) J.aJ)) .tuple)) (λρ=>.ok (.nx ρ))
def Sz(h:acc.length<1000):Ir (jA fs ss es acc s4 (.shr (.str x)) (.shr (.str y)) s7 s8)=.ok (.nx (jA fs ss es (acc++[(x,y)].filter λp=>!fm ss p) s4 (.shr (.str x)) (.shr (.str y)) s7 s8)):=by
 have t:yc (fF (g2 (rB 5) (rB 1) (r6 true))) (fF (g2 (rB 6) (rB 1) (r6 true))) (jA fs ss es acc s4 (.shr (.str x)) (.shr (.str y)) s7 s8)=.ok (!fm ss (x,y)):=by
  left;rw[kz];unfold fm;cases decide (x∈ss) with
  |false=>
   left;rfl
  |true=>
   left;rw[kz];rfl
 unfold Ir gF;rw[t,Ai];cases fm ss (x,y) with
 |true=>rw[if_neg (by simp),tK,cq];rfl
 |false=>
  rw[if_pos (show(!false)=true from rfl),tK];have z:we 3 (fv (J.ag (rS 5) (J.ag (rS 6) J.aJ)) .tuple) (jA fs ss es acc s4 (.shr (.str x)) (.shr (.str y)) s7 s8)=(if(acc.map bn).length<1000 then .ok (.nx [.shr (c7 fs es),.shr (aL ss),.shr (aL fs),.own (.list (acc.map bn++[bn (x,y)])),s4,.shr (.str x),.shr (.str y),s7,s8]) else .no):=rfl;refine qM (b:=we 3 (fv (J.ag (rS 5) (J.ag (rS 6) J.aJ)) .tuple) (jA fs ss es acc s4 (.shr (.str x)) (.shr (.str y)) s7 s8)) rfl ?_;rw[z,if_pos (by rw[ao];exact h)];unfold jA;rw[bI];rfl
theorem WK:∀(r:List Str) (a:List PZ) (s6:Sl),a.length+r.length<=1000->∃b,lO (bN 6) Ir (r.map aN) (jA fs ss es a s4 (.shr (.str x)) s6 s7 s8)=.ok (.nx (jA fs ss es (a++(r.map λy=>(x,y)).filter λp=>!fm ss p) s4 (.shr (.str x)) b s7 s8))
 |[],a,s6,_=>⟨s6,by rw[fK,fK,tK,cq];rfl⟩
 |y::r,a,s6,h=>by
  simp only[aX] at h;have c:=dq (λp=>!fm ss p) [(x,y)];simp only[aX,du] at c;obtain⟨b,e⟩:=WK (s4:=s4) (s7:=s7) (s8:=s8) (fs:=fs) (ss:=ss) (es:=es) (x:=x) r (a++[(x,y)].filter λp=>!fm ss p) (.shr (.str y)) (by rw[aS];omega);refine⟨b,?_⟩;rw[aC,v7 (ρ1:=jA fs ss es a s4 (.shr (.str x)) (.shr (.str y)) s7 s8) rfl (Sz ∅),e,e8,<- OS];rfl
theorem SB(o:fs.length<=6):∀(r:List Str) (k:Nat) (a:List PZ) (s4 s5 s6:Sl),fs.drop k=r->a.length+6*r.length<=1000 ->
  ∃c f d,lO (mw 2 (cO (bN 4) (cO (bN 5) nB))) (kY (gC (zm (rB 2) (yx (rS 4)) Ao)) (bN 6) Ir) (mi k (r.map aN)) (jA fs ss es a s4 s5 s6 s7 s8)=.ok (.nx (jA fs ss es (a++(dA r).filter λp=>!fm ss p) c f d s7 s8))
 |[],k,a,s4,s5,s6,_,_=>⟨s4,s5,s6,by rw[dA,tK,cq];rfl⟩
 |x::r,k,a,s4,s5,s6,g,j=>by
  have h':fs.drop (k+1)=r:=by rw[<- pI,g];rfl
  have l:k<=(fs.map aN).length:=by
   rw[ao];by_cases hz:k<=fs.length
   ·exact hz
   ·rw[tw ∅] at g;cases g
  have m:(x::r).length<=6:=by rw[<- g,m_];omega
  simp only[aX] at j m;obtain⟨h,i⟩:=WK (fs:=fs) (ss:=ss) (es:=es) (s4:=.shr (.int k)) (s7:=s7) (s8:=s8) (x:=x) (x::r) a s6 (by simp only[aX];omega);have n:=dq (λp=>!fm ss p) ((x::r).map λy=>(x,y));simp only[ao,aX] at n;obtain⟨c,f,d,q⟩:=SB (ss:=ss) (es:=es) (s7:=s7) (s8:=s8) o r (k+1) (a++((x::r).map λy=>(x,y)).filter λp=>!fm ss p) (.shr (.int k)) (.shr (.str x)) h h' (by rw[aS];omega);refine⟨c,f,d,?_⟩;have it:gC (zm (rB 2) (yx (rS 4)) Ao) (jA fs ss es a (.shr (.int k)) (.shr (.str x)) s6 s7 s8)=.ok ((x::r).map aN):=by
   have e:gC (zm (rB 2) (yx (rS 4)) Ao) (jA fs ss es a (.shr (.int k)) (.shr (.str x)) s6 s7 s8)=.ok (z_ (fs.map aN) (some (k:Int)) none):=rfl;rw[e,Fw _ k l,<- rK,g]
  have b:kY (gC (zm (rB 2) (yx (rS 4)) Ao)) (bN 6) Ir (jA fs ss es a (.shr (.int k)) (.shr (.str x)) s6 s7 s8)=.ok (.nx (jA fs ss es (a++((x::r).map λy=>(x,y)).filter λp=>!fm ss p) (.shr (.int k)) (.shr (.str x)) h s7 s8)):=by
   unfold kY;rw[it];exact i
  rw[aC,mi,v7 (ρ1:=jA fs ss es a (.shr (.int k)) (.shr (.str x)) s6 s7 s8) rfl b,q,dA,OS,e8]
def MD:aI->R Bool:=fF (bX (J.ag (dh 1 [8,3] (gC (g2 (rB 0) (kI 1) bu)) kT (f9 4 iu (J.ag (rS 0) (J.ag (g2 (rB 1) (kI 0) bu) (J.ag (g2 (rB 1) (kI 1) bu) (J.ag (rS 2) J.aJ)))))) J.aJ) (i8 (eA λbs=>bs.any id)))
def xM(h:gc ρ=.ok d):fF (bX (J.ag gc J.aJ) (i8 q)) ρ=(q d).bind λd=>match d with
  |.bool b=>.ok b
  |_=>.no:=by
 have e:fF (bX (J.ag gc J.aJ) (i8 q)) ρ=((((gc ρ).bind λd=>(J.aJ ρ).bind λds=>.ok (d::ds)).bind (i8 q)).bind λd=>match d with
  |.bool b=>.ok b
  |_=>.no):=rfl
 rw[e,h];rfl
def Oo(g:g6 fs es)(b:P.length<=21):MD [.shr (c7 fs es),s1,s2,.shr (.list (P.map bn)),s4,s5,s6,s7,.shr (bn p)]=.ok (dB es P p):=by
 have d:=g.len;have c:dh 1 [8,3] (gC (g2 (rB 0) (kI 1) bu)) kT (f9 4 iu (J.ag (rS 0) (J.ag (g2 (rB 1) (kI 0) bu) (J.ag (g2 (rB 1) (kI 1) bu) (J.ag (rS 2) J.aJ))))) [.shr (c7 fs es),s1,s2,.shr (.list (P.map bn)),s4,s5,s6,s7,.shr (bn p)]=.ok (.list (es.map λe=>bQ (kC e p P))):=by
  unfold dh;have a:gC (g2 (rB 0) (kI 1) bu) [.shr (c7 fs es),s1,s2,.shr (.list (P.map bn)),s4,s5,s6,s7,.shr (bn p)]=.ok (es.map gx):=rfl;rw[a,bind_ok,if_pos (by rw[ao];omega)];rw[dJ _ gx (λe=>bQ (kC e p P)) es λe he=>fS rfl (by
   have z:f9 4 iu (J.ag (rS 0) (J.ag (g2 (rB 1) (kI 0) bu) (J.ag (g2 (rB 1) (kI 1) bu) (J.ag (rS 2) J.aJ)))) [.shr (gx e),.shr (bn p),.shr (.list (P.map bn))]=iu [gx e,.str p.1,.str p.2,.list (P.map bn)]:=rfl;exact qM z (KI (g.ok e he) g.rise.len b))]
  rfl
 unfold MD;rw[xM c,iy _ (λe=>kC e p P),jt];rfl
def Is:aI->R Fl:=gF (yH MD) (BC 3 (rS 8)) (λρ=>.ok (.nx ρ))
def E9(p:PZ):List Str:=[p.1,p.2]
def Ay(P:List PZ):P.map bn=(P.map E9).map qA:=by
 rw[cK];rfl
theorem Ea(p:PZ):∀P:List PZ,(P.map E9).erase (E9 p)=(P.erase p).map E9
 |[]=>rfl
 |q::r=>by
  by_cases h:q=p
  ·subst h;rw[aC,vF,vF]
  ·have h':¬ E9 q=E9 p:=λz=>by
    unfold E9 at z;injection z with b a;injection a with a _;exact h (Prod.ext b a)
   rw[aC,vG (by simpa using h'),vG (by simpa using h),aC,Ea p r]
def Op(g:g6 fs es)(c:P.length<=21)(a:p∈P):Is (jA fs ss es P s4 s5 s6 s7 (.shr (bn p)))=.ok (.nx (jA fs ss es (if dB es P p=true then P.erase p else P) s4 s5 s6 s7 (.shr (bn p)))):=by
 have t:yH MD (jA fs ss es P s4 s5 s6 s7 (.shr (bn p)))=.ok (dB es P p):=by
  unfold yH;rw[show zx (jA fs ss es P s4 s5 s6 s7 (.shr (bn p)))=[.shr (c7 fs es),.shr (aL ss),.shr (aL fs),.shr (.list (P.map bn)),xB s4,xB s5,xB s6,xB s7,.shr (bn p)] from rfl,Oo g c]
 unfold Is gF;rw[t];cases dB es P p with
 |false=>rfl
 |true=>
  rw[if_pos rfl];refine qM (b:=BC 3 (rS 8) (jA fs ss es P s4 s5 s6 s7 (.shr (bn p)))) rfl ?_;have z:BC 3 (rS 8) (jA fs ss es P s4 s5 s6 s7 (.shr (bn p)))=(match gK (P.map bn),gK [qA (E9 p)] with
   |some ts,some [z]=>if z∈ts then .ok (.nx [.shr (c7 fs es),.shr (aL ss),.shr (aL fs),.own (.list ((ts.erase z).map qA)),s4,s5,s6,s7,.shr (bn p)]) else .no
   |_,_=>.no):=rfl
  rw[z,Ay,oU,show gK [qA (E9 p)]=some [E9 p] from oU [E9 p]];dsimp only;rw[if_pos (br a),Ea,<- Ay]
theorem SC(g:g6 fs es):∀(b a:List PZ) (s8:Sl),b.Nodup->(∀p∈b,p∈a)->a.length<=21->∃c,lO (bN 8) Is (b.map bn) (jA fs ss es a s4 s5 s6 s7 s8)=.ok (.nx (jA fs ss es (uc es b a) s4 s5 s6 s7 c))
 |[],a,s8,_,_,_=>⟨s8,rfl⟩
 |p::r,a,s8,k,h,f=>by
  obtain⟨l,m⟩:=List.nodup_cons.mp k;have j:=h p aq;have d:(if dB es a p=true then a.erase p else a).length<=21:=by
   split
   ·exact c8 List.erase_sublist.length_le f
   ·exact f
  obtain⟨c,e⟩:=SC (ss:=ss) (s4:=s4) (s5:=s5) (s6:=s6) (s7:=s7) g r (if dB es a p=true then a.erase p else a) (.shr (bn p)) m (λq i=>by
   split
   ·exact(kq λ(z:q=p)=>l (z ▸ i)).mpr (h q (ak _ i))
   ·exact h q (ak _ i)) d
  refine⟨c,?_⟩;rw[aC,v7 (ρ1:=jA fs ss es a s4 s5 s6 s7 (.shr (bn p))) rfl (Op g f j),e,uc];split<;>rfl
def laT:aI->R Bool:=fF (g2 (rB 7) (bX (J.ag (rB 3) J.aJ) (i8 nA)) (pj true))
def laB:aI->R Fl:=bh (ir 7 (bX (J.ag (rB 3) J.aJ) (i8 nA))) (kY (gC (bX (J.ag (rB 3) J.aJ) (i8 kP))) (bN 8) Is)
def Oq:qd=bh (ir 2 (g2 (rB 0) (kI 0) bu)) (bh (i9 3 (fv J.aJ .list)) (bh (kY (yy (J.ag (rS 2) J.aJ)) (mw 2 (cO (bN 4) (cO (bN 5) nB))) (kY (gC (zm (rB 2) (yx (rS 4)) Ao)) (bN 6) Ir)) (bh (ir 7 (UC (kI 1))) (bh (ii laT laB 100000) (eL (rS 3)))))):=rfl
def ME:laT (jA fs ss es P s4 s5 s6 (.shr (.int k)) s8)=.ok (!decide (k=(P.length:Int))):=by
 have e:laT (jA fs ss es P s4 s5 s6 (.shr (.int k)) s8)=(pj true (.int k) (.int ((P.map bn).length:Int))).bind λd=>match d with
  |.bool b=>.ok b
  |_=>.no:=rfl
 rw[e,nC,ao];rfl
def Vu(g:g6 fs es)(b:P.Nodup)(c:P.length<=21):∃a,laB (jA fs ss es P s4 s5 s6 s7 s8)=.ok (.nx (jA fs ss es (uc es P P) s4 s5 s6 (.shr (.int (P.length:Int))) a)):=by
 obtain⟨a,e⟩:=SC (ss:=ss) (s4:=s4) (s5:=s5) (s6:=s6) (s7:=.shr (.int ((P.map bn).length:Int))) g P P s8 b (λ_ z=>z) c;refine⟨a,?_⟩;have z:laB (jA fs ss es P s4 s5 s6 s7 s8)=lO (bN 8) Is (P.map bn) (jA fs ss es P s4 s5 s6 (.shr (.int ((P.map bn).length:Int))) s8):=rfl;rw[z,e,ao]
theorem Iu(g:g6 fs es):∀(n N:Nat) (P:List PZ) (k:Int) (s8:Sl),P.Nodup->P.length<=21->P.length<n->n<N->k≠(P.length:Int) ->
  ∃d a,ii laT laB N (jA fs ss es P s4 s5 s6 (.shr (.int k)) s8)=.ok (.nx (jA fs ss es (ud es n P) s4 s5 s6 d a))
 | 0,_,_,_,_,_,_,h,_,_=>absurd h (dR _)
 |n+1,0,_,_,_,_,_,_,h,_=>absurd h (dR _)
 |n+1,N+1,P,k,s8,i,j,m,e,l=>by
  obtain⟨a,b⟩:=Vu (ss:=ss) (s4:=s4) (s5:=s5) (s6:=s6) (s7:=.shr (.int k)) (s8:=s8) g i j;have t:=ME (fs:=fs) (ss:=ss) (es:=es) (P:=P) (s4:=s4) (s5:=s5) (s6:=s6) (s8:=s8) (k:=k);rw[decide_eq_false l] at t;have sub:=sw P P (es:=es);have o:=sub.length_le;rw[Mz t b,ud];by_cases c:(uc es P P).length=P.length
  ·rw[if_pos c];have f:=ME (fs:=fs) (ss:=ss) (es:=es) (P:=uc es P P) (s4:=s4) (s5:=s5) (s6:=s6) (s8:=a) (k:=(P.length:Int));rw[decide_eq_true (by rw[c])] at f
   match N,e with
   | 0,e=>omega
   |N+1,_=>exact⟨_,_,MA f⟩
  ·rw[if_neg c];exact Iu g n N _ _ _ (i.sublist sub) ∅ ∅ ∅ (λz=>c ∅)
def FE(g:g6 fs es)(m:fs.Nodup):iS [c7 fs es,aL ss]=.ok (.list ((jf fs es ss).map bn)):=by
 have d:∀(a b:aI->R Fl) (ρ c:aI),a ρ=.ok (.nx c)->bh a b ρ=b c:=λa b ρ c h=>by unfold bh;rw[h];rfl
 have pl:=oz g.rise.len;have t:((dA fs).filter λp=>!fm ss p).length<=(dA fs).length:=dq _ _;have e:((dA fs).filter λp=>!fm ss p).Nodup:=(ue m).sublist fP;have o:=g.rise.len;obtain⟨k,j,f,i⟩:=SB (ss:=ss) (es:=es) (s7:=.no) (s8:=.no) o fs 0 [] .no .no .no rfl (by simp only[du];omega);rw[jF] at i;obtain⟨s,u,l⟩:=Iu (ss:=ss) (s4:=k) (s5:=j) (s6:=f) g 22 100000 ((dA fs).filter λp=>!fm ss p) (-1) .no e ∅ ∅ ∅ ∅;rw[Sx e ∅ (show _<=21 by omega)] at l;unfold iS;refine dL ?_;rw[Oq];have q:cL 9 [c7 fs es,aL ss]=[.shr (c7 fs es),.shr (aL ss),.no,.no,.no,.no,.no,.no,.no]:=rfl;rw[q];rw[d _ _ _ [.shr (c7 fs es),.shr (aL ss),.shr (aL fs),.no,.no,.no,.no,.no,.no] rfl];rw[d _ _ _ (jA fs ss es [] .no .no .no .no .no) rfl];have n:kY (yy (J.ag (rS 2) J.aJ)) (mw 2 (cO (bN 4) (cO (bN 5) nB))) (kY (gC (zm (rB 2) (yx (rS 4)) Ao)) (bN 6) Ir) (jA fs ss es [] .no .no .no .no .no)=lO (mw 2 (cO (bN 4) (cO (bN 5) nB))) (kY (gC (zm (rB 2) (yx (rS 4)) Ao)) (bN 6) Ir) (mi 0 (fs.map aN)) (jA fs ss es [] .no .no .no .no .no):=rfl;rw[d _ _ _ _ (n.trans i)];rw[d _ _ _ (jA fs ss es ((dA fs).filter λp=>!fm ss p) k j f (.shr (.int (-1))) .no) rfl];rw[d _ _ _ _ l];rfl
theorem Iv:∀{fs:List Str},(fs.Pairwise λa b=>qN a b=true)->∀p∈dA fs,p.1=p.2\/qN p.1 p.2=true
 |[],_,_,h=>nomatch h
 |x::r,d,p,h=>by
  obtain⟨f,e⟩:=List.pairwise_cons.mp d;rw[dA] at h;rcases List.mem_append.mp h with h|h
  ·obtain⟨y,c,rfl⟩:=List.mem_map.mp h;rcases List.mem_cons.mp c with rfl|c
   ·exact .inl rfl
   ·exact .inr (f y c)
  ·exact Iv e p h
def Os{p:PZ}(h:p.1=p.2\/qN p.1 p.2=true):jk [p.1,p.2]=[p.1,p.2]:=by
 refine yu (hG _) (qY _) (List.pairwise_cons.mpr ⟨λy a=>?_,sP ..⟩);rw[List.mem_singleton.mp a];cases q:qN p.2 p.1 with
 |false=>rfl
 |true=>
  rcases h with h|h
  ·rw[h] at q;exact q.symm.trans (mq _)
  ·exact(qX q h).symm.trans (mq _)
theorem Eb:∀(l a:List (List Str)),(a++l).Nodup->pQ a l=a++l
 |[],a,_=>by rw[cq];rfl
 |x::r,a,b=>by
  have c:x∉a:=λz=>(List.nodup_append.mp b).2.2 x z x aq rfl;rw[pQ,if_neg c,Eb r (a++[x]) (by rw[e8];exact b),e8];rfl
def Vv(z:E9 p=E9 q):p=q:=by
 unfold E9 at z;injection z with b a;injection a with a _;exact Prod.ext b a
def FF(h:∀q,q∈P↔q∈P')(p:PZ):dB es P p=dB es P' p:=by
 rw[lD];exact⟨o6 λq a=>(h q).mpr a,o6 λq a=>(h q).mp a⟩
def Vw(h:gc (fz ρ)=.ok d):eL (bX (J.ag gc J.aJ) (i8 q)) ρ=(q d).bind λd=>.ok (.rt d):=by
 have e:eL (bX (J.ag gc J.aJ) (i8 q)) ρ=((((gc (fz ρ)).bind λd=>(J.aJ (fz ρ)).bind λds=>.ok (d::ds)).bind (i8 q)).bind λd=>.ok (.rt d)):=rfl;rw[e,h];rfl
def KJ(b:p.1∈fs)(e:p.2∈fs):k9 [c7 fs es,bn p]=.ok (.bool true):=by
 unfold k9;refine dL ?_;have c:dh 1 [0] (gC (rB 1)) kT (q_ (rT (rB 0) "str") (g2 (rB 0) (g2 (rB 1) (kI 0) bu) (r6 false))) [.shr (c7 fs es),.shr (bn p)]=.ok (.list ([p.1,p.2].map λx=>bQ (decide (x∈fs)))):=by
  unfold dh;have d:gC (rB 1) [.shr (c7 fs es),.shr (bn p)]=.ok ([p.1,p.2].map aN):=rfl;rw[d,bind_ok,if_pos (by simp)];rw[dJ _ aN (λx=>bQ (decide (x∈fs))) [p.1,p.2] λx _=>fS rfl (by
   have z:q_ (rT (rB 0) "str") (g2 (rB 0) (g2 (rB 1) (kI 0) bu) (r6 false)) [.shr (.str x),.shr (c7 fs es)]=r6 false (.str x) (aL fs):=rfl;refine qM z ?_;rw[kz];rfl)]
  rfl
 have s1:gF (yc (j6 (fF (rT (rB 1) "tuple"))) (fF (g2 (bX (J.ag (rB 1) J.aJ) (i8 nA)) (kI 2) (pj true)))) (eL (kB false)) (λρ=>.ok (.nx ρ)) [.shr (c7 fs es),.shr (bn p)]=.ok (.nx [.shr (c7 fs es),.shr (bn p)]):=rfl;have a:cL 2 [c7 fs es,bn p]=[.shr (c7 fs es),.shr (bn p)]:=rfl;rw[a];unfold uY bh;rw[s1];refine qM (Vw (ρ:=[.shr (c7 fs es),.shr (bn p)]) c) ?_;rw[iy _ (λx=>decide (x∈fs))];simp[b,e,bind_ok]
def unP:List Str->PZ
 |[x,y]=>(x,y)
 |_=>(⟨#[]⟩,⟨#[]⟩)
def Ot{fs ss:List Str}{es:List lG}{A:List PZ}(g:g6 fs es)(d:∀p∈A,p∈dA fs)(f:A.Nodup)(o:A.length<=21){s3:Sl}:
  ∃a:List PZ,a.Perm A/\oq (pR 1 [] (gC (rB 2)) kT (bX (J.ag (bX (J.ag (rB 0) J.aJ) (i8 pS)) J.aJ) (i8 ig))) [.shr (c7 fs es),.shr (aL ss),.shr (.list (A.map bn)),s3]=.ok (.list (a.map bn)):=by
 have b:(A.map E9).Nodup:=List.pairwise_map.mpr (f.imp λh e=>h (Vv e));have c:pR 1 [] (gC (rB 2)) kT (bX (J.ag (bX (J.ag (rB 0) J.aJ) (i8 pS)) J.aJ) (i8 ig)) [.shr (c7 fs es),.shr (aL ss),.shr (.list (A.map bn)),s3]=.ok (A.map E9):=by
  unfold pR;have i:gC (rB 2) [.shr (c7 fs es),.shr (aL ss),.shr (.list (A.map bn)),s3]=.ok (A.map bn):=rfl;rw[i,bind_ok,if_pos (by rw[ao];omega)];rw[dJ _ bn bn A λp k=>fS rfl (by
   have z:bX (J.ag (bX (J.ag (rB 0) J.aJ) (i8 pS)) J.aJ) (i8 ig) [.shr (bn p)]=.ok (.tuple ((jk [p.1,p.2]).map .str)):=rfl;refine qM z ?_;rw[Os (Iv g.rise.up p (d p k))];rfl),bind_ok,Ay,oU]
  dsimp only;rw[if_neg (λz=>by obtain⟨p,_,e⟩:=List.mem_map.mp z;cases e),Eb _ [] (by rw[jF];exact b),jF]
 obtain⟨a,j,n⟩:∃a:List PZ,mj (A.map E9)=a.map E9/\a.Perm A:=by
  have:∀(l:List (List Str)) (B:List PZ),l.Perm (B.map E9)->∃a:List PZ,l=a.map E9/\a.Perm B:=λl B h=>by
   refine⟨l.map unP,?_,?_⟩
   ·rw[cK];refine(AI l).symm.trans (gP λx m=>?_);obtain⟨p,_,rfl⟩:=List.mem_map.mp (h.mem_iff.mp m);rfl
   ·refine(h.map unP).trans (.of_eq ?_);rw[cK];exact AI B
  exact this _ A (oT _)
 refine⟨a,n,?_⟩;unfold oq;rw[c,bind_ok,if_pos ⟨b,by rw[ao];omega⟩,j,<- Ay]
def SD:mI=bh (sR (f9 2 eB (J.ag (rS 0) (J.ag (rS 1) J.aJ)))) (bh (gF (yc (j6 (fF (rT (rB 2) "list"))) (j6 (fF (bX (J.ag (dh 1 [0] (gC (rB 2)) kT (f9 2 k9 (J.ag (rS 1) (J.ag (rS 0) J.aJ)))) J.aJ) (i8 (eA λbs=>bs.all id)))))) (λ_=>.no) (λρ=>.ok (.nx ρ))) (bh (ir 3 (oq (pR 1 [] (gC (rB 2)) kT (bX (J.ag (bX (J.ag (rB 0) J.aJ) (i8 pS)) J.aJ) (i8 ig))))) (eL (xk (bX (J.ag (dh 1 [1,0,3] (gC (rB 3)) kT (K3 (f9 2 fN (J.ag (rS 0) (J.ag (rS 1) J.aJ))) (f9 3 eF (J.ag (rS 2) (J.ag (rS 0) (J.ag (rS 3) J.aJ)))))) J.aJ) (i8 (eA λbs=>bs.any id))))))):=rfl
def Iw(h:p∈jf fs es ss):p∈dA fs/\fm ss p=false:=by
 obtain⟨a,b⟩:=cR.1 (Aw 21 _ h);exact⟨a,by simpa using b⟩
def SE(g:g6 fs es)(x:fs.Nodup)(h:yJ fs ss):gR [c7 fs es,aL ss,.list ((jf fs es ss).map bn)]=.ok (.bool true):=by
 have m:∀(a b:aI->R Fl) (ρ e:aI),a ρ=.ok (.nx e)->bh a b ρ=b e:=λa b ρ e h=>by unfold bh;rw[h];rfl
 have l:=E7 g (ss:=ss);have L:((dA fs).filter λp=>!fm ss p).length<=(dA fs).length:=dq _ _;have pl:=oz g.rise.len;have s:(jf fs es ss).Nodup:=((ue x).sublist fP).sublist (xL 21 _);have u:∀p∈jf fs es ss,dB es (jf fs es ss) p=false:=BS ∅;have f:∀p∈jf fs es ss,p.1∈fs/\p.2∈fs:=E6;have j:∀p∈jf fs es ss,p∈dA fs/\fm ss p=false:=λp d=>Iw d;generalize jf fs es ss=A at l s u f j ⊢;obtain⟨c,k,K⟩:=Ot (ss:=ss) (s3:=.no) g (λp d=>(j p d).1) s l;have la:c.length<=21:=by rw[k.length_eq];exact l
 have w:dh 1 [0] (gC (rB 2)) kT (f9 2 k9 (J.ag (rS 1) (J.ag (rS 0) J.aJ))) [.shr (c7 fs es),.shr (aL ss),.shr (.list (A.map bn)),.no]=.ok (.list (A.map λ_=>bQ true)):=by
  unfold dh;have i:gC (rB 2) [.shr (c7 fs es),.shr (aL ss),.shr (.list (A.map bn)),.no]=.ok (A.map bn):=rfl;rw[i,bind_ok,if_pos (by rw[ao];omega)];rw[dJ _ bn (λ_=>bQ true) A λp d=>fS rfl (by
   have z:f9 2 k9 (J.ag (rS 1) (J.ag (rS 0) J.aJ)) [.shr (bn p),.shr (c7 fs es)]=k9 [c7 fs es,bn p]:=rfl;exact qM z (KJ (f p d).1 (f p d).2))]
  rfl
 have v:dh 1 [1,0,3] (gC (rB 3)) kT (K3 (f9 2 fN (J.ag (rS 0) (J.ag (rS 1) J.aJ))) (f9 3 eF (J.ag (rS 2) (J.ag (rS 0) (J.ag (rS 3) J.aJ))))) [.shr (c7 fs es),.shr (aL ss),.shr (.list (A.map bn)),.shr (.list (c.map bn))]=.ok (.list (c.map λ_=>bQ false)):=by
  unfold dh;have i:gC (rB 3) [.shr (c7 fs es),.shr (aL ss),.shr (.list (A.map bn)),.shr (.list (c.map bn))]=.ok (c.map bn):=rfl;rw[i,bind_ok,if_pos (by rw[ao];omega)];rw[dJ _ bn (λ_=>bQ false) c λp d=>fS rfl (by
   have d:=k.mem_iff.mp d;show K3 (f9 2 fN (J.ag (rS 0) (J.ag (rS 1) J.aJ))) (f9 3 eF (J.ag (rS 2) (J.ag (rS 0) (J.ag (rS 3) J.aJ)))) [.shr (bn p),.shr (aL ss),.shr (c7 fs es),.shr (.list (c.map bn))]=_;left;rw[yM,(j p d).2];left;rw[BN g la,FF (λq=>k.mem_iff) p,u p d])]
  rfl
 unfold gR;refine dL ?_;rw[SD];have H:cL 4 [c7 fs es,aL ss,.list (A.map bn)]=[.shr (c7 fs es),.shr (aL ss),.shr (.list (A.map bn)),.no]:=rfl;rw[H];have y:f9 2 eB (J.ag (rS 0) (J.ag (rS 1) J.aJ)) [.shr (c7 fs es),.shr (aL ss),.shr (.list (A.map bn)),.no]=eB [c7 fs es,aL ss]:=rfl;rw[m _ _ _ [.shr (c7 fs es),.shr (aL ss),.shr (.list (A.map bn)),.no] (by unfold sR;rw[y,BI g h];rfl)];have G:wJ (.list (A.map bn))=true:=An _ (BO g.rise.ok f);have B:fF (rT (rB 2) "list") [.shr (c7 fs es),.shr (aL ss),.shr (.list (A.map bn)),.no]=.ok true:=by
  left;rw[if_pos G];rfl
 have E:eA (λbs=>bs.all id) (.list (A.map λ_=>bQ true))=.ok (.bool true):=by
  rw[iy _ (λ_=>true)];simp
 have n:=xM (q:=eA λbs=>bs.all id) w;rw[E] at n;have t:yc (j6 (fF (rT (rB 2) "list"))) (j6 (fF (bX (J.ag (dh 1 [0] (gC (rB 2)) kT (f9 2 k9 (J.ag (rS 1) (J.ag (rS 0) J.aJ)))) J.aJ) (i8 (eA λbs=>bs.all id))))) [.shr (c7 fs es),.shr (aL ss),.shr (.list (A.map bn)),.no]=.ok false:=by
  unfold yc j6;rw[B,n];rfl
 rw[m _ _ _ [.shr (c7 fs es),.shr (aL ss),.shr (.list (A.map bn)),.no] (by unfold gF;rw[t];rfl)];rw[m _ _ _ [.shr (c7 fs es),.shr (aL ss),.shr (.list (A.map bn)),.shr (.list (c.map bn))] (by unfold ir;rw[K];rfl)];have I:eA (λbs=>bs.any id) (.list (c.map λ_=>bQ false))=.ok (.bool false):=by
  rw[iy _ (λ_=>false)];simp
 have o:=xM (q:=eA λbs=>bs.any id) v;rw[I] at o;unfold eL xk;rw[show fz [.shr (c7 fs es),.shr (aL ss),.shr (.list (A.map bn)),.shr (.list (c.map bn))]=[.shr (c7 fs es),.shr (aL ss),.shr (.list (A.map bn)),.shr (.list (c.map bn))] from rfl,o];rfl
def lwB:aI->R Fl:=gF (fF (bX (J.ag (dh 1 [5] (gC (rB 4)) kT FD) J.aJ) (i8 (eA λbs=>bs.any id)))) (eL (kB false)) (λρ=>.ok (.nx ρ))
def lwT:aI->R Bool:=yc (fF (g2 (rB 4) (f9 2 iS (J.ag (rS 1) (J.ag (rS 2) J.aJ))) (pj true))) (fF (g2 (f9 3 gR (J.ag (rS 1) (J.ag (rS 2) (J.ag (rS 4) J.aJ)))) (kB true) (WB true)))
def Ou:Mp=bh (A1 (f9 3 l5 (J.ag (rS 0) (J.ag (kI 6) (J.ag (kI 6) J.aJ)))) (mw 3 (cO (bN 1) (cO (bN 2) (cO (bN 3) nB))))) (bh (ir 4 (f9 2 se (J.ag (rS 1) (J.ag (rS 2) J.aJ)))) (bh (gF lwT (eL (kB false)) (λρ=>.ok (.nx ρ))) (bh (kY (gC (f9 2 lw (J.ag (rS 1) (J.ag (rS 2) J.aJ)))) (bN 5) lwB) (eL (kB true))))):=rfl
def Vx{a b c w:Sl}{A:List PZ}{x:List Str}(i:A.length<=21)(h:∀q∈A,fm x q=false):lwB [a,b,c,w,.shr (.list (A.map bn)),.shr (aL x)]=.ok (.nx [a,b,c,w,.shr (.list (A.map bn)),.shr (aL x)]):=by
 have g:dh 1 [5] (gC (rB 4)) kT FD [a,b,c,w,.shr (.list (A.map bn)),.shr (aL x)]=.ok (.list (A.map λq=>bQ (fm x q))):=by
  unfold dh;have f:gC (rB 4) [a,b,c,w,.shr (.list (A.map bn)),.shr (aL x)]=.ok (A.map bn):=rfl;rw[f,bind_ok,if_pos (by rw[ao];omega)];rw[dJ _ bn (λq=>bQ (fm x q)) A λq _=>fS rfl (Sy x q)];rfl
 have d:=xM (q:=eA λbs=>bs.any id) g;rw[iy _ (fm x),jt,show A.any (id∘fm x)=false from List.any_eq_false.mpr λq e=>by rw[show(id∘fm x) q=fm x q from rfl,h q e];exact bd] at d;unfold lwB gF;rw[d];rfl
theorem SF{a b c w:Sl}{A:List PZ}(f:A.length<=21):∀(xs:List (List Str)) (s5:Sl),(∀x∈xs,∀q∈A,fm x q=false)->∃d,lO (bN 5) lwB (xs.map aL) [a,b,c,w,.shr (.list (A.map bn)),s5]=.ok (.nx [a,b,c,w,.shr (.list (A.map bn)),d])
 |[],s5,_=>⟨s5,rfl⟩
 |x::r,s5,h=>by
  obtain⟨d,e⟩:=SF (a:=a) (b:=b) (c:=c) (w:=w) f r (.shr (aL x)) λy g=>h y (ak _ g);refine⟨d,?_⟩;rw[aC,v7 (ρ1:=[a,b,c,w,.shr (.list (A.map bn)),.shr (aL x)]) rfl (Vx f (h x aq)),e]
def law_true(f:List Int):F_law [.list (f.map .int)]=.ok (.bool true):=by
 have l:∀(a b:aI->R Fl) (ρ k:aI),a ρ=.ok (.nx k)->bh a b ρ=b k:=λa b ρ k h=>by unfold bh;rw[h];rfl
 obtain⟨fs,es,ss,j,i,I,g,o,T,_⟩:=Vk f 6 6 ⋯ ⋯ ⋯ ⋯;have v:fs.Nodup:=g.rise.up.imp λh e=>by rw[e,mq] at h;cases h
 obtain⟨s,P,H,S,Q,L⟩:=KD g o;have u:=Sw g o;have le:=FE (ss:=ss) g v;have B:=SE g v o;have y:=E7 g (ss:=ss);have m:∀p∈jf fs es ss,p.1∈fs/\p.2∈fs:=E6;have so:∀x∈mj s,∀q∈jf fs es ss,fm x q=false:=λx O=>Ip g ((H x).1 ((oT s).mem_iff.1 O));generalize jf fs es ss=A at u le B y m so;obtain⟨n,E⟩:=SF (a:=.shr (.list (f.map .int))) (b:=.shr (c7 fs es)) (c:=.shr (aL ss)) (w:=.shr (su j i)) y (mj s) .no so;have M:f9 3 l5 (J.ag (rS 0) (J.ag (kI 6) (J.ag (kI 6) J.aJ))) [.shr (.list (f.map .int)),.no,.no,.no,.no,.no]=l5 [.list (f.map .int),.int 6,.int 6]:=rfl;unfold F_law;refine dL ?_;rw[Ou];show bh _ _ [.shr (.list (f.map .int)),.no,.no,.no,.no,.no]=_;rw[l _ _ _ [.shr (.list (f.map .int)),.shr (c7 fs es),.shr (aL ss),.shr (su j i),.no,.no] (by unfold A1;rw[M,I];rfl)];rw[l _ _ _ [.shr (.list (f.map .int)),.shr (c7 fs es),.shr (aL ss),.shr (su j i),.shr (.list (A.map bn)),.no] (by
  have:ir 4 (f9 2 se (J.ag (rS 1) (J.ag (rS 2) J.aJ))) [.shr (.list (f.map .int)),.shr (c7 fs es),.shr (aL ss),.shr (su j i),.no,.no]=(se [c7 fs es,aL ss]).bind λd=>.ok (.nx [.shr (.list (f.map .int)),.shr (c7 fs es),.shr (aL ss),.shr (su j i),.shr d,.no]):=rfl
  rw[this,u,bind_ok])]
 have N:fF (g2 (rB 4) (f9 2 iS (J.ag (rS 1) (J.ag (rS 2) J.aJ))) (pj true)) [.shr (.list (f.map .int)),.shr (c7 fs es),.shr (aL ss),.shr (su j i),.shr (.list (A.map bn)),.no]=.ok false:=by
  have z:fF (g2 (rB 4) (f9 2 iS (J.ag (rS 1) (J.ag (rS 2) J.aJ))) (pj true)) [.shr (.list (f.map .int)),.shr (c7 fs es),.shr (aL ss),.shr (su j i),.shr (.list (A.map bn)),.no]=(((iS [c7 fs es,aL ss]).bind λd=>pj true (.list (A.map bn)) d).bind λd=>match d with
   |.bool b=>.ok b
   |_=>.no):=rfl
  rw[z,le,bind_ok,MC true g.rise.ok m m];simp[bind_ok]
 have G:fF (g2 (f9 3 gR (J.ag (rS 1) (J.ag (rS 2) (J.ag (rS 4) J.aJ)))) (kB true) (WB true)) [.shr (.list (f.map .int)),.shr (c7 fs es),.shr (aL ss),.shr (su j i),.shr (.list (A.map bn)),.no]=.ok false:=by
  have z:fF (g2 (f9 3 gR (J.ag (rS 1) (J.ag (rS 2) (J.ag (rS 4) J.aJ)))) (kB true) (WB true)) [.shr (.list (f.map .int)),.shr (c7 fs es),.shr (aL ss),.shr (su j i),.shr (.list (A.map bn)),.no]=(((gR [c7 fs es,aL ss,.list (A.map bn)]).bind λd=>WB true d (.bool true)).bind λd=>match d with
   |.bool b=>.ok b
   |_=>.no):=rfl
  rw[z,B];rfl
 have t:lwT [.shr (.list (f.map .int)),.shr (c7 fs es),.shr (aL ss),.shr (su j i),.shr (.list (A.map bn)),.no]=.ok false:=by
  unfold lwT yc;rw[N,G];rfl
 rw[l _ _ _ [.shr (.list (f.map .int)),.shr (c7 fs es),.shr (aL ss),.shr (su j i),.shr (.list (A.map bn)),.no] (by unfold gF;rw[t];rfl)];have K:kY (gC (f9 2 lw (J.ag (rS 1) (J.ag (rS 2) J.aJ)))) (bN 5) lwB [.shr (.list (f.map .int)),.shr (c7 fs es),.shr (aL ss),.shr (su j i),.shr (.list (A.map bn)),.no]=.ok (.nx [.shr (.list (f.map .int)),.shr (c7 fs es),.shr (aL ss),.shr (su j i),.shr (.list (A.map bn)),n]):=by
  unfold kY;have z:gC (f9 2 lw (J.ag (rS 1) (J.ag (rS 2) J.aJ))) [.shr (.list (f.map .int)),.shr (c7 fs es),.shr (aL ss),.shr (su j i),.shr (.list (A.map bn)),.no]=(lw [c7 fs es,aL ss]).bind u4:=rfl;rw[z,L];exact E
 rw[l _ _ _ _ K];rfl
end Z
end
namespace Z
open PySem L2 J
def top(i:Nat):fg:=PySem.Challenge.pw_errands_k13_whole_apart.main.body.getD i (.Pass ⟨0,0,0,0⟩)
section
variable{e:En}
abbrev o7:fg:=top 10
abbrev xN:List Str:=["one","other"]
def CS:cg xN ["one","other"] (aH o7):=fM ∎
abbrev o8(e:En):=FN e "share_none" 1 2 eU
def CT(D:ju e.K e.mg "share_none" o7)(B:Bi e.mg):o8 e:=sY (k:=0) (g:=lT) D CS b2 λ_ _ _ _ _ _ _ f=>by unfold lT;exact(bf (cn (ES (cc (t_ rfl) rfl B.any eI (bL (JE.bor (JN.je (fR (N':=["fact","other"]) (ix:=[1]) 1 ⋯ rfl (c9 (so:=aH o7) (N:=xN) ∎) (fi (ar 0)) (λa j b c h d=>⟨cU (i:=0) (by show(["fact","other"]:List Str).Nodup;decide +kernel) rfl (.inl rfl),fc,(ms (r9) (ar 0) (ar 1))⟩)))) cm)))))
abbrev v9:fg:=top 11
abbrev Ec:List Str:=["facts","others"]
def KL:cg Ec ["facts","others"] (aH v9):=fM ∎
abbrev yN(e:En):=FN e "without" 1 2 ou
def KM(D:ju e.K e.mg "without" v9)(B:Bi e.mg):yN e:=sY (k:=0) (g:=uQ) D KL b2 λ_ _ _ _ _ _ _ f=>by unfold uQ;exact(bf (cn (gz (kN rfl) rfl B.tuple bE (bL (JE.bor (JN.je (fR (N':=["fact","others"]) (ix:=[1]) 1 ⋯ rfl (c9 (so:=aH v9) (N:=Ec) ∎) (fi (ar 0)) (λa j b c h d=>⟨cU (i:=0) (by show(["fact","others"]:List Str).Nodup;decide +kernel) rfl (.inl rfl),(nR (eV (tY) (ar 0) (ar 1))),(aw 0)⟩)))) cm))))
abbrev BU:fg:=top 12
abbrev SG:List Str:=["one","other"]
def Ov:cg SG ["one","other"] (aH BU):=fM ∎
abbrev Ix(e:En):=FN e "joined" 1 2 xD
def Ow(D:ju e.K e.mg "joined" BU)(B:Bi e.mg):Ix e:=sY (k:=0) (g:=xC) D Ov b2 λ_ _ _ _ _ _ _ a=>by unfold xC;exact(bf (cn (gz (kN rfl) rfl B.tuple bE (bL (JE.bor (B9 rfl (XN (Kb rfl (ar 0) rfl B.set) (Kb rfl (ar 1) rfl B.set)) rfl B.sorted)) cm))))
abbrev vc:fg:=top 13
abbrev Ed:List Str:=["thing"]
def KN:cg Ed ["thing"] (aH vc):=fM ∎
abbrev yO(e:En):=FN e "is_word" 1 1 rq
def KO(D:ju e.K e.mg "is_word" vc)(B:Bi e.mg)(a:Cn e.mg "MOST_LETTERS" 6):yO e:=sY (k:=0) (g:=uR) D KN b1 λ_ _ _ _ _ _ _ h=>by unfold uR;exact(aO (iK (JW.t (mU (hJ (fX (qx (ar 0) rfl B.isinstance rfl B.str AJ ⋯))) (lN (hJ (Qo (Du) (Du) (JE.bor aQ) (JE.bor (cc jS rfl B.len cG (bL (ar 0) cm))) (JE.bor (xj rfl a))))))) (bf (cn mh)) eE) (bf (cn (cc (rV rfl) rfl B.all dG (bL (JE.bor (JN.je (fR (N':=["sign"]) (ix:=[]) 1 ⋯ rfl (c9 (so:=aH vc) (N:=Ed) ∎) (fi (ar 0)) (λb l c d j f=>⟨cU (i:=0) (by show(["sign"]:List Str).Nodup;decide +kernel) rfl (.inl rfl),fc,(GU (Du) (Du) (JE.bor EQ) (ar 0) (JE.bor EQ))⟩)))) cm)))))
abbrev hX:fg:=top 14
abbrev l7:List Str:=["thing"]
def vt:cg l7 ["thing"] (aH hX):=fM ∎
abbrev l8(e:En):=FN e "are_rising_words" 2 1 hW
def vv(D:ju e.K e.mg "are_rising_words" hX)(B:Bi e.mg)(a:yO e):l8 e:=sY (k:=1) (g:=j8) D vt b1 λ_ _ _ _ _ _ _ h=>by unfold j8;exact(aO (iK (JW.t (mU (hJ (fX (qx (ar 0) rfl B.isinstance rfl B.tuple bE ⋯))) (lN (hJ (fX (cc (rV rfl) rfl B.all dG (bL (JE.bor (JN.je (fR (N':=["word"]) (ix:=[]) 1 ⋯ rfl (c9 (so:=aH hX) (N:=l7) ∎) (fi (ar 0)) (λb l c d j f=>⟨cU (i:=0) (by show(["word"]:List Str).Nodup;decide +kernel) rfl (.inl rfl),fc,(jc a h fA (aj (aw 0) aY))⟩)))) cm))))))) (bf (cn mh)) eE) (bf (cn (cc (rV rfl) rfl B.all dG (bL (JE.bor (JN.je (fR (N':=["low","high"]) (ix:=[]) 2 ⋯ rfl (c9 (so:=aH hX) (N:=l7) ∎) (OT.i (Uz rfl B.zip (aj (aw 0) (aj (oP (ar 0) (pK aQ) uG) aY)))) (λb l c d j f=>⟨Ey rfl (oJ (cU (i:=0) (by show(["low","high"]:List Str).Nodup;decide +kernel) rfl (.inl rfl)) (oJ (cU (i:=1) (by show(["low","high"]:List Str).Nodup;decide +kernel) rfl (.inl rfl)) Ak)),fc,(ms (Dt) (ar 0) (ar 1))⟩)))) cm)))))
abbrev qh:fg:=top 15
abbrev zA:List Str:=["book_facts","thing"]
def FG:cg zA ["book_facts","thing"] (aH qh):=fM ∎
abbrev uf(e:En):=FN e "are_facts" 3 2 lv
def FH(D:ju e.K e.mg "are_facts" qh)(B:Bi e.mg)(a:l8 e):uf e:=sY (k:=2) (g:=pT) D FG b2 λ_ _ _ _ _ _ _ b=>by unfold pT;exact(bf (cn (wa (jc a b px (aj (aw 1) aY)) (tV (cc (rV rfl) rfl B.all dG (bL (JE.bor (JN.je (fR (N':=["fact","book_facts"]) (ix:=[0]) 1 ⋯ rfl (c9 (so:=aH qh) (N:=zA) ∎) (fi (ar 1)) (λc l d f j h=>⟨cU (i:=0) (by show(["fact","book_facts"]:List Str).Nodup;decide +kernel) rfl (.inl rfl),fc,(ms (r9) (ar 0) (ar 1))⟩)))) cm))))))
abbrev wp:fg:=top 16
abbrev KP:List Str:=["thing","least","most"]
def Iy:cg KP ["thing","least","most"] (aH wp):=fM ∎
abbrev BV(e:En):=FN e "is_whole" 1 3 sd
def Iz(D:ju e.K e.mg "is_whole" wp)(B:Bi e.mg):BV e:=sY (k:=0) (g:=r_) D Iy b3 λ_ _ _ _ _ _ _ a=>by unfold r_;exact(aO (iK (JW.t (mU (hJ (fX (qx (ar 0) rfl B.isinstance rfl B.int PyProof.Rows.boot_int ⋯))) (lN (fX (qx (ar 0) rfl B.isinstance rfl B.bool PyProof.Rows.boot_bool ⋯))))) (bf (cn mh)) eE) (bf (cn (GU (Du) (Du) (ar 1) (ar 0) (ar 2)))))
abbrev qi:fg:=top 17
abbrev zB:List Str:=["book_facts","thing","name","needs","bars","makes","ends","price"]
def jg:cg zB ["book_facts","thing"] (aH qi):=fM ∎
abbrev zC(e:En):=FN e "is_errand" 4 2 pV
def FI(D:ju e.K e.mg "is_errand" qi)(B:Bi e.mg)(d:yO e)(f:BV e)(h:uf e)(c:o8 e)(j:Cn e.mg "MOST_PRICE" 9):zC e:=sY (k:=3) (g:=pU) D jg b2 λ_ _ _ _ _ _ _ a=>by have b:=a.units;unfold pU;exact(aO (iK (JW.t (mU (hJ (fX (qx (ar 1) rfl B.isinstance rfl B.tuple bE ⋯))) (lN (eV (zk b) (JE.bor (cc jS rfl B.len cG (bL (ar 1) cm))) (JE.bor aQ))))) (bf (cn mh)) eE) (aO (A_ (aw 1) (rW rfl (dI (dw 2 jg.nd) (dI (dw 3 jg.nd) (dI (dw 4 jg.nd) (dI (dw 5 jg.nd) (dI (dw 6 jg.nd) (dI (dw 7 jg.nd) nP)))))))) (aO (iK (JW.t (mU (hJ (fX (jc d a px (aj (aw 2) aY)))) (lN (hJ (fX (jc f a px (aj (aw 7) (aj aQ (aj (xj rfl j) aY))))))))) (bf (cn mh)) eE) (aO (iK (hJ (fX (cc (rV rfl) rfl B.all dG (bL (JE.bor (JN.je (fR (N':=["facts","book_facts"]) (ix:=[0]) 1 ⋯ rfl (c9 (so:=aH qi) (N:=zB) ∎) (fi (JE.bor (mv (aj (aw 3) (aj (aw 4) (aj (aw 5) (aj (aw 6) aY))))))) (λl q m n p o=>⟨cU (i:=0) (by show(["facts","book_facts"]:List Str).Nodup;decide +kernel) rfl (.inl rfl),fc,(jc h a fA (aj (aw 1) (aj (aw 0) aY)))⟩)))) cm)))) (bf (cn mh)) eE) (bf (cn (wa (jc c a px (aj (aw 3) (aj (aw 4) aY))) (tV (jc c a px (aj (aw 5) (aj (aw 6) aY)))))))))))
abbrev rA:fg:=top 18
abbrev yP:List Str:=["thing","facts","errands"]
def wt:cg yP ["thing"] (aH rA):=fM ∎
abbrev Ee(e:En):=FN e "is_book" 5 1 uT
def KQ(D:ju e.K e.mg "is_book" rA)(B:Bi e.mg)(f:l8 e)(q:zC e)(p:Cn e.mg "MOST_FACTS" 6)(d:Cn e.mg "MOST_ERRANDS" 6):Ee e:=sY (k:=4) (g:=uS) D wt b1 λ_ _ _ _ _ _ _ b=>by have c:=li b;have a:=b.units;unfold uS;exact(aO (iK (JW.t (mU (hJ (fX (qx (ar 0) rfl B.isinstance rfl B.tuple bE ⋯))) (lN (eV (zk a) (JE.bor (cc jS rfl B.len cG (bL (ar 0) cm))) (JE.bor aQ))))) (bf (cn mh)) eE) (aO (A_ (aw 0) (rW rfl (dI (dw 1 wt.nd) (dI (dw 2 wt.nd) nP)))) (aO (iK (JW.t (mU (hJ (fX (jc f b px (aj (aw 1) aY)))) (lN (eV (VV) (JE.bor (cc jS rfl B.len cG (bL (ar 1) cm))) (JE.bor (xj rfl p)))))) (bf (cn mh)) eE) (aO (iK (JW.t (mU (hJ (fX (qx (ar 2) rfl B.isinstance rfl B.tuple bE ⋯))) (lN (eV (VV) (JE.bor (cc jS rfl B.len cG (bL (ar 2) cm))) (JE.bor (xj rfl d)))))) (bf (cn mh)) eE) (aO (iK (hJ (fX (cc (rV rfl) rfl B.all dG (bL (JE.bor (JN.je (fR (N':=["errand","facts"]) (ix:=[1]) 1 ⋯ rfl (c9 (so:=aH rA) (N:=yP) ∎) (fi (ar 2)) (λj h l m o n=>⟨cU (i:=0) (by show(["errand","facts"]:List Str).Nodup;decide +kernel) rfl (.inl rfl),fc,(jc q b fA (aj (aw 1) (aj (aw 0) aY)))⟩)))) cm)))) (bf (cn mh)) eE) (bf (cn (ms (zj a) (JE.bor (Nz (Qp (N':=["errand"]) (ix:=[]) 1 ⋯ rfl (c9 (so:=aH rA) (N:=yP) ∎) (fi (ar 2)) (λj h l m o n=>⟨cU (i:=0) (by show(["errand"]:List Str).Nodup;decide +kernel) rfl (.inl rfl),fc,(cS c (ar 0) (JE.bor aQ))⟩)) rfl B.len)) (JE.bor (cc jS rfl B.len cG (bL (ar 2) cm)))))))))))
abbrev qC:fg:=top 19
abbrev CU:List Str:=["book","state"]
def BW:cg CU ["book","state"] (aH qC):=fM ∎
abbrev vP(e:En):=FN e "check_state" 4 2 mG
def BX(D:ju e.K e.mg "check_state" qC)(c:uf e):vP e:=sY (k:=3) (g:=mF) D BW b2 λ_ _ _ _ _ _ _ b=>by have a:=li b;unfold mF;exact(bf (iK (hJ (fX (jc c b px (aj (cS a (ar 0) (JE.bor aQ)) (aj (aw 1) aY))))) (bf Bm) eE))
abbrev vd:fg:=top 20
abbrev Ef:List Str:=["state","want","must","bars"]
def wu:cg Ef ["state","want"] (aH vd):=fM ∎
abbrev Eg(e:En):=FN e "fulfils" 2 2 uV
def KR(D:ju e.K e.mg "fulfils" vd)(B:Bi e.mg)(b:o8 e):Eg e:=sY (k:=1) (g:=uU) D wu b2 λ_ _ _ _ _ _ _ a=>by unfold uU;exact(aO (A_ (aw 1) (rW rfl (dI (dw 2 wu.nd) (dI (dw 3 wu.nd) nP)))) (bf (cn (wa (cc (rV rfl) rfl B.all dG (bL (JE.bor (JN.je (fR (N':=["fact","state"]) (ix:=[0]) 1 ⋯ rfl (c9 (so:=aH vd) (N:=Ef) ∎) (fi (ar 2)) (λc l d f j h=>⟨cU (i:=0) (by show(["fact","state"]:List Str).Nodup;decide +kernel) rfl (.inl rfl),fc,(ms (r9) (ar 0) (ar 1))⟩)))) cm)) (tV (jc b a px (aj (aw 3) (aj (aw 0) aY))))))))
abbrev uh:fg:=top 21
abbrev IA:List Str:=["errand","state"]
def FJ:cg IA ["errand","state"] (aH uh):=fM ∎
abbrev zD(e:En):=FN e "is_doable" 3 2 pX
def FK(D:ju e.K e.mg "is_doable" uh)(c:Eg e):zD e:=sY (k:=2) (g:=pW) D FJ b2 λ_ _ _ _ _ _ _ b=>by have a:=li b;unfold pW;exact(bf (cn (jc c b px (aj (aw 1) (aj (mv (aj (cS a (ar 0) (JE.bor aQ)) (aj (cS a (ar 0) (JE.bor aQ)) aY))) aY)))))
abbrev pf:fg:=top 22
abbrev BY:List Str:=["errand","state","makes","ends"]
def sW:cg BY ["errand","state"] (aH pf):=fM ∎
abbrev ui(e:En):=FN e "state_behind" 2 2 lV
def A8(D:ju e.K e.mg "state_behind" pf)(d:yN e)(c:Ix e):ui e:=sY (k:=1) (g:=lU) D sW b2 λ_ _ _ _ _ _ _ b=>by have a:=li b;unfold lU;exact(aO (XO 2 3 rfl sW.nd (aj (cS a (ar 0) (JE.bor aQ)) (aj (cS a (ar 0) (JE.bor aQ)) aY))) (bf (cn (jc c b px (aj (jc d b px (aj (aw 1) (aj (aw 3) aY))) (aj (aw 2) aY))))))
abbrev yR:fg:=top 23
abbrev Ox:List Str:=["book"]
def KS:cg Ox ["book"] (aH yR):=fM ∎
abbrev Eh(e:En):=FN e "checked" 6 1 uX
def KU(D:ju e.K e.mg "checked" yR)(a:Ee e):Eh e:=sY (k:=5) (g:=uW) D KS b1 λ_ _ _ _ _ _ _ b=>by unfold uW;exact(aO (iK (hJ (fX (jc a b px (aj (aw 0) aY)))) (bf Bm) eE) (bf (cn (aw 0))))
abbrev qD:fg:=top 24
abbrev CV:List Str:=["book","state"]
def B_:cg CV ["book","state"] (aH qD):=fM ∎
abbrev mL(e:En):=FN e "check_place" 7 2 eB
def C0(D:ju e.K e.mg "check_place" qD)(c:Eh e)(b:vP e):mL e:=sY (k:=6) (g:=mH) D B_ b2 λ_ _ _ _ _ _ _ a=>by unfold mH;exact(aO (xl (jc c a px (aj (aw 0) aY))) (bf (xl (jc b a px (aj (aw 0) (aj (aw 1) aY))))))
abbrev qj:fg:=top 26
abbrev zE:List Str:=["facts"]
def FL:cg zE ["facts"] (aH qj):=fM ∎
abbrev zF(e:En):=FN e "all_pairs" 1 1 iR
def FM(D:ju e.K e.mg "all_pairs" qj)(B:Bi e.mg):zF e:=sY (k:=0) (g:=pY) D FL b1 λ_ _ _ _ _ _ _ f=>by unfold pY;exact(bf (cn (JN.je (Rw (N':=["at","low","high","facts"]) (ix:=[0]) 2 ⋯ rfl (c9 (so:=aH qj) (N:=zE) ∎) (OT.i (u5 rfl B.enumerate (aj (aw 0) aY))) (λa j b c h d=>⟨Ey rfl (oJ (cU (i:=0) (by show(["at","low","high","facts"]:List Str).Nodup;decide +kernel) rfl (.inl rfl)) (oJ (cU (i:=1) (by show(["at","low","high","facts"]:List Str).Nodup;decide +kernel) rfl (.inl rfl)) Ak)),fc,(fi (JE.bor (oP (ar 3) (pK (aw 0)) uG))),cU (i:=2) (by show(["at","low","high","facts"]:List Str).Nodup;decide +kernel) rfl (.inl rfl),fc,(mv (aj (aw 1) (aj (aw 2) aY)))⟩)))))
abbrev uj:fg:=top 27
abbrev IB:List Str:=["pair","facts"]
def FO:cg IB ["pair","facts"] (aH uj):=fM ∎
abbrev qk(e:En):=FN e "stands_in" 1 2 fN
def FP(D:ju e.K e.mg "stands_in" uj):qk e:=sY (k:=0) (g:=pZ) D FO b2 λ_ _ _ _ _ _ _ b=>by have a:=li b;unfold pZ;exact(bf (cn (wa (ms (r9) (JE.bor (cS a (ar 0) (JE.bor aQ))) (ar 1)) (tV (ms (r9) (JE.bor (cS a (ar 0) (JE.bor aQ))) (ar 1))))))
abbrev xO:fg:=top 28
abbrev IC:List Str:=["errand","pair","pairs","needs","bars","makes","ends","unmade","ahead"]
def mz:cg IC ["errand","pair","pairs"] (aH xO):=fM ∎
abbrev ID(e:En):=FN e "brings" 2 3 xF
def Oy(D:ju e.K e.mg "brings" xO)(B:Bi e.mg)(f:yN e)(c:o8 e)(d:qk e):ID e:=sY (k:=1) (g:=xE) D mz b3 λ_ _ _ _ _ _ _ a=>by have b:=a.units;unfold xE;exact(aO (A_ (oP (ar 0) (pK aQ) (pK aQ)) (rW rfl (dI (dw 3 mz.nd) (dI (dw 4 mz.nd) (dI (dw 5 mz.nd) (dI (dw 6 mz.nd) nP)))))) (aO (gn 7 (jc f a px (aj (aw 1) (aj (aw 5) aY))) mz.nd) (aO (iK (JW.t (mU (eV (zj b) (JE.bor (cc jS rfl B.len cG (bL (ar 7) cm))) (JE.bor aQ)) (mU (hJ (fX (jc c a px (aj (aw 1) (aj (aw 6) aY))))) (lN (hJ (fX (jc c a px (aj (aw 7) (aj (aw 4) aY))))))))) (bf (cn mh)) eE) (aO (gn 8 (cJ e7 (ar 3) (ar 7)) mz.nd) (bf (cn (ES (cc (t_ rfl) rfl B.any eI (bL (JE.bor (JN.je (fR (N':=["other","ahead"]) (ix:=[8]) 1 ⋯ rfl (c9 (so:=aH xO) (N:=IC) ∎) (fi (ar 2)) (λh o j l n m=>⟨cU (i:=0) (by show(["other","ahead"]:List Str).Nodup;decide +kernel) rfl (.inl rfl),fc,(jc d a fA (aj (aw 0) (aj (aw 1) aY)))⟩)))) cm)))))))))
abbrev o9:fg:=top 29
abbrev xP:List Str:=["book","pair","pairs"]
def CW:cg xP ["book","pair","pairs"] (aH o9):=fM ∎
abbrev sA(e:En):=FN e "is_brought" 3 3 eF
def CY(D:ju e.K e.mg "is_brought" o9)(B:Bi e.mg)(c:ID e):sA e:=sY (k:=2) (g:=nV) D CW b3 λ_ _ _ _ _ _ _ b=>by have a:=li b;unfold nV;exact(bf (cn (cc (t_ rfl) rfl B.any eI (bL (JE.bor (JN.je (fR (N':=["errand","pair","pairs"]) (ix:=[1,2]) 1 ⋯ rfl (c9 (so:=aH o9) (N:=xP) ∎) (fi (JE.bor (cS a (ar 0) (JE.bor aQ)))) (λd m f h l j=>⟨cU (i:=0) (by show(["errand","pair","pairs"]:List Str).Nodup;decide +kernel) rfl (.inl rfl),fc,(jc c b fA (aj (aw 0) (aj (aw 1) (aj (aw 2) aY))))⟩)))) cm))))
abbrev ve:fg:=top 30
abbrev Ei:List Str:=["book","thing"]
def KW:cg Ei ["book","thing"] (aH ve):=fM ∎
abbrev Ej(e:En):=FN e "is_pair" 1 2 k9
def KY(D:ju e.K e.mg "is_pair" ve)(B:Bi e.mg):Ej e:=sY (k:=0) (g:=uY) D KW b2 λ_ _ _ _ _ _ _ c=>by have b:=li c;have a:=c.units;unfold uY;exact(aO (iK (JW.t (mU (hJ (fX (qx (ar 1) rfl B.isinstance rfl B.tuple bE ⋯))) (lN (eV (zk a) (JE.bor (cc jS rfl B.len cG (bL (ar 1) cm))) (JE.bor aQ))))) (bf (cn mh)) eE) (bf (cn (cc (rV rfl) rfl B.all dG (bL (JE.bor (JN.je (fR (N':=["fact","book"]) (ix:=[0]) 1 ⋯ rfl (c9 (so:=aH ve) (N:=Ei) ∎) (fi (ar 1)) (λd m f h l j=>⟨cU (i:=0) (by show(["fact","book"]:List Str).Nodup;decide +kernel) rfl (.inl rfl),fc,(wa (qx (ar 0) rfl B.isinstance rfl B.str AJ ⋯) (tV (ms (r9) (ar 0) (JE.bor (cS b (ar 1) (JE.bor aQ))))))⟩)))) cm)))))
abbrev vf:fg:=top 31
abbrev Az:List Str:=["book","state","pairs","kept"]
def uk:cg Az ["book","state"] (aH vf):=fM ∎
abbrev MF(e:En):=FN e "apart" 8 2 se
def SH(D:ju e.K e.mg "apart" vf)(q:mL e)(o:zF e)(p:qk e)(m:sA e):MF e:=sY (k:=7) (g:=At) D uk b2 λ_ _ _ _ _ _ _ a=>by have c:=li a;have b:=a.units;unfold At;exact(aO (xl (jc q a px (aj (aw 0) (aj (aw 1) aY)))) (aO (nQ 2 (fR (N':=["pair","state"]) (ix:=[1]) 1 ⋯ rfl (c9 (so:=aH vf) (N:=Az) ∎) (fi (JE.bor (jc o a px (aj (cS c (ar 0) (JE.bor aQ)) aY)))) (λd n f h l j=>⟨cU (i:=0) (by show(["pair","state"]:List Str).Nodup;decide +kernel) rfl (.inl rfl),(nR (hJ (fX (jc p a fA (aj (aw 0) (aj (aw 1) aY)))))),(aw 0)⟩)) uk.nd) (aO (yA 2 (kX 3 (N':=["pair","book","pairs"]) (ix:=[0,2]) 1 ⋯ uk.nd rfl (c9 (so:=aH vf) (N:=Az) ∎) (fi (ar 2)) (λd n f h l j=>⟨cU (i:=0) (by show(["pair","book","pairs"]:List Str).Nodup;decide +kernel) rfl (.inl rfl),(nR (hJ (fX (jc m a fA (aj (aw 1) (aj (aw 0) (aj (aw 2) aY))))))),(aw 0)⟩))) (aO (B7 100000 (eV (zk b) (ar 3) (ar 2)) (aO (yA 3 (gn 2 (aw 3) uk.nd)) (bf (yA 2 (kX 3 (N':=["pair","book","pairs"]) (ix:=[0,2]) 1 ⋯ uk.nd rfl (c9 (so:=aH vf) (N:=Az) ∎) (fi (ar 2)) (λd n f h l j=>⟨cU (i:=0) (by show(["pair","book","pairs"]:List Str).Nodup;decide +kernel) rfl (.inl rfl),(nR (hJ (fX (jc m a fA (aj (aw 1) (aj (aw 0) (aj (aw 2) aY))))))),(aw 0)⟩)))))) (bf (cn (aw 3)))))))
abbrev jv:fg:=top 32
abbrev mM:List Str:=["book","state","pairs","unlike"]
def um:cg mM ["book","state","pairs"] (aH jv):=fM ∎
abbrev vQ(e:En):=FN e "keeps_apart" 8 3 gR
def C2(D:ju e.K e.mg "keeps_apart" jv)(B:Bi e.mg)(p:mL e)(m:Ej e)(n:qk e)(o:sA e):vQ e:=sY (k:=7) (g:=mI) D um b3 λ_ _ _ _ _ _ _ b=>by have a:=b.units;unfold mI;exact(aO (xl (jc p b px (aj (aw 0) (aj (aw 1) aY)))) (aO (iK (JW.t (mU (hJ (fX (qx (ar 2) rfl B.isinstance rfl B.list iM ⋯))) (lN (hJ (fX (cc (rV rfl) rfl B.all dG (bL (JE.bor (JN.je (fR (N':=["pair","book"]) (ix:=[0]) 1 ⋯ rfl (c9 (so:=aH jv) (N:=mM) ∎) (fi (ar 2)) (λc l d f j h=>⟨cU (i:=0) (by show(["pair","book"]:List Str).Nodup;decide +kernel) rfl (.inl rfl),fc,(jc m b fA (aj (aw 1) (aj (aw 0) aY)))⟩)))) cm))))))) (bf Bm) eE) (aO (gn 3 (HJ rfl a (NZ (N':=["pair"]) (ix:=[]) 1 ⋯ rfl a (c9 (so:=aH jv) (N:=mM) ∎) (fi (ar 2)) (λc l d f j h=>⟨cU (i:=0) (by show(["pair"]:List Str).Nodup;decide +kernel) rfl (.inl rfl),fc,(gz (kN rfl) rfl B.tuple bE (bL (JE.bor (cc Kr rfl B.sorted i7 (bL (ar 0) cm))) cm))⟩)) rfl B.sorted) um.nd) (bf (cn (ES (cc (t_ rfl) rfl B.any eI (bL (JE.bor (JN.je (fR (N':=["pair","state","book","unlike"]) (ix:=[1,0,3]) 1 ⋯ rfl (c9 (so:=aH jv) (N:=mM) ∎) (fi (ar 3)) (λc l d f j h=>⟨cU (i:=0) (by show(["pair","state","book","unlike"]:List Str).Nodup;decide +kernel) rfl (.inl rfl),fc,(Zo (jc n b fA (aj (aw 0) (aj (aw 1) aY))) (tV (jc o b fA (aj (aw 2) (aj (aw 0) (aj (aw 3) aY))))))⟩)))) cm))))))))
abbrev og:fg:=top 34
abbrev xQ:List Str:=["book","state"]
def CZ:cg xQ ["book","state"] (aH og):=fM ∎
abbrev xR(e:En):=FN e "steps_from" 4 2 lW
def C_(D:ju e.K e.mg "steps_from" og)(c:zD e)(d:ui e):xR e:=sY (k:=3) (g:=nW) D CZ b2 λ_ _ _ _ _ _ _ b=>by have a:=li b;unfold nW;exact(bf (cn (JN.je (fR (N':=["errand","state"]) (ix:=[1]) 1 ⋯ rfl (c9 (so:=aH og) (N:=xQ) ∎) (fi (JE.bor (cS a (ar 0) (JE.bor aQ)))) (λf n h j m l=>⟨cU (i:=0) (by show(["errand","state"]:List Str).Nodup;decide +kernel) rfl (.inl rfl),(nR (fX (jc c b fA (aj (aw 0) (aj (aw 1) aY))))),(mv (aj (aw 0) (aj (jc d b fA (aj (aw 0) (aj (aw 1) aY))) aY)))⟩)))))
abbrev sB:fg:=top 35
abbrev FQ:List Str:=["book","state","rows","ring","next_ring","at","errand","behind"]
def gS:cg FQ ["book","state"] (aH sB):=fM ∎
abbrev xS(e:En):=FN e "first_rows" 5 2 nY
def D0(D:ju e.K e.mg "first_rows" sB)(c:xR e):xS e:=sY (k:=4) (g:=nX) D gS b2 λ_ _ _ _ _ _ _ b=>by have a:=li b;unfold nX;exact(aO (nQ 2 (Rf a (aw 1) (oO aY)) gS.nd) (aO (nQ 3 (B0 (aj (aw 1) aY)) gS.nd) (aO (B7 100000 (XX (ar 3)) (aO (nQ 4 (B0 aY) gS.nd) (aO (UB 3 rfl (dw 5 gS.nd) (bf (oQ rfl (xm (jc c b fA (aj (aw 0) (aj (aw 5) aY)))) (rW rfl (dI (dw 6 gS.nd) (dI (dw 7 gS.nd) nP))) (bf (iK (eV (NF a) (ar 7) (ar 2)) (aO (Re 2 (cJ e7 (JE.bor (XT a (ar 2) (ar 5))) (JE.bor (oO (aj (cS a (ar 6) (JE.bor aQ)) aY)))) (aw 7) a) (bf (uJ 4 (aw 7)))) eE))))) (bf (yA 4 (gn 3 (aw 4) gS.nd)))))) (bf (XY 2 (cn (aw 2)))))))
abbrev yV:fg:=top 36
abbrev Oz:List Str:=["book","state"]
def KZ:cg Oz ["book","state"] (aH yV):=fM ∎
abbrev Ek(e:En):=FN e "reached" 8 2 lw
def K_(D:ju e.K e.mg "reached" yV)(B:Bi e.mg)(d:mL e)(c:xS e):Ek e:=sY (k:=7) (g:=uZ) D KZ b2 λ_ _ _ _ _ _ _ b=>by have a:=b.units;unfold uZ;exact(aO (xl (jc d b px (aj (aw 0) (aj (aw 1) aY)))) (bf (cn (cc (Kh rfl a) rfl B.sorted i7 (bL (JE.bor (jc c b px (aj (aw 0) (aj (aw 1) aY)))) cm)))))
abbrev qF:fg:=top 38
abbrev D1:List Str:=["_law_script","_law_k"]
def C3:cg D1 ["_law_script","_law_k"] (aH qF):=fM ∎
abbrev vR(e:En):=FN e "_law_cell_at" 1 2 mK
def C4(D:ju e.K e.mg "_law_cell_at" qF)(B:Bi e.mg):vR e:=sY (k:=0) (g:=mJ) D C3 b2 λ_ _ _ _ _ _ _ c=>by have b:=li c;have a:=c.units;unfold mJ;exact(aO (iK (eV (Dt) (ar 1) (JE.bor (cc jS rfl B.len cG (bL (ar 0) cm)))) (bf (cn (cS b (ar 0) (ar 1)))) eE) (aO (iK (eV (zj a) (ar 0) (JE.bor (oO aY))) (bf (cn aQ)) eE) (bf (cn (cJ e7 (JE.bor (cJ tX (JE.bor (cS b (ar 0) (JE.bor (cJ ET (ar 1) (JE.bor (cc jS rfl B.len cG (bL (ar 0) cm))))))) (JE.bor aQ))) (ar 1))))))
abbrev uq:fg:=top 39
abbrev IE:List Str:=["_law_script","_law_k","_law_many","_law_drawn"]
def xT:cg IE ["_law_script","_law_k","_law_many"] (aH uq):=fM ∎
abbrev iC(e:En):=FN e "_law_mixed" 2 3 bP
def FR(D:ju e.K e.mg "_law_mixed" uq)(a:vR e):iC e:=sY (k:=1) (g:=p_) D xT b3 λ_ _ _ _ _ _ _ b=>by unfold p_;exact(aO (gn 3 (cJ ET (JE.bor (cJ tX (JE.bor (cJ e7 (JE.bor (cJ e7 (JE.bor (jc a b px (aj (aw 0) (aj (aw 1) aY)))) (JE.bor (cJ tX (JE.bor aQ) (ar 1))))) (JE.bor aQ))) (JE.bor aQ))) (JE.bor aQ)) xT.nd) (bf (cn (cJ ET (JE.bor (cJ ET (JE.bor (cJ e7 (JE.bor (cJ e7 (JE.bor (cJ tX (ar 3) (ar 3))) (JE.bor (cJ tX (JE.bor aQ) (ar 3))))) (ar 1))) (JE.bor aQ))) (ar 2)))))
abbrev wv:fg:=top 40
abbrev L3:List Str:=["_law_script","_law_at","_law_made","_law_k"]
def qm:cg L3 ["_law_script","_law_at"] (aH wv):=fM ∎
abbrev ww(e:En):=FN e "_law_word" 3 2 my
def IF(D:ju e.K e.mg "_law_word" wv)(B:Bi e.mg)(c:iC e):ww e:=sY (k:=2) (g:=sf) D qm b2 λ_ _ _ _ _ _ _ b=>by have a:=li b;unfold sf;exact(aO (gn 2 EQ qm.nd) (aO (oQ rfl (wc rfl B.range (bL (JE.bor (cS a (JE.bor (oO (aj aQ (aj aQ (aj aQ (aj aQ (aj aQ (aj aQ aY)))))))) (JE.bor (jc c b fA (aj (aw 0) (aj (aw 1) (aj aQ aY))))))) cm)) (dw 3 qm.nd) (bf (gn 2 (cJ e7 (ar 2) (JE.bor (cS a (JE.bor EQ) (JE.bor (jc c b fA (aj (aw 0) (aj (cJ e7 (JE.bor (cJ e7 (ar 1) (JE.bor aQ))) (ar 3)) (aj aQ aY)))))))) qm.nd))) (bf (cn (aw 2)))))
abbrev ur:fg:=top 41
abbrev IG:List Str:=["_law_script","_law_at","_law_most","_law_found","_law_k"]
def sF:cg IG ["_law_script","_law_at","_law_most"] (aH ur):=fM ∎
abbrev zG(e:En):=FN e "_law_facts" 4 3 qc
def FS(D:ju e.K e.mg "_law_facts" ur)(B:Bi e.mg)(c:ww e)(d:iC e):zG e:=sY (k:=3) (g:=q9) D sF b3 λ_ _ _ _ _ _ _ b=>by have a:=li b;unfold q9;exact(aO (nQ 3 LA sF.nd) (aO (oQ rfl (wc rfl B.range (bL (JE.bor (jc d b fA (aj (aw 0) (aj (aw 1) (aj (cJ e7 (ar 2) (JE.bor aQ)) aY))))) cm)) (dw 4 sF.nd) (bf (LC 3 mh (jc c b fA (aj (aw 0) (aj (cJ e7 (JE.bor (cJ e7 (ar 1) (JE.bor aQ))) (JE.bor (cJ tX (JE.bor aQ) (ar 4)))) aY))) a))) (bf (cn (gz (kN rfl) rfl B.tuple bE (bL (JE.bor (cc Ny rfl B.sorted i7 (bL (JE.bor (gz (xt rfl) rfl B.list iM (bL (ar 3) cm))) cm))) cm))))))
abbrev sG:fg:=top 42
abbrev C5:List Str:=["_law_script","_law_at","_law_facts_here","_law_part"]
def IH:cg C5 ["_law_script","_law_at","_law_facts_here","_law_part"] (aH sG):=fM ∎
abbrev C6(e:En):=FN e "_law_some" 3 4 si
def II(D:ju e.K e.mg "_law_some" sG)(B:Bi e.mg)(b:iC e):C6 e:=sY (k:=2) (g:=sg) D IH b4 λ_ _ _ _ _ _ _ a=>by unfold sg;exact(bf (cn (gz (kN rfl) rfl B.tuple bE (bL (JE.bor (JN.je (fR (N':=["_law_k","_law_fact","_law_script","_law_at","_law_part"]) (ix:=[0,1,3]) 2 ⋯ rfl (c9 (so:=aH sG) (N:=C5) ∎) (OT.i (u5 rfl B.enumerate (aj (aw 2) aY))) (λc l d f j h=>⟨Ey rfl (oJ (cU (i:=0) (by show(["_law_k","_law_fact","_law_script","_law_at","_law_part"]:List Str).Nodup;decide +kernel) rfl (.inl rfl)) (oJ (cU (i:=1) (by show(["_law_k","_law_fact","_law_script","_law_at","_law_part"]:List Str).Nodup;decide +kernel) rfl (.inl rfl)) Ak)),(nR (eV (Dt) (JE.bor (jc b a fA (aj (aw 2) (aj (cJ e7 (ar 3) (ar 0)) (aj aQ aY))))) (ar 4))),(aw 1)⟩)))) cm))))
abbrev mC:fg:=top 43
abbrev sH:List Str:=["_law_script","_law_at","_law_facts_here","_law_name","_law_one","_law_two","_law_goal","_law_needs","_law_bars","_law_ends","_law_parts"]
def iT:cg sH ["_law_script","_law_at","_law_facts_here","_law_name"] (aH mC):=fM ∎
abbrev C7(e:En):=FN e "_law_thin" 3 4 sk
def IJ(D:ju e.K e.mg "_law_thin" mC)(B:Bi e.mg)(d:iC e):C7 e:=sY (k:=2) (g:=sj) D iT b4 λ_ _ _ _ _ _ _ c=>by have a:=li c;have b:=c.units;unfold sj;exact(aO (gn 4 (cS a (ar 2) (JE.bor (jc d c px (aj (aw 0) (aj (cJ e7 (ar 1) (JE.bor aQ)) (aj (cc jS rfl B.len cG (bL (ar 2) cm)) aY)))))) iT.nd) (aO (gn 5 (cS a (ar 2) (JE.bor (jc d c px (aj (aw 0) (aj (cJ e7 (ar 1) (JE.bor aQ)) (aj (cc jS rfl B.len cG (bL (ar 2) cm)) aY)))))) iT.nd) (aO (gn 6 (cS a (ar 2) (JE.bor (jc d c px (aj (aw 0) (aj (cJ e7 (ar 1) (JE.bor aQ)) (aj (cc jS rfl B.len cG (bL (ar 2) cm)) aY)))))) iT.nd) (aO (gn 7 (oP (JE.bor (oO (aj (aw 4) (aj (aw 5) aY)))) uG (pK (cJ e7 (JE.bor aQ) (JE.bor (cJ Ut (JE.bor (jc d c px (aj (aw 0) (aj (cJ e7 (ar 1) (JE.bor aQ)) (aj aQ aY))))) (JE.bor aQ)))))) iT.nd) (aO (kX 8 (N':=["_law_fact","_law_needs","_law_script","_law_at"]) (ix:=[7,0,1]) 1 ⋯ iT.nd rfl (c9 (so:=aH mC) (N:=sH) ∎) (fi (JE.bor (oO (aj (aw 6) aY)))) (λf n h j m l=>⟨cU (i:=0) (by show(["_law_fact","_law_needs","_law_script","_law_at"]:List Str).Nodup;decide +kernel) rfl (.inl rfl),(nR (JW.t (K2 (eV (tY) (ar 0) (ar 1)) (ER (eV (zj b) (JE.bor (jc d c fA (aj (aw 2) (aj (cJ e7 (ar 3) (JE.bor aQ)) (aj aQ aY))))) (JE.bor aQ)))))),(aw 0)⟩)) (aO (kX 9 (N':=["_law_fact","_law_goal","_law_script","_law_at"]) (ix:=[6,0,1]) 1 ⋯ iT.nd rfl (c9 (so:=aH mC) (N:=sH) ∎) (fi (JE.bor (oO (aj (aw 4) aY)))) (λf n h j m l=>⟨cU (i:=0) (by show(["_law_fact","_law_goal","_law_script","_law_at"]:List Str).Nodup;decide +kernel) rfl (.inl rfl),(nR (JW.t (K2 (eV (zk b) (ar 0) (ar 1)) (ER (eV (zj b) (JE.bor (jc d c fA (aj (aw 2) (aj (cJ e7 (ar 3) (JE.bor aQ)) (aj aQ aY))))) (JE.bor aQ)))))),(aw 0)⟩)) (aO (yA 8 (yA 9 (kX 10 (N':=["_law_part"]) (ix:=[]) 1 ⋯ iT.nd rfl (c9 (so:=aH mC) (N:=sH) ∎) (fi (JE.bor (mv (aj (aw 7) (aj (aw 8) (aj (oO (aj (aw 6) aY)) (aj (aw 9) aY))))))) (λf n h j m l=>⟨cU (i:=0) (by show(["_law_part"]:List Str).Nodup;decide +kernel) rfl (.inl rfl),fc,(gz (kN rfl) rfl B.tuple bE (bL (JE.bor (B9 rfl (Kb rfl (ar 0) rfl B.set) rfl B.sorted)) cm))⟩)))) (bf (cn (mv (aj (aw 3) (aj (cS a (ar 10) (JE.bor aQ)) (aj (cS a (ar 10) (JE.bor aQ)) (aj (cS a (ar 10) (JE.bor aQ)) (aj (cS a (ar 10) (JE.bor aQ)) (aj (jc d c px (aj (aw 0) (aj (aw 1) (aj aQ aY)))) aY))))))))))))))))
abbrev oh:fg:=top 44
abbrev xU:List Str:=["_law_script","_law_at","_law_facts_here","_law_name","_law_parts","_law_k","_law_fact","_law_way","_law_some_here"]
def iI:cg xU ["_law_script","_law_at","_law_facts_here","_law_name"] (aH oh):=fM ∎
abbrev xV(e:En):=FN e "_law_errand" 4 4 kc
def D2(D:ju e.K e.mg "_law_errand" oh)(B:Bi e.mg)(d:iC e)(f:C7 e):xV e:=sY (k:=3) (g:=ka) D iI b4 λ_ _ _ _ _ _ _ c=>by have a:=li c;have b:=c.units;unfold ka;exact(aO (iK (JW.t (K2 (eV (zk b) (ar 2) (JE.bor (mv aY))) (ER (eV (zj b) (JE.bor (jc d c px (aj (aw 0) (aj aQ (aj aQ aY))))) (JE.bor aQ))))) (bf (cn (jc f c px (aj (aw 0) (aj (aw 1) (aj (aw 2) (aj (aw 3) aY))))))) eE) (aO (XE 4 iI.nd) (aO (oQ rfl (u5 rfl B.enumerate (aj (aw 2) aY)) (rW rfl (dI (dw 5 iI.nd) (dI (dw 6 iI.nd) nP))) (aO (gn 7 (jc d c fA (aj (aw 0) (aj (cJ e7 (JE.bor (cJ e7 (ar 1) (JE.bor aQ))) (ar 5)) (aj aQ aY)))) iI.nd) (aO (iK (eV (Dt) (ar 7) (JE.bor aQ)) (bf (Be 4 (cS a (JE.bor (oO (aj aQ (aj aQ (aj aQ aY))))) (ar 7)) (aw 6))) eE) (aO (gn 7 (jc d c fA (aj (aw 0) (aj (cJ e7 (JE.bor (cJ e7 (ar 1) (JE.bor aQ))) (ar 5)) (aj aQ aY)))) iI.nd) (bf (iK (eV (Dt) (ar 7) (JE.bor aQ)) (bf (Be 4 (cS a (JE.bor (oO (aj aQ (aj aQ (aj aQ (aj aQ aY)))))) (ar 7)) (aw 6))) eE)))))) (aO (Qq (kX 8 (N':=["_law_part"]) (ix:=[]) 1 ⋯ iI.nd rfl (c9 (so:=aH oh) (N:=xU) ∎) (fi (ar 4)) (λh o j l n m=>⟨cU (i:=0) (by show(["_law_part"]:List Str).Nodup;decide +kernel) rfl (.inl rfl),fc,(gz (kN rfl) rfl B.tuple bE (bL (ar 0) cm))⟩))) (bf (cn (mv (aj (aw 3) (aj (cS a (ar 8) (JE.bor aQ)) (aj (cS a (ar 8) (JE.bor aQ)) (aj (cS a (ar 8) (JE.bor aQ)) (aj (cS a (ar 8) (JE.bor aQ)) (aj (jc d c px (aj (aw 0) (aj (aw 1) (aj aQ aY)))) aY)))))))))))))
abbrev sI:fg:=top 45
abbrev C8:List Str:=["_law_script","_law_at","_law_most","_law_many","_law_facts_here","_law_made","_law_k","_law_name","_law_names","_law_turn"]
def jT:cg C8 ["_law_script","_law_at","_law_most","_law_many"] (aH sI):=fM ∎
abbrev C9(e:En):=FN e "_law_book" 5 4 oW
def IK(D:ju e.K e.mg "_law_book" sI)(B:Bi e.mg)(h:zG e)(d:ww e)(f:xV e)(c:iC e):C9 e:=sY (k:=4) (g:=oV) D jT b4 λ_ _ _ _ _ _ _ a=>by have b:=li a;unfold oV;exact(aO (gn 4 (jc h a px (aj (aw 0) (aj (aw 1) (aj (aw 2) aY)))) jT.nd) (aO (nQ 5 LA jT.nd) (aO (oQ rfl (wc rfl B.range (bL (JE.bor (jc c a fA (aj (aw 0) (aj (cJ e7 (ar 1) (JE.bor aQ)) (aj (cJ e7 (ar 3) (JE.bor aQ)) aY))))) cm)) (dw 6 jT.nd) (aO (gn 7 (jc d a fA (aj (aw 0) (aj (cJ e7 (JE.bor (cJ e7 (ar 1) (JE.bor aQ))) (JE.bor (cJ tX (JE.bor aQ) (ar 6)))) aY))) jT.nd) (bf (LC 5 (jc f a fA (aj (aw 0) (aj (cJ e7 (JE.bor (cJ e7 (ar 1) (JE.bor aQ))) (JE.bor (cJ tX (JE.bor aQ) (ar 6)))) (aj (aw 4) (aj (aw 7) aY))))) (aw 7) b)))) (aO (gn 8 (gz (xt rfl) rfl B.list iM (bL (ar 5) cm)) jT.nd) (aO (gn 9 (jc c a px (aj (aw 0) (aj (cJ e7 (ar 1) (JE.bor aQ)) (aj (cJ e7 (JE.bor (cc jS rfl B.len cG (bL (ar 8) cm))) (JE.bor aQ)) aY)))) jT.nd) (bf (cn (mv (aj (aw 4) (aj (gz (kN rfl) rfl B.tuple bE (bL (JE.bor (JN.je (fR (N':=["_law_name","_law_made"]) (ix:=[5]) 1 ⋯ rfl (c9 (so:=aH sI) (N:=C8) ∎) (fi (JE.bor (cJ e7 (JE.bor (oP (ar 8) (pK (aw 9)) uG)) (JE.bor (oP (ar 8) uG (pK (aw 9))))))) (λj p l m o n=>⟨cU (i:=0) (by show(["_law_name","_law_made"]:List Str).Nodup;decide +kernel) rfl (.inl rfl),fc,(cS b (ar 1) (ar 0))⟩)))) cm)) aY))))))))))
abbrev wy:fg:=top 46
abbrev L4:List Str:=["_law_script","_law_at","_law_facts_here","_law_must","_law_bars","_law_k","_law_fact","_law_way"]
def lA:cg L4 ["_law_script","_law_at","_law_facts_here"] (aH wy):=fM ∎
abbrev Ca(e:En):=FN e "_law_want" 3 3 wn
def IL(D:ju e.K e.mg "_law_want" wy)(B:Bi e.mg)(c:iC e):Ca e:=sY (k:=2) (g:=oX) D lA b3 λ_ _ _ _ _ _ _ b=>by have a:=b.units;unfold oX;exact(aO (nQ 3 (B0 aY) lA.nd) (aO (nQ 4 (B0 aY) lA.nd) (aO (oQ rfl (u5 rfl B.enumerate (aj (aw 2) aY)) (rW rfl (dI (dw 5 lA.nd) (dI (dw 6 lA.nd) nP))) (aO (gn 7 (jc c b fA (aj (aw 0) (aj (cJ e7 (ar 1) (ar 5)) (aj aQ aY)))) lA.nd) (bf (iK (eV (Dt) (ar 7) (JE.bor aQ)) (bf (uJ 3 (aw 6))) (bf (iK (eV (zj a) (ar 7) (JE.bor aQ)) (bf (uJ 4 (aw 6))) eE)))))) (bf (cn (mv (aj (gz (kN rfl) rfl B.tuple bE (bL (ar 3) cm)) (aj (gz (kN rfl) rfl B.tuple bE (bL (ar 4) cm)) aY))))))))
abbrev wz:fg:=top 47
abbrev L5:List Str:=["_law_script","_law_most","_law_many","_law_book_here","_law_state"]
def uu:cg L5 ["_law_script","_law_most","_law_many"] (aH wz):=fM ∎
abbrev Cb(e:En):=FN e "_law_case" 6 3 l5
def IM(D:ju e.K e.mg "_law_case" wz)(f:C9 e)(d:iC e)(c:C6 e)(h:Ca e):Cb e:=sY (k:=5) (g:=sr) D uu b3 λ_ _ _ _ _ _ _ b=>by have a:=li b;unfold sr;exact(aO (gn 3 (jc f b px (aj (aw 0) (aj aQ (aj (aw 1) (aj (aw 2) aY))))) uu.nd) (aO (gn 4 (jc c b px (aj (aw 0) (aj aQ (aj (cS a (ar 3) (JE.bor aQ)) (aj (cS a (JE.bor (oO (aj aQ (aj aQ aY)))) (JE.bor (jc d b px (aj (aw 0) (aj aQ (aj aQ aY)))))) aY))))) uu.nd) (bf (cn (mv (aj (aw 3) (aj (aw 4) (aj (jc h b px (aj (aw 0) (aj aQ (aj (cS a (ar 3) (JE.bor aQ)) aY)))) aY))))))))
abbrev kg:fg:=top 48
abbrev oj:List Str:=["_law_errand_here","_law_one","_law_two","_law_pairs","_law_rest","_law_here"]
def qH:cg oj ["_law_errand_here","_law_one","_law_two","_law_pairs"] (aH kg):=fM ∎
abbrev xW(e:En):=FN e "_law_brings" 1 4 iu
def D3(D:ju e.K e.mg "_law_brings" kg)(B:Bi e.mg):xW e:=sY (k:=0) (g:=nZ) D qH b4 λ_ _ _ _ _ _ _ h=>by have a:=li h;have b:=h.units;unfold nZ;exact(aO (kX 4 (N':=["_law_fact","_law_errand_here"]) (ix:=[0]) 1 ⋯ qH.nd rfl (c9 (so:=aH kg) (N:=oj) ∎) (fi (JE.bor (mv (aj (aw 1) (aj (aw 2) aY))))) (λc m d f l j=>⟨cU (i:=0) (by show(["_law_fact","_law_errand_here"]:List Str).Nodup;decide +kernel) rfl (.inl rfl),(nR (eV (tY) (ar 0) (JE.bor (cS a (ar 1) (JE.bor aQ))))),(aw 0)⟩)) (aO (iK (JW.t (mU (eV (zj b) (JE.bor (cc jS rfl B.len cG (bL (ar 4) cm))) (JE.bor aQ)) (mU (eV (r9) (ar 1) (JE.bor (cS a (ar 0) (JE.bor aQ)))) (mU (eV (r9) (ar 2) (JE.bor (cS a (ar 0) (JE.bor aQ)))) (lN (fX (cc (t_ rfl) rfl B.any eI (bL (JE.bor (JN.je (fR (N':=["_law_fact","_law_errand_here"]) (ix:=[0]) 1 ⋯ rfl (c9 (so:=aH kg) (N:=oj) ∎) (fi (ar 4)) (λc m d f l j=>⟨cU (i:=0) (by show(["_law_fact","_law_errand_here"]:List Str).Nodup;decide +kernel) rfl (.inl rfl),fc,(ms (r9) (ar 0) (JE.bor (cS a (ar 1) (JE.bor aQ))))⟩)))) cm)))))))) (bf (cn mh)) eE) (aO (gn 5 (cJ e7 (JE.bor (gz (xt rfl) rfl B.list iM (bL (JE.bor (cS a (ar 0) (JE.bor aQ))) cm))) (ar 4)) qH.nd) (bf (cn (ES (cc (t_ rfl) rfl B.any eI (bL (JE.bor (JN.je (fR (N':=["_law_pair","_law_here"]) (ix:=[5]) 1 ⋯ rfl (c9 (so:=aH kg) (N:=oj) ∎) (fi (ar 3)) (λc m d f l j=>⟨cU (i:=0) (by show(["_law_pair","_law_here"]:List Str).Nodup;decide +kernel) rfl (.inl rfl),fc,(wa (ms (r9) (JE.bor (cS a (ar 0) (JE.bor aQ))) (ar 1)) (tV (ms (r9) (JE.bor (cS a (ar 0) (JE.bor aQ))) (ar 1))))⟩)))) cm))))))))
abbrev qo:fg:=top 49
abbrev zH:List Str:=["_law_book_here","_law_state","_law_facts_here","_law_pairs","_law_k","_law_one","_law_two","_law_size","_law_pair"]
def gM:cg zH ["_law_book_here","_law_state"] (aH qo):=fM ∎
abbrev zI(e:En):=FN e "_law_apart" 2 2 iS
def FT(D:ju e.K e.mg "_law_apart" qo)(B:Bi e.mg)(d:xW e):zI e:=sY (k:=1) (g:=qd) D gM b2 λ_ _ _ _ _ _ _ c=>by have a:=li c;have b:=c.units;unfold qd;exact(aO (gn 2 (cS a (ar 0) (JE.bor aQ)) gM.nd) (aO (nQ 3 (B0 aY) gM.nd) (aO (oQ rfl (u5 rfl B.enumerate (aj (aw 2) aY)) (rW rfl (dI (dw 4 gM.nd) (dI (dw 5 gM.nd) nP))) (bf (oQ rfl (xm (oP (ar 2) (pK (aw 4)) uG)) (dw 6 gM.nd) (bf (iK (JW.t (mU (eV (tY) (ar 5) (ar 1)) (lN (eV (tY) (ar 6) (ar 1))))) (bf (uJ 3 (mv (aj (aw 5) (aj (aw 6) aY))))) eE))))) (aO (gn 7 (XD aQ) gM.nd) (aO (B7 100000 (eV (zk b) (ar 7) (JE.bor (cc jS rfl B.len cG (bL (ar 3) cm)))) (aO (gn 7 (cc jS rfl B.len cG (bL (ar 3) cm)) gM.nd) (bf (oQ rfl (xm (gz (xt rfl) rfl B.list iM (bL (ar 3) cm))) (dw 8 gM.nd) (bf (iK (V5 (fX (cc (t_ rfl) rfl B.any eI (bL (JE.bor (JN.je (fR (N':=["_law_errand_here","_law_pair","_law_pairs"]) (ix:=[8,3]) 1 ⋯ rfl (c9 (so:=aH qo) (N:=zH) ∎) (fi (JE.bor (cS a (ar 0) (JE.bor aQ)))) (λf n h j m l=>⟨cU (i:=0) (by show(["_law_errand_here","_law_pair","_law_pairs"]:List Str).Nodup;decide +kernel) rfl (.inl rfl),fc,(jc d c fA (aj (aw 0) (aj (cS a (ar 1) (JE.bor aQ)) (aj (cS a (ar 1) (JE.bor aQ)) (aj (aw 2) aY)))))⟩)))) cm)))) (bf (Kq 3 b (aw 8))) eE)))))) (bf (cn (aw 3))))))))
abbrev xX:fg:=top 50
abbrev WL:List Str:=["_law_script","_law_book_here","_law_state","_law_want_here","_law_told","_law_one"]
def yW:cg WL ["_law_script"] (aH xX):=fM ∎
def Yy{f:av}{d:iF}(F:Ng e.K "law" "law" xX f d)(B:Bi e.mg)(n:Cb e)(m:MF e)(j:zI e)(o:vQ e)(h:Ek e):vn e.P e.w e.K e.mg e.base (CF e.P e.w) 9 f d ["_law_script"] (VY e.K e.cls 1 F_law):=by
 refine W3 (k:=8) (g:=Mp) F yW λl A outer s H E a=>?_
 have b:=li a
 have c:=a.units
 unfold Mp
 exact(aO (A_ (jc n a px (aj (aw 0) (aj aQ (aj aQ aY)))) (rW rfl (dI (dw 1 yW.nd) (dI (dw 2 yW.nd) (dI (dw 3 yW.nd) nP))))) (aO (gn 4 (jc m a px (aj (aw 1) (aj (aw 2) aY))) yW.nd) (aO (iK (JW.t (mU (eV (zk c) (ar 4) (JE.bor (jc j a px (aj (aw 1) (aj (aw 2) aY))))) (lN (eV (O0) (JE.bor (jc o a px (aj (aw 1) (aj (aw 2) (aj (aw 4) aY))))) (JE.bor mh))))) (bf (cn mh)) eE) (aO (oQ rfl (xm (jc h a fA (aj (aw 1) (aj (aw 2) aY)))) (dw 5 yW.nd) (bf (iK (fX (cc (t_ rfl) rfl B.any eI (bL (JE.bor (JN.je (fR (N':=["_law_pair","_law_one"]) (ix:=[5]) 1 ⋯ rfl (c9 (so:=aH xX) (N:=WL) ∎) (fi (ar 4)) (λp v x u y q=>⟨cU (i:=0) (by show(["_law_pair","_law_one"]:List Str).Nodup;decide +kernel) rfl (.inl rfl),fc,(wa (ms (r9) (JE.bor (cS b (ar 0) (JE.bor aQ))) (ar 1)) (tV (ms (r9) (JE.bor (cS b (ar 0) (JE.bor aQ))) (ar 1))))⟩)))) cm))) (bf (cn mh)) eE))) (bf (cn mh))))))
end
def all_mk{l:zM}{w:bF}{K:af}{h:bZ}{a:Str->Option ai}{m A:av}{od E:Option av}{sl:Array (Option ai)}{oc kV y p d t:ai}(X:K.In h)(G:h.Ns cy a)(i:a "law"=some (.ref m))
  (Zz:Zs K zn)
  (pc:Cn a "MOST_LETTERS" 6)
  (sx:Cn a "MOST_PRICE" 9)
  (sy:Cn a "MOST_FACTS" 6)
  (N:Cn a "MOST_ERRANDS" 6)
  (FV:ju K a "share_none" o7)
  (Q:ju K a "without" v9)
  (I:ju K a "joined" BU)
  (O:ju K a "is_word" vc)
  (L:ju K a "are_rising_words" hX)
  (IN:ju K a "are_facts" qh)
  (L6:ju K a "is_whole" wp)
  (IP:ju K a "is_errand" qi)
  (S:ju K a "is_book" rA)
  (U:ju K a "check_state" qC)
  (OD:ju K a "fulfils" vd)
  (IQ:ju K a "is_doable" uh)
  (Cc:ju K a "state_behind" pf)
  (OE:ju K a "checked" yR)
  (D5:ju K a "check_place" qD)
  (IR:ju K a "all_pairs" qj)
  (IS:ju K a "stands_in" uj)
  (SK:ju K a "brings" xO)
  (FW:ju K a "is_brought" o9)
  (OF:ju K a "is_pair" ve)
  (Vy:ju K a "apart" vf)
  (D6:ju K a "keeps_apart" jv)
  (FX:ju K a "steps_from" og)
  (FY:ju K a "first_rows" sB)
  (OG:ju K a "reached" yV)
  (D7:ju K a "_law_cell_at" qF)
  (IT:ju K a "_law_mixed" uq)
  (L7:ju K a "_law_word" wv)
  (IU:ju K a "_law_facts" ur)
  (L8:ju K a "_law_some" sG)
  (L9:ju K a "_law_thin" mC)
  (FZ:ju K a "_law_errand" oh)
  (La:ju K a "_law_book" sI)
  (Y:ju K a "_law_want" wy)
  (Lc:ju K a "_law_case" wz)
  (F_:ju K a "_law_brings" kg)
  (IV:ju K a "_law_apart" qo)
  (l0:iY K cy "law"=some (some (.ref A)))
  (l1:K.lookup A=some ⟨oc,od,.func (ip "law" "law" (mE xX) (jG xX) (aH xX) .none kV y p E d t),sl⟩)
  (l2:oE K d "law"=true)
  (l3:gX K (.ref A)=true)
  :∃k:iF,(∀(s:au) (v:ai),Ci s k ⟨[v],[]⟩ [("_law_script",v)])/\∀base:bZ,K.In base->base.Ns cy a->vn l.prog w K a base (CF l.prog w) 9 m k ["_law_script"] (ZE K F_law):=by
 have q:=i.symm.trans (vB X G l0)
 cases q
 refine⟨ip "law" "law" (mE xX) (jG xX) (aH xX) .none kV y p E d t,λs v=>.of_eq rfl,λbase X G=>?_⟩
 let e:En:=⟨l.prog,w,K,a,base,ZF []⟩
 have B:Bi e.mg:=Z_ X G Zz
 have g:=CT (e:=e) FV B
 have o:=KM (e:=e) Q B
 have P:=Ow (e:=e) I B
 have u:=KO (e:=e) O B pc
 have j:=vv (e:=e) L B u
 have n:=FH (e:=e) IN B j
 have wq:=Iz (e:=e) L6 B
 have ug:=FI (e:=e) IP B u wq n g sx
 have yS:=KQ (e:=e) S B j ug sy N
 have qE:=BX (e:=e) U n
 have yQ:=KR (e:=e) OD B g
 have H:=FK (e:=e) IQ yQ
 have ph:=A8 (e:=e) Cc o P
 have yT:=KU (e:=e) OE yS
 have c:=C0 (e:=e) D5 yT qE
 have ul:=FM (e:=e) IR B
 have f:=FP (e:=e) IS
 have C1:=Oy (e:=e) SK B o g f
 have x:=CY (e:=e) FW B C1
 have yU:=KY (e:=e) OF B
 have FU:=SH (e:=e) Vy c ul f x
 have qI:=C2 (e:=e) D6 B c yU f x
 have sC:=C_ (e:=e) FX H ph
 have sD:=D0 (e:=e) FY sC
 have yX:=K_ (e:=e) OG B c sD
 have qG:=C4 (e:=e) D7 B
 have b:=FR (e:=e) IT qG
 have z:=IF (e:=e) L7 B b
 have M:=FS (e:=e) IU B z b
 have wB:=II (e:=e) L8 B b
 have wx:=IJ (e:=e) L9 B b
 have sJ:=D2 (e:=e) FZ B b wx
 have wA:=IK (e:=e) La B M z sJ b
 have T:=IL (e:=e) Y B b
 have wD:=IM (e:=e) Lc wA b wB T
 have sK:=D3 (e:=e) F_ B
 have uv:=FT (e:=e) IV B sK
 exact(Yy (e:=e) (PB l1 l2 l3) B wD FU uv qI yX).imp XF
end Z
section
open PySem PySem.W PyProof.Rows
namespace PySem.W.Fast
def tw15325589006766417945:Nat:=0
def tw16497572905477645790:Nat:=0
def tw14220306991913932067:Nat:=0
def tw10545679514648792851:Nat:=0
def tw14114723538676015218:Nat:=0
def tw15064057953619762827:Nat:=0
def tw17286170388034219416:Nat:=0
def tw12857773841792130333:Nat:=0
def tw1031375217337999462:Nat:=0
def tw15693479632916622650:Nat:=0
def tw7877202577788761037:Nat:=0
def tw11873363468888496567:Nat:=0
def tw6398089527574270109:Nat:=0
def tw596779529517063767:Nat:=0
def tw7120638124545474098:Nat:=0
def tw8811900703914827465:Nat:=0
def tw17975227267058758308:Nat:=0
def tw18336815465367231123:Nat:=0
def tw12073377662565553762:Nat:=0
def tw5274222143864345328:Nat:=0
def tw13333102112965299749:Nat:=0
def tw9838271285052500252:Nat:=0
def tw4181681279348792005:Nat:=0
def tw14622453428608916246:Nat:=0
def tw12669852203824375000:Nat:=0
def tw5834424891683467507:Nat:=0
def tw9396747334913954527:Nat:=0
def tw14706093673238975950:Nat:=0
def tw8693929524833340000:Nat:=0
def tw8952556496315659508:Nat:=0
def tw17912939714264463381:Nat:=0
def tw9033087413074859019:Nat:=0
def tw10592798560949392529:Nat:=0
def tw7312625937122099911:Nat:=0
def tw16629913318173079546:Nat:=0
def tw7822374480957194336:Nat:=0
def tw7422874812718378250:Nat:=0
def tw2919074086155952795:Nat:=0
def tw6259956805294474969:Nat:=0
def tw4996229039472473491:Nat:=0
def tw12098181675623850433:Nat:=0
def tw11800254883301329280:Nat:=0
def tw11846071193301892269:Nat:=0
def tw6673198792498773176:Nat:=0
def tw5828126377573344735:Nat:=0
def tw3860830831637483408:Nat:=0
def tw1312099027894910309:Nat:=0
def tw3481662835431788942:Nat:=0
def tw2258319589630005363:Nat:=0
def tw18214886507885814666:Nat:=0
def tw15991181545354129416:Nat:=0
def tw280541425623403077:Nat:=0
def tw6995539308684397279:Nat:=0
def tw9926617145565238785:Nat:=0
def tw9003234436953098515:Nat:=0
def tw9042459827922934121:Nat:=0
def tw115700279766966463:Nat:=0
def tw7291951714948124796:Nat:=0
def tw5610582692766807995:Nat:=0
def tw8920112450481981301:Nat:=0
def tw9472134167418188657:Nat:=0
def tw4032379522194822114:Nat:=0
def tw10361653400095563363:Nat:=0
def tw5318972149160674820:Nat:=0
def tw18318585659327748625:Nat:=0
def tw9086182592000306660:Nat:=0
def tw1942790684807890949:Nat:=0
def tw15977036767175024881:Nat:=0
def tw3852587679173598598:Nat:=0
def tw13199570154653206362:Nat:=0
def tw117127159957148042:Nat:=0
def tw10963449537963969669:Nat:=0
def tw9306806948735119458:Nat:=0
def tw7366598711024730575:Nat:=0
def tw17419959197837951254:Nat:=0
def tw8710544743442892312:Nat:=0
def tw17975465835575922914:Nat:=0
def tw2176820107555680446:Nat:=0
def tw8011335935244557984:Nat:=0
def tw11252684454015030454:Nat:=0
def tw17658032255835088966:Nat:=0
def tw8830738990081952450:Nat:=0
def tw9926788239085834963:Nat:=0
def tw11854368751777860745:Nat:=0
def tw7928156880657417953:Nat:=0
def tw14738058341266334646:Nat:=0
def tw12983539561370898815:Nat:=0
def tw13102536414069349696:Nat:=0
def tw5357784613107331277:Nat:=0
def tw9169915047852782869:Nat:=0
def tw9041285497829855428:Nat:=0
def tw5288260144329521347:Nat:=0
def tw3878505098529814535:Nat:=0
def tw15144213021649301880:Nat:=0
def tw10936864896383107443:Nat:=0
def tw1440293049116189094:Nat:=0
def tw9878792876604917334:Nat:=0
def tw10938091358493709385:Nat:=0
def tw13112889158467472082:Nat:=0
end PySem.W.Fast
end
theorem PySem.Challenge.cw_errands_k13_whole_apart_holds : PySem.Challenge.rw_errands_k13_whole_apart.Holds := by
 w_on;o_law;k_head;(case hw=>w_witness2)
 k_fill
 refine J.walkF (l:=PySem.Challenge.rw_errands_k13_whole_apart) (k:=9) (x:="_law_script") (F0:=Z.F_law) rfl rfl ⟨rfl,by decide,by decide⟩ (λw h Y=>by first|exact PySem.W.kIn_of Y|exact PySem.W.km_in_of Y) ?F (λc _=>Z.law_true c)
 case F =>
  intro w d e h b G a
  refine' Z.all_mk b G a ?_ ?_ ?_ ?_ ?_ ?_ ?_ ?_ ?_ ?_ ?_ ?_ ?_ ?_ ?_ ?_ ?_ ?_ ?_ ?_ ?_ ?_ ?_ ?_ ?_ ?_ ?_ ?_ ?_ ?_ ?_ ?_ ?_ ?_ ?_ ?_ ?_ ?_ ?_ ?_ ?_ ?_ ?_ ?_ ?_ ?_
  all_goals first
   |(refine' J.d_in b G ?_ ?_ ?_ ?_<;>try k_is)
   |(refine' J.cn_in b G ?_<;>try k_is)
   |k_is
   |(refine' J.TopC.mk ?_ ?_ ?_<;>try (first|k_is|k_exc))
   |(refine' J.topN ?_ ?_ ?_ ?_ ?_ ?_ ?_ ?_ ?_ ?_ ?_ ?_ ?_ ?_ ?_ ?_ ?_ ?_ ?_ ?_ ?_ ?_ ?_<;>try (first|k_is|rfl|exact λ_ _=>⟨_,rfl,rfl⟩|decide +kernel))
   |((refine' J.Wy.mk ?_ ?_ ?_ ?_ ?_ ?_ ?_ ?_ ?_ ?_)<;>try (first|k_is|decide|((repeat' (first|exact .nil|refine' .cons ?_ ?_ ?_))<;>try (first|k_is|decide))))
   |((repeat' (first|exact .nil|refine' .cons ?_ ?_))<;>try (first|(refine' J.cw_in ?_ ?_ ?_<;>try k_is)|k_is))
   |skip
end
