import PyProof.Rows.All
import Wide.All
import OpenK.AllK
import Wide.FinOn
import Lean
import PyProof.EqAt
import PyProof.EqKinds
import PyProof.TupleCall
import KE.KDictOf
import PyProof.AttrMissHeap
import KE.KRevIter
import PyProof.DictWalks
import PyProof.MinMaxWalk
import PyProof.SeqI3
import PyProof.WalkInts
import PyProof.ExcInit
import PyProof.InstStoreFacts
import PyProof.DictCompW
import KE.KItemsList
import KE.KEqDict
import PyProof.Rows.CallKwBuiltin
import PySem.Challenge.RW_errands_k14_whole_keeps_apart
set_option Elab.async false
set_option linter.all false
set_option maxRecDepth 100000
set_option maxHeartbeats 0
open PySem renaming wpAny_bind->a7,wpAny_pure->a9,Value->ag,Addr->ak,Shared->aq,wpAny->au,model->az,starEach->aF,Program->bd,wpAny_setState_of->bj,wpAny_newObj_type->bu,World->bz,Expr->bC,wpAny_call_entry->bE,Heap->bP,foldedSetIterable->bS,mainGlobals->bX,wpAny_holding->bY,Around->cg,wpAny_mono->cn,compareOp->cp,cellsFrom->cq,wpAny_callSpecial?_slot->cy,boot_len->cz,rawInt->cJ,wpAny_field->dq,wpAny_truthy_bool->dP,mem_of_lookup->d_,eval->eu,Stmt->eG,wpAny_rule->eI,wpAny_of_eq->eM,Scope->eP,cLine->eQ,SetTable->eR,wpAny_seqItems->eS,codeAny_builtin->eX,sysModules->e_,codeAny->fR,IsTupleKey->fZ,wpAny_storeSet_of->gM,fits_of_scanBound->gN,FuncData->gW,backTo->hG,wpAny_standAt->hV,sizeLine_eq->hW,wpAny_askSetting->h_,wpAny_isInstance->i0,wpAny_pyIter_tuple->ic,binaryOp->ig,wpAny_setField->ii,scanBound->iA,Builtin->iB,wpAny_comprehension_free->iF,wpAny_attempt->iG,swapsWith->j6,setField->j7,strIterType->jj,wpAny_typeNameOfWhole_keyiter->jk,bootBuiltins->jo,assignEach->jq,wpAny_setField_rec->jr,wpAny_passesOwn->jE,letOwnedTupleGo->jF,codeAny_mono->k_,wpAny_Call_Name_kw->lV,IsPair->lX,NameKind->mR,wpAny_typeOf->mT,firstArgMember->mV,ofAClassStatement->m_,pyNext->nY,behindInMarks->oO,getItem->oP,plainId_quiet->oQ,sliceBounds->oU,unsupported->oV,wpAny_execs_nil->qk,standAt->qJ,pickOrder->rq,pyIter->rG,tupleKind_room_in1->rJ,wpAny_pyIter_list->sW,wpAny_pyIter_enum->sY,tupleKind->uU,raiseNew->uV,assign->vA,newExc->vC,collect->vE,codeAny_of_tree->wy,IsPart->xY,relayAll->y0,codeAny_call_builtin->y8,wpAny_runValue->y9,isSubtype_stop->yc,IsZip->yd,wpAny_updateSeq_pair->ye,callerA->z3,swapsWithSole->A1,swappedStores->A2,comprehension->A4,wpAny_onRaise->A5,isTrue->Am,wpAny_call->Ap,isInstance->At,BindsTo->C7,concat_meets->C8,wpAny_sequenceKey->C9,valueAt->Ca,setAddHashed->Cb,wpAny_pyIter_slot->Cd,wpAny_dictEntries->Ci,wpAny_eqBool_str->Em,Result->Eo,noFill_tuple_add->Ep,DictEntry->Es,noteFrame->Et,strKind->Eu,PyData->Ew,wpAny_ite->Ex,wpAny_forIn_list->EB,subscripted->Gk,hashByValue->Gp,wpAny_specialOf->Gw,wpAny_dictEpoch->Gz,holding->Ji,Keyword->Jj,newList->Jk,Paired->Jt,GenState->Jv,bindName->Jw,wpAny_load->Jx,recursionLimit->Jz,bindL->JA,bindC->JC,wpAny_newFunctionEnv_cells->JF,typeLookup->JH,call_meets->JM,atKey->JP,newFunctionEnv->JQ,compPost->JU,entryFor_alias->JV,isSubtype_type->JX,wpAny_fieldsOf->JY,field->JZ,wpAny_letOwnedTupleGo_enum->J_,setRelay->K5,carriedByValue->Ka,assignInOrder->Ni,seq_tuple_add->Nk,evalPart_none->Nm,attributeBase->Np,call->Nq,wpAny_handled->Nt,wpAny_newList->Nu,setSearchFrom->NA,Drawn->P7,lastMarks->P8,seqItems?->Pc,codeAny_compStart_list->Po,sub_set_self->Pp,setNext->Pq,newSet->Pt,firstIterPos->Pu,codeAny_call_function->TF,builtinLookup_eq_fast->TJ,wpAny_isOneOf_keyiter->TV,wpAny_eqIsQuiet_tuple->T_,keywordEach->U1,wpAny_alloc->U3,Walks->U4,entryFor->U7,newTuple->U8,wpAny_throw->U9,ZipApart->Ua,wpAny_letGo->Uc
open PySem.W renaming Frag->a8,kia_one->cT,mroIn->e7,kitOne->e8,keepIn->f6,fnOf->fH,cellsFrom_some->gm,findIn->iw,nsIn->iI,clsIn->j3,codeIn->lv,mg_of->mj,subIn->qo,looks_findIn->tj,callWith_K->vB,methodObj->wA,specialIn->wB,kitx_list->wC,instObj->zF,takesIn->zG,OpenLaw->zI,lookIn->Ao,typeIn->Av,excIn->Cg,hideAll_get->Jh,of_hideAll->Ju,kitx_tuple->Jy,codeRec_of->JD,mg_none_of->K6,kitx_dict->LQ,plainGet->Nj,hideAll->P6,kitCls->Pw,WalkO->TH,Looks->TL
open PySem.Heap renaming get?_push_of_some->af,lt_size->av,get?_push_size->aD,SameBut->bG,size_push->cF,get?_update_self->eB,get?_update_other->fo,size_update->sI,IsTuple->Jm,ExtBut->LR,get?_push_ne->PB
open List renaming length_map->ah,mem_cons_of_mem->ai,mem_cons_self->ap,getElem?_set_ne->ar,map_cons->ay,mem_append_right->aA,getElem?_map->aI,size_toArray->aM,getElem?_set_self->aQ,length_append->aT,length_cons->aU,getElem?_append_right->aV,mem_cons->aW,mem_map_of_mem->bi,range->bq,not_mem_nil->br,getElem?_eq_getElem->bt,getElem?_append_left->bx,map_append->bF,mem_of_getElem?->bR,mem_append_left->c6,getElem?_replicate->c8,map_map->cb,append_nil->ck,all_eq_true->cx,find?_cons->cC,length_nil->cD,mem_filter->cM,getElem?_eq_none->cU,mem_singleton->df,mem_append->dz,lookup_cons->dA,length_replicate->dD,length_range->dG,any_cons->dR,length_singleton->eA,any_eq_true->eU,any_eq_false->fm,map_nil->fq,filterMap_cons->fv,length_filter_le->fE,map_congr_left->gD,nodup_nil->gY,getD_eq_getElem?_getD->gZ,take_append_drop->hJ,foldl_cons->ik,filterMap_map->iZ,mem_map->i_,forIn_cons->jh,perm_ext_iff_of_nodup->jS,getElem_map->k8,any_map->k9,sublist_append_left->kO,nodup_cons->l7,pairwise_cons->li,length->lm,getElem?_cons_succ->lw,all_map->lS,getElem?_toArray->mG,getElem_mem->mO,ext_getElem->mP,getElem_of_mem->nZ,replicate->pf,forIn_nil->pi,getElem_range->pq,map->pz,reverse_cons->qL,length_erase_of_mem->rA,length_take->sG,length_drop->sH,pairwise_singleton->sJ,length_pos_of_mem->sZ,of_mem_zip->t4,length_zip->tm,nil_append->tq,mem_erase_of_ne->vg,mem_of_mem_drop->vh,filter_sublist->wz,all_cons->wD,map_drop->wF,contains_cons->xT,zip_cons_cons->xU,set_cons_zero->xV,set_cons_succ->xW,append_assoc->z9,nodup_append->zc,length_filterMap_eq_countP->zM,cons_append->A6,lookup->As,length_eraseIdx_of_lt->D8,perm_append_singleton->Db,getElem?_eq_some_iff->EA,map_take->Go,getElem?_cons_zero->Gx,map_id->LV,mem_of_mem_take->LW,any->LX,getElem?_range->Nv,length_reverse->Nx,replicate_succ->NB,replicate_zero->NC,lookup_append->P9,map_inj_right->Pe,map_filterMap->Pf,mem_filterMap->Ph,ext_getElem?->Pr,mapM_toArray->Pz,getElem_inj->TD,zipIdx_cons->TK,isEmpty_nil->TU,countP_cons->TW,map_snd_zip->TX,nodup_range->TY,zipIdx_nil->Ub
open Nat renaming le_refl->aw,lt_of_lt_of_le->aK,ne_of_lt->aO,le_of_lt->bL,zero_le->cu,lt_irrefl->cB,le_trans->cH,ne_of_gt->dZ,lt_succ_of_lt->gj,not_lt_zero->gx,lt_succ_self->gX,lt_trans->iq,le_succ->ir,lt_or_ge->kg,mod_lt->mU,succ_pos->oW,add_zero->oX,lt_succ_of_le->rn,pow_le_pow_right->vJ,lt_of_le_of_lt->x_,zero_add->zK,le_of_lt_succ->zL,min_le_right->Aq,lt_asymm->JR,div_div_eq_div_mul->K1,pow_succ->K2,mul_comm->K3,lt_of_succ_lt_succ->K4,min_self->K8,sub_self->K9,add_lt_add_right->Nw,lt_of_le_of_ne->PD,lt_trichotomy->TZ,le_of_not_lt->U2,le_add_right->Ud,div_eq_of_lt->Ue,succ_lt_succ->Uf,reduceLeDiff->Ul,reduceEqDiff->Um
open Array renaming length_toList->ax,getElem?_eq_getElem->bf,getElem?_toList->bH,getD_eq_getD_getElem?->dE,replicate->kM,size_map->lN,eq_empty_of_size_eq_zero->mF,forIn_toList->oY,getElem?_eq_none->sQ,toList_inj->zN,getD->Ch,size_setIfInBounds->Ey,toList_filterMap->Gy,toArray_toList->K0,append_assoc->Nh,foldl_toList->Ny,toList_push->Pa,toList_zip->PC
open Bool renaming false_ne_true->aG,and_eq_true->aR,false_eq_true->bg,eq_iff_iff->dw,not_true->gQ,or_eq_true->ij,not_false->jT,not_eq_true'->lR,noConfusion->mQ,and_self->mX,and_false->ph,false_or->rm,beq_eq_decide_eq->ul,true_and->wE,false_and->D6,and_true->Gr,or_eq_false_iff->LU
open PySem.PyData renaming str->aS,eqv->bn,bool->bO,canLayAll0->cY,eqvAll->dQ,canLay0->eg,tuple->fM,list->iJ,int->iU,depthAll->n8,depth->Gq,dict->Jo
open PySem.Value renaming ref->bh,none->dO,bool->jC,type->jD,str->lc,isStrOf->qI,int->rF
open PyProof.Rows renaming boot_tuple->bv,arrOf->bU,boot_all->cO,boot_any->dg,wpS_bind->du,slot_tuple_getitem->dB,pendingOf->eN,wpS_pure->fU,callWith_type1->fV,Keyed->gy,boot_sorted->g_,seqObj->jX,SortSt->jY,boot_list->ku,envOfC->kA,boot_isinstance->lQ,SortKind->mY,wpS_forRange->mZ,AllBare->sV,StrsAre->sX,wpS_mono->uZ,slicePart_none->xZ,isBoolOf->yf,entry_tuple_getitem->zH,subscriptTail->A3,boot_bool->A7,assignInOrder_cons->An,args_tuple_getitem->Ar,boot_str->Aw,mem_zip_self->Cj,Subscript_->JJ,mirror->K7,tupleItemsOf_->Nl,listUpdate_at->Nz,subscriptTail_builtinR->Pm,IntsAre->Pn,wpS_get->Py,IsTup->U0,seqEpoch_at->Uk
open PySem.Heap.SameBut renaming update->bB
open PySem.SetTable renaming runEnd->bI,sizeAbove->bK,bits->bT,below->cm,turns->eZ,leap->gq,grown->gL,Probe->jl,fits->k7,layClean->lf,insertAt->lj,laid->pj,fill->pw,relaid->zb,has->Dc,orStandIn->Jl,road->Px
open Option.some renaming inj->bW,injEq->Gn
open PySem.SetTable.layClean renaming free->cw
open PySem.NameKind renaming free->cN,cell->eW
open PySem.Builtin.SmallTypes renaming nextOf->cR,ownedTupleIsFree->fI,ownedTupleHandOut->pp
open PySem.Builtin.Tuple renaming tupleExact->db,tupleItemsOf->mE
open Ne renaming symm->dk
open Option renaming map_some->dm,getD_none->iz,getD_some->jR,bind_some->rz,isSome_some->wx,isSome_map->xS,isSome->Uo
open PySem.Builtin.Slice renaming slicePlaces->dH,sliceApplied->iV,sliceAdjust->mS,sliceFields->xR
open PySem.Around renaming under_plainId->dM
open Or renaming inr->fk,inl->io
open PySem.Obj renaming mapFields->ft,mapSeq->fN,putSet->jW,data_mapFields->Ps
open False renaming elim->fG
open List.Sublist renaming refl->fJ
open PySem.F renaming plainAttrs_list->fW,slot_dict_keyiterator_next->gP,plain_list_iadd->jQ,slot_tuple_iterator_next->kc,args_tuple_add_2->ql,entry_tuple_add->qK,slot_tuple_add->rH,args_dict_keyiterator_next_1->uY,slot_zip_next->vc,entry_dict_keyiterator_next->vd,slot_tuple_lt->vf,entry_proto_collect->vF,plain_proto_collect->vG,entry_list_iadd->Au,slot_list_append->Ce,type_list_append->Cf,slot_list_extend->Ck,type_list_extend->Cm,slot_list_count->D9,slot_list_index->Da,args_tuple_iterator_next_1->Ev,slot_dict_iter->Ez,entry_tuple_iterator_next->Gm,slot_enumerate_next->Pd
open PySem.Heap.FunFrames renaming mem->gd
open Int renaming toNat_of_nonneg->gJ,emod_lt_of_pos->lz,toNat_natCast->lW,emod_nonneg->n_,reduceLT->Kb
open PySem.Str renaming ofString->gO
open PySem.AutoSeq1 renaming wpAny_loadPart'->hX
open PySem.Builtin.List renaming listExtendWith->iH,listTooLong->nN,listSameRef->zd
open PyProof.Rows.F renaming plain_set_update_loop->ji,entry_set_update_loop->ro
open Sum renaming inr->jB,inl->zE
open True renaming intro->jP
open ForInStep renaming yield->j_
open PySem.Paired renaming length->kr
open PySem.Builtin.Frozenset renaming updateFrom->l5,oneOther->uW,isAnySet->uX,sizeOf->vD,addrOf->vH,copyOf->vI,newClass->U5,slot1->Ug,baseOf->Uh,merge->Ui,unchanged->Uj
open And renaming intro->lM
open PySem.SetTable.below renaming go->mW
open PySem.Builtin.Dict_items renaming ownsTuple->nO
open PySem.Calls renaming Name_function_global->oT,call_function_entry->qm,loadGlobal_global->Gj,evalArgs_plain->JK
open Eq renaming trans->qH
open PySem.SetTable.probe renaming go->s_
open List.Pairwise renaming nil->t5
open List.cons renaming inj->um,injEq->yh
open PyProof.Rows.IsTup renaming new->v9
open PySem.PassesOwn renaming never->yg
open List.Perm renaming swap->zJ
open PySem.Heap.IsSliceOf renaming new->C6
open PySem.pickOrder renaming go->Cc
open PySem.SeqAt.EqAt renaming bool_bool->D7,int_str->Gh,str_int->Gi
open PySem.Shared renaming heap->Jn,TypeIs->U6
open PySem.Value.type renaming inj->LS
open PySem.SeqAt renaming EqAt->No
open PySem.Walks renaming list->Nr
open PySem.Code renaming quiet_builtin->Pb
open PySem.Builtin.ObjectAttr renaming attrName->TM,find->TQ
local macro_rules|`(tactic|omega)=>`(tactic|first|lia|omega (config:={}))
section
local macro_rules|`(∅)=>`(by omega)
local macro_rules|`(⋯)=>`(by decide)
local macro_rules|`(∎)=>`(by decide +kernel)
namespace L2
open PySem PySem.Spec PyProof.Rows
abbrev ip:=Sum Int Str
def Ax:ip->ag->Bool
 |.inl k,v=>Value.isInt k v
 |.inr x,v=>qI x v
def q1o(w:bz):ip->Int
 |.inl k=>hashInt k
 |.inr x=>hashStr w x
def gE:∀{k:ip}{v:ag},Ax k v=true->(∃i t,k=zE i/\v=rF i t)\/(∃x t,k=jB x/\v=lc x t)
 |.inl i,v,h=>by
  obtain⟨t,e⟩:=Value.isInt_shape (k:=i) (v:=v) h;exact .inl ⟨i,t,rfl,e⟩
 |.inr x,v,h=>by
  obtain⟨t,e⟩:=Value.isStrOf_shape (x:=x) (v:=v) h;exact .inr ⟨x,t,rfl,e⟩
def ND(i:Int)(t:Tok):Ax (.inl i) (.int i t)=true:=by simp[Ax,Value.isInt]
def NE(x:Str)(t:Tok):Ax (.inr x) (.str x t)=true:=by simp[Ax,qI]
def XR(a b:Int):decide ((zE a:ip)=zE b)=(a==b):=by
 by_cases e:a=b
 ·subst e;simp
 ·have h:¬ (zE a:ip)=zE b:=λq=>e (Sum.inl.inj q);rw[decide_eq_false h];exact(beq_eq_false_iff_ne.mpr e).symm
def XS(a b:Str):decide ((jB a:ip)=jB b)=decide (a=b):=by
 by_cases e:a=b
 ·subst e;simp
 ·have h:¬ (jB a:ip)=jB b:=λq=>e (Sum.inr.inj q);rw[decide_eq_false h,decide_eq_false e]
def XT(a:Int)(b:Str):decide ((zE a:ip)=jB b)=false:=decide_eq_false (λq=>nomatch q)
def XU(a:Str)(b:Int):decide ((jB a:ip)=zE b)=false:=decide_eq_false (λq=>nomatch q)
def i3(prog:bd)(w:bz):PySem.KeyKind prog w ip where
 is:=Ax
 hash:=q1o w
 inj:=λv a b ha hb=>by
  rcases gE ha with⟨i,t,rfl,rfl⟩|⟨x,t,rfl,rfl⟩
  ·rcases gE hb with⟨j,u,rfl,e⟩|⟨y,u,rfl,e⟩
   ·injection e with e1 _;rw[e1]
   ·exact nomatch e
  ·rcases gE hb with⟨j,u,rfl,e⟩|⟨y,u,rfl,e⟩
   ·exact nomatch e
   ·injection e with e1 _;rw[e1]
 byValue:=λk v h=>by
  rcases gE h with⟨i,t,rfl,rfl⟩|⟨x,t,rfl,rfl⟩<;>rfl
 pyHash:=λhv h=>by
  rcases gE hv with⟨i,t,rfl,rfl⟩|⟨x,t,rfl,rfl⟩
  ·exact wpAny_pyHash_int h
  ·exact wpAny_pyHash_str h
 eqBool:=λhu hv h=>by
  rcases gE hu with⟨i,t,rfl,rfl⟩|⟨x,t,rfl,rfl⟩
  ·rcases gE hv with⟨j,u,rfl,rfl⟩|⟨y,u,rfl,rfl⟩
   ·rw[XR] at h;exact wpAny_eqBool_int h
   ·rw[XT] at h;exact Gh i t y u _ _ _ _ h
  ·rcases gE hv with⟨j,u,rfl,rfl⟩|⟨y,u,rfl,rfl⟩
   ·rw[XU] at h;exact Gi x t j u _ _ _ _ h
   ·rw[XS] at h;exact Em h
 «strs»:=λk x t v h=>by
  rcases gE h with⟨i,u,rfl,e⟩|⟨y,u,rfl,e⟩
  ·exact nomatch e
  ·injection e with e1 _
   subst e1
   cases v<;>rfl
def GA(prog:bd)(w:bz)(i:Int)(t:Tok):(i3 prog w).is (.inl i) (.int i t)=true:=ND i t
def GB(prog:bd)(w:bz)(x:Str)(t:Tok):(i3 prog w).is (.inr x) (.str x t)=true:=NE x t
end L2
namespace L2
open PySem PySem.Spec PyProof.Rows
inductive V where
 |non|bl (b:Bool)|int (i:Int)|str (x:Str)|byt (b:Array UInt8)|flt (b:UInt64)|ref (a:ak)|ty (n:String)
 deriving DecidableEq
def dX:V->ag->Prop
 |.non,u=>u=dO
 |.bl b,u=>u=jC b
 |.int i,u=>∃t,u=rF i t
 |.str x,u=>∃t,u=lc x t
 |.byt b,u=>∃t,u=Value.bytes b t
 |.flt b,u=>∃t,u=Value.float b t
 |.ref a,u=>u=bh a
 |.ty n,u=>u=jD n
abbrev dI:List V->List ag->Prop:=Jt dX
def dI.length(r:dI xs us):xs.length=us.length:=kr r
def dI.get(h:dI xs us):∀{i:Nat}{x:V},xs[i]?=some x->∃u,us[i]?=some u/\dX x u:=by
 induction h with
 |nil=>intro i x e;cases e
 |cons r t a=>
  intro i x e;cases i with
  |zero=>cases e;exact⟨_,rfl,r⟩
  |succ i=>have q:=a (i:=i) e;exact q
def dI.append(h:dI xs us)(s:dI ys ws):dI (xs++ys) (us++ws):=by
 induction h with
 |nil=>exact s
 |cons r t a=>exact .cons r a
theorem dI.take:∀{xs:List V}{a:List ag} (n:Nat),dI xs a->dI (xs.take n) (a.take n)
 |_,_,0,_=>.nil
 |_,_,_+1,.nil=>.nil
 |_,_,n+1,.cons r t=>.cons r (dI.take n t)
theorem dI.drop:∀{xs:List V}{a:List ag} (n:Nat),dI xs a->dI (xs.drop n) (a.drop n)
 |_,_,0,r=>r
 |_,_,_+1,.nil=>.nil
 |_,_,n+1,.cons _ t=>dI.drop n t
def Ay:Option V->Option ag->Prop
 |some v,some u=>dX v u
 |none,none=>True
 |_,_=>False
def KV{a:Type}:List (a×V)->List (a×ag)->Prop:=Jt λ(p:a×V) (q:a×ag)=>p.1=q.1/\dX p.2 q.2
def kV:ip->V
 |.inl i=>.int i
 |.inr x=>.str x
inductive HO where
 |lst (xs:List V)
 |tup (xs:List V)
 |dK (kvs:List (ip×V))|dT (kvs:List (List ip×V))
 |set (S:Int->Bool) (n:Nat)
 |ins (C dx:ak) (fs:List (Str×V))
 |own (x:ak)
 |xd (fs:List (Str×V))
 |met (f x:ak)
 |rng (lo hi:Int)
 |frz (o:Obj) (u:HO)
 |tbl (ps:Array ag)
 |ext (φ:bP->Prop)
abbrev Hp:=ak->Option HO
def upd(H:Hp)(a:ak)(o:HO):Hp:=λb=>if b=a then some o else H b
def aX:upd H a o a=some o:=by unfold upd;rw[if_pos rfl]
def b9(h:b≠a):upd H a o b=H b:=by unfold upd;rw[if_neg h]
def PF{H:Hp}{a b:ak}{o u:HO}(h:H a=some o)(h':H b=some u)(d:o≠u):a≠b:=by
 intro e;subst e;rw[h] at h';exact d (bW h')
def bw{H:Hp}{a b:ak}{o:HO}(h:H a=some o)(h':H b=none):a≠b:=by
 intro e;subst e;rw[h] at h';cases h'
section
variable(P:bd)(w:bz)
def c_(H:Hp)(h:bP)(a:ak):HO->Prop
 |.lst xs=>xs.length<=sizeLine/\∃(b:List ag) (n:Nat),dI xs b/\h.get? a=some {cls:=.type "list",data:=.seq b.toArray n}
 |.tup xs=>xs.length<=sizeLine/\∃b:List ag,dI xs b/\U0 h a b.toArray
 |.dK c=>c.length<=sizeLine/\(a==e_)=false/\∃j,KV c j/\h.DictOf (i3 P w) a j
 |.dT c=>c.length<=sizeLine/\(a==e_)=false/\∃xs:List (List ip×ak×ag),
   Jt (λ(p:List ip×V) (q:List ip×ak×ag)=>p.1=q.1/\H q.2.1=some (.tup (p.1.map kV))/\dX p.2 q.2.2) c xs /\
   ∃o es k,h.get? a=some o/\o.ExactDict/\o.data=.dict es k/\es.toList=xs.map (entryOfKey (uU (i3 P w)))/\(xs.map (·.1)).Nodup
 |.set S n=>h.SetOf (intKind P w) a S n
 |.ins C e fs=>H e=some (.own a)/\fs.length<=1000/\e≠a/\h.get? a=some (zF C e) /\
   ∃d,h.Ns1 e d/\(∀f,Ay (fs.lookup f) (d f))/\PySem.Within d (fs.map (·.1))
 |.own _=>∃o,h.get? a=some o
 |.xd fs=>∃d,h.Ns1 a d/\∀f,Ay (fs.lookup f) (d f)
 |.rng lo l=>∃t u v,h.get? a=some {cls:=.type "range",data:=.fields #[.int lo t,.int l u,.int 1 v]}
 |.frz o u=>h.get? a=some o/\c_ H h a u
 |.tbl ps=>h.get? a=some {cls:=.none,data:=.fields ps}
 |.met f x=>h.get? a=some (wA (.ref f) (.ref x))
 |.ext φ=>φ h/\(∃o,h.get? a=some o)/\∀g i:bP,φ g->(∀o,g.get? a=some o->i.get? a=some o)->φ i
def sR(H:Hp)(h:bP):Prop:=∀a o,H a=some o->c_ P w H h a o
end
theorem c_.lt(x:c_ P w H h a o):a<h.objs.size:=by
 cases o with
 |lst xs=>obtain⟨_,_,_,_,e⟩:=x;exact av e
 |tup xs=>obtain⟨_,_,_,p⟩:=x;exact p.lt
 |dK b=>obtain⟨_,_,_,_,o,_,_,e,_⟩:=x;exact av e
 |dT b=>obtain⟨_,_,_,_,o,_,_,e,_⟩:=x;exact av e
 |set S n=>obtain⟨o,_,_,_,e,_⟩:=x;exact av e
 |ins C c fs=>obtain⟨_,_,_,e,_⟩:=x;exact av e
 |own y=>obtain⟨_,e⟩:=x;exact av e
 |xd fs=>obtain⟨_,⟨_,_,_,e,_⟩,_⟩:=x;exact av e
 |rng lo d=>obtain⟨_,_,_,e⟩:=x;exact av e
 |frz ob u=>obtain⟨e,_⟩:=x;exact av e
 |tbl ps=>exact av (show h.get? a=some _ from x)
 |met f y=>exact av (show h.get? a=some _ from x)
 |ext φ=>obtain⟨_,⟨_,e⟩,_⟩:=x;exact av e
def Paired.mapP{α e:Type}{F G:α->e->Prop}{c:List α}{d:List e}(h:Jt F c d)(f:∀a b,F a b->G a b):Jt G c d:=by
 induction h with
 |nil=>exact .nil
 |cons r t g=>exact .cons (f _ _ r) g
def c_.stay(x:c_ P w H h a o)(k:∀b u,(b=a\/H b=some (.own a))->h.get? b=some u->h'.get? b=some u)
  (ho:∀b,H b=some (.own a)->H' b=some (.own a)) (A:∀b xs,H b=some (.tup xs)->H' b=some (.tup xs)):c_ P w H' h' a o:=by
 induction o with
 |lst xs=>obtain⟨z,i,n,r,e⟩:=x;exact⟨z,i,n,r,k _ _ (.inl rfl) e⟩
 |tup xs=>obtain⟨z,i,r,ob,e,c⟩:=x;exact⟨z,i,r,ob,k _ _ (.inl rfl) e,c⟩
 |dK l=>obtain⟨z,y,E,r,ob,es,g,e,c⟩:=x;exact⟨z,y,E,r,ob,es,g,k _ _ (.inl rfl) e,c⟩
 |dT l=>
  obtain⟨z,y,xs,r,ob,es,g,e,c⟩:=x;exact⟨z,y,xs,Paired.mapP r λp q z=>⟨z.1,A _ _ z.2.1,z.2.2⟩,ob,es,g,k _ _ (.inl rfl) e,c⟩
 |set S n=>obtain⟨ob,es,g,t,e,c⟩:=x;exact⟨ob,es,g,t,k _ _ (.inl rfl) e,c⟩
 |ins C I fs=>
  obtain⟨d,z,ne,e,j,⟨m,es,g,B,c⟩,r⟩:=x;exact⟨ho _ d,z,ne,k _ _ (.inl rfl) e,j,⟨m,es,g,k _ _ (.inr d) B,c⟩,r⟩
 |own y=>obtain⟨ob,e⟩:=x;exact⟨ob,k _ _ (.inl rfl) e⟩
 |xd fs=>obtain⟨j,⟨m,es,g,e,c⟩,r⟩:=x;exact⟨j,⟨m,es,g,k _ _ (.inl rfl) e,c⟩,r⟩
 |rng lo G=>obtain⟨t,u,v,e⟩:=x;exact⟨t,u,v,k _ _ (.inl rfl) e⟩
 |frz ob u s=>obtain⟨e,q⟩:=x;exact⟨k _ _ (.inl rfl) e,s q⟩
 |tbl ps=>
  have e:h.get? a=some {cls:=.none,data:=.fields ps}:=x;show h'.get? a=some {cls:=.none,data:=.fields ps};exact k a _ (.inl rfl) e
 |met f y=>
  have e:h.get? a=some (wA (.ref f) (.ref y)):=x;show h'.get? a=some (wA (.ref f) (.ref y));exact k a _ (.inl rfl) e
 |ext φ=>obtain⟨p,⟨o,e⟩,st⟩:=x;exact⟨st _ _ p λo q=>k _ _ (.inl rfl) q,⟨o,k _ _ (.inl rfl) e⟩,st⟩
theorem sR.lt(x:sR P w H h)(e:H a=some o):a<h.objs.size:=(x a o e).lt
def sR.fresh(x:sR P w H h)(e:h.objs.size<=a):H a=none:=by
 cases q:H a with
 |none=>rfl
 |some u=>exact absurd (aK (x.lt q) e) (cB _)
def sR.kept(x:sR P w H h)(k:∀b u,h.get? b=some u->h'.get? b=some u):sR P w H h':=λa o e=>
 (x a o e).stay (λb u _ q=>k b u q) (λ_ q=>q) λ_ _ q=>q
def sR.laid(x:sR P w H h)(k:∀b u,h.get? b=some u->h'.get? b=some u)(g:h.objs.size<=a)(new:c_ P w (upd H a o) h' a o):sR P w (upd H a o) h':=λb u e=>by
 have d:=x.fresh g;by_cases f:b=a
 ·subst f;rw[aX] at e;cases e;exact new
 ·rw[b9 f] at e;exact(x b u e).stay (λc v _ q=>k c v q) (λc q=>by rw[b9 (bw q d)];exact q) λc xs q=>by rw[b9 (bw q d)];exact q
def Rd(H:Hp)(a:ak)(u:HO):Prop:=H a=some u\/∃o,H a=some (.frz o u)
def Rd.of(h:H a=some u):Rd H a u:=.inl h
def Rd.ok(r:Rd H a u)(x:sR P w H h):c_ P w H h a u:=by
 rcases r with r|⟨o,r⟩
 ·exact x a u r
 ·obtain⟨_,q⟩:=x a _ r;exact q
def ZN:Option HO->Prop
 |some (.lst _)=>True
 |some (.dK _)=>True
 |some (.dT _)=>True
 |some (.set _ _)=>True
 |some (.ins _ _ _)=>True
 |some (.ext _)=>True
 |_=>False
def sR.write(ok:sR P w H h)(j:ZN (H x))(he:e=x\/H e=some (.own x))(k:∀b u,b≠e->h.get? b=some u->h'.get? b=some u)(l:∃u,h'.get? e=some u)
  (new:c_ P w (upd H x o') h' x o'):sR P w (upd H x o') h':=λb u q=>by
 have d:∀c y,H c=some (.own y)->c≠x:=λc y r z=>by subst z;rw[r] at j;exact j
 have f:∀c xs,H c=some (.tup xs)->c≠x:=λc xs r z=>by subst z;rw[r] at j;exact j
 by_cases i:b=x
 ·subst i;rw[aX] at q;cases q;exact new
 ·rw[b9 i] at q;by_cases a:b=e
  ·have q':H b=some (.own x):=by
    rcases he with z|z
    ·exact absurd (a.trans z) i
    ·rw[a];exact z
   rw[q] at q';cases q';obtain⟨v,m⟩:=l;exact⟨v,by rw[a];exact m⟩
  ·refine(ok b u q).stay (λc v g r=>k c v ?_ r) (λc r=>by rw[b9 (d c b r)];exact r) λc xs r=>by rw[b9 (f c xs r)];exact r
   rcases g with rfl|g
   ·exact a
   ·rintro rfl;rcases he with z|z
    ·exact d c b g z
    ·rw[g] at z;cases z;exact i rfl
structure Un (fs ex:List ak) (H H':Hp) (h h':bP):Prop where
 keep:∀b o,h.get? b=some o->H b=none->b∉fs->b∉ex->h'.get? b=some o
 slot:∀b o,h.get? b=some o->H b=none->b∈fs->b∉ex->∃sl,h'.get? b=some {o with slots:=sl}
 free:∀b o,h.get? b=some o->H b=none->b∉ex->H' b=none
 there:∀b o,h.get? b=some o->b∉ex->∃o',h'.get? b=some o'
 tups:∀b xs,H b=some (.tup xs)->H' b=some (.tup xs)
 frzs:∀b o u,H b=some (.frz o u)->H' b=some (.frz o u)
 tbls:∀b ps,H b=some (.tbl ps)->∃more,H' b=some (.tbl (ps++more))
def Un.any(u:Un fs ex H H1 h h1)(q:h.get? b=some ob)(n:H b=none)(a:b∉ex):∃d,h1.get? b=some {ob with slots:=d}:=by
 by_cases c:b∈fs
 ·exact u.slot b ob q n c a
 ·exact⟨ob.slots,u.keep b ob q n c a⟩
def Un.kept(k:∀b u,h.get? b=some u->h'.get? b=some u):Un fs ex H H h h':=
 ⟨λb ob q _ _ _=>k b ob q,λb ob q _ _ _=>⟨ob.slots,k b ob q⟩,λ_ _ _ n _=>n,λb ob q _=>⟨ob,k b ob q⟩,λ_ _ q=>q,λ_ _ _ q=>q,λ_ ps q=>⟨#[],by rw[q];simp⟩⟩
def Un.refl:Un fs ex H H h h:=Un.kept λ_ _ q=>q
def Un.laid(k:∀b u,h.get? b=some u->h'.get? b=some u)(d:h.objs.size<=a)(c:H a=none):Un fs ex H (upd H a o) h h' where
 keep:=λb u q _ _ _=>k b u q
 slot:=λb u q _ _ _=>⟨u.slots,k b u q⟩
 free:=λb u q n _=>by rw[b9 (aO (aK (av q) d))];exact n
 there:=λb u q _=>⟨u,k b u q⟩
 tups:=λb xs q=>by rw[b9 (bw q c)];exact q
 frzs:=λb u xs q=>by rw[b9 (bw q c)];exact q
 tbls:=λb ps q=>⟨#[],by rw[b9 (bw q c),q];simp⟩
def Un.write(c:ZN (H x))(he:e=x\/H e=some (.own x))(k:∀b u,b≠e->h.get? b=some u->h'.get? b=some u)(f:∃u,h'.get? e=some u):Un fs ex H (upd H x o) h h':=by
 have g:∀b,H b=none->b≠x:=λb n z=>by subst z;rw[n] at c;exact c
 have i:∀b,H b=none->b≠e:=λb n z=>by
  subst z;rcases he with r|r
  ·exact g b n r
  ·rw[n] at r;cases r
 have d:∀b u,H b=some u->¬ ZN (some u)->b≠x:=λb u q nm z=>by subst z;rw[q] at c;exact nm c
 refine⟨λb u q n _ _=>k b u (i b n) q,λb u q n _ _=>⟨u.slots,k b u (i b n) q⟩,λb u q n _=>by rw[b9 (g b n)];exact n,λb u q _=>?_,
  λb xs q=>by rw[b9 (d b _ q λz=>z)];exact q,λb u xs q=>by rw[b9 (d b _ q λz=>z)];exact q,λb ps q=>⟨#[],by rw[b9 (d b _ q λz=>z),q];simp⟩⟩
 by_cases a:b=e
 ·subst a;exact f
 ·exact⟨u,k b u a q⟩
def trk(h:bP)(H:Hp):List ak:=(bq h.objs.size).filter λa=>(H a).isSome
def EC(h:bP)(H:Hp):bP:=P6 h (trk h H)
def NF(h:bP)(H:Hp):(EC h H).objs.size=h.objs.size:=PySem.W.hideAll_size _ _
def PH(e:h.get? b=some o)(n:H b=none):(EC h H).get? b=some o:=
 Jh _ e λa=>by
  have q:(H b).isSome=true:=(List.mem_filter.mp a).2;rw[n] at q;simp at q
def Uq(e:(EC h H).get? b=some o):h.get? b=some o/\H b=none:=by
 have a:h.get? b=some o:=Ju (trk h H) e;refine⟨a,?_⟩;cases q:H b with
 |none=>rfl
 |some x=>
  have c:b∈trk h H:=List.mem_filter.mpr ⟨List.mem_range.mpr (av a),by simp[q]⟩;have z:(EC h H).get? b=none:=PySem.W.hideAll_none (trk h H) c;rw[z] at e;cases e
def Ur(g h:bP)(L:ak):List (ak×Obj):=(bq h.objs.size).filterMap λa=>if a=L\/(g.get? a).isSome=true then none else(h.get? a).map λo=>(a,o)
def bA(g h:bP)(L d:ak):List (ak×Obj):=(Ur g h L).filter λp=>decide (p.1≠d)
end L2
namespace L2
open PySem PySem.Spec PyProof.Rows
structure Mod (K:a8) (mg:Str->Option ag) (base:bP):Prop where
 kin:K.In base
 glob:base.Ns bX mg
 blt:∃mb,base.Ns builtinsNs mb/\∀x:Str,x≠"__name__"->mb x=jo x
 nolimit:base.NoLimit
structure Cx where
 prog:bd
 w:bz
 K:a8
 mg:Str->Option ag
 base:bP
 A:cg
 N:List Str
 s₀:aq
 H₀:Hp
 env:Env
 outer:List Env
 stack:List Env
 ex:List ak
 fn:Str->Bool
 calm:Bool
 pn:List (ak×Obj)
 xe:ag->aq->Prop
def vi(l:List Env):List ak:=l.filterMap (·.frame)
abbrev Cx.fs(X:Cx):List ak:=vi X.outer
def Pi(a:eP)(x:Str):Prop:=a.names.lookup x=some .local\/a.names.lookup x=some .cell\/a.names.lookup x=some .free
def WD(a:eP)(x:Str):Prop:=a.names.lookup x=some .local\/a.names.lookup x=some .cell
def q1p(env:Env)(h:bP)(m:Str->Option ag)(x:Str)(u:ag):Prop:=
 (env.kindOf x=some .local/\m x=some u)\/((env.kindOf x=some .cell\/env.kindOf x=some .free)/\∃c,env.cells.lookup x=some c/\h.IsCell c (some u))
structure Cx.Ok (X:Cx):Prop where
 mod:Mod X.K X.mg X.base
 kind:X.env.scope.kind=.function
 glob:X.env.globals=bX
 blt:X.env.builtins=builtinsNs
 above:X.s₀.heap.objs.size<=X.env.locals
 inj:∀x y c,X.env.cells.lookup x=some c->X.env.cells.lookup y=some c->x=y
 has:∀x,(X.env.kindOf x=some .cell\/X.env.kindOf x=some .free)->∃c,X.env.cells.lookup x=some c
 cab:∀x c,X.fn x=true->X.env.cells.lookup x=some c->X.s₀.heap.objs.size<=c
 hd:X.calm=true->X.A.handled=none
 frames:X.A.frames=some X.stack
 stk:X.stack=X.outer\/(X.stack=X.env::X.outer/\X.env.frame=some X.env.locals)
 exf:∀b∈X.ex,b≠X.env.locals/\∀x c,X.env.cells.lookup x=some c->c≠b
 bs:∀b o,X.base.get? b=some o->X.s₀.heap.get? b=some o/\X.H₀ b=none
 bsz:X.base.objs.size<=X.s₀.heap.objs.size
 noex:∀b o,X.base.get? b=some o->b∉X.ex
 exfs:∀b∈X.ex,b∉X.fs
 funs:X.s₀.heap.FunFrames X.base X.outer
 frf:∀b∈X.fs,X.H₀ b=none
structure bQ (X:Cx) (pins:List (ak×Obj)) (σ:List (Option V)) (H:Hp) (s:aq):Prop where
 ok:X.Ok
 os:s.os=X.s₀.os
 bare:sV s.gens
 base:Un X.fs X.ex X.H₀ H X.s₀.heap s.heap
 loc:∃m,s.heap.Ns X.env.locals m/\∀(i:Nat) (x:Str) (v:V),X.N[i]?=some x->σ[i]?=some (some v)->Pi X.env.scope x->∃u,dX v u/\q1p X.env s.heap m x u
 cell:∀x c,X.env.cells.lookup x=some c->∃v,s.heap.IsCell c v
 free:H X.env.locals=none
 freeC:∀x c,X.env.cells.lookup x=some c->H c=none
 pin:∀p∈X.pn++pins,s.heap.get? p.1=some p.2/\H p.1=none/\p.1≠X.env.locals/\p.1∉X.fs/\∀v,p.2.data≠.cell v
 hok:sR X.prog X.w H s.heap
 len:σ.length=X.N.length
section
variable{X:Cx}{pins:List (ak×Obj)}{σ:List (Option V)}{H H':Hp}{s:aq}{h':bP}
def Cx.Ok.nofr(ok:X.Ok)(e:X.base.get? b=some o):b∉X.fs:=λa=>by
 have:=(ok.funs.mem a).1;rw[e] at this;cases this
theorem bQ.bs(I:bQ X pins σ H s):∀b o,X.base.get? b=some o->s.heap.get? b=some o/\H b=none:=λb o e=>
 ⟨I.base.keep b o (I.ok.bs b o e).1 (I.ok.bs b o e).2 (I.ok.nofr e) (I.ok.noex b o e),I.base.free b o (I.ok.bs b o e).1 (I.ok.bs b o e).2 (I.ok.noex b o e)⟩
def bQ.bk(I:bQ X pins σ H s):∀b o,X.base.get? b=some o->s.heap.get? b=some o:=λb o e=>(I.bs b o e).1
theorem bQ.mod(I:bQ X pins σ H s):Mod X.K X.mg X.base:=I.ok.mod
def bQ.kIn(I:bQ X pins σ H s):X.K.In s.heap:=I.ok.mod.kin.keeps I.bk
theorem bQ.lt(I:bQ X pins σ H s):X.env.locals<s.heap.objs.size:=let ⟨_,hn,_⟩:=I.loc;hn.lt
def bQ.sz(I:bQ X pins σ H s):X.s₀.heap.objs.size<=s.heap.objs.size:=cH I.ok.above (bL I.lt)
def bQ.nofs(I:bQ X pins σ H s)(h:s.heap.objs.size<=a):a∉X.fs:=λb=>by
 obtain⟨_,o,ho,_⟩:=I.ok.funs.mem b;exact absurd (aK (av ho) (cH I.sz h)) (cB _)
def bQ.cne(I:bQ X pins σ H s):∀x c,X.env.cells.lookup x=some c->c≠X.env.locals:=λx c e z=>by
 obtain⟨v,o,ho,d⟩:=I.cell x c e;obtain⟨m,⟨o',es,f,b,a,_⟩,_⟩:=I.loc;rw[z,b] at ho;cases ho;rw[a] at d;cases d
theorem bQ.funs(I:bQ X pins σ H s):s.heap.FunFrames X.base X.outer:=by
 have all:∀(l:List Env),(∀b∈vi l,b∈X.fs)->X.s₀.heap.FunFrames X.base l->s.heap.FunFrames X.base l:=by
  intro l;induction l with
  |nil=>intro _ _;trivial
  |cons env r f=>
   intro hs g;obtain⟨k,⟨L,o,a,i,ho,j⟩,h⟩:=g;have d:L∈X.fs:=hs L (by unfold vi;rw[fv,a];exact ap);obtain⟨m,e⟩:=I.base.slot L o ho (I.ok.frf L d) d λz=>I.ok.exfs L z d;exact⟨k,⟨L,_,a,i,e,j⟩,f (λb c=>hs b (by unfold vi;rw[fv,a];exact ai _ c)) h⟩
 exact all X.outer (λ_ c=>c) I.ok.funs
def bQ.stack(I:bQ X pins σ H s):s.heap.FunFrames X.base X.stack:=by
 rcases I.ok.stk with e|⟨e,hf⟩
 ·rw[e];exact I.funs
 ·rw[e];obtain⟨m,a,_⟩:=I.loc;refine .cons (by rw[I.ok.kind];decide) hf a ?_ I.funs;exact Heap.get?_none_of_le (cH I.ok.bsz I.ok.above)
def bQ.stkSub(I:bQ X pins σ H s):∀b∈vi X.stack,b∈X.env.locals::X.fs:=λb a=>by
 rcases I.ok.stk with e|⟨e,hf⟩
 ·rw[e] at a;exact ai _ a
 ·rw[e] at a;unfold vi at a;rw[fv,hf] at a;exact a
def bQ.stkFree(I:bQ X pins σ H s):∀b∈vi X.stack,H b=none:=λb a=>by
 rcases List.mem_cons.mp (I.stkSub b a) with e|a
 ·rw[e];exact I.free
 ·obtain⟨_,o,ho,_⟩:=I.ok.funs.mem a;exact I.base.free b o ho (I.ok.frf b a) λz=>I.ok.exfs b z a
def bQ.step{g':Array Jv}{t':Nat}{d':P7}{ch:List ak}(I:bQ X pins σ H s)
  (f:∀b∈ch,(b∈X.ex\/X.s₀.heap.objs.size<=b)/\b≠X.env.locals/\(∀x c,X.env.cells.lookup x=some c->c≠b)/\∀p∈X.pn++pins,p.1≠b)
  (keep:∀b o,b≠X.env.locals->b∉X.fs->b∉ch->s.heap.get? b=some o->H b=none->h'.get? b=some o)
  (slot:∀b o,b≠X.env.locals->b∈X.fs->b∉ch->s.heap.get? b=some o->H b=none->∃P,h'.get? b=some {o with slots:=P}) (free:∀b o,b∉ch->s.heap.get? b=some o->H b=none->H' b=none)
  (there:∀b o,b∉ch->s.heap.get? b=some o->∃o',h'.get? b=some o')
  (B:∀b xs,H b=some (.tup xs)->H' b=some (.tup xs)) (A:∀b o u,H b=some (.frz o u)->H' b=some (.frz o u)) (E:∀b ps,H b=some (.tbl ps)->∃more,H' b=some (.tbl (ps++more)))
  (ns:∀m,s.heap.Ns X.env.locals m->h'.Ns X.env.locals m) (N:sR X.prog X.w H' h') (hg:sV g'):
  bQ X pins σ H' {s with heap:=h',gens:=g',drawn:=d',toks:=t'}:=by
 have G:∀b o,X.s₀.heap.get? b=some o->b≠X.env.locals:=λb o e=>aO (aK (av e) I.ok.above);have t:∀b o,X.s₀.heap.get? b=some o->b∉X.ex->b∉ch:=λb o e a y=>by
  rcases (f b y).1 with z|z
  ·exact a z
  ·exact absurd (aK (av e) z) (cB _)
 have g:∀x c,X.env.cells.lookup x=some c->∀v,s.heap.IsCell c v->h'.IsCell c v:=λx c e v L=>by
  obtain⟨o,ho,O⟩:=L;have h:c∉ch:=λz=>(f c z).2.2.1 x c e rfl;by_cases Q:c∈X.fs
  ·obtain⟨P,q⟩:=slot c o (I.cne x c e) Q h ho (I.freeC x c e);exact⟨_,q,O⟩
  ·exact⟨o,keep c o (I.cne x c e) Q h ho (I.freeC x c e),O⟩
 refine⟨I.ok,I.os,hg,⟨λb o e n y a=>?_,λb o e n y a=>?_,λb o e n a=>?_,λb o e a=>?_,λb xs e=>B b xs (I.base.tups b xs e),λb o xs e=>A b o xs (I.base.frzs b o xs e),λb ps e=>?_⟩,?_,λx c e=>?_,?_,λx c e=>?_,λp S=>?_,N,I.len⟩
 ·exact keep b o (G b o e) y (t b o e a) (I.base.keep b o e n y a) (I.base.free b o e n a)
 ·obtain⟨P,j⟩:=I.base.slot b o e n y a;obtain⟨M,K⟩:=slot b _ (G b o e) y (t b o e a) j (I.base.free b o e n a);exact⟨M,K⟩
 ·obtain⟨o',j⟩:=I.base.there b o e a;exact free b o' (t b o e a) j (I.base.free b o e n a)
 ·obtain⟨o',j⟩:=I.base.there b o e a;exact there b o' (t b o e a) j
 ·obtain⟨m1,j⟩:=I.base.tbls b ps e;obtain⟨Y,K⟩:=E b _ j;exact⟨m1++Y,by rw[K,Nh]⟩
 ·obtain⟨m,hn,U⟩:=I.loc;refine⟨m,ns m hn,λi x v j K T=>?_⟩;obtain⟨u,r,l⟩:=U i x v j K T;refine⟨u,r,?_⟩;rcases l with l|⟨k,c,e,z⟩
  ·exact .inl l
  ·exact .inr ⟨k,c,e,g x c e _ z⟩
 ·obtain⟨v,z⟩:=I.cell x c e;exact⟨v,g x c e v z⟩
 ·obtain⟨m,⟨o,_,_,ho,_⟩,_⟩:=I.loc;exact free _ o (λz=>(f _ z).2.1 rfl) ho I.free
 ·obtain⟨v,o,ho,O⟩:=I.cell x c e;exact free c o (λz=>(f c z).2.2.1 x c e rfl) ho (I.freeC x c e)
 ·obtain⟨e,n,ne,nf,d⟩:=I.pin p S;have h:p.1∉ch:=λz=>(f p.1 z).2.2.2 p S rfl;exact⟨keep p.1 p.2 ne nf h e n,free p.1 p.2 h e n,ne,nf,d⟩
def bQ.un{t':Nat}(I:bQ X pins σ H s)(u:Un X.fs [] H H' s.heap h')(f:sR X.prog X.w H' h'):bQ X pins σ H' {s with heap:=h',toks:=t'}:=by
 obtain⟨m,⟨o,es,j,ho,r⟩,_⟩:=id I.loc;obtain⟨l,i⟩:=u.any ho I.free (by simp);exact I.step (g':=s.gens) (d':=s.drawn) (ch:=[]) (λ_ z=>nomatch z) (λb o _ c _ e n=>u.keep b o e n c (by simp)) (λb o _ c _ e n=>u.slot b o e n c (by simp)) (λb o _ e n=>u.free b o e n (by simp)) (λb o _ e=>u.there b o e (by simp)) u.tups u.frzs u.tbls (λk g=>by
  obtain⟨o',es',d,a,h⟩:=g;rw[ho] at a;cases a;exact⟨_,es',d,i,h⟩) f I.bare
def bQ.call{g':Array Jv}{t':Nat}{d':P7}{ch:List ak}(I:bQ X pins σ H s)(u:Un (vi X.stack) ch H H' s.heap h')(h:sR X.prog X.w H' h')(q:sV g')
  (d:∀b∈ch,(b∈X.ex\/X.s₀.heap.objs.size<=b)/\b≠X.env.locals/\(∀x c,X.env.cells.lookup x=some c->c≠b)/\∀p∈X.pn++pins,p.1≠b):
  bQ X pins σ H' {s with heap:=h',gens:=g',drawn:=d',toks:=t'}:=by
 obtain⟨m,⟨o,es,t,ho,r⟩,_⟩:=id I.loc;obtain⟨y,i⟩:=u.any ho I.free λz=>(d _ z).2.1 rfl;exact I.step (ch:=ch) d (λb o i j a e n=>u.keep b o e n (λz=>(List.mem_cons.mp (I.stkSub b z)).elim i j) a) (λb o _ _ a e n=>u.any e n a) (λb o a e n=>u.free b o e n a) (λb o a e=>u.there b o e a) u.tups u.frzs u.tbls (λv k=>by
  obtain⟨o',es',g,f,l⟩:=k;rw[ho] at f;cases f;exact⟨_,es',g,i,l⟩) h q
def bQ.turned{t':Nat}{it:ak}(I:bQ X pins σ H s)(k:∀b o,b≠it->s.heap.get? b=some o->h'.get? b=some o)(t:H it=none)(f:it≠X.env.locals)
  (g:it∈X.ex\/X.s₀.heap.objs.size<=it) (w:∀x c,X.env.cells.lookup x=some c->c≠it) (h:∀p∈X.pn++pins,p.1≠it):bQ X pins σ H {s with heap:=h',toks:=t'}:=by
 have d:∀b u,H b=some u->b≠it:=λb u e z=>by rw[z,t] at e;cases e
 refine I.step (g':=s.gens) (d':=s.drawn) (ch:=[it]) (λb j=>?_) (λb o _ _ a e _=>k b o (λz=>a (by simp[z])) e) (λb o _ _ a e _=>⟨o.slots,k b o (λz=>a (by simp[z])) e⟩) (λ_ _ _ _ n=>n)
  (λb o a e=>⟨o,k b o (λz=>a (by simp[z])) e⟩) (λ_ _ e=>e) (λ_ _ _ e=>e) (λb ps e=>⟨#[],by rw[e];simp⟩) (λm l=>?_) (λb u e=>?_) I.bare
 ·have e:b=it:=by simpa using j
  subst e;exact⟨g,f,w,h⟩
 ·obtain⟨o,es,i,ho,r⟩:=l;exact⟨o,es,i,k _ o (dk f) ho,r⟩
 ·refine(I.hok b u e).stay (λc v a q=>k c v ?_ q) (λ_ q=>q) λ_ _ q=>q;rcases a with z|z
  ·rw[z];exact d b u e
  ·exact d c _ z
theorem bQ.tok(I:bQ X pins σ H s)(t:Nat):bQ X pins σ H {s with toks:=t}:=I.un (h':=s.heap) (t':=t) Un.refl I.hok
theorem bQ.kept(I:bQ X pins σ H s)(k:∀b u,s.heap.get? b=some u->h'.get? b=some u):bQ X pins σ H {s with heap:=h',toks:=t'}:=I.un (Un.kept k) (I.hok.kept k)
theorem bQ.laid(I:bQ X pins σ H s)(k:∀b u,s.heap.get? b=some u->h'.get? b=some u)(c:s.heap.objs.size<=a)(new:c_ X.prog X.w (upd H a o) h' a o):
  bQ X pins σ (upd H a o) {s with heap:=h',toks:=t'}:=I.un (Un.laid k c (I.hok.fresh c)) (I.hok.laid k c new)
theorem bQ.write(I:bQ X pins σ H s)(c:ZN (H x))(he:e=x\/H e=some (.own x))(k:∀b u,b≠e->s.heap.get? b=some u->h'.get? b=some u)(a:∃u,h'.get? e=some u)
  (new:c_ X.prog X.w (upd H x o) h' x o):bQ X pins σ (upd H x o) {s with heap:=h',toks:=t'}:=I.un (Un.write c he k a) (I.hok.write c he k a new)
def bQ.weak(I:bQ X pins σ H s)(b:σ'.length=σ.length)(w:∀(i:Nat) v,σ'[i]?=some (some v)->σ[i]?=some (some v)):bQ X pins σ' H s:=
 ⟨I.ok,I.os,I.bare,I.base,let ⟨m,hn,hl'⟩:=I.loc;⟨m,hn,λi x v a c d=>hl' i x v a (w i v c) d⟩,I.cell,I.free,I.freeC,I.pin,I.hok,b.trans I.len⟩
def bQ.pins_of(I:bQ X pins σ H s)(h:∀p∈pins',s.heap.get? p.1=some p.2/\H p.1=none/\p.1≠X.env.locals/\p.1∉X.fs/\∀v,p.2.data≠.cell v):bQ X pins' σ H s:=
 ⟨I.ok,I.os,I.bare,I.base,I.loc,I.cell,I.free,I.freeC,λp a=>(List.mem_append.mp a).elim (λz=>I.pin p (c6 _ z)) (h p),I.hok,I.len⟩
def GC{N:List Str}(c:N.Nodup){i j:Nat}{x:Str}(a:N[i]?=some x)(b:N[j]?=some x):i=j:=by
 obtain⟨f,d⟩:=List.getElem?_eq_some_iff.mp a;obtain⟨g,e⟩:=List.getElem?_eq_some_iff.mp b;exact(TD c).mp (d.trans e.symm)
theorem Dd{M:Model}{A:cg}{E:ag->aq->Prop}{i:Nat}{x:Str}{v:V}{u:ag}{Q:Unit->aq->Prop}(I:bQ X pins σ H s)(hN:X.N.Nodup)(Y:X.N[i]?=some x)(t:WD X.env.scope x)(r:dX v u)
  (h:∀s',bQ X pins (σ.set i (some v)) H s'->(∃a,bG a s.heap s'.heap/\(a=X.env.locals\/X.env.cells.lookup x=some a))->Q () s') (hf:X.fn x=true\/X.env.scope.names.lookup x=some .local:=by first|exact .inl rfl|exact .inr rfl|assumption):au M A (storeName X.env x u) Q E s:=by
 obtain⟨m,hn,hl⟩:=id I.loc;have T:(X.env.scope.kind == .class||(X.env.scope.kind == .module&&X.env.locals != X.env.globals))=false:=by rw[I.ok.kind];rfl
 have K:i<σ.length:=by rw[I.len];exact(List.getElem?_eq_some_iff.mp Y).1
 have cne:=I.cne;have g:∀{a:ak}{h':bP},(∃o,s.heap.get? a=some o/\H a=none)->bG a s.heap h'->sR X.prog X.w H h':=λ{a h'} ha hs b ob e=>by
  obtain⟨_,_,B⟩:=ha;refine(I.hok b ob e).stay (λc w' l q=>(hs.2 c ?_).trans q) (λ_ q=>q) λ_ _ q=>q;rintro rfl;rcases l with rfl|l
  ·rw[B] at e;cases e
  ·rw[B] at l;cases l
 rcases t with L|L
 ·refine wpAny_storeName_local L hn (λh' a4 hs=>?_) T;obtain⟨oL,_,_,a3,_⟩:=id hn;refine h _ ⟨I.ok,I.os,I.bare,⟨λb o e n P t=>?_,λb o e n P t=>?_,I.base.free,λb o e t=>?_,I.base.tups,I.base.frzs,I.base.tbls⟩,⟨_,a4,λj y v' f G e3=>?_⟩,λy c e=>?_,I.free,I.freeC,λp hp=>?_,g ⟨oL,a3,I.free⟩ hs,by simpa using I.len⟩ ⟨_,hs,.inl rfl⟩
  ·exact(hs.2 b (aO (aK (av e) I.ok.above))).trans (I.base.keep b o e n P t)
  ·obtain⟨sl,f⟩:=I.base.slot b o e n P t;exact⟨sl,(hs.2 b (aO (aK (av e) I.ok.above))).trans f⟩
  ·obtain⟨o',f⟩:=I.base.there b o e t;exact⟨o',(hs.2 b (aO (aK (av e) I.ok.above))).trans f⟩
  ·by_cases S:j=i
   ·subst S;rw[Y] at f;cases f;rw[aQ K] at G;cases G;exact⟨u,r,.inl ⟨L,by simp⟩⟩
   ·rw[ar (dk S)] at G;obtain⟨u',r',q⟩:=hl j y v' f G e3;refine⟨u',r',?_⟩;rcases q with⟨k,e⟩|⟨k,c,e,z⟩
    ·refine .inl ⟨k,?_⟩;have:y≠x:=λe=>S (GC hN f (e ▸ Y))
     simp[this,e]
    ·exact .inr ⟨k,c,e,z.sameBut hs (cne y c e)⟩
  ·obtain⟨w',z⟩:=I.cell y c e;exact⟨w',z.sameBut hs (cne y c e)⟩
  ·obtain⟨e,n,ne,nf,d⟩:=I.pin p hp;exact⟨(hs.2 p.1 ne).trans e,n,ne,nf,d⟩
 ·have O:X.fn x=true:=by
   rcases hf with z|z
   ·exact z
   ·rw[z] at L;cases L
  obtain⟨c,l⟩:=I.ok.has x (.inl L);obtain⟨w',z⟩:=I.cell x c l;refine wpAny_storeName_cell I.ok.kind L l z (λh' a2 hs=>?_);obtain⟨oc,a1,a0⟩:=id z;refine h {s with heap:=h'} ⟨I.ok,I.os,I.bare,⟨λb o e n P t=>?_,λb o e n P t=>?_,I.base.free,λb o e t=>?_,I.base.tups,I.base.frzs,I.base.tbls⟩,⟨m,hn.sameBut hs (dk (cne x c l)),λj y v' f G e3=>?_⟩,λy c' e=>?_,I.free,I.freeC,λp hp=>?_,g ⟨oc,a1,I.freeC x c l⟩ hs,by simpa using I.len⟩ ⟨c,hs,.inr l⟩
  ·exact(hs.2 b (aO (aK (av e) (I.ok.cab x c O l)))).trans (I.base.keep b o e n P t)
  ·obtain⟨sl,f⟩:=I.base.slot b o e n P t;exact⟨sl,(hs.2 b (aO (aK (av e) (I.ok.cab x c O l)))).trans f⟩
  ·obtain⟨o',f⟩:=I.base.there b o e t;exact⟨o',(hs.2 b (aO (aK (av e) (I.ok.cab x c O l)))).trans f⟩
  ·by_cases S:j=i
   ·subst S;rw[Y] at f;cases f;rw[aQ K] at G;cases G;exact⟨u,r,.inr ⟨.inl L,c,l,a2⟩⟩
   ·rw[ar (dk S)] at G;obtain⟨u',r',q⟩:=hl j y v' f G e3;refine⟨u',r',?_⟩;rcases q with q|⟨k,c',e,z'⟩
    ·exact .inl q
    ·refine .inr ⟨k,c',e,z'.sameBut hs ?_⟩;rintro rfl;exact S (GC hN f (I.ok.inj _ _ _ e l ▸ Y))
  ·by_cases U:c'=c
   ·subst U;exact⟨_,a2⟩
   ·obtain⟨w2,z2⟩:=I.cell y c' e;exact⟨w2,z2.sameBut hs U⟩
  ·obtain⟨e,n,ne,nf,d⟩:=I.pin p hp;refine⟨(hs.2 p.1 ?_).trans e,n,ne,nf,d⟩;intro q;rw[q,a1] at e;have q':oc=p.2:=bW e;exact d w' (by rw[<- q'];exact a0)
def tx(I:bQ X pins σ H s)(a:X.N.Nodup)(d:X.N[i]?=some x)(c:WD X.env.scope x)(r:dX v u)
  (h:∀s',bQ X pins (σ.set i (some v)) H s'->Q () s') (e:X.fn x=true\/X.env.scope.names.lookup x=some .local:=by first|exact .inl rfl|exact .inr rfl|assumption):au M A (storeName X.env x u) Q E s:=
 Dd I a d c r (λs' b _=>h s' b) e
theorem bQ.call'(I:bQ X pins σ H s)(ho:s'.os=s.os)(u:Un (vi X.stack) ch H H' s.heap s'.heap)(d:sR X.prog X.w H' s'.heap)(f:sV s'.gens)
  (a:∀b∈ch,(b∈X.ex\/X.s₀.heap.objs.size<=b)/\b≠X.env.locals/\(∀x c,X.env.cells.lookup x=some c->c≠b)/\∀p∈X.pn++pins,p.1≠b):bQ X pins σ H' s':=by
 obtain⟨h',g',d',t',o'⟩:=s';have e:o'=s.os:=ho;subst e;exact I.call (g':=g') (t':=t') (d':=d') u d f a
end
abbrev XK:=ag->Option ak->Hp->Prop
abbrev St:=List (Option V)
abbrev VK:=V->Hp->Prop
abbrev TE:=St->Hp->VK->Prop
abbrev TT:=St->Hp->(Bool->Hp->Prop)->Prop
abbrev TA:=St->Hp->(List V->Hp->Prop)->Prop
structure ED where
 nx:St->Hp->Prop
 rt:VK
 bk:St->Hp->Prop:=λ_ _=>False
 ct:St->Hp->Prop:=λ_ _=>False
abbrev TS:=ED->St->Hp->Prop
inductive EP (X:Cx) (pins:List (ak×Obj)) (σ:St) (Q:VK) (u:ag) (s':aq):Prop
 |mk (v H':_) (h0:bQ X pins σ H' s') (h1:dX v u) (h2:Q v H'):EP X pins σ Q u s'
inductive TP (X:Cx) (pins:List (ak×Obj)) (σ:St) (Q:Bool->Hp->Prop) (b:Bool) (s':aq):Prop
 |mk (H':_) (h0:bQ X pins σ H' s') (h1:Q b H'):TP X pins σ Q b s'
inductive AP (X:Cx) (pins:List (ak×Obj)) (σ:St) (Q:List V->Hp->Prop) (us:List ag) (s':aq):Prop
 |mk (vs H':_) (h0:bQ X pins σ H' s') (h1:dI vs us) (h2:Q vs H'):AP X pins σ Q us s'
inductive SN (X:Cx) (pins:List (ak×Obj)) (k:St->Hp->Prop) (s':aq):Prop
 |mk (σ':St) (H':Hp) (I:bQ X pins σ' H' s') (q:k σ' H'):SN X pins k s'
inductive SV (X:Cx) (pins:List (ak×Obj)) (k:V->Hp->Prop) (u:ag) (s':aq):Prop
 |mk (v:V) (σ':St) (H':Hp) (I:bQ X pins σ' H' s') (r:dX v u) (q:k v H'):SV X pins k u s'
def SP(X:Cx)(a:List (ak×Obj))(D:ED)(f:Flow)(s':aq):Prop:=
 match f with
 |.next=>SN X a D.nx s'
 |.brk=>SN X a D.bk s'
 |.cont=>SN X a D.ct s'
 |.ret u=>SV X a D.rt u s'
def PE(X:Cx)(e:bC)(t:TE):Prop:=
 ∀(a:List (ak×Obj)) (s:aq) (b:St) (H:Hp) (Q:VK),bQ X a b H s->t b H Q->au (az X.prog X.w) X.A (eu e X.env) (EP X a b Q) X.xe s
def PT(X:Cx)(e:bC)(t:TT):Prop:=
 ∀(a:List (ak×Obj)) (s:aq) (b:St) (H:Hp) (Q:Bool->Hp->Prop),bQ X a b H s->t b H Q->au (az X.prog X.w) X.A (Am e X.env (eu e X.env)) (TP X a b Q) X.xe s
def PW(X:Cx)(e:bC)(t:TT):Prop:=
 ∀(b:Sem ag) (a:List (ak×Obj)) (s:aq) (c:St) (H:Hp) (Q:Bool->Hp->Prop),bQ X a c H s->t c H Q->au (az X.prog X.w) X.A (Am e X.env b) (TP X a c Q) X.xe s
def PW.pt(h:PW X e t):PT X e t:=h _
def PA(X:Cx)(es:List bC)(t:TA):Prop:=
 ∀(c:Pos) (a:List (ak×Obj)) (s:aq) (b:St) (H:Hp) (Q:List V->Hp->Prop),bQ X a b H s->t b H Q->au (az X.prog X.w) X.A (spliced (hG c (aF es X.env))) (AP X a b Q) X.xe s
def PS(X:Cx)(st:eG)(t:TS):Prop:=
 ∀(a:List (ak×Obj)) (s:aq) (b:St) (H:Hp) (D:ED),bQ X a b H s->t D b H->au (az X.prog X.w) X.A (exec st X.env) (SP X a D) X.xe s
def Co(X:Cx)(st:List eG)(t:TS):Prop:=
 ∀(a:List (ak×Obj)) (s:aq) (b:St) (H:Hp) (D:ED),bQ X a b H s->t D b H->au (az X.prog X.w) X.A (execs st X.env) (SP X a D) X.xe s
def fS{α:Type}{t:Sem α}{Q Q':α->aq->Prop}{M:Model}{A:cg}{E:ag->aq->Prop}{s:aq}(h:au M A t Q E s)(b:∀a s,Q a s->Q' a s):au M A t Q' E s:=cn h b λ_ _ x=>x
end L2
namespace L2
open PySem PySem.Spec PyProof.Rows
section
variable{X:Cx}
inductive WE (i:Nat) (σ:St) (H:Hp) (Q:VK):Prop
 |mk (v:_) (h0:σ[i]?=some (some v)) (h1:Q v H):WE i σ H Q
def NG(i:Nat):TE:=WE i
def tC(v:V):TE:=λ_ H Q=>Q v H
def qp(g:X.N[i]?=some x)(p:Pi X.env.scope x)(f:(x==("__debug__" : Str))=false:=by decide)(d:(x==("__classdict__" : Str))=false:=by decide):PE X (.Name x pos) (NG i):=by
 intro b s k H Q I h;obtain⟨v,e,h⟩:=h;obtain⟨m,o,j⟩:=I.loc;obtain⟨u,r,l⟩:=j i x v g e p;have fin:EP X b k Q u s:=⟨v,H,I,r,h⟩;rcases l with⟨a,n⟩|⟨a,c,hc,hcell⟩
 ·exact wpAny_Name (wpAny_loadName_local I.ok.kind a o n fin) f
 ·rcases a with a|a
  ·exact wpAny_Name (wpAny_loadName_cell I.ok.kind a hc hcell fin) f
  ·exact wpAny_Name (wpAny_loadName_free I.ok.kind a hc hcell fin d) f
def Kc{i j pos}:PE X (.Constant (.int i) j pos) (tC (.int i)):=λ_ _ _ H _ I h=>wpAny_Constant_int ⟨.int i,H,I.tok _,⟨_,rfl⟩,h⟩
def PJ{b j pos}:PE X (.Constant (.bool b) j pos) (tC (.bl b)):=λ_ _ _ H _ I h=>Constant_bool ⟨.bl b,H,I,rfl,h⟩
def XV{j pos}:PE X (.Constant .none j pos) (tC .non):=λ_ _ _ H _ I h=>Constant_none ⟨.non,H,I,rfl,h⟩
def PK{x j pos}:PE X (.Constant (.str x) j pos) (tC (.str x)):=λ_ _ _ H _ I h=>Calls.Constant_str ⟨.str x,H,I.tok _,⟨_,rfl⟩,h⟩
def Gl(X:Cx)(x:Str):Prop:=X.env.kindOf x=some .globalImplicit
def A8(I:bQ X pins σ H s)(b:Gl X x)(a:X.mg x=some u)(h:Q u s)
  (c:(x==("__debug__" : Str))=false:=by decide):au (az X.prog X.w) X.A (eu (.Name x pos) X.env) Q E s:=
 oT I.ok.kind b (Gj (by rw[I.ok.glob];exact I.mod.glob.keeps I.bk) a h) c
def vK(I:bQ X pins σ H s)(e:Gl X x)(b:X.mg x=none)(d:jo x=some u)(h:Q u s)
  (c:x≠"__name__":=by decide) (f:(x==("__debug__" : Str))=false:=by decide):au (az X.prog X.w) X.A (eu (.Name x pos) X.env) Q E s:=by
 obtain⟨i,a,g⟩:=I.mod.blt;exact oT I.ok.kind e (Calls.loadGlobal_builtin (by rw[I.ok.glob];exact I.mod.glob.keeps I.bk) b (by rw[I.ok.blt];exact a.keeps I.bk) ((g x c).trans d) h) f
def EE(b:Gl X x)(a:X.mg x=some u)(r:dX v u)(c:(x==("__debug__" : Str))=false:=by decide):PE X (.Name x pos) (tC v):=
 λ_ _ _ H _ I h=>A8 I b a ⟨v,H,I,r,h⟩ c
def LY(d:Gl X x)(a:X.mg x=none)(c:jo x=some u)(r:dX v u)(b:x≠"__name__":=by decide)(e:(x==("__debug__" : Str))=false:=by decide):PE X (.Name x pos) (tC v):=
 λ_ _ _ H _ I h=>vK I d a c ⟨v,H,I,r,h⟩ b e
variable{a b:bC}{ta tb:TE}{pos:Pos}
def tB(t:TE):TT:=λd H Q=>t d H λx e=>∃c,x=.bl c/\Q c e
def PL(h:PE X e t)(he:∀c,Am e X.env c=(do let v <- c;qJ e.pos;Ji [v] (truthy v)):=by intro _;rfl):PT X e (tB t):=by
 intro f s i H Q I k;refine isTrue_plain (fS (h f s i H _ I k) λv s1 ⟨x,g,m,l,j⟩=>?_) (he _);obtain⟨d,rfl,q⟩:=j;cases l;exact dP ⟨g,m,q⟩
variable{tA tB':TT}{bA:List bC}
def q1q(t u:TT):TT:=λd H Q=>t d H λc e=>if c=true then u d e Q else Q false e
def tOr(t u:TT):TT:=λd H Q=>t d H λc e=>if c=true then Q true e else u d e Q
def q1r(t:TT):TT:=λd H Q=>t d H λc e=>Q (!c) e
def Us(f:PT X a tA):PW X (.BoolOp .And [a] pos) tA:=by
 intro i d s g H Q I h;refine isTrue_and (fS (f d s g H Q I h) λc s1 e=>?_);cases c with
 |true=>exact isTrue_and_nil e
 |false=>exact e
def PM(f:PT X a tA):PW X (.BoolOp .Or [a] pos) tA:=by
 intro i d s g H Q I h;refine isTrue_or (fS (f d s g H Q I h) λc s1 e=>?_);cases c with
 |false=>exact isTrue_or_nil e
 |true=>exact e
def XX(j:PT X a tA)(l:PW X (.BoolOp .And (b::bA) pos) tB'):PW X (.BoolOp .And (a::b::bA) pos) (q1q tA tB'):=by
 intro k d s e H Q I h;refine isTrue_and (fS (j d s e H _ I h) λc s1 ⟨f,i,g⟩=>?_);cases c with
 |true=>exact l k d s1 e f Q i g
 |false=>exact⟨f,i,g⟩
def WF(j:PT X a tA)(l:PW X (.BoolOp .Or (b::bA) pos) tB'):PW X (.BoolOp .Or (a::b::bA) pos) (tOr tA tB'):=by
 intro k d s e H Q I h;refine isTrue_or (fS (j d s e H _ I h) λc s1 ⟨f,i,g⟩=>?_);cases c with
 |true=>exact⟨f,i,g⟩
 |false=>exact l k d s1 e f Q i g
theorem PN(e:PT X a tA):PT X (.UnaryOp .Not a pos) (q1r tA):=by
 intro d s f H Q I h;exact isTrue_not (fS (e d s f H (λc g=>Q (!c) g) I h) λ_ _ x=>by obtain⟨a,b,c⟩:=x;exact⟨a,b,c⟩)
def ZO(ta tb:TE):TE:=λd H Q=>ta d H λx e=>∃c,x=.bl c/\if c=true then tb d e Q else Q (.bl false) e
def q1s(ta tb:TE):TE:=λd H Q=>ta d H λx e=>∃c,x=.bl c/\if c=true then Q (.bl true) e else tb d e Q
def ZQ(ta:TE):TE:=λd H Q=>ta d H λx e=>∃c,x=.bl c/\Q (.bl (!c)) e
def XY{op}(h:PE X a t):PE X (.BoolOp op [a] pos) t:=λc s d H Q I e=>BoolOp_one (h c s d H Q I e)
def XZ(k:PE X a ta)(l:PE X (.BoolOp .And (b::bA) pos) tb):PE X (.BoolOp .And (a::b::bA) pos) (ZO ta tb):=by
 intro d s g H Q I h;refine BoolOp_and (fS (k d s g H _ I h) λv s1 ⟨x,f,i,j,e⟩=>?_);obtain⟨c,rfl,e⟩:=e;cases j;refine dP ?_;cases c with
 |true=>exact l d s1 g f Q i e
 |false=>exact⟨.bl false,f,i,rfl,e⟩
def ZR(k:PE X a ta)(l:PE X (.BoolOp .Or (b::bA) pos) tb):PE X (.BoolOp .Or (a::b::bA) pos) (q1s ta tb):=by
 intro d s g H Q I h;refine BoolOp_or (fS (k d s g H _ I h) λv s1 ⟨x,f,i,j,e⟩=>?_);obtain⟨c,rfl,e⟩:=e;cases j;refine dP ?_;cases c with
 |false=>exact l d s1 g f Q i e
 |true=>exact⟨.bl true,f,i,rfl,e⟩
def X_(f:PE X a ta):PE X (.UnaryOp .Not a pos) (ZQ ta):=by
 intro d s g H Q I h;refine UnaryOp_ (fS (f d s g H _ I h) λv s1 ⟨x,i,j,k,e⟩=>?_);obtain⟨c,rfl,e⟩:=e;cases k;exact not_of (dP ⟨.bl (!c),i,j,rfl,e⟩)
end
end L2
namespace L2
open PySem PySem.Spec PyProof.Rows
inductive KqL (K:a8) (a:ak) (xs:List V):Prop
 |mk (o:Obj) (its:Array ag) (n:Nat) (h0:K.lookup a=some o) (h1:o.cls=.type "list") (h2:o.dict=none) (h3:o.data=.seq its n) (h4:its.size<=sizeLine) (h5:dI xs its.toList):KqL K a xs
def oZ(K:a8)(H:Hp)(a:ak)(xs:List V):Prop:=
 Rd H a (.lst xs)\/KqL K a xs
inductive KqT (K:a8) (a:ak) (xs:List V):Prop
 |mk (o:Obj) (its:Array ag) (n:Nat) (h0:K.lookup a=some o) (h1:o.cls=.type "tuple") (h3:o.data=.seq its n) (h4:its.size<=sizeLine) (h5:dI xs its.toList):KqT K a xs
def lY(K:a8)(H:Hp)(a:ak)(xs:List V):Prop:=
 Rd H a (.tup xs)\/KqT K a xs
def q1t:ag->Option V
 |.none=>some .non
 |.bool b=>some (.bl b)
 |.int i _=>some (.int i)
 |.str x _=>some (.str x)
 |.bytes b _=>some (.byt b)
 |.float b _=>some (.flt b)
 |.ref a=>some (.ref a)
 |.type n=>some (.ty n)
 |_=>none
def dX.abs(r:dX x u):q1t u=some x:=by
 cases x with
 |non=>cases r;rfl
 |bl _=>cases r;rfl
 |int _=>obtain⟨t,rfl⟩:=r;rfl
 |str _=>obtain⟨t,rfl⟩:=r;rfl
 |byt _=>obtain⟨t,rfl⟩:=r;rfl
 |flt _=>obtain⟨t,rfl⟩:=r;rfl
 |ref _=>cases r;rfl
 |ty _=>cases r;rfl
def dX.inj(r:dX x u)(q:dX y u):x=y:=bW (r.abs.symm.trans q.abs)
theorem dI.inj(h:dI xs us):∀{ys:List V},dI ys us->xs=ys:=by
 induction h with
 |nil=>intro ys k;cases k;rfl
 |cons r t a=>intro ys k;cases k with|cons b t'=>rw[r.inj b,a t']
def oZ.of{K:a8}(h:H a=some (.lst xs)):oZ K H a xs:=.inl (.inl h)
def lY.of{K:a8}(h:H a=some (.tup xs)):lY K H a xs:=.inl (.inl h)
inductive InL (h:bP) (a:ak) (xs:List V):Prop
 |mk (its:List ag) (r:dI xs its) (p:PlainL h a its.toArray) (z:xs.length<=sizeLine):InL h a xs
inductive InT (h:bP) (a:ak) (xs:List V):Prop
 |mk (its:List ag) (r:dI xs its) (p:U0 h a its.toArray) (z:xs.length<=sizeLine):InT h a xs
inductive InM (h:bP) (l:ak) (xs:List V):Prop
 |mk (z:xs.length<=sizeLine) (its:List ag) (n:Nat) (r:dI xs its) (hl:xs.length=its.length) (e:h.get? l=some {cls:=.type "list",data:=.seq its.toArray n}):InM h l xs
def bQ.list(I:bQ X pins σ H s)(h:oZ X.K H a xs):InL s.heap a xs:=by
 rcases h with h|⟨o,b,n,hk,hc,hd,hs,hz,r⟩
 ·obtain⟨z,b,n,r,e⟩:=h.ok I.hok;exact⟨b,r,⟨_,n,e,rfl,rfl,rfl⟩,z⟩
 ·refine⟨b.toList,r,⟨o,n,I.kIn a o hk,hc,hd,by simpa using hs⟩,?_⟩;have e:=r.length;simp only[ax] at e;omega
def bQ.tuple(I:bQ X pins σ H s)(h:lY X.K H a xs):InT s.heap a xs:=by
 rcases h with h|⟨o,b,n,hk,hc,hs,hz,r⟩
 ·obtain⟨z,b,r,p⟩:=h.ok I.hok;exact⟨b,r,p,z⟩
 ·refine⟨b.toList,r,⟨o,I.kIn a o hk,hc,n,by simpa using hs⟩,?_⟩;have e:=r.length;simp only[ax] at e;omega
def bQ.list_inj(I:bQ X pins σ H s)(h:oZ X.K H a xs)(h':oZ X.K H a ys):xs=ys:=by
 obtain⟨b,r,⟨o,n,e,_,_,d⟩,_⟩:=I.list h;obtain⟨its',f,⟨o',i,c,_,_,d'⟩,_⟩:=I.list h';rw[e] at c;cases c;rw[d] at d';injection d' with g _;have:b=its':=by simpa using congrArg Array.toList g
 subst this;exact r.inj f
def bQ.tuple_inj(I:bQ X pins σ H s)(h:lY X.K H a xs)(h':lY X.K H a ys):xs=ys:=by
 obtain⟨b,r,⟨o,e,_,n,d⟩,_⟩:=I.tuple h;obtain⟨its',f,⟨o',c,_,i,d'⟩,_⟩:=I.tuple h';rw[e] at c;cases c;rw[d] at d';injection d' with g _;have:b=its':=by simpa using congrArg Array.toList g
 subst this;exact r.inj f
abbrev Cx.wish(X:Cx)(E:ag->aq->Prop):Cx:={X with xe:=E}
abbrev Cx.nox(X:Cx):Cx:=X.wish λ_ _=>False
def Cx.Ok.wish{X:Cx}(ok:X.Ok)(E:ag->aq->Prop):(X.wish E).Ok:=
 ⟨ok.mod,ok.kind,ok.glob,ok.blt,ok.above,ok.inj,ok.has,ok.cab,ok.hd,ok.frames,ok.stk,ok.exf,ok.bs,ok.bsz,ok.noex,ok.exfs,ok.funs,ok.frf⟩
def Cx.Ok.unwish{X:Cx}{E:ag->aq->Prop}(ok:(X.wish E).Ok):X.Ok:=
 ⟨ok.mod,ok.kind,ok.glob,ok.blt,ok.above,ok.inj,ok.has,ok.cab,ok.hd,ok.frames,ok.stk,ok.exf,ok.bs,ok.bsz,ok.noex,ok.exfs,ok.funs,ok.frf⟩
theorem bQ.wish(I:bQ X pins σ H s)(E:ag->aq->Prop):bQ (X.wish E) pins σ H s:=⟨I.ok.wish E,I.os,I.bare,I.base,I.loc,I.cell,I.free,I.freeC,I.pin,I.hok,I.len⟩
theorem bQ.unwish(I:bQ (X.wish E) pins σ H s):bQ X pins σ H s:=⟨I.ok.unwish,I.os,I.bare,I.base,I.loc,I.cell,I.free,I.freeC,I.pin,I.hok,I.len⟩
theorem SP.unwish(h:SP (X.wish E) pins D f s'):SP X pins D f s':=by
 cases f with
 |next=>obtain⟨σ',H',I,q⟩:=h;exact⟨σ',H',I.unwish,q⟩
 |brk=>obtain⟨σ',H',I,q⟩:=h;exact⟨σ',H',I.unwish,q⟩
 |cont=>obtain⟨σ',H',I,q⟩:=h;exact⟨σ',H',I.unwish,q⟩
 |ret u=>obtain⟨v,σ',H',I,r,q⟩:=h;exact⟨v,σ',H',I.unwish,r,q⟩
section
variable{X:Cx}{st:eG}{bA:List eG}{t u:TS}{e:bC}{te:TE}{pos:Pos}
def ZS:TS:=λD a H=>D.nx a H
def q1u(t u:TS):TS:=λD a H=>t {D with nx:=u D} a H
def L_:Co X [] ZS:=λ_ _ a H _ I h=>qk ⟨a,H,I,h⟩
def lA(b:PS X st t)(g:Co X bA u):Co X (st::bA) (q1u t u):=by
 intro a s d H D I h;refine wpAny_execs_cons (fS (b a s d H {D with nx:=u D} I h) λf s1 q=>?_);cases f with
 |next=>
  obtain⟨σ',H',c,q⟩:=q;exact g a s1 σ' H' D c q
 |ret v=>exact q
 |brk=>exact q
 |cont=>exact q
def wG(b:PS X st t):Co X [st] t:=by
 intro a s c H D I h;refine wpAny_execs_cons (fS (b a s c H D I h) λf s1 q=>?_);cases f with
 |next=>exact qk q
 |ret v=>exact q
 |brk=>exact q
 |cont=>exact q
def bQ.quiet(I:bQ X pins σ H s):interactive X.env=false:=by simp[interactive,I.ok.kind]
def ZT(te:TE):TS:=λD a H=>te a H λ_ b=>D.nx a b
def wH(he:PE X e te)(hs:j6 e none pos.line X.env=pure false:=by rfl):PS X (.Expr e pos) (ZT te):=by
 intro a s c H D I h;exact wpAny_Expr_any (fS (he a s c H _ I h) λv s1 b=>by obtain⟨x,d,g,i,f⟩:=b;exact⟨c,d,g,f⟩) I.quiet hs
def ZU(te:TE):TS:=λD a H=>te a H D.rt
def EF(he:PE X e te):PS X (.Return (some e) pos) (ZU te):=by
 intro a s c H D I h;exact wpAny_Return_some (fS (he a s c H _ I h) λv s1 b=>by obtain⟨x,d,g,i,f⟩:=b;exact⟨x,c,d,g,i,f⟩)
def q1v(c:TT)(t u:TS):TS:=λD a H=>c a H λb d=>if b=true then t D a d else u D a d
def WG(m:PT X c tc)(l:Co X a t)(n:Co X b u):PS X (.If c a b pos) (q1v tc t u):=by
 intro f s g H D I h;refine wpAny_If (fS (m f s g H _ I h) λd s1 ⟨i,k,j⟩=>?_);cases d with
 |true=>exact l f s1 g i D k j
 |false=>exact n f s1 g i D k j
def Y0:TS:=λ_ _ _=>False
def qM:Co X sts Y0:=λ_ _ _ _ _ _ h=>h.elim
end
abbrev TG:=V->St->Hp->(St->Hp->Prop)->Prop
abbrev Ut:=List V->St->Hp->(St->Hp->Prop)->Prop
def PG(X:Cx)(a:bC)(t:TG):Prop:=
 ∀(b:List (ak×Obj)) (s:aq) (c:St) (H:Hp) (v:V) (u:ag) (Q:St->Hp->Prop),bQ X b c H s->dX v u->t v c H Q ->
  au (az X.prog X.w) X.A (vA a X.env u) (λ_ s'=>SN X b Q s') X.xe s
def WH(X:Cx)(e:List bC)(t:Ut):Prop:=
 ∀(a:List (ak×Obj)) (s:aq) (c:St) (H:Hp) (d:List V) (b:List ag) (Q:St->Hp->Prop),bQ X a c H s->dI d b->t d c H Q ->
  au (az X.prog X.w) X.A (Ni ((jq e X.env).map (·.2)) b) (λ_ s'=>SN X a Q s') X.xe s
def pA(i:Nat):TG:=λv a H Q=>Q (a.set i (some v)) H
def cj(b:X.N.Nodup)(e:X.N[i]?=some x)(d:WD X.env.scope x)(f:X.fn x=true\/X.env.scope.names.lookup x=some .local:=by first|exact .inl rfl|exact .inr rfl|assumption):PG X (.Name x pos) (pA i):=by
 intro a s g H v u Q I r h;exact wpAny_assign_Name (tx I b e d r (λs' c=>⟨_,H,c,h⟩) f)
def aC:Ut:=λb a H Q=>b=[]/\Q a H
inductive PP (t:TG) (u:Ut) (vs:List V) (σ:St) (H:Hp) (Q:St->Hp->Prop):Prop
 |mk (v r:_) (h0:vs=v::r) (h1:t v σ H λσ' H'=>u r σ' H' Q):PP t u vs σ H Q
def aa(t:TG)(u:Ut):Ut:=PP t u
def uo:WH X [] aC:=by
 intro a s b H d c Q I r h;obtain⟨e,h⟩:=h;subst e;cases r;exact assignInOrder_nil ⟨b,H,I,h⟩
def js(c:PG X e t)(k:WH X es u)
  (hs:(jq (e::es) X.env).map (·.2)=vA e X.env::(jq es X.env).map (·.2):=by rfl):WH X (e::es) (aa t u):=by
 intro a s f H o n Q I r h;obtain⟨v,m,j,h⟩:=h;subst j;cases r with
 |cons r g=>
  rw[hs];refine An (fS (c a s f H _ _ _ I r h) λ_ s1 ⟨b,d,l,i⟩=>?_);exact k a s1 b d _ _ Q l g i
inductive WI (K:a8) (n:Nat) (t:Ut) (v:V) (σ:St) (H:Hp) (Q:St->Hp->Prop):Prop
 |mk (a xs:_) (h0:v=.ref a) (h1:lY K H a xs) (h2:xs.length=n) (h3:t xs σ H Q):WI K n t v σ H Q
def Y1(K:a8)(n:Nat)(t:Ut):TG:=WI K n t
def yi(m:X.calm=true)(h:WH X es t)
  (w:(jq es X.env).length=n:=by rfl) (d:(jq es X.env).findIdx? (·.1)=none:=by rfl):PG X (.Tuple es k pos) (Y1 X.K n t):=by
 intro c s g H v u Q I r f;obtain⟨a,xs,x,p,l,f⟩:=f;subst x;cases r;obtain⟨q,i,j,A⟩:=I.tuple p;refine assign_Tuple_tuple (I.ok.hd m) j (by simp[w,<- l,i.length]) d λh' y=>?_;have z:bQ X c g H {s with heap:=h'}:=I.kept (t':=s.toks) λb o e=>y b o (aO (av e)) e;exact h c _ g H xs _ Q z (by simpa using i) f
def ZV(b:TE)(g:TG):TS:=λD a H=>b a H λx c=>g x a c D.nx
def PQ(he:PE X e te)(l:PG X tg g)(hs:A1 [tg] e pos.line X.env=pure false:=by rfl)(i:A2 [tg] e X.env=pure none:=by rfl)
  (c:(jq [tg] X.env).map (·.2)=[vA tg X.env]:=by rfl):PS X (.Assign [tg] e pos) (ZV te g):=by
 intro a s b H D I h;refine wpAny_Assign_stores (fS (he a s b H _ I h) λv s1 ⟨x,d,k,j,f⟩=>?_) hs i;rw[c];exact fS (l a s1 b d x v _ k j f) λ_ m q=>q
def EG(b:X.N.Nodup)(j:X.N[i]?=some x)(m:WD X.env.scope x)(he:PE X e te)(hs:j6 e (some (.Name x pos')) pos.line X.env=pure false:=by rfl)(g:X.fn x=true\/X.env.scope.names.lookup x=some .local:=by first|exact .inl rfl|exact .inr rfl|assumption):
  PS X (.Assign [.Name x pos'] e pos) (ZV te (pA i)):=by
 intro a s d H D I h;refine wpAny_Assign_Name (fS (he a s d H _ I h) λv s1 ⟨y,c,n,l,f⟩=>?_) hs;exact tx n b j m l (λo k=>⟨_,c,k,f⟩) g
def q1w(i j:Nat)(c:TA):TS:=λD a H=>c a H λd b=>∃v w,d=[v,w]/\D.nx ((a.set i (some v)).set j (some w)) b
def Y2{kt k2 pt2}(K:X.calm=true)(n:X.N.Nodup)(M:X.N[i]?=some x)(hj:X.N[j]?=some y)(k:i≠j)
  (E:X.env.scope.names.lookup x=some .local) (t:X.env.scope.names.lookup y=some .local) (L:PA X [a,b] ta)
  (O:A2 [.Tuple [.Name x px,.Name y py] kt pt] (.Tuple [a,b] k2 pt2) X.env=pure (some [x,y]))
  (hs:A1 [.Tuple [.Name x px,.Name y py] kt pt] (.Tuple [a,b] k2 pt2) pos.line X.env=pure false:=by rfl):
  PS X (.Assign [.Tuple [.Name x px,.Name y py] kt pt] (.Tuple [a,b] k2 pt2) pos) (q1w i j ta):=by
 intro c s z H D I h;rw[exec_Assign_arm];refine a7 (hV ?_);rw[hs];refine a7 (a9 ?_);rw[if_neg ⋯];refine a7 (Tuple_ (fS (L _ c s z H _ I h) λY s1 ⟨vs,u,I1,S,l⟩=>?_));obtain⟨v,w,Q,l⟩:=l;subst Q;obtain⟨f,d,rfl,U,m⟩:∃f d,Y=[f,d]/\dX v f/\dX w d:=by
  cases S with
  |cons p q=>
   cases q with
   |cons T q'=>
    cases q';exact⟨_,_,rfl,p,T⟩
 refine bu ?_ (by show 2<=sizeLine;decide);have P:bQ X c z u {s1 with heap:=s1.heap.push {cls:=.type "tuple",data:=.seq [f,d].toArray}}:=I1.kept (t':=s1.toks) λb o e=>af _ e;rw[O];refine a7 (a9 ?_);show au (az X.prog X.w) X.A (do rule "assign.swapped-stores";let items <- unpackItems (.ref s1.heap.objs.size) 2 none;Ni [λv=>Jw X.env y v,λv=>Jw X.env x v] items.reverse;pure Flow.next) _ _ _;refine a7 (eI (a7 (unpackItems_tuple (items:=#[f,d]) (I.ok.hd K) (v9 s1.heap _) λh' g=>?_)));have G:=P.kept (h':=h') (t':=s1.toks) λb o e=>g b o (aO (av e)) e;show au _ _ (Ni [λv=>Jw X.env y v,λv=>Jw X.env x v] [d,f]>>=λ_=>pure Flow.next) _ _ _;refine a7 (An (wpAny_bindName (tx G n hj (.inl t) m (λs2 I4=>?_) (.inr t))));refine An (wpAny_bindName (tx I4 n M (.inl E) U (λs3 B=>assignInOrder_nil (a9 ?_)) (.inr E)));rw[List.set_comm _ _ (dk k)] at B;exact⟨_,u,B,l⟩
def Y3(c:TT)(tb:TS):TS:=λD a H=>∃W:Nat->St->Hp->Prop,(∃m,W m a H)/\∀m a H,W m a H ->
 c a H λb d=>if b=true then ∃N:St->Hp->Prop,(∀ σ' H',N σ' H'->∃e,e<m/\W e σ' H')/\tb {D with nx:=N,ct:=N,bk:=D.nx} a d else D.nx a d
def PR(z:PassesOwn (az X.prog X.w) X.A X.env X.xe)(K:PT X c tc)(M:Co X body tb):PS X (.While c body [] pos) (Y3 tc tb):=by
 intro d s L H D I h;obtain⟨W,⟨G,E⟩,g⟩:=h;refine wpAny_While (codeAny_whileLoop (λn s'=>∃ σ' H',bQ X d σ' H' s'/\W n σ' H') ?_ G ⟨L,H,I,E⟩);rintro n s1 ⟨e,u,P,B⟩;refine jE z (fS (K d s1 e u _ P (g n e u B)) λb O ⟨y,x,j⟩=>?_);cases b with
 |true=>
  obtain⟨N,t,j⟩:=j;rw[if_pos rfl];refine jE z (fS (M d O e y _ x j) λf s3 k=>?_);cases f with
  |next=>
   obtain⟨a,i,l,p⟩:=k;obtain⟨m,o,q⟩:=t a i p;exact⟨m,o,a,i,l,q⟩
  |cont=>
   obtain⟨a,i,l,p⟩:=k;obtain⟨m,o,q⟩:=t a i p;exact⟨m,o,a,i,l,q⟩
  |brk=>exact k
  |ret v=>exact k
 |false=>
  rw[if_neg aG];exact qk ⟨e,y,x,j⟩
structure It where
 go:Nat->Hp->Prop
 yld:Nat->Hp->V->Hp->Prop
 stop:Nat->Hp->Prop
structure vL (X:Cx) (pins:List (ak×Obj)) (H:Hp) (b:ak):Prop where
 f0:H b=none
 f1:b≠X.env.locals
 f2:b∉X.fs
 f3:b∈X.ex\/X.s₀.heap.objs.size<=b
 f4:∀x c,X.env.cells.lookup x=some c->c≠b
 f5:∀p∈X.pn++pins,p.1≠b
def bQ.fpOk(I:bQ X pins σ H s)(a:s.heap.objs.size<=b)(f:H' b=none):vL X pins H' b:=by
 refine⟨f,dZ (aK I.lt a),I.nofs a,.inr (cH I.sz a),λx c e z=>?_,λp d z=>?_⟩
 ·obtain⟨v,q⟩:=I.cell x c e;exact absurd (aK q.lt (by rw[z];exact a)) (cB _)
 ·exact absurd (aK (av (I.pin p d).1) (by rw[z];exact a)) (cB _)
structure Cq (P:bd) (w:bz) (K:a8) (tg:bC) (J:It) (fp:List ak) (it:ak) (tn:Nat->bP->Prop):Prop where
 mem:it∈fp
 obj:∀i h,tn i h->∀b∈fp,∃o,h.get? b=some o/\∀v,o.data≠.cell v
 keep:∀i h h',tn i h->(∀b∈fp,∀o,h.get? b=some o->h'.get? b=some o)->tn i h'
 item:∀(X:Cx),X.prog=P->X.w=w->X.K=K->X.calm=true->∀(i:Nat) (pins:List (ak×Obj)) (s:aq) (σ:St) (H:Hp) (E:ag->aq->Prop),bQ X pins σ H s->(∀b∈fp,vL X pins H b)->tn i s.heap->J.go i H ->
  au (az P w) X.A (nY (.ref it)) (λr s1=>∃u,r=some u /\
   au (az P w) X.A (jF tg (.ref it) u) (λ_ s2=>∃x H',bQ X pins σ H' s2/\dX x u/\J.yld i H x H'/\tn (i+1) s2.heap/\∀b∈fp,H' b=none) E s1) E s
 done:∀(X:Cx),X.prog=P->X.w=w->X.K=K->X.calm=true->∀(i:Nat) (pins:List (ak×Obj)) (s:aq) (σ:St) (H:Hp) (E:ag->aq->Prop),bQ X pins σ H s->(∀b∈fp,vL X pins H b)->tn i s.heap->J.stop i H ->
  au (az P w) X.A (nY (.ref it)) (λr s1=>r=none/\bQ X pins σ H s1) E s
 self:∀(A:cg) (i:Nat) (s:aq) (Q:ag->aq->Prop) (E:ag->aq->Prop),tn i s.heap->Q (.ref it) s->au (az P w) A (rG (.ref it)) Q E s
abbrev TI:=St->Hp->(It->Hp->Prop)->Prop
inductive PIE (X:Cx) (pins:List (ak×Obj)) (σ:St) (tg:bC) (R:It->Hp->Prop) (itv:ag) (s2:aq):Prop
 |mk (it:ak) (fp:List ak) (tn:Nat->bP->Prop) (J:It) (H':Hp) (h0:itv=.ref it) (I:bQ X pins σ H' s2) (T:Cq X.prog X.w X.K tg J fp it tn) (t0:tn 0 s2.heap) (f:∀b∈fp,vL X pins H' b) (q:R J H'):PIE X pins σ tg R itv s2
inductive FLI (X:Cx) (pins:List (ak×Obj)) (tn:Nat->bP->Prop) (fp:List ak) (W:Nat->Nat->St->Hp->Prop) (n:Nat) (s':aq):Prop
 |mk (i:Nat) (σ':St) (H':Hp) (I:bQ X pins σ' H' s') (t:tn i s'.heap) (f:∀b∈fp,H' b=none) (q:W i n σ' H'):FLI X pins tn fp W n s'
def PI(X:Cx)(tg iter:bC)(c:TI):Prop:=
 ∀(a:List (ak×Obj)) (s:aq) (b:St) (H:Hp) (R:It->Hp->Prop),bQ X a b H s->c b H R ->
  au (az X.prog X.w) X.A (eu iter X.env) (λv s1=>au (az X.prog X.w) X.A (rG v) (PIE X a b tg R) X.xe s1) X.xe s
def PU(ho:s.heap.get? it = some o)(b:o.cls = .type n)(d:o.data = .fields vs)
    (c:["enumerate","zip","dict_itemiterator","dict_reverseitemiterator","odict_iterator","itertools.zip_longest","itertools.pairwise"].contains n = false) (a:Q () s):au M A (jF tg (.ref it) u) Q E s:= by
  unfold jF;cases tg <;> first
    | exact a9 a
    | (cases u <;> first
        | exact a9 a
        | (refine a7 (Jx ho ?_)
           rw[b,d];show au M A (if(["enumerate","zip","dict_itemiterator","dict_reverseitemiterator","odict_iterator","itertools.zip_longest","itertools.pairwise"].contains n && vs[0]? == some (cJ _)) = true then _ else _) Q E s;rw[if_neg (by intro h; rw[c,D6] at h; cases h)];exact a9 a))
def Itl(K:a8)(a:ak):It:=
 ⟨λi H=>∃xs x,oZ K H a xs/\xs[i]?=some x,λi H x H'=>H'=H/\∀xs,oZ K H a xs->xs[i]?=some x,λi H=>∃xs,oZ K H a xs/\xs.length<=i⟩
def Itt(K:a8)(a:ak):It:=
 ⟨λi H=>∃xs x,lY K H a xs/\xs[i]?=some x,λi H x H'=>H'=H/\∀xs,lY K H a xs->xs[i]?=some x,λi H=>∃xs,lY K H a xs/\xs.length<=i⟩
def Itr(lo:Int)(n:Nat):It:=⟨λi _=>i<n,λi H x H'=>H'=H/\x=.int (lo+i),λi _=>n<=i⟩
def NH{P:bd}{w:bz}{K:a8}{tg:bC}(a it:ak):Cq P w K tg (Itl K a) [it] it (λi h=>h.IsListIter it a i) where
 mem:=by simp
 obj:=λi h st b g=>by
  have e:b=it:=by simpa using g
  subst e;obtain⟨o,e,c,d⟩:=st;exact⟨o,e,λv z=>by rw[d] at z;cases z⟩
 keep:=λi h h' st k=>st.at λo e=>k it (by simp) o e
 item:=by
  intro X B t n S i f s T H E I m st O;subst B t n;obtain⟨xs,x,l,Q⟩:=O;obtain⟨y,M,p,Y⟩:=I.list l;obtain⟨u,hu,ru⟩:=M.get Q;obtain⟨N,L,f2,G,q,A⟩:=m it (by simp);refine wpAny_pyNext_list_item st p.isList (x:=u) (by simpa using hu) λh' j sb=>?_;have I1:bQ X f T H {s with heap:=h'}:=I.turned (t':=s.toks) (λb o g e=>(sb.2 b g).trans e) N L G q A;obtain⟨o,e,c,d⟩:=id j;exact⟨u,rfl,PU (s:={s with heap:=h'}) e c d ⋯ ⟨x,H,I1,ru,⟨rfl,λys U=>by rw[I.list_inj U l];exact Q⟩,j,λb g=>(m b g).1⟩⟩
 done:=by
  intro X B t n S i f s T H E I m st O;subst B t n;obtain⟨xs,l,Q⟩:=O;obtain⟨y,M,p,Y⟩:=I.list l;obtain⟨N,L,f2,G,q,A⟩:=m it (by simp);have hl:=M.length;exact wpAny_pyNext_list_end (I.ok.hd S) st p.isList (by simp;omega) λh' eb=>⟨rfl,I.turned (t':=s.toks) (λb o g e=>eb b o g e) N L G q A⟩
 self:=λ_ _ _ _ _ st h=>wpAny_pyIter_listiter st h
def Ke{P:bd}{w:bz}{K:a8}{tg:bC}(a it:ak):Cq P w K tg (Itt K a) [it] it (λi h=>h.IsTupleIter it a i) where
 mem:=by simp
 obj:=λi h st b j=>by
  have e:b=it:=by simpa using j
  subst e;obtain⟨o,e,c,d⟩:=st;exact⟨o,e,λv z=>by rw[d] at z;cases z⟩
 keep:=λi h h' st k=>st.at λo e=>k it (by simp) o e
 item:=by
  intro X B y q S i f s T H E I n st O;subst B y q;obtain⟨xs,x,m,Q⟩:=O;obtain⟨g,M,p,Y⟩:=I.tuple m;obtain⟨u,hu,ru⟩:=M.get Q;obtain⟨N,L,f2,G,t,A⟩:=n it (by simp);refine wpAny_pyNext_tuple_item st (show s.heap.IsTuple a g.toArray from p) (x:=u) (by simpa using hu) λh' l sb=>?_;have I1:bQ X f T H {s with heap:=h'}:=I.turned (t':=s.toks) (λb o j e=>(sb.2 b j).trans e) N L G t A;obtain⟨o,e,c,d⟩:=id l;exact⟨u,rfl,PU (s:={s with heap:=h'}) e c d ⋯ ⟨x,H,I1,ru,⟨rfl,λys U=>by rw[I.tuple_inj U m];exact Q⟩,l,λb j=>(n b j).1⟩⟩
 done:=by
  intro X B y q S i f s T H E I n st O;subst B y q;obtain⟨xs,m,Q⟩:=O;obtain⟨g,M,p,Y⟩:=I.tuple m;obtain⟨N,L,f2,G,t,A⟩:=n it (by simp);have hl:=M.length;exact wpAny_pyNext_tuple_end (I.ok.hd S) st (show s.heap.IsTuple a g.toArray from p) (by simp;omega) λh' eb=>⟨rfl,I.turned (t':=s.toks) (λb o j e=>eb b o j e) N L G t A⟩
 self:=λ_ _ _ _ _ st h=>wpAny_pyIter_tupleiter st h
def Kf{P:bd}{w:bz}{K:a8}{tg:bC}(it:ak)(lo:Int)(n:Nat):Cq P w K tg (Itr lo n) [it] it (λi h=>IsRangeIter h it (lo+(i:Nat)*1) ((n:Int)-(i:Nat)) 1) where
 mem:=by simp
 obj:=λi h st b c=>by
  have e:b=it:=by simpa using c
  subst e;exact⟨_,st,λv z=>by
   have N:Data.fields _=Data.cell v:=z;cases N⟩
 keep:=λi h h' st k=>k it (by simp) _ st
 item:=by
  intro X q m g l i a s G H E I f st A;subst q m g;obtain⟨y,x,M,u,j,p⟩:=f it (by simp);have W:=Walks.range (prog:=X.prog) (w:=X.w) (I.ok.hd l) it lo 1 n;refine W.item i s _ _ A st λv h' B Q d L=>?_;obtain⟨t,rfl⟩:=Q;have S:bQ X a G H {s with heap:=h',toks:=B}:=I.turned (λb o c e=>L b o (by simpa using c) e) y x u j p;refine⟨_,rfl,PU (s:={s with heap:=h',toks:=B}) (n:="range_iterator") d rfl rfl ⋯ ⟨.int (lo+i),H,S,⟨t,?_⟩,⟨rfl,rfl⟩,d,λb c=>(f b c).1⟩⟩;rw[Int.mul_one]
 done:=by
  intro X q m g l i a s G H E I f st A;subst q m g;obtain⟨y,x,M,u,j,p⟩:=f it (by simp);exact wpAny_pyNext_range_end (I.ok.hd l) st (by have:n<=i:=A;omega) λh' O=>⟨rfl,I.turned (t':=s.toks) (λb o c e=>O b o c e) y x u j p⟩
 self:=λ_ _ _ _ _ st h=>wpAny_pyIter_rangeiter st h
end L2
namespace L2
open PySem PySem.Spec PyProof.Rows
def ZW(K:a8)(tl:TE):TI:=λc H R=>tl c H λx b=>∃a,x=.ref a/\(∃xs,oZ K b a xs)/\R (Itl K a) b
def q1x(K:a8)(tl:TE):TI:=λc H R=>tl c H λx b=>∃a,x=.ref a/\(∃xs,lY K b a xs)/\R (Itt K a) b
def wI{l:bC}{tl:TE}(i:PE X l tl):PI X tg l (ZW X.K tl):=by
 intro d s k H R I h;refine fS (i d s k H _ I h) λv s1 c=>?_;obtain⟨x,g,f,u,m⟩:=c;obtain⟨a,e,⟨xs,j⟩,q⟩:=m;subst e;cases u;obtain⟨n,y,p,w⟩:=f.list j;refine sW p.isList ?_;refine⟨s1.heap.objs.size,[s1.heap.objs.size],_,_,g,rfl,f.kept (t':=s1.toks) λb o e=>af _ e,NH a _,⟨_,aD _ rfl,rfl,rfl⟩,λb t=>?_,q⟩;have e:b=s1.heap.objs.size:=by simpa using t
 subst e;exact f.fpOk (aw _) (f.hok.fresh (aw _))
def PV{l:bC}{tl:TE}(j:PE X l tl):PI X tg l (q1x X.K tl):=by
 intro c s m H R I h;refine fS (j c s m H _ I h) λv s1 d=>?_;obtain⟨x,i,f,u,n⟩:=d;obtain⟨a,e,⟨xs,k⟩,q⟩:=n;subst e;cases u;obtain⟨g,y,p,w⟩:=f.tuple k;refine ic (show s1.heap.IsTuple a g.toArray from p) ?_;refine⟨s1.heap.objs.size,[s1.heap.objs.size],_,_,i,rfl,f.kept (t':=s1.toks) λb o e=>af _ e,Ke a _,⟨_,aD _ rfl,rfl,rfl⟩,λb t=>?_,q⟩;have e:b=s1.heap.objs.size:=by simpa using t
 subst e;exact f.fpOk (aw _) (f.hok.fresh (aw _))
def PX{c:List (ak×Obj)}{d:St}{H:Hp}{s:aq}{R:It->Hp->Prop}{E:ag->aq->Prop}{lo a:Int}{t u v:Tok}{g:Nat}(I:bQ X c d H s)(h:-(2 ^ 62)<=lo)(j:lo<2 ^ 62)(k:-(2 ^ 62)<=a)(l:a<2 ^ 62)
  (q:R (Itr lo (a-lo).toNat) H):au (az X.prog X.w) X.A (rG (.ref s.heap.objs.size)) (PIE X c d tg R) E {s with heap:=s.heap.push {cls:=.type "range",data:=.fields #[.int lo t,.int a u,.int 1 v]},toks:=g}:=by
 refine wpAny_pyIter_range (IsRange.new ..) (small_one h j k l) ?_;have f:bQ X c d H {s with heap:=s.heap.push {cls:=.type "range",data:=.fields #[.int lo t,.int a u,.int 1 v]},toks:=g}:=I.kept λb o e=>af _ e;refine⟨(s.heap.push {cls:=.type "range",data:=.fields #[.int lo t,.int a u,.int 1 v]}).objs.size,[(s.heap.push {cls:=.type "range",data:=.fields #[.int lo t,.int a u,.int 1 v]}).objs.size],_,_,H,rfl,
  f.kept (t':=g) λb o e=>af _ e,Kf _ lo (a-lo).toNat,?_,λb m=>?_,q⟩
 ·have i:lo+((0:Nat):Int)*1=lo:=by simp
  have n:(((a-lo).toNat:Nat):Int)-((0:Nat):Int)=Builtin.Range.rangeSize lo a 1:=by rw[rangeSize_one];split<;>omega
  show IsRangeIter _ _ (lo+((0:Nat):Int)*1) ((((a-lo).toNat:Nat):Int)-((0:Nat):Int)) 1;rw[i,n];exact aD _ rfl
 ·have e:b=(s.heap.push {cls:=.type "range",data:=.fields #[.int lo t,.int a u,.int 1 v]}).objs.size:=by simpa using m
  subst e;exact f.fpOk (aw _) (f.hok.fresh (aw _))
def ZX(c:TA):TI:=λa H R=>c a H λd b=>∃j:Int,d=[.int j]/\-(2 ^ 62)<=j/\j<2 ^ 62/\R (Itr 0 j.toNat) b
def NI{a:bC}{f:TA}{p c:Pos}(u:Gl X "range")(l:X.mg "range"=none)(g:PA X [a] f)(hs:aF [a] X.env=[(false,eu a X.env)]:=by rfl):PI X tg (.Call (.Name "range" p) [a] [] c) (ZX f):=by
 intro b s i H R I h;refine Call_ (vK I u l boot_range (fV (fS (g c b s i H _ I h) λw s1 ⟨x,v,o,m,d⟩=>?_) hs rfl));obtain⟨j,e,d,n,q⟩:=d;subst e;cases m with
 |cons r k=>
  cases k;obtain⟨t,rfl⟩:=r;exact call_range_1 (PX o ∅ ∅ d n (by simpa using q))
inductive TFI (g:TG) (tb:TS) (D:ED) (σ:St) (J:It) (H1:Hp):Prop
 |mk (W:Nat->Nat->St->Hp->Prop) (w0:∃m,W 0 m σ H1) (turn:∀i m σ H,W i m σ H ->
 (J.stop i H/\D.nx σ H)\/(J.go i H/\∃N:St->Hp->Prop,(∀ σ' H',N σ' H'->∃m',m'<m/\W (i+1) m' σ' H')/\∀x H',J.yld i H x H'->g x σ H' λσ2 H2=>tb {D with nx:=N,ct:=N,bk:=D.nx} σ2 H2)):TFI g tb D σ J H1
def q1y(b:TI)(g:TG)(tb:TS):TS:=λD a H=>b a H (TFI g tb D a)
def tE(a:List ak)(h:bP):List (ak×Obj):=a.filterMap λb=>(h.get? b).map λo=>(b,o)
def jt(a:b∈fp)(e:h.get? b=some o):(b,o)∈tE fp h:=List.mem_filterMap.mpr ⟨b,a,by rw[e];rfl⟩
def yj(c:p∈tE fp h):p.1∈fp/\h.get? p.1=some p.2:=by
 obtain⟨b,d,e⟩:=List.mem_filterMap.mp c;cases q:h.get? b with
 |none=>rw[q] at e;cases e
 |some o=>
  rw[q] at e;have a:(b,o)=p:=bW e;subst a;exact⟨d,q⟩
def bQ.pinned(I:bQ X pins σ H s)(i:∀b∈fp,vL X pins H b)(ho:∀b∈fp,∃o,s.heap.get? b=some o/\∀v,o.data≠.cell v):bQ X (pins++tE fp s.heap) σ H s:=
 I.pins_of λp f=>(List.mem_append.mp f).elim (λz=>I.pin p (aA _ z)) λz=>by
  obtain⟨c,e⟩:=yj z;obtain⟨j,g,h,_⟩:=i p.1 c;obtain⟨o,a,d⟩:=ho p.1 c;rw[e] at a;cases a;exact⟨e,j,g,h,d⟩
def bQ.unpinned(I:bQ X (pins++pl) σ H s):bQ X pins σ H s:=I.pins_of λp a=>I.pin p (aA _ (c6 _ a))
def PY(M:PassesOwn (az X.prog X.w) X.A X.env X.xe)(hc:X.calm=true)(hi:PI X tg iter wi)(hg:PG X tg g)(j:Co X body tb)
  (hs:∀x,bS iter X.env x=pure x:=by intro _;rfl):PS X (.For tg iter body [] pos) (q1y wi g tb):=by
 intro c s σ H D I h
 refine wpAny_For (fS (hi c s σ H _ I h) λv s1 h1=>fS h1 λa0 s2 h2=>?_) hs
 obtain⟨it,B,tn,J,H2,e,I2,T,st2,z,W,⟨m0,w0⟩,K⟩:=h2
 subst e
 have t:∀{H':Hp},(∀b∈B,H' b=none)->∀b∈B,vL X c H' b:=λhn b j=>⟨hn b j,(z b j).f1,(z b j).f2,(z b j).f3,(z b j).f4,(z b j).f5⟩
 refine codeAny_forLoop_any (FLI X c tn B W) ?_ m0 ⟨0,σ,H2,I2,st2,λb j=>(z b j).1,w0⟩
 rintro n s3 ⟨i,p,O,I3,st3,L,w3⟩
 rcases K i n p O w3 with⟨G,qn⟩|⟨go,N,hN,step⟩
 ·refine jE M (fS (T.done X rfl rfl rfl hc i c s3 p O X.xe I3 (t L) st3 G) λr s4 ⟨U,I4⟩=>?_)
  subst U
  exact qk ⟨p,O,I4,qn⟩
 ·refine jE M (fS (T.item X rfl rfl rfl hc i c s3 p O X.xe I3 (t L) st3 go) λr s4 ⟨u,U,h4⟩=>?_)
  subst U
  refine jE M (fS h4 λ_ s5 ⟨x,H5,I5,r5,y5,st5,S⟩=>?_)
  have P:=I5.pinned (t S) (T.obj _ _ st5)
  refine jE M (fS (hg _ s5 p H5 x u _ P r5 (step x H5 y5)) λ_ s6 ⟨Q,H6,I6,q6⟩=>?_)
  refine jE M (fS (j _ s6 Q H6 _ I6 q6) λf Y y=>?_)
  have l:∀{a:St}{q:Hp},bQ X (c++tE B s5.heap) a q Y->N a q->∃m,m<n/\FLI X c tn B W m Y:=λ{a q} k E=>by
   obtain⟨m',hm,w7⟩:=hN a q E
   refine⟨m',hm,i+1,a,q,k.unpinned,T.keep _ _ _ st5 λb j o e=>(k.pin (b,o) (aA _ (aA _ (jt j e)))).1,λb j=>?_,w7⟩
   obtain⟨o,e,d⟩:=T.obj _ _ st5 b j
   exact(k.pin (b,o) (aA _ (aA _ (jt j e)))).2.1
  cases f with
  |next=>obtain⟨a,q,k,E⟩:=y;exact l k E
  |cont=>obtain⟨a,q,k,E⟩:=y;exact l k E
  |brk=>obtain⟨a,q,k,y⟩:=y;exact⟨a,q,k.unpinned,y⟩
  |ret v=>obtain⟨x7,a,q,k,r7,y⟩:=y;exact⟨x7,a,q,k.unpinned,r7,y⟩
end L2
namespace L2
open PySem PySem.Spec PyProof.Rows
abbrev R2:=V->V->Hp->VK->Prop
def tF(X:Cx)(f:ag->ag->Sem ag)(r:R2):Prop:=
 ∀(a:List (ak×Obj)) (s:aq) (b:St) (H:Hp) (x y:V) (v u:ag) (Q:VK),bQ X a b H s->dX x v->dX y u->r x y H Q ->
  au (az X.prog X.w) X.A (f v u) (EP X a b Q) X.xe s
def UnR(X:Cx)(f:ag->Sem ag)(r:V->Hp->VK->Prop):Prop:=
 ∀(a:List (ak×Obj)) (s:aq) (b:St) (H:Hp) (x:V) (v:ag) (Q:VK),bQ X a b H s->dX x v->r x H Q ->
  au (az X.prog X.w) X.A (f v) (EP X a b Q) X.xe s
def jU(X:Cx)(f:ag)(r:List V->Hp->VK->Prop):Prop:=
 ∀(a:List (ak×Obj)) (s:aq) (c:St) (H:Hp) (xs:List V) (b:List ag) (Q:VK),bQ X a c H s->dI xs b->r xs H Q ->
  au (az X.prog X.w) X.A (call f b) (EP X a c Q) X.xe s
def q1z(X:Cx)(r:V->Hp->(Bool->Hp->Prop)->Prop):Prop:=
 ∀(a:List (ak×Obj)) (s:aq) (b:St) (H:Hp) (x:V) (v:ag) (Q:Bool->Hp->Prop),bQ X a b H s->dX x v->r x H Q ->
  au (az X.prog X.w) X.A (truthy v) (TP X a b Q) X.xe s
def ZY(r:R2)(d tb:TE):TE:=λa H Q=>d a H λx c=>tb a c λy b=>r x y b Q
def tUn(r:V->Hp->VK->Prop)(c:TE):TE:=λa H Q=>c a H λx b=>r x b Q
inductive rII (C:Int->Int->Prop) (g:Int->Int->V) (x:V) (y:V) (H:Hp) (Q:VK):Prop
 |mk (i j:_) (h0:x=.int i) (h1:y=.int j) (h2:C i j) (h3:Q (g i j) H):rII C g x y H Q
def rI(C:Int->Int->Prop)(g:Int->Int->V):R2:=rII C g
inductive ZZ (g:Int->Int->V) (x:V) (y:V) (H:Hp) (Q:VK):Prop
 |mk (i j:_) (h0:x=.int i) (h1:y=.int j) (h2:Q (g i j) H):ZZ g x y H Q
def Y4(g:Int->Int->V):R2:=ZZ g
inductive rUI (g:Int->V) (x:V) (H:Hp) (Q:VK):Prop
 |mk (i:_) (h0:x=.int i) (h1:Q (g i) H):rUI g x H Q
def rU(g:Int->V):V->Hp->VK->Prop:=rUI g
def Y5(n:PE X a ta)(q:PE X b tb){c:List (ak×Obj)}{s:aq}{d:St}{H:Hp}{R:V->V->Hp->Prop}(I:bQ X c d H s)
  (h:ta d H λx m=>tb d m λy e=>R x y e) {Q:ag->aq->Prop}{f:ag->ag->Sem ag}
  (p:∀v u l x y e,bQ X c d e l->dX x v->dX y u->R x y e->au (az X.prog X.w) X.A (f v u) Q X.xe l):
  au (az X.prog X.w) X.A (eu a X.env) (λv g=>au (az X.prog X.w) X.A (eu b X.env) (λu j=>au (az X.prog X.w) X.A (f v u) Q X.xe j) X.xe g) X.xe s:=by
 refine fS (n c s d H _ I h) λv s1 i=>?_;obtain⟨x,m,G,z,o⟩:=i;refine fS (q c s1 d m _ G o) λu l k=>?_;obtain⟨y,e,t,E,B⟩:=k;exact p v u l x y e t z E B
def WJ{op:Operator}{r:R2}(ho:tF X (ig op) r)(e:PE X a ta)(g:PE X b tb):PE X (.BinOp a op b pos) (ZY r ta tb):=by
 intro c s f H Q I h;exact wpAny_BinOp (Y5 e g I h λv u l x y j i d k q=>ho c l f j x y v u Q i d k q)
def Z_(ho:UnR X (unaryOp op) r)(e:PE X a ta):PE X (.UnaryOp op a pos) (tUn r ta):=by
 intro b s d H Q I h;exact UnaryOp_ (fS (e b s d H _ I h) λv s1 c=>by obtain⟨x,f,i,j,g⟩:=c;exact ho b s1 d f x v Q i j g)
def opI{f:ag->ag->Sem ag}{C:Int->Int->Prop}{g:Int->Int->Int}
  (a:∀(i j:Int) (t u:Tok) (s:aq) (Q:ag->aq->Prop) (E:ag->aq->Prop),C i j->Q (.int (g i j) s.toks) {s with toks:=s.toks+1}->au (az X.prog X.w) X.A (f (.int i t) (.int j u)) Q E s):
  tF X f (rI C λi j=>.int (g i j)):=by
 intro b s k H x y v u Q I c e h;obtain⟨i,j,rfl,rfl,d,q⟩:=h;obtain⟨t,rfl⟩:=c;obtain⟨t',rfl⟩:=e;exact a i j t t' s _ _ d ⟨.int (g i j),H,I.tok _,⟨_,rfl⟩,q⟩
def q1A{f:ag->ag->Sem ag}{g:Int->Int->Int}
  (a:∀(i j:Int) (t u:Tok) (s:aq) (Q:ag->aq->Prop) (E:ag->aq->Prop),Q (.int (g i j) s.toks) {s with toks:=s.toks+1}->au (az X.prog X.w) X.A (f (.int i t) (.int j u)) Q E s):
  tF X f (Y4 λi j=>.int (g i j)):=by
 intro b s e H x y v u Q I c d h;obtain⟨i,j,rfl,rfl,q⟩:=h;obtain⟨t,rfl⟩:=c;obtain⟨t',rfl⟩:=d;exact a i j t t' s _ _ ⟨.int (g i j),H,I.tok _,⟨_,rfl⟩,q⟩
def Y6{f:ag->ag->Sem ag}{g:Int->Int->Bool}
  (a:∀(i j:Int) (t u:Tok) (s:aq) (Q:ag->aq->Prop) (E:ag->aq->Prop),Q (.bool (g i j)) s->au (az X.prog X.w) X.A (f (.int i t) (.int j u)) Q E s):
  tF X f (Y4 λi j=>.bl (g i j)):=by
 intro b s e H x y v u Q I c d h;obtain⟨i,j,rfl,rfl,q⟩:=h;obtain⟨t,rfl⟩:=c;obtain⟨t',rfl⟩:=d;exact a i j t t' s _ _ ⟨.bl (g i j),H,I,rfl,q⟩
def q1B(i j:Int):Prop:=0<j/\j<1073741824
def Y7(i j:Int):Prop:=(-(2 ^ 64)<i/\i<2 ^ 64)\/(-(2 ^ 64)<j/\j<2 ^ 64)
def Y7.ok(h:Y7 i j):IntMulOk i j:=by
 rcases h with⟨a,b⟩|⟨a,b⟩
 ·exact .of_left (intBits_le_64 a b)
 ·exact .of_right (intBits_le_64 a b)
def Y8:tF X (ig .Add) (Y4 λi j=>.int (i+j)):=q1A λ_ _ _ _ _ _ _ q=>add_int q
def Y9:tF X (ig .Mult) (rI Y7 λi j=>.int (i*j)):=opI λ_ _ _ _ _ _ _ a q=>mul_int q a.ok
def Uu:tF X (ig .FloorDiv) (rI q1B λi j=>.int (i / j)):=opI λi j _ _ _ _ _ a q=>by
 have b:(0:Int)<j:=a.1;have c:j<1073741824:=a.2;exact floordiv_int ∅ (by rw[Int.fdiv_eq_ediv_of_nonneg i ∅];exact q) (.inl (PyProof.noPylong_small ∅))
def Ya:tF X (ig .Mod) (rI (λ_ j=>0<j) λi j=>.int (i % j)):=opI λi j _ _ _ _ _ a q=>by
 have b:(0:Int)<j:=a;exact mod_int' ∅ (by rw[Int.fmod_eq_emod_of_nonneg i ∅];exact q)
def unI{f:ag->Sem ag}{g:Int->Int}
  (a:∀(i:Int) (t:Tok) (s:aq) (Q:ag->aq->Prop) (E:ag->aq->Prop),Q (.int (g i) s.toks) {s with toks:=s.toks+1}->au (az X.prog X.w) X.A (f (.int i t)) Q E s):
  UnR X f (rU λi=>.int (g i)):=by
 intro b s d H x v Q I c h;obtain⟨i,rfl,q⟩:=h;obtain⟨t,rfl⟩:=c;exact a i t s _ _ ⟨.int (g i),H,I.tok _,⟨_,rfl⟩,q⟩
def Yb:UnR X (unaryOp .USub) (rU λi=>.int (-i)):=unI λ_ _ _ _ _ q=>neg_int q
def q1C:V->V->Bool
 |.non,.non=>true | .non,.int _=>true | .int _,.non=>true | .non,.bl _=>true | .bl _,.non=>true | .non,.str _=>true | .str _,.non=>true
 |.int _,.int _=>true | .bl _,.bl _=>true | .str _,.str _=>true | .byt _,.byt _=>true
 |.int _,.str _=>true | .str _,.int _=>true | .bl _,.str _=>true | .str _,.bl _=>true
 |_,_=>false
def rNe:R2:=λx y H Q=>q1C x y=true/\Q (.bl (!decide (x=y))) H
def Uv:decide (V.int i=V.int j)=(i==j):=by
 rw[dw];simp
def Yc:decide (V.bl i=V.bl j)=(i==j):=by
 rw[dw];simp
def Uw:decide (V.str i=V.str j)=(i==j):=by
 rw[dw];simp
def Ux:decide (V.byt i=V.byt j)=(i.toList==j.toList):=by
 rw[dw];cases i;cases j;simp
def ju(I:bQ X pins σ H s)(q:Q (.bl k) H)(e:k=k'):EP X pins σ Q (.bool k') s:=by
 subst e;exact⟨.bl k,H,I,rfl,q⟩
def q00:tF X (cp .NotEq) rNe:=by
 intro c s d H x y v u Q I b a h;obtain⟨hs,q⟩:=h;cases x with
 |non=>
  cases b;cases y with
  |non=>cases a;exact PySem.EqNone.ne_none_none (ju I q (by simp))
  |bl j=>cases a;exact PySem.EqNone.ne_none_bool (ju I q (by simp))
  |int j=>obtain⟨t',rfl⟩:=a;exact PySem.EqNone.ne_none_int (ju I q (by simp))
  |str j=>obtain⟨t',rfl⟩:=a;exact PySem.EqNone.ne_none_str (ju I q (by simp))
  |_=>exact absurd (show false=true from hs) aG
 |bl i=>
  cases b;cases y with
  |non=>cases a;exact PySem.EqNone.ne_bool_none (ju I q (by simp))
  |bl j=>cases a;exact ne_bool (ju I q (congrArg not Yc))
  |str j=>obtain⟨t',rfl⟩:=a;exact PySem.EqMixed.ne_bool_str (ju I q (by simp))
  |_=>exact absurd (show false=true from hs) aG
 |int i=>
  obtain⟨t,rfl⟩:=b;cases y with
  |non=>cases a;exact PySem.EqNone.ne_int_none (ju I q (by simp))
  |int j=>obtain⟨t',rfl⟩:=a;exact ne_int (ju I q (congrArg not Uv))
  |str j=>obtain⟨t',rfl⟩:=a;exact PySem.EqMixed.ne_int_str (ju I q (by simp))
  |_=>exact absurd (show false=true from hs) aG
 |str i=>
  obtain⟨t,rfl⟩:=b;cases y with
  |non=>cases a;exact PySem.EqNone.ne_str_none (ju I q (by simp))
  |bl j=>cases a;exact PySem.EqMixed.ne_str_bool (ju I q (by simp))
  |int j=>obtain⟨t',rfl⟩:=a;exact PySem.EqMixed.ne_str_int (ju I q (by simp))
  |str j=>obtain⟨t',rfl⟩:=a;exact ne_str (ju I q (congrArg not Uw))
  |_=>exact absurd (show false=true from hs) aG
 |byt i=>
  obtain⟨t,rfl⟩:=b;cases y with
  |byt j=>obtain⟨t',rfl⟩:=a;exact PySem.W.ne_bytes (ju I q (congrArg not Ux))
  |_=>exact absurd (show false=true from hs) aG
 |_=>cases y<;>exact absurd (show false=true from hs) aG
def q01:tF X (cp .Lt) (Y4 λi j=>.bl (decide (i<j))):=Y6 λ_ _ _ _ _ _ _ q=>lt_int q
def q02:tF X (cp .LtE) (Y4 λi j=>.bl (decide (i<=j))):=Y6 λ_ _ _ _ _ _ _ q=>le_int q
def q03:tF X (cp .Gt) (Y4 λi j=>.bl (decide (j<i))):=Y6 λ_ _ _ _ _ _ _ q=>gt_int q
def NJ:tF X (cp .Lt) (λx y H Q=>∃i j,x=.str i/\y=.str j/\Q (.bl (decide (i.cps.toList<j.cps.toList))) H):=by
 intro a s d H x y v u Q I b c h;obtain⟨i,j,rfl,rfl,q⟩:=h;obtain⟨t,rfl⟩:=b;obtain⟨t',rfl⟩:=c;exact lt_str (ju I q rfl)
def Kg(b:bC)(h:op≠.In:=by decide)(a:op≠.NotIn:=by decide):oO op b=false:=by
 have d:(op==CmpOp.In)=false:=by cases op<;>first|rfl|exact absurd rfl h
 have c:(op==CmpOp.NotIn)=false:=by cases op<;>first|rfl|exact absurd rfl a
 cases b<;>simp[oO,d,c]
def Uy(ho:tF X (cp op) r)(e:PE X a ta)(g:PE X b tb)(i:oO op b=false):PE X (.Compare a [op] [b] pos) (ZY r ta tb):=by
 intro c s f H Q I h;exact wpAny_Compare1 (Y5 e g I h λv u m x y k j d l q=>ho c m f k x y v u Q j d l q) i
def WK(t:TE):TT:=λa H Q=>t a H λx H'=>∃k,x=.bl k/\Q k H'
def M0(ho:tF X (cp op) r)(j:PE X a ta)(m:PE X b tb)(o:oO op b=false):PT X (.Compare a [op] [b] pos) (WK (ZY r ta tb)):=by
 intro d s f H Q I h;refine wpAny_isTrue_Compare1 (fS (j d s f H _ I h) λv s1 ⟨x,g,G,t,l⟩=>fS (m d s1 f g _ G l) λu w ⟨y,q,p,B,A⟩=>
  fS (ho d w f q x y v u _ p t B A) λc s3 ⟨z,n,i,E,k,e,K⟩=>?_) o
 subst e;cases E;exact dP ⟨n,i,K⟩
def Kh(r g:R2)(e tb tc:TE):TE:=λa H Q=>e a H λx d=>tb a d λy c=>r x y c λz b=>∃k,z=.bl k /\
 (if k=true then tc a b λh f=>g y h f Q else Q (.bl false) b)
def P_(ho:tF X (cp op) r)(j:tF X (cp op') r')(A:PE X a ta)(G:PE X b tb)(w:PE X c tc)
  (L:P8 [op,op'] [b,c]=false:=by with_unfolding_all rfl):PE X (.Compare a [op,op'] [b,c] pos) (Kh r r' ta tb tc):=by
 intro f s i H Q I h;refine Compare_chain (fS (A f s i H _ I h) λv s1 ⟨x,q,I1,P,B⟩=>chain_link (fS (G f s1 i q _ I1 B) λu S ⟨y,N,M,n,T⟩=>
  fS (ho f S i N x y v u _ M P n T) λd s3 ⟨z,m,l,Y,k,e,o⟩=>?_)) L
 subst e;cases Y;refine dP ?_;cases k with
 |false=>exact ite_ff ⟨.bl false,m,l,rfl,o⟩
 |true=>exact ite_tt (chain_last (fS (w f s3 i m _ l o) λw' p g=>by obtain⟨O,t,U,K,E⟩:=g;exact j f p i t y O u w' Q U n K E))
def Q0(ho:tF X (cp op) r)(i:tF X (cp op') r')(w:PE X a ta)(E:PE X b tb)(t:PE X c tc)
  (L:P8 [op,op'] [b,c]=false:=by with_unfolding_all rfl):PT X (.Compare a [op,op'] [b,c] pos) (WK (Kh r r' ta tb tc)):=by
 intro f s g H Q I h;refine isTrue_chain (fS (w f s g H _ I h) λv s1 ⟨x,p,I1,S,A⟩=>test_link (fS (E f s1 g p _ I1 A) λu T ⟨y,N,M,m,U⟩=>
  fS (ho f T g N x y v u _ M S m U) λd s3 ⟨z,l,j,r3,k,e,n⟩=>?_)) L
 subst e;cases r3;refine dP ?_;cases k with
 |false=>
  obtain⟨k',K,q'⟩:=n;cases K;exact ite_ff ⟨l,j,q'⟩
 |true=>
  refine ite_tt (test_last (fS (t f s3 g l _ j n) λw' o ⟨O,q,I4,G,B⟩=>fS (i f o g q y O u w' _ I4 m G B) λd' s5 ⟨z2,P,Y,r5,k2,e2,q5⟩=>?_));subst e2;cases r5;exact dP ⟨P,Y,q5⟩
def q04(K:a8)(x:V)(H:Hp)(k:Bool):Prop:=
 match x with
 |.non=>k=false
 |.bl b=>k=b
 |.int i=>k=(i != 0)
 |.str y=>y.length<=sizeLine/\k=((y.length:Int) != 0)
 |.byt y=>y.size<=sizeLine/\k=((y.size:Int) != 0)
 |.ref p=>(∃xs,oZ K H p xs/\k=!xs.isEmpty)\/(∃xs,lY K H p xs/\k=!xs.isEmpty)\/∃a,H p=some (.dK a)/\k=!a.isEmpty
 |_=>False
def Ki{b:Type}{a:List (b×V)}{c:List (b×ag)}(r:KV a c):(!c.isEmpty)=!a.isEmpty:=by
 cases r<;>rfl
def Az(r:dI xs its):(!its.toArray.isEmpty)=!xs.isEmpty:=by
 cases r<;>simp
def yk:(sizeLine:Nat)<2 ^ 63:=by rw[hW];decide
def Yd:q1z X (λx H Q=>∃k,q04 X.K x H k/\Q k H):=by
 intro o s B H x v Q I f h;obtain⟨k,e,q⟩:=h;have A:=yk;have hs:sizeLine=16777216:=hW;cases x with
 |non=>
  cases f;have a:k=false:=e;subst a;exact truthy_none ⟨H,I,q⟩
 |bl b=>
  cases f;have a:k=b:=e;subst a;exact dP ⟨H,I,q⟩
 |int i=>
  obtain⟨t,rfl⟩:=f;have a:k=(i != 0):=e;subst a;exact PySem.P.truthy_int ⟨H,I,q⟩
 |str y=>
  obtain⟨t,rfl⟩:=f;obtain⟨u,a⟩:y.length<=sizeLine/\k=((y.length:Int) != 0):=e;subst a;exact PySem.P.truthy_str ∅ ⟨H,I.tok _,q⟩
 |byt y=>
  obtain⟨t,rfl⟩:=f;obtain⟨u,a⟩:y.size<=sizeLine/\k=((y.size:Int) != 0):=e;subst a;exact PySem.W.truthy_bytes ∅ ⟨H,I.tok _,q⟩
 |ref p=>
  cases f;have a:(∃xs,oZ X.K H p xs/\k=!xs.isEmpty)\/(∃xs,lY X.K H p xs/\k=!xs.isEmpty)\/∃c,H p=some (.dK c)/\k=!c.isEmpty:=e;rcases a with⟨xs,g,a⟩|⟨xs,g,a⟩|⟨c,g,a⟩
  ·subst a;obtain⟨l,r,pl,n⟩:=I.list g;have d:=r.length;exact wpAny_truthy_list pl.isList (by simp only[aM];omega) ⟨H,I.tok _,by rw[Az r];exact q⟩
  ·subst a;obtain⟨l,r,pl,n⟩:=I.tuple g;have d:=r.length;exact truthy_tuple pl (by simp only[aM];omega) ⟨H,I.tok _,by rw[Az r];exact q⟩
  ·subst a;obtain⟨n,z,j,r,m⟩:c.length<=sizeLine/\(p==e_)=false/\∃j,KV c j/\s.heap.DictOf (i3 X.prog X.w) p j:=I.hok p _ g;have d:c.length=j.length:=kr r;exact wpAny_truthy_dict z m ∅ ⟨H,I.tok _,by rw[Ki r];exact q⟩
 |_=>exact(show False from e).elim
def Q1(g:PE X a ta)(he:∀b,Am a X.env b=(do let v <- b;qJ a.pos;Ji [v] (truthy v))):
  PT X a (λe H Q=>ta e H λx H'=>∃k,q04 X.K x H' k/\Q k H'):=by
 intro c s e H Q I h;exact isTrue_plain (fS (g c s e H _ I h) λv s1 d=>by obtain⟨x,f,l,j,i⟩:=d;exact Yd c s1 e f x v Q l j i) (he _)
def Kj:tF X (ig .Add) (λx y H Q=>∃i j,x=.str i/\y=.str j/\i.length+j.length<=sizeLine/\Q (.str (i++j)) H):=by
 intro a s f H x y v u Q I b d h;obtain⟨i,j,rfl,rfl,c,q⟩:=h;obtain⟨t,rfl⟩:=b;obtain⟨t',rfl⟩:=d;exact add_str (λt' e=>⟨.str (i++j),H,I.tok _,⟨_,rfl⟩,q⟩) c
def lB(r:dI [x] us):∃u,us=[u]/\dX x u:=by
 cases r with
 |cons b a=>cases a;exact⟨_,rfl,b⟩
def Q2(r:dI [x,y] us):∃u a,us=[u,a]/\dX x u/\dX y a:=by
 cases r with
 |cons b c=>
  cases c with
  |cons d e=>cases e;exact⟨_,_,rfl,b,d⟩
end L2
namespace L2
open PySem PySem.Spec PyProof.Rows
structure Ye (h:bP) (x dx C:ak) (mA:Str->Option ag):Prop where
 obj:h.get? x=some (zF C dx)
 ns:h.Ns1 dx mA
 ne:dx≠x
def NK{h:bP}{d:ak}{c:Str->Option ag}(n:h.Ns1 d c):∃f,h.get? d=some f/\∀name,Ao name f=some (c name):=by
 obtain⟨o,es,m,ho,k,l,_,i⟩:=n;refine⟨o,ho,λname=>?_⟩;have e:=i name;unfold nsFind findBy at e;rw[<- Array.find?_toList] at e;unfold Ao;rw[k];dsimp only;split
 ·rename_i y q
  rw[q] at e;exact congrArg some e
 ·rename_i q
  rw[q] at e;have a:es.toList.any (·.refKey)=false:=by
   rw[fm];intro y g;obtain⟨z,t,b⟩:=l y (Array.mem_toList_iff.mp g);simp[DictEntry.refKey,b]
  have j:¬ es.toList.any (·.refKey)=true:=by rw[a];exact aG
  rw[if_neg j];exact congrArg some e
def Ye.look(I:Ye h x dx C mA):∃a,PySem.W.InstAt h x (zF C dx) C (some a)/\∀name,Ao name a=some (mA name):=
 let ⟨a,ho,hl⟩:=NK I.ns
 ⟨a,⟨I.obj,rfl,rfl,ho⟩,hl⟩
def Ay.some_of(r:Ay (some v) o):∃u,o=some u/\dX v u:=by
 cases o with
 |none=>exact(show False from r).elim
 |some u=>exact⟨u,rfl,r⟩
def Uz(c:sR P w H h)(e:H a=some (.ins C dx fs)):∃b,Ye h a dx C b/\(∀f,Ay (fs.lookup f) (b f))/\PySem.Within b (fs.map (·.1))/\fs.length<=1000/\H dx=some (.own a):=by
 obtain⟨d,z,ne,ob,b,n,r,q⟩:=(show c_ P w H h a (.ins C dx fs) from c a _ e);exact⟨b,⟨ob,n,ne⟩,r,q,z,d⟩
structure Cls (K:a8) (C:ak):Prop where
 pg:Nj K C Str.empty=true
 hd:PySem.W.hasDictIn K C=true
 po:PySem.W.plainOver K C=true
 sa:iw K (.ref C) "__setattr__"=some (some (.builtin "object.__setattr__"))
def Cls.get{K:a8}{C:ak}(c:Cls K C)(f:Str):Nj K C f=true:=c.pg
inductive ym (K:a8) (H:Hp):V->ag->Prop where
 |non:ym K H .non (.type "NoneType")
 |bl (x:Bool):ym K H (.bl x) (.type "bool")
 |int (i:Int):ym K H (.int i) (.type "int")
 |str (x:Str):ym K H (.str x) (.type "str")
 |flt (x:UInt64):ym K H (.flt x) (.type "float")
 |lst {a:ak}{xs:List V} (e:H a=some (.lst xs)):ym K H (.ref a) (.type "list")
 |frz {a:ak}{o:Obj}{xs:List V} (e:H a=some (.frz o (.lst xs))):ym K H (.ref a) (.type "list")
 |tup {a:ak}{xs:List V} (e:H a=some (.tup xs)):ym K H (.ref a) (.type "tuple")
 |dK {a:ak}{kvs:List (ip×V)} (e:H a=some (.dK kvs)):ym K H (.ref a) (.type "dict")
 |dT {a:ak}{kvs:List (List ip×V)} (e:H a=some (.dT kvs)):ym K H (.ref a) (.type "dict")
 |ins {a C dx:ak}{fs:List (Str×V)} (e:H a=some (.ins C dx fs)) (cl:Cls K C) (ha:iw K (.ref C) "__class__"=some (some (.builtin "object.__class__")))
   (hn:wB K (.builtin "object.__class__") "__get__"=some (some (.builtin "getset_descriptor.__get__"))) (htk:zG K (.builtin "object.__class__")=some true)
   (hm:e7 K C (.type "object")=some true):ym K H (.ref a) (.ref C)
def qN(I:bQ X pins σ H s)(d:dX x u)(ty:ym X.K H x t)(e:e8 X.K t c=some b)(h:∀M,Q (.bool b) {s with toks:=M}):
  au (az X.prog X.w) A (call (.builtin "isinstance") [u,c]) Q E s:=by
 cases ty with
 |non=>cases(show u=dO from d);exact cT PySem.W.kitx_none I.kIn jP e (λz=>nomatch z) h
 |bl y=>cases(show u=jC y from d);exact cT PySem.W.kitx_bool I.kIn jP e (λz=>nomatch z) h
 |int i=>obtain⟨t,q⟩:=(show ∃t,u=rF i t from d);cases q;exact cT PySem.W.kitx_int I.kIn jP e (λz=>nomatch z) h
 |str y=>obtain⟨t,q⟩:=(show ∃t,u=lc y t from d);cases q;exact cT PySem.W.kitx_str I.kIn jP e (λz=>nomatch z) h
 |flt y=>obtain⟨t,q⟩:=(show ∃t,u=Value.float y t from d);cases q;exact cT PySem.W.kitx_float I.kIn jP e (λz=>nomatch z) h
 | @lst a xs f=>
  cases(show u=bh a from d);obtain⟨_,_,n,_,g⟩:=(show c_ X.prog X.w H s.heap a (.lst xs) from I.hok a _ f);exact cT wC I.kIn ⟨_,g,rfl⟩ e (λz=>nomatch z) h
 | @frz a ob xs f=>
  cases(show u=bh a from d);obtain⟨_,_,_,n,_,g⟩:=(show c_ X.prog X.w H s.heap a (.frz ob (.lst xs)) from I.hok a _ f);exact cT wC I.kIn ⟨_,g,rfl⟩ e (λz=>nomatch z) h
 | @tup a xs f=>
  cases(show u=bh a from d);obtain⟨_,_,_,p⟩:=(show c_ X.prog X.w H s.heap a (.tup xs) from I.hok a _ f);obtain⟨o,g,k,_⟩:=p;exact cT Jy I.kIn ⟨o,g,k⟩ e (λz=>nomatch z) h
 | @dK a j f=>
  cases(show u=bh a from d);obtain⟨_,_,T,_,p⟩:=(show c_ X.prog X.w H s.heap a (.dK j) from I.hok a _ f);obtain⟨o,es,B,g,k,_⟩:=p;exact cT LQ I.kIn ⟨o,g,k.1⟩ e (λz=>nomatch z) h
 | @dT a j f=>
  cases(show u=bh a from d);obtain⟨_,_,xs,_,o,es,B,g,k,_⟩:=(show c_ X.prog X.w H s.heap a (.dT j) from I.hok a _ f);exact cT LQ I.kIn ⟨o,g,k.1⟩ e (λz=>nomatch z) h
 | @ins a C P fs f m v L l G=>
  cases(show u=bh a from d);obtain⟨N,O,_⟩:=Uz I.hok f;obtain⟨S,J,_⟩:=O.look;exact cT (PySem.W.kitx_own (m.get _) m.hd v L l G) I.kIn J e (λz=>nomatch z) h
end L2
namespace L2
open PySem PySem.Spec PyProof.Rows
structure l8 (k:Nat) (A:cg):Prop where
 hd:A.handled=none
 dp:A.depth+3*k+5<Jz
 un:A.units+16*k+200<eQ
def l8.mono(r:l8 k A)(h:j<=k):l8 j A:=⟨r.hd,by have:=r.dp;omega,by have:=r.un;omega⟩
def l8.deeper(r:l8 (k+1) A)(env:Env):l8 k (A.deeper env):=
 ⟨r.hd,by have:=r.dp;show A.depth+1+3*k+5<_;omega,by have:=r.un;show A.units+3+16*k+200<_;omega⟩
def l8.depth(r:l8 k A):A.depth<Jz:=by have:=r.dp;omega
def l8.units(r:l8 k A):A.units+64<eQ:=by have:=r.un;omega
def Q3:TA:=λ_ H Q=>Q [] H
def GD(d:TE)(e:TA):TA:=λa H Q=>d a H λx c=>e a c λxs b=>Q (x::xs) b
def f_:PA X [] Q3:=λ_ _ _ _ H Q I h=>Calls.spliced_nil ⟨[],H,I,.nil,h⟩
def cE(g:PE X e te)(j:PA X es t)(hs:aF (e::es) X.env=(false,eu e X.env)::aF es X.env:=by rfl):PA X (e::es) (GD te t):=by
 intro c a s d H Q I h;rw[hs];show au _ _ (spliced ((false,eu e X.env)::hG c (aF es X.env))) _ _ s;refine Calls.spliced_cons (fS (g a s d H _ I h) λu s1 ⟨x,f,p,m,i⟩=>?_);exact fS (j c a s1 d f _ p i) λv q b=>by obtain⟨xs,l,k,o,n⟩:=b;exact⟨x::xs,l,k,.cons m o,n⟩
def q1D(t:TA):TE:=λb H Q=>t b H λxs a=>xs.length<=sizeLine/\∀p,a p=none->Q (.ref p) (upd a p (.tup xs))
def q1E(t:TA):TE:=λb H Q=>t b H λxs a=>xs.length<=sizeLine/\∀p,a p=none->Q (.ref p) (upd a p (.lst xs))
def Q4{x1}(h:PA X es t):PE X (.Tuple es x1 pos) (q1D t):=by
 intro a s g H Q I f;refine wpAny_Tuple_spliced (fS (h pos a s g H _ I f) λj s1 ⟨xs,c,d,r,z,q⟩=>⟨by rw[<- r.length];exact z,?_⟩);have i:c s1.heap.objs.size=none:=d.hok.fresh (aw _);refine⟨.ref s1.heap.objs.size,upd c s1.heap.objs.size (.tup xs),d.laid (t':=s1.toks) (λb u e=>af _ e) (aw _) ?_,rfl,q _ i⟩;exact⟨z,j,r,⟨_,aD _ rfl,rfl,_,rfl⟩⟩
def qq(h:PA X es t):PE X (.List es pos) (q1E t):=by
 intro a s g H Q I f;refine wpAny_List_spliced (fS (h pos a s g H _ I f) λj s1 ⟨xs,c,d,r,z,q⟩=>⟨by rw[<- r.length];exact z,?_⟩);have i:c s1.heap.objs.size=none:=d.hok.fresh (aw _);refine⟨.ref s1.heap.objs.size,upd c s1.heap.objs.size (.lst xs),d.laid (t':=s1.toks) (λb u e=>af _ e) (aw _) ?_,rfl,q _ i⟩;exact⟨z,j,0,r,aD _ rfl⟩
abbrev Sp:=List V->Hp->VK->XK->Prop
abbrev Pj:=List Env->Hp->aq->XK->ag->aq->Prop
structure Kk (P:bd) (w:bz) (K:a8) (mg:Str->Option ag) (base:bP) (A:cg) (outer:List Env) (s:aq) (H:Hp):Prop where
 frames:A.frames=some outer
 mod:Mod K mg base
 bs:∀b o,base.get? b=some o->s.heap.get? b=some o/\H b=none
 bsz:base.objs.size<=s.heap.objs.size
 funs:s.heap.FunFrames base outer
 frf:∀b∈vi outer,H b=none
 hok:sR P w H s.heap
 bare:sV s.gens
inductive CE (outer:List Env) (P:bd) (w:bz) (H:Hp) (s:aq) (Q:VK) (u:ag) (s':aq):Prop
 |mk (v H':_) (h0:s'.os=s.os) (h1:sV s'.gens) (h2:Un (vi outer) [] H H' s.heap s'.heap) (h3:sR P w H' s'.heap) (h4:dX v u) (h5:Q v H'):CE outer P w H s Q u s'
def CR(CX:Pj)(outer:List Env)(P:bd)(w:bz)(H:Hp)(s:aq)(Q:VK)(E:XK)(r:Eo)(s':aq):Prop:=
 match r with
 |.ok (.ret u)=>CE outer P w H s Q u s'
 |.ok _=>False
 |.error e=>CX outer H s E e s'
structure u_ (P:bd) (w:bz) (K:a8) (mg:Str->Option ag) (base:bP) (CX:Pj) (k:Nat) (f:ak) (fd:gW) (ps:List Str) (sp:Sp):Prop where
 len:∀vs H Q E,sp vs H Q E->vs.length=ps.length
 run:∀(A:cg) (outer:List Env) (s:aq) (H:Hp) (args:Args) (us:List ag) (vs:List V) (Q:VK) (E:XK),l8 k A->Kk P w K mg base A outer s H->C7 s fd args (ps.zip us)->dI vs us->sp vs H Q E ->
  fR (az P w) A (.call (.ref f) args) (CR CX outer P w H s Q E) s
def u_.imp{P:bd}{w:bz}{K:a8}{e:Str->Option ag}{base:bP}{CX:Pj}{k:Nat}{f:ak}{d:gW}{ps:List Str}{sp b:Sp}(F:u_ P w K e base CX k f d ps sp)
  (h:∀a H Q E,b a H Q E->sp a H Q E):u_ P w K e base CX k f d ps b:=
 ⟨λa H Q E q=>F.len a H Q E (h _ _ _ _ q),λA outer s H c j a Q E g he i l hs=>F.run A outer s H c j a Q E g he i l (h _ _ _ _ hs)⟩
def bQ.env0(I:bQ X pins σ H s):Kk X.prog X.w X.K X.mg X.base X.A X.stack s H:=
 ⟨I.ok.frames,I.ok.mod,I.bs,cH I.ok.bsz I.sz,I.stack,I.stkFree,I.hok,I.bare⟩
def bQ.after(I:bQ X pins σ H s)(h:CE X.stack X.prog X.w H s Q u s'):EP X pins σ Q u s':=by
 obtain⟨v,H',i,a,un,e,r,q⟩:=h;obtain⟨f,g,d,t,c⟩:=s';obtain rfl:c=s.os:=i;exact⟨v,H',I.call (h':=f) (g':=g) (d':=d) (t':=t) (ch:=[]) un e a (λb z=>absurd z (by simp)),r,q⟩
def M1(sp:Sp)(a:List V)(E:XK)(t:TA):TE:=λb H Q=>t b H λd c=>sp (d++a) c Q E
def lC(K:a8)(b:gW)(ps:List Str)(ds:List ag):Prop:=
 ∀(s:aq) (a:List ag),K.In s.heap->(a++ds).length=ps.length->C7 s b ⟨a,[]⟩ (ps.zip (a++ds))
def lC.all{K:a8}{b:gW}{ps:List Str}(h:∀a:List ag,a.length=ps.length->bindArgs b ⟨a,[]⟩=pure (ps.zip a)):lC K b ps []:=λs a _ c=>by
 rw[ck] at c ⊢;exact .of_eq (h a c)
def lD(CX:Pj)(X:Cx)(E:XK):Prop:=∀(a:List (ak×Obj)) (b:St) (H:Hp) (s:aq) (e:ag) (s':aq),bQ X a b H s->CX X.stack H s E e s'->X.xe e s'
def Q5(F:u_ X.prog X.w X.K X.mg X.base CX k f fd ps sp)(d:l8 k X.A)(i:lC X.K fd ps ds)(l:dI dvs ds)(g:lD CX X E)
  (I:bQ X pins σ H s) (r:dI vs us) (h:sp (vs++dvs) H Q E):au (az X.prog X.w) X.A (call (.ref f) us) (EP X pins σ Q) X.xe s:=by
 have b:dI (vs++dvs) (us++ds):=r.append l;have j:(us++ds).length=ps.length:=by rw[<- b.length];exact F.len _ _ _ _ h
 refine Ap (k_ (F.run X.A X.stack s H ⟨us,[]⟩ (us++ds) (vs++dvs) Q E d I.env0 (i s us I.kIn j) b h) λr s' a=>?_);cases r with
 |error e=>exact g pins σ H s e s' I a
 |ok c=>
  cases c with
  |ret u=>exact I.after a
  |next=>exact fG a
  |brk=>exact fG a
  |cont=>exact fG a
def M2(F:u_ X.prog X.w X.K X.mg X.base CX k f fd ps sp)(j:l8 k X.A)(v:Gl X x)(m:X.mg x=some (.ref f))(o:f6 X.K (.ref f)=true)(l:lC X.K fd ps ds)(n:dI dvs ds)(u:lD CX X E)
  (g:PA X (e::es) t) (b:(x==("__debug__" : Str))=false:=by decide) (he:aF (e::es) X.env=(false,eu e X.env)::aF es X.env:=by rfl) (c:(hG pos (aF es X.env)).any (·.1)=false:=by rfl):
  PE X (.Call (.Name x p) (e::es) [] pos) (M1 sp dvs E t):=by
 intro a s i H Q I h;refine lV (A8 I v m ?_ b);refine vB (h₀:=X.base) I.ok.mod.kin o (fS (g pos a s i H _ I h) λz s1 ⟨B,y,d,r,q⟩=>⟨d.kIn,?_⟩) he c;exact Q5 F j l n u d r q
structure bM (N P:List Str) (sc:eP):Prop where
 kind:sc.kind=.function
 co:sc.isCoroutine=false
 gen:sc.isGenerator=false
 nd:N.Nodup
 pre:N.take P.length=P
 par:∀x∈P,sc.names.lookup x=some .local\/sc.names.lookup x=some .cell
 nofree:∀y∈sc.names,y.2≠.free
theorem De{a:Str->Option mR}{x:Str}:∀{binds:List (Str×ag)}{m:Str->Option ag},(∀v,(x,v)∉binds)->JA a binds m x=m x
 |[],_,_=>rfl
 |(n,v)::r,m,h=>by
  unfold JA;rw[De λw b=>h w (ai _ b)];split
  ·have:x≠n:=by rintro rfl;exact h v ap
   simp[this]
  ·rfl
theorem Df{a:Str->Option mR}{x:Str}:∀{binds:List (Str×ag)}{m:Str->Option ag},(∀v,(x,v)∉binds)->JC a binds m x=m x
 |[],_,_=>rfl
 |(n,v)::r,m,h=>by
  unfold JC;rw[Df λw b=>h w (ai _ b)];split
  ·rfl
  ·have:x≠n:=by rintro rfl;exact h v ap
   simp[this]
theorem Dg{a:Str->Option mR}{x:Str}{v:ag}:∀{P:List Str}{b:List ag}{i:Nat}{m:Str->Option ag},P.Nodup->P[i]?=some x->b[i]?=some v->a x=some .local ->
  JA a (P.zip b) m x=some v
 |[],_,_,_,_,h,_,_=>by simp at h
 |_::_,[],_,_,_,_,h,_=>by simp at h
 |p::P,w::b,0,m,e,c,d,f=>by
  simp at c d;subst c;subst d;show JA a ((p,w)::P.zip b) m p=_;unfold JA;rw[De λv g=>(List.nodup_cons.mp e).1 (t4 g).1,if_pos f];simp
 |p::P,w::b,i+1,m,e,c,d,f=>by
  show JA a ((p,w)::P.zip b) m x=_;unfold JA;exact Dg (i:=i) (List.nodup_cons.mp e).2 (by simpa using c) (by simpa using d) f
theorem Dh{a:Str->Option mR}{x:Str}{v:ag}:∀{P:List Str}{b:List ag}{i:Nat}{m:Str->Option ag},P.Nodup->P[i]?=some x->b[i]?=some v->a x≠some .local ->
  JC a (P.zip b) m x=some v
 |[],_,_,_,_,h,_,_=>by simp at h
 |_::_,[],_,_,_,_,h,_=>by simp at h
 |p::P,w::b,0,m,e,c,d,f=>by
  simp at c d;subst c;subst d;show JC a ((p,w)::P.zip b) m p=_;unfold JC;rw[Df λv g=>(List.nodup_cons.mp e).1 (t4 g).1,if_neg f];simp
 |p::P,w::b,i+1,m,e,c,d,f=>by
  show JC a ((p,w)::P.zip b) m x=_;unfold JC;exact Dh (i:=i) (List.nodup_cons.mp e).2 (by simpa using c) (by simpa using d) f
def start(N:List Str)(a:List V):St:=a.map some++pf (N.length-a.length) none
def kC(CX:Pj)(P:bd)(w:bz)(K:a8)(mg:Str->Option ag)(base:bP)(N:List Str)(qual:Str)(scope:eP)(f:ak)(cd:ag)(A:cg)(outer:List Env)(s:aq)(H:Hp)(E:XK):Cx where
 prog:=P
 w:=w
 K:=K
 mg:=mg
 base:=base
 A:=A.deeper (kA qual scope s.heap.objs.size f cd)
 N:=N
 s₀:=s
 H₀:=H
 env:=kA qual scope s.heap.objs.size f cd
 outer:=outer
 stack:=kA qual scope s.heap.objs.size f cd::outer
 ex:=[]
 calm:=true
 fn:=λ_=>true
 pn:=[]
 xe:=λe s'=>au (az P w) (A.deeper (kA qual scope s.heap.objs.size f cd)) (leaving (kA qual scope s.heap.objs.size f cd) e) (λ_ s''=>CX outer H s E e s'') (λe' s''=>CX outer H s E e' s'') s'
def GE{a:eP}{n:Nat}{x:Str}(h:a.names.lookup x=some .cell):∃c,(cq n a.names []).lookup x=some c:=by
 have q:=gm a.names n [] (.inl h);exact Option.isSome_iff_exists.mp q
def Di{CX:Pj}{P:bd}{w:bz}{K:a8}{M:Str->Option ag}{base:bP}{N ps:List Str}{d:Str}{scope:eP}{f:ak}{I:ag}{A:cg}{outer:List Env}{s s1:aq}{H:Hp}{E:XK}{O:List ag}{o:List V}
  (S:bM N ps scope) (hd:A.handled=none) (j:Kk P w K M base A outer s H) (hl:o.length=ps.length) (r:dI o O)
  (x:InCallC s s.heap.objs.size (JA (kA d scope s.heap.objs.size f I).kindOf (ps.zip O) λ_=>none) (cq (s.heap.objs.size+1) scope.names []) (JC (kA d scope s.heap.objs.size f I).kindOf (ps.zip O) λ_=>none) s1):
  bQ (kC CX P w K M base N d scope f I A outer s H E) [] (start N o) H s1:=by
 have X:ps.length<=N.length:=by have:=congrArg lm S.pre;rw[sG] at this;omega
 obtain⟨G,tk,rfl,T⟩:=x.done;have m:∀b:ak,b∉(kC CX P w K M base N d scope f I A outer s H E).ex:=λb z=>absurd (show b∈([]:List ak) from z) (by simp);refine⟨⟨j.mod,S.kind,rfl,rfl,aw _,λy z c G g=>?_,λy l=>?_,λy c _ h=>?_,λ_=>hd,Around.frames_deeper j.frames,.inr ⟨rfl,rfl⟩,λb z=>absurd z (m b),j.bs,j.bsz,λb _ _=>m b,λb z=>absurd z (m b),j.funs,j.frf⟩,
  rfl,j.bare,Un.kept T,⟨_,x.toInCall.ns,λi y v G g h3=>?_⟩,λy c h=>⟨_,x.cell y c h⟩,j.hok.fresh (aw _),λy c h=>?_,λp B=>absurd (show p∈([]:List (ak×Obj)) from B) (by simp),j.hok.kept T,?_⟩
 ·exact name_of_addr x.apart (d_ G) (d_ g)
 ·have l:scope.names.lookup y=some .cell\/scope.names.lookup y=some .free:=l;rcases l with l|l
  ·exact GE l
  ·exact absurd rfl (S.nofree _ (d_ l))
 ·exact bL (x.above y c (d_ h))
 ·have L:i<o.length:=by
   unfold start at g;by_cases L:i<o.length
   ·exact L
   ·rw[aV (by simpa using L)] at g;rw[c8] at g;split at g<;>cases g
  have U:o[i]?=some v:=by
   unfold start at g;rw[bx (by simpa using L),aI] at g;cases e:o[i]? with
   |none=>rw[e] at g;cases g
   |some a=>rw[e] at g;cases g;rfl
  obtain⟨u,Q,Y⟩:=r.get U;have B:ps[i]?=some y:=by
   rw[<- S.pre,List.getElem?_take_of_lt ∅];exact G
  have t:ps.Nodup:=by rw[<- S.pre];exact S.nd.sublist (List.take_sublist _ _)
  refine⟨u,Y,?_⟩;rcases S.par y (bR B) with k|k
  ·exact .inl ⟨k,Dg t B Q k⟩
  ·obtain⟨c,e⟩:=GE (n:=s.heap.objs.size+1) k;refine .inr ⟨.inl k,c,e,?_⟩;have q:=x.cell y c e;rw[Dh t B Q (by show scope.names.lookup y≠_;rw[k];decide)] at q;exact q
 ·exact j.hok.fresh (bL (x.above y c (d_ h)))
 ·unfold start;show _=N.length;rw[aT,ah,dD];omega
def WL{CX:Pj}{P:bd}{w:bz}{K:a8}{z:Str->Option ag}{base:bP}{k:Nat}{f:ak}{name a:Str}{d:Arguments}{g:List eG}{scope:eP}{T kV l Y c ct oc:ag}{an od:Option ak}
  {L:Array (Option ag)}{N ps:List Str}{sp:Sp} (lk:K.lookup f=some ⟨oc,od,.func (fH name a d g scope T kV l Y an c ct),L⟩) (B:lv K c a=true) (S:bM N ps scope)
  (len:∀h H Q E,sp h H Q E->h.length=ps.length)
  (j:∀(A:cg) (outer:List Env) (s:aq) (H:Hp) (h:List V) (Q:VK) (E:XK),l8 k (A.deeper (kA a scope s.heap.objs.size f c))->sp h H Q E ->
   ∃t,Co (kC CX P w K z base N a scope f c A outer s H E) g t/\t {nx:=λ_ H'=>Q .non H',rt:=Q} (start N h) H):
  u_ P w K z base CX (k+1) f (fH name a d g scope T kV l Y an c ct) ps sp:=by
 refine⟨len,λA outer s H X us h Q E G m hb r p=>?_⟩;have hl:=len _ _ _ _ p;have U:K.In s.heap:=m.mod.kin.keeps λb o e=>(m.bs b o e).1;have M:s.heap.NoLimit:=m.mod.nolimit.keeps λb o e=>(m.bs b o e).1;have i:∀y∈ps.zip us,scope.names.lookup y.1=some .local\/(scope.names.lookup y.1=some .cell/\((cq (s.heap.objs.size+1) scope.names []).lookup y.1).isSome=true):=λ⟨n,v⟩ hy=>by
  rcases S.par n (t4 hy).1 with q|q
  ·exact .inl q
  ·exact .inr ⟨q,gm _ _ _ (.inl q)⟩
 refine TF G.depth (U _ _ lk) rfl S.co S.gen rfl (JD U B) (hb _ _ _ _ ?_);refine JF S.kind i λenv he s1 x=>?_;subst he;refine⟨M.keeps x.toInCall.keep,codeAny_func ?_⟩;obtain⟨t,ht,hq⟩:=j A outer s H h Q E (G.deeper _) p;have I:bQ (kC CX P w K z base N a scope f c A outer s H E) [] (start N h) H s1:=Di S G.hd m hl r x;refine cn (ht [] s1 (start N h) H _ I hq) (λfl s' hs=>?_) λe s' hs=>hs;have fin:∀{σ':St}{H':Hp}{v:V}{u:ag},bQ (kC CX P w K z base N a scope f c A outer s H E) [] σ' H' s'->dX v u->Q v H'->CE outer P w H s Q u s':=
  λ{σ' H' v u} J O q=>⟨v,H',J.os,J.bare,J.base,J.hok,O,q⟩
 cases fl with
 |ret u=>
  obtain⟨v,σ',H',J,O,q⟩:=hs;exact fin J O q
 |next=>
  obtain⟨σ',H',J,q⟩:=hs;exact fin (v:=V.non) (u:=dO) J rfl q
 |brk=>
  obtain⟨_,_,_,q⟩:=hs;exact fG q
 |cont=>
  obtain⟨_,_,_,q⟩:=hs;exact fG q
end L2
namespace L2
open PySem PySem.Spec PyProof.Rows
section
variable{X:Cx}{x:Str}{p pos:Pos}{e:bC}{es:List bC}{t:TA}{id T:String}{r:List V->Hp->VK->Prop}
def ZE(r:List V->Hp->VK->Prop)(t:TA):TE:=λa H Q=>t a H λc b=>r c b Q
def o6(j:jU X (.builtin id) r)(u:Gl X x)(l:X.mg x=none)(q:jo x=some (.builtin id))(i:PA X (e::es) t)(m:x≠"__name__":=by decide)(c:(x==("__debug__" : Str))=false:=by decide)
  (he:aF (e::es) X.env=(false,eu e X.env)::aF es X.env:=by rfl) (d:(hG pos (aF es X.env)).any (·.1)=false:=by rfl):PE X (.Call (.Name x p) (e::es) [] pos) (ZE r t):=by
 intro a s f H Q I h;refine lV (vK I u l q ?_ m c);exact PyProof.Rows.callWith_builtin1 (fS (i pos a s f H _ I h) λo s1 b=>by obtain⟨w,g,v,n,k⟩:=b;exact j a s1 f g w o Q v n k) he d
def Dj(j:jU X (.type T) r)(v:Gl X x)(l:X.mg x=none)(q:jo x=some (.type T))(i:PA X (e::es) t)(m:x≠"__name__":=by decide)(c:(x==("__debug__" : Str))=false:=by decide)
  (he:aF (e::es) X.env=(false,eu e X.env)::aF es X.env:=by rfl) (d:(hG pos (aF es X.env)).any (·.1)=false:=by rfl):PE X (.Call (.Name x p) (e::es) [] pos) (ZE r t):=by
 intro a s f H Q I h;refine lV (vK I v l q ?_ m c);exact fV (fS (i pos a s f H _ I h) λo s1 b=>by obtain⟨w,g,u,n,k⟩:=b;exact j a s1 f g w o Q u n k) he d
end
end L2
namespace HT
open PySem PyProof.Rows
def UA(u:U0 s.heap t vs.toArray)(v:U0 s.heap b ws.toArray)(p:vs≠[])
  (q:ws=[]->Q (.ref t) s) (x:ws≠[]->Q (.ref s.heap.objs.size) {s with heap:=s.heap.push {cls:=.type "tuple",data:=.seq (vs++ws).toArray}})
  (hsz:vs.length+ws.length<=sizeLine):au (az prog w) A (ig .Add (.ref t) (.ref b)) Q E s:=by
 obtain⟨⟨cls,dd,data,o⟩,ho,j,n,m⟩:=id u;obtain⟨⟨l,c,i,d⟩,a,f,k,g⟩:=id v;simp only at j m f g;subst j m f g;have e:vs.toArray++ws.toArray=(vs++ws).toArray:=by simp
 by_cases h:ws=[]
 ·exact C8 ⟨_,ho,rfl⟩ ⟨_,a,rfl⟩ Ep Nk rH qK (ql _ _)
   (tuple_addW1 t b vs.toArray ws.toArray n k dd c o d (by simpa using p) (by simp[h])) ⟨ho,a,q h⟩
 ·refine C8 ⟨_,ho,rfl⟩ ⟨_,a,rfl⟩ Ep Nk rH qK (ql _ _)
   (tuple_addW2 t b vs.toArray ws.toArray n k dd c o d (by simpa using p) (by simpa using h) (by rw[aM,aM];exact hsz)) ⟨ho,a,?_⟩
  rw[e];exact x h
def jV(n d:Nat):Option Int->Nat
 |none=>d
 |some v=>if v<0 then(v+(n:Int)).toNat else min v.toNat n
def GF(n d:Nat):jV n d none=d:=rfl
def M3(n d k:Nat):jV n d (some (k:Int))=min k n:=by
 show(if(k:Int)<0 then((k:Int)+(n:Int)).toNat else min (k:Int).toNat n)=min k n;rw[if_neg ∅,lW]
def Yf(n d:Nat)(b:d<=n)(o:Option Int):jV n d o<=n:=by
 cases o with
 |none=>exact b
 |some v=>
  show(if v<0 then(v+(n:Int)).toNat else min v.toNat n)<=n;by_cases a:v<0
  ·rw[if_pos a];omega
  ·rw[if_neg a];exact Aq _ _
def M4(v:Int)(n d:Nat):(if v<0 then max (v+(n:Int)) 0 else min v (n:Int))=((jV n d (some v):Nat):Int):=by
 show(if v<0 then max (v+(n:Int)) 0 else min v (n:Int))=(((if v<0 then(v+(n:Int)).toNat else min v.toNat n):Nat):Int);by_cases a:v<0
 ·simp only[if_pos a];omega
 ·simp only[if_neg a];omega
def Kl(lo a:Option Int)(n:Nat):mS lo a 1 (n:Int)=(((jV n 0 lo:Nat):Int),((jV n n a:Nat):Int)):=by
 have b:¬ ((1:Int)<0):=by omega
 unfold mS;simp only[b,if_false];refine Prod.ext ?_ ?_
 ·cases lo with
  |none=>rfl
  |some v=>exact M4 v n 0
 ·cases a with
  |none=>rfl
  |some v=>exact M4 v n n
def Km(i j:Nat):dH (i:Int) (j:Int) 1=j-i:=by
 unfold dH;have a:(1:Int) > 0:=by omega
 simp only[a,if_true,Int.ediv_one];split<;>omega
def AA(p:xY v o)(h:Q o s):au (az prog w) A (Builtin.Slice.slicePartIndex v) Q E s:=by
 cases p with
 |none=>exact xZ h
 |int i t=>exact slicePart_int h
def qO{f:ak}{e d:ag}{lo c:Option Int}{n:Nat}{Q:Int×Int×Nat->aq->Prop}(hs:s.heap.IsSliceOf f e d .none)(pl:xY e lo)(g:xY d c)
  (h:Q (((jV n 0 lo:Nat):Int),1,jV n n c-jV n 0 lo) s):au (az prog w) A (iV (.ref f) (pure (n:Int))) Q E s:=by
 obtain⟨j,a,i,b⟩:=id hs;unfold iV xR;refine a7 (a7 (dq a b (x:=e) rfl (a7 (dq a b (x:=d) rfl (a7 (dq a b (x:=.none) rfl (a9 ?_)))))));refine a7 (xZ ?_);show au _ _ (if((1:Int)==0)=true then _ else _) _ _ s;rw[if_neg ⋯];refine a7 (AA pl (a7 (AA g (a7 (a9 ?_)))));show au _ _ (match mS lo c 1 (n:Int) with|(lo,c)=>pure (lo,(1:Int),dH lo c 1)) _ _ s;rw[Kl lo c n];show au _ _ (pure (((jV n 0 lo:Nat):Int),(1:Int),dH ((jV n 0 lo:Nat):Int) ((jV n n c:Nat):Int) 1)) _ _ s;rw[Km];exact a9 h
def Q6(xs:Array ag)(i k:Nat):((bq k).filterMap λ(m:Nat)=>xs[((i:Int)+(m:Int)*1).toNat]?).toArray=((xs.toList.drop i).take k).toArray:=by
 have e:(λ(m:Nat)=>xs[((i:Int)+(m:Int)*1).toNat]?)=λm=>xs[i+m]?:=by
  funext m;have:((i:Int)+(m:Int)*1).toNat=i+m:=by omega
  rw[this]
 rw[e];have:=pick_run xs i k;rw[iZ] at this;have a:((λx=>xs[x]?)∘λx=>i+x)=λm=>xs[i+m]?:=rfl;rw[a] at this;rw[this]
def wJ{t g:ak}{items:Array ag}{j k:ag}{lo b:Option Int}{Q:ag->aq->Prop}(c:U0 s.heap t items)(hs:s.heap.IsSliceOf g j k .none)(pl:xY j lo)(p:xY k b)
  (n:¬ (jV items.size 0 lo=0/\jV items.size items.size b=items.size))
  (h:Q (.ref s.heap.objs.size) {s with heap:=s.heap.push {cls:=.type "tuple",data:=.seq ((items.toList.drop (jV items.size 0 lo)).take (jV items.size items.size b-jV items.size 0 lo)).toArray}})
  (hsz:items.size<=sizeLine):au (az prog w) A (oP (.ref t) (.ref g)) Q E s:=by
 have a:sizeOk (.seq ((items.toList.drop (jV items.size 0 lo)).take (jV items.size items.size b-jV items.size 0 lo)).toArray):=by
  show((items.toList.drop (jV items.size 0 lo)).take (jV items.size items.size b-jV items.size 0 lo)).toArray.size<=sizeLine;rw[aM,sG,sH,ax];omega
 have x:jV items.size items.size b<=items.size:=Yf _ _ (aw _) b;obtain⟨o,f,d,l⟩:=id hs;have e:s.TypeIs (.ref g) "slice":=⟨o,f,d⟩;unfold oP;try with_reducible refine bY ?_
 first|refine a7 (a9 ?_)|skip
 refine a7 (C9 c.typeIs ⋯ ?_);refine a7 (cy (name:=gO "__getitem__") c.typeIs dB
  (bE dB c.typeIs zH ?_ (Ar _ _)))
 show au _ _ (mE (.ref t)>>=_) _ _ s;refine a7 (Nl c ?_);refine a7 (mT e ?_);rw[if_pos ⋯];refine a7 (qO hs pl p ?_);have i:¬ ((((jV items.size 0 lo:Nat):Int)==0&&(1:Int)==1&&(jV items.size items.size b-jV items.size 0 lo)==items.size)=true):=by
  intro q;rw[aR,aR] at q;have u:((jV items.size 0 lo:Nat):Int)=0:=eq_of_beq q.1.1;have v:jV items.size items.size b-jV items.size 0 lo=items.size:=eq_of_beq q.2;exact n ⟨by omega,by omega⟩
 show au _ _ (if(((jV items.size 0 lo:Nat):Int)==0&&(1:Int)==1&&(jV items.size items.size b-jV items.size 0 lo)==items.size)=true then _ else _) _ _ s;rw[if_neg i,Q6];first
  |exact a7 (m:=db _) (bu (a9 ⟨_,rfl,a9 h⟩) a)
  |exact a7 (m:=db _) (bu (a7 (a9 (a9 ⟨_,rfl,a9 h⟩))) a)
  |exact a7 (a7 (m:=db _) (bu (a9 (a9 ⟨_,rfl,a9 h⟩)) a))
  |exact a7 (a7 (m:=db _) (bu (a9 ⟨_,rfl,a9 h⟩) a))
end HT
namespace L2
open PySem PySem.Spec PyProof.Rows
abbrev TO:=St->Hp->(Option Int->Hp->Prop)->Prop
def PO(X:Cx)(e:Option bC)(t:TO):Prop:=
 ∀(a:List (ak×Obj)) (s:aq) (b:St) (H:Hp) (Q:Option Int->Hp->Prop),bQ X a b H s->t b H Q ->
  au (az X.prog X.w) X.A (evalPart e X.env) (λu s'=>∃o H',bQ X a b H' s'/\xY u o/\Q o H') X.xe s
def UB:TO:=λ_ H Q=>Q none H
def q05(t:TE):TO:=λa H Q=>t a H λx b=>∃i,x=.int i/\Q (some i) b
section
variable{X:Cx}{e:bC}{te:TE}{lo hi:Option bC}{tl th:TO}{pos p2:Pos}
def UC:PO X none UB:=by
 intro a s b H Q I h;rw[Nm];exact a9 ⟨none,H,I,.none,h⟩
def UD(h:PE X e te):PO X (some e) (q05 te):=by
 intro b s d H Q I g;rw[evalPart_some];refine fS (h b s d H _ I g) λu s1 a=>?_;obtain⟨x,c,k,j,f⟩:=a;obtain⟨i,rfl,q⟩:=f;obtain⟨t,rfl⟩:=j;exact⟨some i,c,k,.int i t,q⟩
def SlR(X:Cx)(r:V->Option Int->Option Int->Hp->VK->Prop):Prop:=
 ∀(a:List (ak×Obj)) (s:aq) (c:St) (H:Hp) (x:V) (v f d:ag) (lo hi:Option Int) (b:ak) (Q:VK),bQ X a c H s->dX x v->s.heap.IsSliceOf b f d .none->xY f lo->xY d hi->r x lo hi H Q ->
  ∃T id,JH (.type T) "__getitem__"=pure (some (.builtin id))/\s.TypeIs v T/\au (az X.prog X.w) X.A (oP v (.ref b)) (EP X a c Q) X.xe s
def tSl(r:V->Option Int->Option Int->Hp->VK->Prop)(te:TE)(tl th:TO):TE:=λa H Q=>te a H λx d=>tl a d λl c=>th a c λu b=>r x l u b Q
def Q7(p:SlR X r)(he:PE X e te)(k:PO X lo tl)(n:PO X hi th):PE X (.Subscript e (.Slice lo hi none p2) pos) (tSl r te tl th):=by
 intro a s c H Q I h;refine JJ (fS (he a s c H _ I h) λv s1 ⟨x,i,L,z,o⟩=>?_);refine wpAny_Slice (fS (k a s1 c i _ L o) λd B ⟨l,y,t,pl,E⟩=>fS (n a B c y _ t E) λf s3 ⟨u,g,m,K,N⟩=>?_);rw[Nm];refine a9 ?_;have G:bQ X a c g {s3 with heap:=s3.heap.push {cls:=.type "slice",data:=.fields #[d,f,.none]}}:=m.kept (t':=s3.toks) λb ob q=>af _ q;obtain⟨T,id,hT,j,M⟩:=p a {s3 with heap:=s3.heap.push {cls:=.type "slice",data:=.fields #[d,f,.none]}} c g x v d f l u s3.heap.objs.size Q G z (C6 ..) pl K N;show au (az X.prog X.w) X.A (A3 e (.Slice lo hi none p2) v (.ref s3.heap.objs.size)) (EP X a c Q) X.xe {s3 with heap:=s3.heap.push {cls:=.type "slice",data:=.fields #[d,f,.none]}};exact tail_any (ops:=[.ref s3.heap.objs.size,v]) j hT M (by with_unfolding_all rfl)
def GG(xs:List V)(lo hi:Option Int):List V:=(xs.drop (HT.jV xs.length 0 lo)).take (HT.jV xs.length xs.length hi-HT.jV xs.length 0 lo)
def ze(xs:List V)(lo hi:Option Int):(GG xs lo hi).length<=xs.length:=by
 unfold GG;rw[sG,sH];omega
def q1F(K:a8):V->Option Int->Option Int->Hp->VK->Prop:=λx lo hi H Q=>∃a xs,x=.ref a/\lY K H a xs /\
 ¬ (HT.jV xs.length 0 lo=0/\HT.jV xs.length xs.length hi=xs.length)/\∀p,H p=none->Q (.ref p) (upd H p (.tup (GG xs lo hi)))
theorem Yg:SlR X (q1F X.K):=by
 intro i s n H x v p t lo hi u Q I j hs pl l h;obtain⟨a,xs,rfl,m,k,q⟩:=h;cases j;obtain⟨d,r,f,g⟩:=I.tuple m;have c:d.toArray.size=xs.length:=by rw[aM];exact r.length.symm
 refine⟨"tuple",_,PyProof.Rows.slot_tuple_getitem.lookup,f.typeIs,?_⟩;refine HT.wJ f hs pl l (by rw[c];exact k) ?_ (by rw[c];exact g);rw[c];refine⟨.ref s.heap.objs.size,_,I.laid (t':=s.toks) (o:=.tup (GG xs lo hi)) (λb ob q=>af _ q) (aw _) ?_,rfl,q _ (I.hok.fresh (aw _))⟩;exact⟨cH (ze xs lo hi) g,_,(r.drop (HT.jV xs.length 0 lo)).take (HT.jV xs.length xs.length hi-HT.jV xs.length 0 lo),v9 _ _⟩
inductive Q8 (K:a8) (x:V) (y:V) (H:Hp) (Q:VK):Prop
 |mk (a b xs ys:_) (h0:x=.ref a) (h1:y=.ref b) (h2:lY K H a xs) (h3:lY K H b ys) (h4:xs≠[]) (h5:xs.length+ys.length<=sizeLine) (h6:(ys=[]->Q (.ref a) H)) (h7:(ys≠[]->∀p,H p=none->Q (.ref p) (upd H p (.tup (xs++ys))))):Q8 K x y H Q
def q06(K:a8):R2:=Q8 K
def dI.nil_iff(r:dI xs us):us=[]↔xs=[]:=by
 cases r with
 |nil=>simp
 |cons _ _=>simp
theorem UE:tF X (ig .Add) (q06 X.K):=by
 intro i s E H x y v u Q I j t h;obtain⟨a,b,xs,ys,rfl,rfl,k,n,B,g,l,A⟩:=h;cases j;cases t;obtain⟨m,d,p,_⟩:=I.tuple k;obtain⟨f,c,p2,_⟩:=I.tuple n;refine HT.UA p p2 (λz=>B (d.nil_iff.mp z)) (λz=>⟨.ref a,H,I,rfl,l (c.nil_iff.mp z)⟩) (λz=>?_) (by rw[<- d.length,<- c.length];exact g);refine⟨.ref s.heap.objs.size,_,I.laid (t':=s.toks) (o:=.tup (xs++ys)) (λb ob q=>af _ q) (aw _) ?_,rfl,A (λw=>z (c.nil_iff.mpr w)) _ (I.hok.fresh (aw _))⟩;exact⟨by rw[aT];exact g,_,d.append c,v9 _ _⟩
end
end L2
namespace L2
open PySem PySem.Spec PyProof.Rows
def Yh(n:Nat)(i:Int):Option Nat:=if 0<=i then(if i<n then some i.toNat else none) else if -(n:Int)<=i then some (i+n).toNat else none
def Kn{α:Type}(xs:List α)(i:Int):Option α:=(Yh xs.length i).bind λj=>xs[j]?
def UF(h:Yh n i=some j):seqIndex? i n=some j/\j<n/\-(n:Int)<=i/\i<n:=by
 unfold Yh at h;by_cases b:0<=i
 ·rw[if_pos b] at h;by_cases a:i<n
  ·rw[if_pos a] at h;have e:i.toNat=j:=bW h;exact⟨by rw[seqIndex_of b a,e],by omega,by omega,a⟩
  ·rw[if_neg a] at h;cases h
 ·rw[if_neg b] at h;by_cases a:-(n:Int)<=i
  ·rw[if_pos a] at h;have e:(i+n).toNat=j:=bW h;exact⟨by rw[seqIndex_neg ∅ a,e],by omega,a,by omega⟩
  ·rw[if_neg a] at h;cases h
def EH{α:Type}{xs:List α}{i:Int}{v:α}(h:Kn xs i=some v):∃j,seqIndex? i xs.length=some j/\xs[j]?=some v/\j<xs.length/\-(xs.length:Int)<=i/\i<xs.length:=by
 unfold Kn at h;cases e:Yh xs.length i with
 |none=>rw[e] at h;cases h
 |some j=>
  rw[e] at h;obtain⟨a,d,b,c⟩:=UF e;exact⟨j,a,h,d,b,c⟩
def wK{α:Type}{xs:List α}{j:Nat}{v:α}(h:xs[j]?=some v):Kn xs (j:Int)=some v:=by
 have a:j<xs.length:=(List.getElem?_eq_some_iff.mp h).1;have e:Yh xs.length (j:Int)=some j:=by
  unfold Yh;rw[if_pos ∅,if_pos ∅];simp
 unfold Kn;rw[e];exact h
def wL(b:bC):Prop:=∀o i,Gk b false o i=operate [o,i] (oP o i)
def IxR(X:Cx)(r:R2):Prop:=
 ∀(c a:bC) (b:List (ak×Obj)) (s:aq) (d:St) (H:Hp) (x y:V) (v u:ag) (Q:VK),bQ X b d H s->dX x v->dX y u->r x y H Q ->
  Gk a false v u=operate [v,u] (oP v u)->au (az X.prog X.w) X.A (A3 c a v u) (EP X b d Q) X.xe s
def MtR(X:Cx)(id:String)(r:V->List V->Hp->VK->Prop):Prop:=
 ∀(a:List (ak×Obj)) (s:aq) (c:St) (H:Hp) (x:V) (xs:List V) (v:ag) (b:List ag) (Q:VK),bQ X a c H s->dX x v->dI xs b->r x xs H Q ->
  au (az X.prog X.w) X.A (call (.builtin id) (v::b)) (EP X a c Q) X.xe s
section
variable{X:Cx}{a b:bC}{ta tb:TE}{pos:Pos}
def WM(g:IxR X r)(e:PE X a ta)(i:PE X b tb)(hs:wL b):PE X (.Subscript a b pos) (ZY r ta tb):=by
 intro c s f H Q I h;exact JJ (Y5 e i I h λv u m x y k j d l q=>g a b c m f k x y v u Q j d l q (hs _ _))
inductive WN (K:a8) (x:V) (y:V) (H:Hp) (Q:VK):Prop
 |mk (p xs i v:_) (h0:x=.ref p) (h1:y=.int i) (h2:oZ K H p xs) (h3:Kn xs i=some v) (h4:Q v H):WN K x y H Q
def q1G(K:a8):R2:=WN K
inductive WO (K:a8) (x:V) (y:V) (H:Hp) (Q:VK):Prop
 |mk (p xs i v:_) (h0:x=.ref p) (h1:y=.int i) (h2:lY K H p xs) (h3:Kn xs i=some v) (h4:Q v H):WO K x y H Q
def q1H(K:a8):R2:=WO K
inductive WP (x:V) (y:V) (H:Hp) (Q:VK):Prop
 |mk (z i c:_) (h0:x=.str z) (h1:y=.int i) (h2:z.length<=sizeLine) (h3:Kn z.cps.toList i=some c) (h4:Q (.str ⟨#[c]⟩) H):WP x y H Q
def q1I:R2:=WP
def EI:IxR X (q1G X.K):=by
 intro e l c s m H x y v u Q I A L h hs;obtain⟨p,xs,i,z,rfl,rfl,E,he,q⟩:=h;cases A;obtain⟨t,rfl⟩:=L;obtain⟨f,r,pl,O⟩:=I.list E;obtain⟨j,d,N,P,G,M⟩:=EH he;obtain⟨w,n,g⟩:=r.get N;have B:=r.length;have S:=yk;have fin:EP X c m Q w s:=⟨z,H,I,g,q⟩;by_cases o:0<=i
 ·have k:i.toNat=j:=by
   rw[seqIndex_of o M] at d;exact bW d
  exact item_listR pl.isList o ∅ (by rw[k];simpa using n) fin hs
 ·have k:(i+(f.toArray.size:Int)).toNat=j:=by
   rw[seqIndex_neg ∅ G] at d;rw[aM,<- B];exact bW d
  exact Pm (x:=w) pl.isList.typeIs slot_list_getitem.lookup
   (wpAny_getItem_list_neg (Q:=λr s'=>r=w/\EP X c m Q r s') pl.isList ∅ (by rw[aM]<;>omega) ∅ (by rw[k];simpa using n) ⟨rfl,fin⟩) hs
def Yi:IxR X (q1H X.K):=by
 intro d f c s g H x y v u Q I l A h hs;obtain⟨p,xs,i,z,rfl,rfl,n,he,q⟩:=h;cases l;obtain⟨t,rfl⟩:=A;obtain⟨o,r,pl,G⟩:=I.tuple n;obtain⟨j,k,B,L,M,O⟩:=EH he;obtain⟨w,E,e⟩:=r.get B;have m:=r.length;have N:=yk;have fin:EP X c g Q w s:=⟨z,H,I,e,q⟩;exact Pm (x:=w) pl.typeIs slot_tuple_getitem.lookup
  (getItem_tuple (j:=j) (Q:=λr s'=>r=w/\EP X c g Q r s') pl ∅ ∅ (by rw[aM,<- m];exact k) (by simpa using E) ⟨rfl,fin⟩) hs
def Yj:IxR X q1I:=by
 intro d e g s G H x y v u Q I k o h hs;obtain⟨z,i,c,rfl,rfl,B,he,q⟩:=h;obtain⟨t,rfl⟩:=k;obtain⟨t',rfl⟩:=o;obtain⟨j,f,w,E,m,p⟩:=EH he;have l:z.cps.toList.length=z.length:=by simp[Str.length]
 rw[l] at f m p;have K:=yk;exact tail_any (typeIs_str s z t) slot_str_getitem.lookup (getItem_str (c:=c) (by
  have n:decide (i < -(2 ^ 63:Int))=false:=decide_eq_false ∅;have A:decide (i ≥ 2 ^ 63)=false:=decide_eq_false ∅;rw[n,A,Bool.or_false]) (by rw[f];simpa using w) ⟨.str ⟨#[c]⟩,H,I.tok _,⟨_,rfl⟩,q⟩) hs
def EJ(lo c:Option Int)(n:Nat):(oU lo c none n).1=((HT.jV n 0 lo:Nat):Int)/\(oU lo c none n).2.1=((HT.jV n n c:Nat):Int)/\(oU lo c none n).2.2=1:=by
 refine⟨?_,?_,rfl⟩
 ·cases lo with
  |none=>simp[oU,HT.jV]
  |some i=>
   simp only[oU,HT.jV,iz,show(1:Int) > 0 by decide,if_true];by_cases h:i<0
   ·simp only[h,if_true]<;>omega
   ·simp only[h,if_false]<;>omega
 ·cases c with
  |none=>simp[oU,HT.jV]
  |some i=>
   simp only[oU,HT.jV,iz,show(1:Int) > 0 by decide,if_true];by_cases h:i<0
   ·simp only[h,if_true]<;>omega
   ·simp only[h,if_false]<;>omega
def Cr(c:List ag)(lo d:Option Int):slicePick c.toArray lo d none=((c.drop (HT.jV c.length 0 lo)).take (HT.jV c.length c.length d-HT.jV c.length 0 lo)).toArray:=by
 obtain⟨e,g,f⟩:=EJ lo d c.toArray.size;unfold slicePick;rw[e,g,f];simp only[sliceRange_one,pick_run,aM]<;>rfl
def q1J(K:a8):V->Option Int->Option Int->Hp->VK->Prop:=λx lo c H Q=>∃a xs,x=.ref a/\oZ K H a xs/\∀p,H p=none->Q (.ref p) (upd H p (.lst (GG xs lo c)))
theorem UG:SlR X (q1J X.K):=by
 intro f s m H x v n p lo d t Q I g hs pl k h;obtain⟨a,xs,rfl,l,q⟩:=h;cases g;obtain⟨j,r,e,i⟩:=I.list l;have c:=r.length;refine⟨"list",_,slot_list_getitem.lookup,e.isList.typeIs,?_⟩;refine wpAny_getItem_list_slice e.isList hs pl k .none (by simp) ?_ (by rw[aM]<;>omega);rw[Cr,<- c];refine⟨.ref s.heap.objs.size,_,I.laid (t':=s.toks) (o:=.lst (GG xs lo d)) (λb ob q=>af _ q) (aw _) ?_,rfl,q _ (I.hok.fresh (aw _))⟩;exact⟨cH (ze xs lo d) i,_,0,(r.drop (HT.jV xs.length 0 lo)).take (HT.jV xs.length xs.length d-HT.jV xs.length 0 lo),aD _ rfl⟩
def tG:V->Bool
 |.non=>true
 |.bl _=>true
 |.int _=>true
 |.str _=>true
 |_=>false
def UH:V->V->Bool
 |.non,.non=>true
 |.bl a,.bl b=>a==b
 |.bl a,.int b=>(if a then 1 else 0)==b
 |.int a,.bl b=>a==(if b then 1 else 0)
 |.int a,.int b=>a==b
 |.str a,.str b=>a==b
 |_,_=>false
theorem Yk(e:dX y u)(c:dX x v)(f:tG y=true)(d:tG x=true):No A s u v (UH y x):=by
 cases y with
 |non=>
  cases e;cases x with
  |non=>cases c;exact SeqAt.EqAt.same _
  |bl b=>cases c;exact SeqAt.EqAt.none_bool b
  |int b=>obtain⟨t,rfl⟩:=c;exact SeqAt.EqAt.none_int b t
  |str b=>obtain⟨t,rfl⟩:=c;exact SeqAt.EqAt.none_str b t
  |_=>exact absurd (show false=true from d) aG
 |bl a=>
  cases e;cases x with
  |non=>cases c;exact SeqAt.EqAt.bool_none a
  |bl b=>cases c;exact D7 a b
  |int b=>obtain⟨t,rfl⟩:=c;exact SeqAt.EqAt.bool_int a b t
  |str b=>obtain⟨t,rfl⟩:=c;exact SeqAt.EqAt.bool_str a b t
  |_=>exact absurd (show false=true from d) aG
 |int a=>
  obtain⟨t',rfl⟩:=e;cases x with
  |non=>cases c;exact SeqAt.EqAt.int_none a t'
  |bl b=>cases c;exact SeqAt.EqAt.int_bool a t' b
  |int b=>obtain⟨t,rfl⟩:=c;exact SeqAt.EqAt.int_int a t' b t
  |str b=>obtain⟨t,rfl⟩:=c;exact Gh a t' b t
  |_=>exact absurd (show false=true from d) aG
 |str a=>
  obtain⟨t',rfl⟩:=e;cases x with
  |non=>cases c;exact SeqAt.EqAt.str_none a t'
  |bl b=>cases c;exact SeqAt.EqAt.str_bool a t' b
  |int b=>obtain⟨t,rfl⟩:=c;exact Gi a t' b t
  |str b=>obtain⟨t,rfl⟩:=c;exact SeqAt.EqAt.str_str a t' b t
  |_=>exact absurd (show false=true from d) aG
 |_=>exact absurd (show false=true from f) aG
def Ko(x:V)(u:ag):Bool:=match u with
 |.none=>UH .non x
 |.bool b=>UH (.bl b) x
 |.int i _=>UH (.int i) x
 |.str z _=>UH (.str z) x
 |_=>false
theorem Q9(r:dX y u)(f:tG y=true):Ko x u=UH y x:=by
 cases y with
 |non=>cases r;rfl
 |bl b=>cases r;rfl
 |int i=>obtain⟨t,rfl⟩:=r;rfl
 |str z=>obtain⟨t,rfl⟩:=r;rfl
 |_=>exact absurd (show false=true from f) aG
theorem wM:∀{xs:List V}{c:List ag},dI xs c->xs.all tG=true->c.any (Ko x)=xs.any λy=>UH y x
 |_,_,.nil,_=>rfl
 |y::xs,u::c,.cons r t,f=>by
  rw[wD,aR] at f;rw[dR,dR,Q9 r f.1,wM t f.2]
theorem tH(g:dX x v)(e:tG x=true):∀{xs:List V}{d:List ag},dI xs d->xs.all tG=true->∀u∈d,No A s u v (Ko x u)
 |_,_,.nil,_=>λu c=>by cases c
 |y::xs,u::d,.cons r t,f=>λh c=>by
  rw[wD,aR] at f;rcases List.mem_cons.mp c with rfl|c
  ·rw[Q9 r f.1];exact Yk r g f.1 e
  ·exact tH g e t f.2 h c
def inV(x:V)(xs:List V):Bool:=xs.any λy=>UH y x
inductive q07 (K:a8) (neg:Bool) (x:V) (y:V) (H:Hp) (Q:VK):Prop
 |mk (p xs:_) (h0:y=.ref p) (h1:(oZ K H p xs\/lY K H p xs)) (h2:tG x=true) (h3:xs.all tG=true) (h4:Q (.bl (if neg then !inV x xs else inV x xs)) H):q07 K neg x y H Q
def rIn(K:a8)(c:Bool):R2:=q07 K c
def NL:tF X (cp .In) (rIn X.K false):=by
 intro g s l H x y v u Q I f k h;obtain⟨p,xs,rfl,d,i,fs,q⟩:=h;cases k;rcases d with d|d
 ·obtain⟨c,r,pl,j⟩:=I.list d;refine SeqAt.in_listAt (Ko x) pl.isList (λw e=>tH f i r fs w (by simpa using e)) ⟨.bl _,H,I,rfl,?_⟩;rw[show c.toArray.any (Ko x)=c.any (Ko x) by simp,wM r fs];exact q
 ·obtain⟨c,r,pl,j⟩:=I.tuple d;refine SeqAt.in_tupleAt (Ko x) pl (λw e=>tH f i r fs w (by simpa using e)) ⟨.bl _,H,I,rfl,?_⟩;rw[show c.toArray.any (Ko x)=c.any (Ko x) by simp,wM r fs];exact q
def EK:tF X (cp .NotIn) (rIn X.K true):=by
 intro g s l H x y v u Q I f k h;obtain⟨p,xs,rfl,d,i,fs,q⟩:=h;cases k;rcases d with d|d
 ·obtain⟨c,r,pl,j⟩:=I.list d;refine SeqAt.notIn_listAt (Ko x) pl.isList (λw e=>tH f i r fs w (by simpa using e)) ⟨.bl _,H,I,rfl,?_⟩;rw[show c.toArray.any (Ko x)=c.any (Ko x) by simp,wM r fs];exact q
 ·obtain⟨c,r,pl,j⟩:=I.tuple d;refine SeqAt.notIn_tupleAt (Ko x) pl (λw e=>tH f i r fs w (by simpa using e)) ⟨.bl _,H,I,rfl,?_⟩;rw[show c.toArray.any (Ko x)=c.any (Ko x) by simp,wM r fs];exact q
def wN:jU X (.builtin "len") (λxs H Q=>∃p ys,xs=[.ref p]/\(oZ X.K H p ys\/lY X.K H p ys)/\Q (.int ys.length) H):=by
 intro g s k H xs m Q I r h;obtain⟨p,ys,rfl,d,q⟩:=h;obtain⟨u,rfl,i⟩:=lB r;cases i;have l:=yk;rcases d with d|d
 ·obtain⟨e,f,pl,j⟩:=I.list d;have c:=f.length;exact Calls.call_len_list pl.isList (by simp only[aM]<;>omega) ⟨.int ys.length,H,I.tok _,⟨s.toks+1,by rw[aM,c]⟩,q⟩
 ·obtain⟨e,f,pl,j⟩:=I.tuple d;have c:=f.length;exact len_tuple pl (by simp only[aM]<;>omega) ⟨.int ys.length,H,I.tok _,⟨s.toks+1,by rw[aM,c]⟩,q⟩
def EL:jU X (.builtin "len") (λxs H Q=>∃z,xs=[.str z]/\z.length<=sizeLine/\Q (.int z.length) H):=by
 intro c s e H xs d Q I r h;obtain⟨z,rfl,g,q⟩:=h;obtain⟨u,rfl,t,rfl⟩:=lB r;have f:=yk;exact len_str ∅ ⟨.int z.length,H,I.tok _,⟨_,rfl⟩,q⟩
theorem wO:jU X (.type "list") (λxs H Q=>∃p ys,xs=[.ref p]/\(oZ X.K H p ys\/lY X.K H p ys)/\∀l,H l=none->Q (.ref l) (upd H l (.lst ys))):=by
 intro j s x H xs y Q I r h;obtain⟨p,ys,rfl,i,q⟩:=h;obtain⟨u,rfl,v⟩:=lB r;cases v;have fin:∀(c:List ag),dI ys c->ys.length<=sizeLine->∀(h':bP) (d:Nat),(∀b o',s.heap.get? b=some o'->h'.get? b=some o') ->
   h'.get? s.heap.objs.size=some {cls:=.type "list",dict:=none,data:=.seq c.toArray d,slots:=#[]}->EP X j x Q (.ref s.heap.objs.size) {s with heap:=h'}:=λc f g h' d kp e=>
  ⟨.ref s.heap.objs.size,_,I.laid (t':=s.toks) kp (aw _) (show c_ X.prog X.w _ h' _ (.lst ys) from⟨g,c,d,f,e⟩),rfl,q _ (I.hok.fresh (aw _))⟩
 rcases i with i|i
 ·obtain⟨c,f,pl,g⟩:=I.list i;have k:=f.length;obtain⟨o,ho,m,n,t⟩:=pl.isList;exact call_list_seq p (.inl rfl) ho m t (λh' d kp e=>fin c f g h' d kp e) (by simp only[aM]<;>omega)
 ·obtain⟨c,f,pl,g⟩:=I.tuple i;have k:=f.length;obtain⟨o,ho,m,n,t⟩:=pl;exact call_list_seq p (.inr rfl) ho m t (λh' d kp e=>fin c f g h' d kp e) (by simp only[aM]<;>omega)
theorem vj:jU X (.type "tuple") (λxs H Q=>∃p ys,xs=[.ref p]/\((oZ X.K H p ys/\∀l,H l=none->Q (.ref l) (upd H l (.tup ys)))\/(lY X.K H p ys/\Q (.ref p) H))):=by
 intro c s j H xs v Q I r h;obtain⟨p,ys,rfl,h⟩:=h;obtain⟨u,rfl,n⟩:=lB r;cases n;rcases h with⟨f,q⟩|⟨f,q⟩
 ·obtain⟨d,g,pl,i⟩:=I.list f;have k:=g.length;refine call_tuple_list pl.isList (λh' kp=>?_) (by simp only[aM]<;>omega);have m:bQ X c j H {s with heap:=h'}:=I.kept (t':=s.toks) kp;have t:bQ X c j (upd H h'.objs.size (.tup ys)) {s with heap:=h'.push {cls:=.type "tuple",data:=.seq d.toArray}}:=
   m.laid (t':=s.toks) (λb o e=>af _ e) (aw _) (show c_ X.prog X.w _ _ _ (.tup ys) from⟨i,d,g,v9 _ _⟩)
  exact⟨.ref h'.objs.size,_,t,rfl,q _ (m.hok.fresh (aw _))⟩
 ·obtain⟨d,g,pl,i⟩:=I.tuple f;exact call_tuple_same pl ⟨.ref p,H,I,rfl,q⟩
def tyV(K:a8)(T:String)(x:V)(H:Hp):Prop:=match x with
 |.str _=>T="str"
 |.int _=>T="int"
 |.ref p=>(T="list"/\∃xs,oZ K H p xs)\/(T="tuple"/\∃o,K.lookup p=some o/\o.cls=.type "tuple"/\o.dict=none) \/
   (T="dict"/\((∃c,H p=some (.dK c))\/∃c,H p=some (.dT c)))\/(T="set"/\∃S n,H p=some (.set S n))
 |_=>False
def Yl(I:bQ X pins σ H s)(r:dX x v)(ty:tyV X.K T x H):
  s.TypeIs v T/\∀a,v=.ref a->∃ob,s.heap.get? a=some ob/\ob.dict=none:=by
 cases x with
 |str z=>
  obtain⟨t,rfl⟩:=r;cases(show T="str" from ty);exact⟨typeIs_str s z t,λ_ e=>nomatch e⟩
 |int i=>
  obtain⟨t,rfl⟩:=r;cases(show T="int" from ty);exact⟨typeIs_int s i t,λ_ e=>nomatch e⟩
 |ref p=>
  cases r;rcases ty with⟨rfl,xs,k⟩|⟨rfl,o,d,hc,g⟩|⟨rfl,d⟩|⟨rfl,S,n,d⟩
  ·obtain⟨l,_,pl,_⟩:=I.list k;refine⟨pl.isList.typeIs,λa e=>?_⟩;cases e;obtain⟨o,n,e,c,g,_⟩:=pl;exact⟨o,e,g⟩
  ·refine⟨⟨o,I.kIn p o d,hc⟩,λa e=>?_⟩;cases e;exact⟨o,I.kIn _ o d,g⟩
  ·have z:∃o,s.heap.get? p=some o/\o.ExactDict:=by
    rcases d with⟨h,d⟩|⟨h,d⟩
    ·obtain⟨_,_,_,_,o,_,_,e,f,_⟩:=I.hok p _ d;exact⟨o,e,f⟩
    ·obtain⟨_,_,_,_,o,_,_,e,f,_⟩:=I.hok p _ d;exact⟨o,e,f⟩
   obtain⟨o,e,f⟩:=z;refine⟨⟨o,e,f.1⟩,λa j=>?_⟩;cases j;exact⟨o,e,f.2.1⟩
  ·obtain⟨o,_,_,_,e,f,_⟩:=I.hok p _ d;refine⟨⟨o,e,f.1⟩,λa j=>?_⟩;cases j;exact⟨o,e,f.2.1⟩
 |_=>exact fG ty
def tBM(K:a8)(T:String)(r:V->List V->Hp->VK->Prop)(to:TE)(t:TA):TE:=λc H Q=>to c H λx d=>tyV K T x d/\t c d λxs e=>r x xs e Q
variable{o e:bC}{es:List bC}{to:TE}{t:TA}{name:Str}{apos cpos:Pos}{T id:String}{r:V->List V->Hp->VK->Prop}
def Dk(L:PlainAttrs T)(slot:Slot T name id)(l:typeOf (.builtin id)=pure (.type "method_descriptor"))(z:MtR X id r)(ho:PE X o to)(w:PA X (e::es) t)
  (g:Np o name X.env (eu o X.env)=eu o X.env:=by rfl)
  (j:((hG cpos (aF (e::es) X.env)).all (λx=>!x.1)&&(backToKw cpos (U1 [] X.env)).all (λx=>x.1.isSome)
   && decide ((e::es).length+([]:List Jj).length+(if([]:List Jj).isEmpty then 0 else 1)<30))=true:=by rfl)
  (f:(apos.endLine==cpos.line)=true:=by rfl) (hs:aF (e::es) X.env=(false,eu e X.env)::aF es X.env:=by rfl) (d:(hG cpos (aF es X.env)).any (·.1)=false:=by rfl):
  PE X (.Call (.Attribute o name apos) (e::es) [] cpos) (tBM X.K T r to t):=by
 intro c s k H Q I h;refine wpAny_Call_method_late g j f rfl (fS (ho c s k H _ I h) λv s1 ⟨x,u,p,n,ty,y⟩=>?_);obtain⟨q,M⟩:=Yl p n ty;refine⟨T,id,L,slot,l,q,M,?_⟩;have m:=w cpos c s1 k u _ p y;rw[hs] at m ⊢;refine Calls.callWith_builtin (by show(false||(hG cpos (aF es X.env)).any (·.1))=false;rw[d]<;>rfl) (JK ?_);exact fS m λN E i=>by obtain⟨P,B,A,O,G⟩:=i;exact z c E k B x P v N Q A n O G
end
end L2
namespace L2
open PySem PySem.Spec PyProof.Rows
def MtM(X:Cx)(id:String)(r:V->List V->Hp->VK->Prop):Prop:=
 ∀(a:List (ak×Obj)) (s:aq) (c:St) (H:Hp) (x:V) (xs:List V) (v:ag) (b:List ag) (Q:VK),bQ X a c H s->dX x v->dI xs b->r x xs H Q ->
  au (az X.prog X.w) X.A (call (.builtin id) (v::b)) (EP X a c Q) X.xe s
def dI.one(h:dI [x] us):∃u,us=[u]/\dX x u:=by
 cases h with|cons r t=>cases t;exact⟨_,rfl,r⟩
def bQ.lset{a its':List ag}{n:Nat}{f:Array ag->Array ag}{t':Nat}(I:bQ X pins σ H s)(h:H l=some (.lst xs))
  (e:s.heap.get? l=some {cls:=.type "list",data:=.seq a.toArray n}) (d:f a.toArray=its'.toArray) (c:dI ys its') (i:ys.length<=sizeLine):
  bQ X pins σ (upd H l (.lst ys)) {s with heap:=s.heap.update l (fN f),toks:=t'}:=by
 have q:=PySem.IsL.update e f;rw[d] at q;refine I.write (x:=l) (e:=l) (by rw[h];exact trivial) (.inl rfl) (λj u g b=>(fo s.heap (fN f) (dk g)).trans b) ⟨_,q⟩ ?_;exact⟨i,its',_,c,q⟩
def bQ.lnew(I:bQ X pins σ H s)(a:dI ys its)(b:ys.length<=sizeLine):
  bQ X pins σ (upd H s.heap.objs.size (.lst ys)) {s with heap:=s.heap.push {cls:=.type "list",data:=.seq its.toArray},toks:=t'}:=
 I.laid (λ_ _ q=>af _ q) (aw _) ⟨b,its,0,a,aD _ rfl⟩
theorem bQ.fresh(I:bQ X pins σ H s):H s.heap.objs.size=none:=I.hok.fresh (aw _)
def bQ.lstM(I:bQ X pins σ H s)(b:H l=some (.lst xs)):InM s.heap l xs:=by
 obtain⟨z,a,n,r,e⟩:=I.hok l _ b;exact⟨z,a,n,r,r.length,e⟩
def Qa(h:n<=sizeLine):nN n=false:=by
 unfold nN;exact decide_eq_false ∅
inductive GH (x:V) (vs:List V) (H:Hp) (Q:VK):Prop
 |mk (l xs y:_) (h0:x=.ref l) (h1:vs=[y]) (h2:H l=some (.lst xs)) (h3:xs.length<sizeLine) (h4:Q .non (upd H l (.lst (xs++[y])))):GH x vs H Q
def UI:V->List V->Hp->VK->Prop:=GH
def Dl:MtM X "list.append" UI:=by
 intro b s k H x o v m Q I d f h;obtain⟨l,xs,y,rfl,rfl,c,j,q⟩:=h;cases d;obtain⟨u,rfl,g⟩:=f.one;obtain⟨z,a,n,r,i,e⟩:=I.lstM c;refine JM F.slot_list_append ⟨_,e,rfl⟩ F.entry_list_append (F.args_list_append_2 _ _) (PySem.list_append l a.toArray n u (by rw[aM];omega)) ⟨e,?_⟩;refine⟨.non,_,I.lset (its':=a++[u]) c e (by simp) (r.append (.cons g .nil)) ?_,rfl,q⟩;rw[aT,eA];omega
inductive GI (x:V) (vs:List V) (H:Hp) (Q:VK):Prop
 |mk (l b xs zs:_) (h0:x=.ref l) (h1:vs=[.ref b]) (h2:H l=some (.lst xs)) (h3:H b=some (.lst zs)) (h4:xs.length+zs.length<=sizeLine) (h5:Q .non (upd H l (.lst (xs++zs)))):GI x vs H Q
def UJ:V->List V->Hp->VK->Prop:=GI
def Dm:MtM X "list.extend" UJ:=by
 intro f s E H x L v K Q I i k h;obtain⟨l,b,xs,A,rfl,rfl,g,w,B,q⟩:=h;cases i;obtain⟨u,rfl,m⟩:=k.one;cases m;obtain⟨z,c,n,r,y,e⟩:=I.lstM g;obtain⟨G,a,j,o,p,t⟩:=I.lstM w;have hsz:c.toArray.size+a.toArray.size<=sizeLine:=by rw[aM,aM];omega
 have d:¬ (!c.toArray.isEmpty&&nN (c.toArray.size+a.toArray.size))=true:=by
  rw[Qa hsz,ph];exact aG
 refine JM F.slot_list_extend ⟨_,e,rfl⟩ F.entry_list_extend (F.args_list_extend_2 _ _)
  (AutoSeq1.list_extend_list_list_0 l c.toArray n b a.toArray j d (by rw[aM];omega) ∅) ⟨e,t,?_⟩
 refine⟨.non,_,I.lset (its':=c++a) g e (by simp) (r.append o) ?_,rfl,q⟩;rw[aT];omega
end L2
namespace Att
open PySem PySem.W PySem.Calls PyProof.Rows
def zO:∀(ns:List Int) (c:List ag),WellAll P h c (ns.map WData.int)->Pn c ns:=by
 intro ns;induction ns with
 |nil=>
  intro c w;rw[fq] at w;cases w;exact .nil
 |cons n ns d=>
  intro c w;rw[ay] at w;cases w with
  |cons a b=>
   cases a;exact .cons _ _ (d _ b)
def NM{l:OpenLaw}{n:Nat}(v:l.most=some n){P:Params}{h:bP}{args:List WData}{b:List ag}
  (c:l.row.toRowW.claim.pre args=true) (j:WellAll P h b args):
  ∃a o ns,b=[bh a]/\args=[WData.list (ns.map WData.int)]/\h.get? a=some {cls:=.type "list",data:=.seq o.toArray}/\Pn o ns/\ns.length<=n:=by
 have k:WShape.hasAll [] args [.list .int]=true:=(pre_splitW c).1;have m:l.pre.holds [] {args:=args}=true:=(pre_splitW c).2;obtain⟨d,r,rfl,s,w⟩:=hasAllW_cons k;obtain rfl:=hasAllW_nil w;obtain⟨xs,rfl,u⟩:=hasW_list s;obtain⟨ns,rfl⟩:=items_int u;have f:ns.length<=n:=by
  unfold OpenLaw.pre at m;have g:(WTm.not (.lt (.lit (.int (n:Int))) (.len (.arg 0)))).holds [] {args:=[.list (ns.map .int)]}=true:=by
   have g:=(holds_andW m).1;rw[v] at g;exact g
  have i:=condW_of g (w_not (w_lt w_lit (w_len_list (w_arg rfl))));rw[ah] at i;refine U2 λq=>?_;have q':(n:Int)<((ns.length:Nat):Int):=by omega
  first
   |(rw[decide_eq_true q'] at i;exact absurd i ⋯)
   |(simp at i;omega)
 cases j with
 |cons p t=>
  cases t;cases p with
  |list ho e=>exact⟨_,_,ns,rfl,rfl,ho,zO ns _ e,f⟩
def NN(l:OpenLaw)(args:List WData):l.row.toRowW.claim.post args (.bool true) args=true:=
 postW_of (r:=l.row.toRowW) (X:=(true==true))
  (show WShape.has [] (.bool true) .bool=true by first|rfl|decide|simp[WShape.has,WShape.arms,WShape.armsAll])
  (show(WTm.eq .res (.lit (.bool true))).value [] {args:=args,res:=some (.bool true),after:=args}=some (.bool (true==true)) from w_eq_bool (w_res rfl) w_lit) rfl
def attach_call{l:OpenLaw}{n:Nat}{q:bd}{c:List Str}{L:(Str->Option ag)->bP->Prop}{B:bz->bP->Prop}{d:DefRec}
  (T:l.most=some n) (z:d.params.defaults=[])
  (call:∀(w:bz) (e b:aq) (t v:Str->Option ag) (j:ak) (o:Obj) (A s g:ag) (a:ak) (i:List ag) (ns:List Int),
   Ground q c [] L w e t v b.heap->B w b.heap ->
   b.heap.get? j=some o->o.data=.func (docDef d.name d.params d.body d.scope A s g)->b.heap.CodeRec s d.name->t d.name=some (.ref j) ->
   b.heap.get? a=some {cls:=.type "list",data:=.seq i.toArray}->Pn i ns->ns.length<=n->b.gens=#[] ->
   fR (az l.prog w) z3 (.call (.ref j) ⟨[.ref a],[]⟩) (λr s'=>r=.ok (.ret (.bool true))/\OldK b.heap s'.heap/\s'.os=b.os/\sV s'.gens) b):
  WalkO q c L B l.row.toRowW d [] (λf i=>Nq f i):=by
 intro w e b t v G Y j o A s g M kV ho X u K y hg I H as k E U x Q;obtain rfl:M=.none:=Dflts.none K z;obtain rfl:kV=.none:=Dflts.noKw K;obtain⟨a,i,ns,rfl,rfl,m,h,p⟩:=NM T k x;refine enter_call (k_ (call w e b t v j o A s g a i ns G Y ho (fd_plain X) u y m h p hg) λr s' O=>?_);obtain⟨rfl,h2,N,P⟩:=O;exact⟨.inl ⟨.bool true,.bool true,[],rfl,λ_=>rfl,.bool true,NN l _,λ_=>⟨t5,λ_ S=>(nomatch S)⟩⟩,h2,N,P⟩
section
variable{prog:bd}{w:bz}{A:cg}{E:ag->aq->Prop}{s:aq}{K:Frag}
def q1K(h:bP)(L d:ak):List (ak×Obj):=(bq h.objs.size).filterMap λa=>if a=L\/a=d then none else(h.get? a).map λo=>(a,o)
end
end Att
namespace L2
open PySem PySem.Spec PyProof.Rows
def NO(h:Pn vs ns):dI (ns.map V.int) vs:=by
 induction h with
 |nil=>exact .nil
 |cons n t h a=>exact .cons ⟨t,rfl⟩ a
def Ym(H:Hp):Prop:=∀b,H b=none\/∃o xs,H b=some (.frz o (.lst xs))
def Qb{P:bd}{w:bz}{K:a8}{B Q:Str->Option ag}{CX:Pj}{k:Nat}{S a:ak}{fd:gW}{x:Str}{sp:Sp}{c:aq}{p:List ag}{ns:List Int}
  (KX:K.In c.heap) (G:c.heap.Ns bX B) (g:c.heap.Ns builtinsNs Q) (Y:∀x:Str,x≠"__name__"->Q x=jo x) (N:c.heap.NoLimit) (hg:c.gens=#[])
  (O:c.heap.get? a=some {cls:=.type "list",data:=.seq p.toArray}) (hi:Pn p ns) (hl:ns.length<=sizeLine) (hr:l8 k z3)
  (F:∀base:bP,K.In base->base.Ns bX B->u_ P w K B base CX k S fd [x] sp) (l:∀(s:aq) (u:ag),C7 s fd ⟨[u],[]⟩ [(x,u)])
  (U:∀H:Hp,Ym H->oZ K H a (ns.map V.int)->sp [.ref a] H (λv _=>v=.bl true) λ_ _ _=>False)
  (X:∀H e s',CX [] H c (λ_ _ _=>False) e s'->False):
  fR (az P w) z3 (.call (.ref S) ⟨[.ref a],[]⟩) (λr s'=>r=.ok (.ret (.bool true))/\OldK c.heap s'.heap/\s'.os=c.os/\sV s'.gens) c:=by
 have rv:=NO hi
 have I:=hi.length
 have j:∀H:Hp,Ym H->oZ K H a (ns.map V.int)->sR P w H c.heap->(∀b,H b≠none->b=a)->(H a≠none->K.lookup a=none) ->
   fR (az P w) z3 (.call (.ref S) ⟨[.ref a],[]⟩) (λr s'=>r=.ok (.ret (.bool true))/\OldK c.heap s'.heap/\s'.os=c.os/\sV s'.gens) c:=by
  intro H hO hS L hA hK
  have f:∀{b:ak}{o:Obj},c.heap.get? b=some o->H b=none->(EC c.heap H).get? b=some o:=λe n=>PH e n
  have a0:∀{b:ak}{o:Obj}{es:Array Es}{t:Nat},c.heap.get? b=some o->o.data=.dict es t->H b=none:=λ{b o es t} e d=>by
   cases q:H b with
   |none=>rfl
   |some u=>
    have T:b=a:=hA b (by rw[q];simp)
    subst T
    rw[O] at e;cases e
    have d':Data.seq p.toArray _=Data.dict es t:=d
    cases d'
  have i:∀{b:ak}{m:Str->Option ag},c.heap.Ns b m->(EC c.heap H).Ns b m:=λ{b m} ⟨o,es,t,e,d,r⟩=>⟨o,es,t,f e (a0 e d),d,r⟩
  have y:K.In (EC c.heap H):=λb o e=>f (KX b o e) (by
   cases q:H b with
   |none=>rfl
   |some u=>
    have T:b=a:=hA b (by rw[q];simp)
    subst T
    rw[hK (by rw[q];simp)] at e;cases e)
  have hM:Mod K B (EC c.heap H):=⟨y,i G,⟨Q,i g,Y⟩,let ⟨mc,h1,h2⟩:=N;⟨mc,i h1,h2⟩⟩
  have e0:Kk P w K B (EC c.heap H) z3 [] c H:=⟨rfl,hM,λb o e=>Uq e,Nat.le_of_eq (NF _ _),trivial,λb g=>absurd (show b∈([]:List ak) from g) (by simp),L,.of_eq hg⟩
  refine k_ ((F _ y (i G)).run z3 [] c H ⟨[.ref a],[]⟩ [.ref a] [.ref a] _ _ hr e0 (l c (.ref a)) (.cons rfl .nil) (U H hO hS)) λr s' h=>?_
  cases r with
  |error e=>exact(X H e s' h).elim
  |ok fl=>
   cases fl with
   |next=>exact fG h
   |brk=>exact fG h
   |cont=>exact fG h
   |ret u=>
    obtain⟨v,H',os,M,un,E,r',q⟩:=h
    have q':v=.bl true:=q
    subst q'
    obtain rfl:u=jC true:=r'
    refine⟨rfl,OldK.of_keep λb o e=>?_,os,M⟩
    cases q:H b with
    |none=>exact un.keep b o e q (by intro z;exact absurd (show b∈([]:List ak) from z) (by simp)) (by simp)
    |some u=>
     rcases hO b with z|⟨ob,xs,z⟩
     ·rw[q] at z;cases z
     ·have z2:=un.frzs b ob _ z
      obtain⟨e1,_⟩:=L b _ z
      obtain⟨e2,_⟩:=E b _ z2
      rw[e] at e1;cases e1
      exact e2
 cases hk:K.lookup a with
 |some o=>
  have e:=KX a o hk
  rw[O] at e
  cases e
  refine j (λ_=>none) (λ_=>.inl rfl) (.inr ⟨_,p.toArray,_,hk,rfl,rfl,rfl,by rw[aM,I];exact hl,by simpa using rv⟩) (λb u z=>by have A:(none:Option HO)=some u:=z;cases A) (λb z=>absurd rfl z) λz=>absurd rfl z
 |none=>
  refine j (λb=>if b=a then some (.frz {cls:=.type "list",data:=.seq p.toArray} (.lst (ns.map V.int))) else none) (λb=>?_) (.inl (.inr ⟨{cls:=.type "list",data:=.seq p.toArray},if_pos rfl⟩)) (λb u z=>?_) (λb z=>?_) λ_=>hk
  ·by_cases g:b=a
   ·exact .inr ⟨_,_,if_pos g⟩
   ·exact .inl (if_neg g)
  ·by_cases g:b=a
   ·have A:=(if_pos g).symm.trans z
    cases A
    subst g
    exact⟨O,by rw[ah];exact hl,p,_,rv,O⟩
   ·have A:=(if_neg g).symm.trans z
    cases A
  ·by_cases g:b=a
   ·exact g
   ·exact absurd (if_neg g) z
end L2
namespace L2
open PySem PySem.Spec PyProof.Rows
abbrev KOf{K:a8}{h:bP}(_:K.In h):a8:=K
def UK{l:zI}{n k:Nat}{q:bd}{i:List Str}{XP:(Str->Option ag)->bP->Prop}{M:bz->bP->Prop}{d:DefRec}{K:Params->a8}{CX:bz->Pj}{sp:bz->Sp}{x:Str}
  (hn:l.most=some n) (E:n<=sizeLine) (B:d.params.defaults=[]) (hr:l8 k z3)
  (Q:∀(w:bz) (h:bP),M w h->(K w.params).In h)
  (F:∀(w:bz) (m:Str->Option ag) (y:ak) (h:bP),(K w.params).In h->h.Ns bX m->m d.name=some (.ref y) ->
   ∃z:gW,(∀(s:aq) (u:ag),C7 s z ⟨[u],[]⟩ [(x,u)]) /\
    ∀base:bP,(K w.params).In base->base.Ns bX m->u_ l.prog w (K w.params) m base (CX w) k y z [x] (sp w))
  (I:∀(w:bz) (H:Hp) (a:ak) (ns:List Int),ns.length<=n->Ym H->oZ (K w.params) H a (ns.map V.int)->sp w [.ref a] H (λv _=>v=.bl true) λ_ _ _=>False)
  (L:∀(w:bz) (H:Hp) (s:aq) (e:ag) (s':aq),CX w [] H s (λ_ _ _=>False) e s'->False):
  TH q i XP M l.row.toRowW d [] (λf P=>Nq f P):=by
 refine Att.attach_call hn B λw O p m mb y o pm cd X a P ns G Y ho hd U A t j c hg=>?_;have N:=Q w _ Y;obtain⟨z,hb,S⟩:=F w m y _ N G.T.g A;exact Qb N G.T.g G.T.b G.T.builtins G.T.nolimit hg t j (cH c E) hr S hb (λH hO hS=>I w H a ns c hO hS) λH e s'=>L w H p e s'
end L2
namespace L2
open PySem PySem.Spec PyProof.Rows
def pB(s:eG):Arguments:=match s with
 |.FunctionDef _ a _ _ _ _ _ _ _ _=>a
 |_=>{posonlyargs:=[],args:=[],vararg:=none,kwonlyargs:=[],kw_defaults:=[],kwarg:=none,defaults:=[]}
def jG(s:eG):List eG:=match s with
 |.FunctionDef _ _ b _ _ _ _ _ _ _=>b
 |_=>[]
def aB(s:eG):eP:=match s with
 |.FunctionDef _ _ _ _ _ _ a _ _ _=>a
 |_=>{kind:=.function,names:=[],isGenerator:=false,isCoroutine:=false}
abbrev CX0:Pj:=λ_ _ _ _ _ _=>False
abbrev E0:XK:=λ_ _ _=>False
structure GJ (K:a8) (x qual:Str) (st:eG) (f:ak) (fd:gW):Prop where
 ex:∃(oc:ag) (od:Option ak) (kV doc pm:ag) (an:Option ak) (cdv ct:ag) (osl:Array (Option ag)),
  fd=fH x qual (pB st) (jG st) (aB st) .none kV doc pm an cdv ct/\K.lookup f=some ⟨oc,od,.func fd,osl⟩/\lv K cdv qual=true
 kp:f6 K (.ref f)=true
section
variable{P:bd}{w:bz}{K:a8}{mg:Str->Option ag}{base:bP}
def GJ.binds{x a:Str}{st:eG}{f:ak}{i:gW}{ps:List Str}(F:GJ K x a st f i)
  (h:∀(kV b d:ag) (an:Option ak) (c g:ag) (e:List ag),e.length=ps.length->bindArgs (fH x a (pB st) (jG st) (aB st) .none kV b d an c g) ⟨e,[]⟩=pure (ps.zip e)):lC K i ps []:=by
 obtain⟨l,n,kV,b,d,an,c,g,k,rfl,m,j⟩:=F.ex;exact .all (h kV b d an c g)
def Qc{x a:Str}{st:eG}{f:ak}{i:ag}{j an:Option ak}{e:Array (Option ag)}{kV d h b g:ag}(l:K.lookup f=some ⟨i,j,.func (fH x a (pB st) (jG st) (aB st) .none kV d h an b g),e⟩)
  (c:lv K b a=true) (k:f6 K (.ref f)=true):GJ K x a st f (fH x a (pB st) (jG st) (aB st) .none kV d h an b g):=⟨⟨i,j,kV,d,h,an,b,g,e,rfl,l,c⟩,k⟩
end
def kP(a:l8 k A):A.units+1<eQ:=x_ (Nat.add_le_add_left (by decide:1<=64) _) a.units
def cV(h:n<=1000):n<sizeLine:=x_ h ⋯
def pv(i:Nat)(b:X.N[i]?=some x:=by rfl)(c:Pi X.env.scope x:=by first|exact io rfl|exact fk (io rfl)|exact fk (fk rfl))(d:(x==("__debug__" : Str))=false:=by decide)
  (a:(x==("__classdict__" : Str))=false:=by decide):PE X (.Name x pos) (NG i):=qp b c d a
def wP{A B:Prop}(h:B):if false=true then A else B:=by
 rw[if_neg aG];exact h
def zP{A B:Prop}(h:A):if true=true then A else B:=by
 rw[if_pos rfl];exact h
def dS(H H':Hp):Prop:=∀b o,H b=some o->H' b=some o
def dS.refl(H:Hp):dS H H:=λ_ _ h=>h
def dS.trans(a:dS H H1)(b:dS H1 H2):dS H H2:=λc o h=>b c o (a c o h)
def dS.free(e:dS H H')(h:H' l=Option.none):H l=Option.none:=by
 cases q:H l with
 |none=>rfl
 |some o=>
  rw[e l o q] at h;cases h
def dS.seq{K:a8}{H H':Hp}{a:ak}{xs:List V}(e:dS H H')(h:oZ K H a xs):oZ K H' a xs:=by
 rcases h with (h|⟨o,h⟩)|h
 ·exact .inl (.inl (e _ _ h))
 ·exact .inl (.inr ⟨o,e _ _ h⟩)
 ·exact .inr h
end L2
namespace L2
open PySem PySem.Spec PyProof.Rows
section
variable{κ:Type}[DecidableEq κ]
def qP(a:List (κ×V))(k:κ):Option V:=(a.find? λb=>decide (b.1=k)).map (·.2)
def o_(a:List (κ×V))(k:κ)(v:V):List (κ×V):=
 if(a.any λb=>decide (b.1=k))=true then a.map (λb=>if b.1=k then(b.1,v) else b) else a++[(k,v)]
def Qd(a:List (κ×V))(k:κ):List (κ×V):=a.filter λb=>decide (b.1≠k)
def AB{p:κ×V}{r:List (κ×V)}{k:κ}(e:p.1=k):qP (p::r) k=some p.2:=by simp[qP,cC,e]
def AC{p:κ×V}{r:List (κ×V)}{k:κ}(e:¬ p.1=k):qP (p::r) k=qP r k:=by simp[qP,cC,e]
theorem GK(k:κ):∀a:List (κ×V),(a.any λb=>decide (b.1=k))=(qP a k).isSome
 |[]=>rfl
 |p::r=>by
  rw[dR];by_cases e:p.1=k
  ·simp only[AB e,decide_eq_true e,Bool.true_or,wx]
  ·rw[AC e,decide_eq_false e,rm];exact GK k r
def tJ(a:List (κ×V))(k:κ)(v:V):(o_ a k v).length<=a.length+1:=by
 unfold o_;split
 ·rw[ah];omega
 ·rw[aT,aU,cD];omega
def Ay.isSome_eq(r:Ay o u):o.isSome=u.isSome:=by
 cases o with
 |none=>cases u with
  |none=>rfl
  |some _=>exact(show False from r).elim
 |some _=>cases u with
  |none=>exact(show False from r).elim
  |some _=>rfl
def KV.val{a:List (κ×V)}{g:List (κ×ag)}(r:KV a g)(k:κ):Ay (qP a k) (Ca g k):=by
 unfold KV at r;induction r with
 |nil=>exact jP
 | @cons p q ps d h t i=>
  obtain⟨f,j⟩:=h;by_cases e:p.1=k
  ·have c:q.1=k:=f.symm.trans e;have b:Ca (q::d) k=some q.2:=by simp[Ca,cC,c]
   rw[AB e,b];exact j
  ·have c:¬ q.1=k:=λz=>e (f.trans z);have b:Ca (q::d) k=Ca d k:=by simp[Ca,cC,c]
   rw[AC e,b];exact i
def KV.any(r:KV kvs vs)(k:κ):(kvs.any λa=>decide (a.1=k))=vs.any λa=>decide (a.1=k):=by
 unfold KV at r;induction r with
 |nil=>rfl
 |cons h t b=>rw[dR,dR,b,h.1]
def KV.repl(r:KV kvs vs)(k:κ)(d:dX y u):
  KV (kvs.map λa=>if a.1=k then(a.1,y) else a) (vs.map λa=>if a.1=k then(a.1,u) else a):=by
 unfold KV at r ⊢;induction r with
 |nil=>exact .nil
 | @cons p q ps g h t c=>
  rw[ay,ay];refine .cons ?_ c;obtain⟨b,f⟩:=h;by_cases e:p.1=k
  ·rw[if_pos e,if_pos (b.symm.trans e)];exact⟨b,d⟩
  ·rw[if_neg e,if_neg (λz=>e (b.trans z))];exact⟨b,f⟩
def KV.put(r:KV kvs vs)(k:κ)(a:dX y u):KV (o_ kvs k y) (stored vs k u):=by
 unfold o_ stored;rw[r.any k];by_cases e:(vs.any λb=>decide (b.1=k))=true
 ·rw[if_pos e,if_pos e];exact r.repl k a
 ·rw[if_neg e,if_neg e];exact Paired.snoc r ⟨rfl,a⟩
def KV.length(r:KV kvs vs):kvs.length=vs.length:=kr r
end
def GL(r:dX (kV k) u):(i3 P w).is k u=true:=by
 cases k with
 |inl i=>obtain⟨t,e⟩:=(show ∃t,u=rF i t from r);subst e;exact GA P w i t
 |inr x=>obtain⟨t,e⟩:=(show ∃t,u=lc x t from r);subst e;exact GB P w x t
theorem Do:∀{a:List ip}{b:List ag},dI (a.map kV) b->ItemsAre (i3 P w) a b
 |[],_,r=>by rw[fq] at r;cases r;exact .nil
 |k::a,_,r=>by
  rw[ay] at r;cases r with
  |cons h t=>exact .cons (GL h) (Do t)
abbrev KT(H:Hp):List (List ip×V)->List (List ip×ak×ag)->Prop:=Jt λp q=>p.1=q.1/\H q.2.1=some (.tup (p.1.map kV))/\dX p.2 q.2.2
def KT.val{H:Hp}{a:List (List ip×V)}{xs:List (List ip×ak×ag)}(r:KT H a xs)(k:List ip):Ay (qP a k) ((JP xs k).map (·.2)):=by
 induction r with
 |nil=>exact jP
 | @cons p q ps d h t g=>
  obtain⟨f,_,i⟩:=h;by_cases e:p.1=k
  ·have c:q.1=k:=f.symm.trans e;have b:JP (q::d) k=some q.2:=by simp[JP,cC,c]
   rw[AB e,b];exact i
  ·have c:¬ q.1=k:=λz=>e (f.trans z);have b:JP (q::d) k=JP d k:=by simp[JP,cC,c]
   rw[AC e,b];exact g
def KT.repl(r:KT H kvs xs)(k:List ip)(g:dX y u):
  KT H (kvs.map λb=>if b.1=k then(b.1,y) else b) (xs.map (putAt k u)):=by
 induction r with
 |nil=>exact .nil
 | @cons p q ps i h t d=>
  rw[ay,ay];refine .cons ?_ d;obtain⟨a,c,f⟩:=h;unfold putAt;by_cases e:p.1=k
  ·rw[if_pos e,if_pos (a.symm.trans e)];exact⟨a,c,g⟩
  ·rw[if_neg e,if_neg (λz=>e (a.trans z))];exact⟨a,c,f⟩
def KT.put(r:KT H kvs xs)(k:List ip)(d:H b=some (.tup (k.map kV)))(a:dX y u):
  KT H (o_ kvs k y) (storedH xs k b u):=by
 have e:(kvs.any λc=>decide (c.1=k))=(JP xs k).isSome:=by
  rw[GK,(r.val k).isSome_eq,xS]
 unfold o_ storedH;rw[e];by_cases q:(JP xs k).isSome=true
 ·rw[if_pos q,if_pos q];exact r.repl k a
 ·rw[if_neg q,if_neg q];exact Paired.snoc r ⟨rfl,d,a⟩
def KT.keeps(r:KT H kvs xs)(a:∀b ys,H b=some (.tup ys)->H' b=some (.tup ys)):KT H' kvs xs:=
 Paired.mapP r λ_ _ z=>⟨z.1,a _ _ z.2.1,z.2.2⟩
def WQ(ok:sR P w H h)(e:Rd H a u):c_ P w H h a u:=e.ok ok
def GM(ok:sR P w H h)(e:Rd H a (.dK kvs)):kvs.length<=sizeLine/\(a==e_)=false/\∃b,KV kvs b/\h.DictOf (i3 P w) a b:=
 show c_ P w H h a (.dK kvs) from WQ ok e
def q08(ok:sR P w H h)(e:H a=some (.dK kvs)):kvs.length<=sizeLine/\(a==e_)=false/\∃b,KV kvs b/\h.DictOf (i3 P w) a b:=GM ok (.inl e)
def yn(ok:sR P w H h)(e:H a=some (.tup (ks.map kV))):(uU (i3 P w)).is h ks a:=by
 obtain⟨_,b,r,o,c,f,n,d⟩:=(show c_ P w H h a (.tup (ks.map kV)) from ok a _ e);exact⟨o,b.toArray,n,c,f,d,by simpa using Do r⟩
def GN(ok:sR P w H h)(e:Rd H a (.dT kvs)):kvs.length<=sizeLine/\(a==e_)=false /\
  ∃xs,KT H kvs xs/\h.DictOfH (uU (i3 P w)) a xs:=by
 obtain⟨z,y,xs,r,o,es,j,c,g,i,k,f⟩:=(show c_ P w H h a (.dT kvs) from WQ ok e);refine⟨z,y,xs,r,o,es,j,c,g,i,k,λx hx=>?_,f⟩;have all:∀{l:List (List ip×V)}{m:List (List ip×ak×ag)},KT H l m->∀x∈m,(uU (i3 P w)).is h x.1 x.2.1:=by
  intro l m q;induction q with
  |nil=>intro x hx;exact nomatch hx
  | @cons p q ps n b t d=>
   intro x hx;rcases List.mem_cons.mp hx with e|hx
   ·subst e;exact yn ok (by rw[<- b.1];exact b.2.1)
   ·exact d x hx
 exact all r x hx
def WR(ok:sR P w H h)(e:H a=some (.dT kvs)):kvs.length<=sizeLine/\(a==e_)=false /\
  ∃xs,KT H kvs xs/\h.DictOfH (uU (i3 P w)) a xs:=GN ok (.inl e)
def zQ(H:Hp)(a:ak)(y:V)(r:Option V):Prop:=
 (∃c k,Rd H a (.dK c)/\y=kV k/\r=qP c k)\/∃c k b,Rd H a (.dT c)/\y=.ref b/\H b=some (.tup (k.map kV))/\r=qP c k
def GO(H:Hp)(a:ak)(y v:V)(H':Hp):Prop:=
 (∃c k,H a=some (.dK c)/\y=kV k/\c.length<sizeLine/\H'=upd H a (.dK (o_ c k v))) \/
 ∃c k b,H a=some (.dT c)/\y=.ref b/\H b=some (.tup (k.map kV))/\c.length<sizeLine/\H'=upd H a (.dT (o_ c k v))
theorem zQ.k{H:Hp}{a:ak}{b:List (ip×V)}{k:ip}(e:H a=some (.dK b)):zQ H a (kV k) (qP b k):=.inl ⟨b,k,.inl e,rfl,rfl⟩
def zQ.t{H:Hp}{a b:ak}{c:List (List ip×V)}{k:List ip}(e:H a=some (.dT c))(d:H b=some (.tup (k.map kV))):zQ H a (.ref b) (qP c k):=.inr ⟨c,k,b,.inl e,rfl,d,rfl⟩
theorem GO.k{H:Hp}{a:ak}{b:List (ip×V)}{k:ip}{v:V}(e:H a=some (.dK b))(c:b.length<sizeLine):GO H a (kV k) v (upd H a (.dK (o_ b k v))):=.inl ⟨b,k,e,rfl,c,rfl⟩
def GO.t{H:Hp}{a b:ak}{c:List (List ip×V)}{k:List ip}{v:V}(e:H a=some (.dT c))(d:H b=some (.tup (k.map kV)))(f:c.length<sizeLine):
  GO H a (.ref b) v (upd H a (.dT (o_ c k v))):=.inr ⟨c,k,b,e,rfl,d,f,rfl⟩
def bQ.big(I:bQ X pins σ H s):e_<s.heap.objs.size:=by
 have h:bX<s.heap.objs.size:=(I.mod.glob.keeps I.bk).lt;exact iq ⋯ h
def NP(t:A.units+1<eQ)(I:bQ X pins σ H s)(g:zQ H a y (some v))(q:dX y u)(h:∀f s',bQ X pins σ H s'->dX v f->Q f s'):
  au (az X.prog X.w) A (oP (.ref a) u) Q E s:=by
 rcases g with⟨n,k,e,j,l⟩|⟨n,k,b,e,j,eb,l⟩
 ·subst j;obtain⟨z,x,G,d,dd⟩:=GM I.hok e;obtain⟨f,i,c⟩:=Ay.some_of (v:=v) (o:=Ca G k) (by rw[l];exact d.val k);exact wpAny_getItem_of (GL q) dd.mapOf i (h f _ (I.tok _) c)
 ·subst j;cases(show u=bh b from q);obtain⟨z,x,xs,d,dd⟩:=GN I.hok e;obtain⟨f,i,c⟩:=Ay.some_of (v:=v) (o:=(JP xs k).map (·.2)) (by rw[l];exact d.val k);obtain⟨p,B,m⟩:=Option.map_eq_some_iff.mp i;refine wpAny_getItem_heap (rJ t) (yn I.hok eb) dd B ?_;rw[m];exact h f _ (I.tok _) c
def d_in(m:A.units+1<eQ)(I:bQ X pins σ H s)(g:zQ H a y o)(j:dX y u)(h:∀s',bQ X pins σ H s'->Q (.bool o.isSome) s'):
  au (az X.prog X.w) A (cp .In u (.ref a)) Q E s:=by
 rcases g with⟨f,k,e,d,l⟩|⟨f,k,b,e,d,eb,l⟩
 ·subst d;obtain⟨z,i,n,c,dd⟩:=GM I.hok e;refine wpAny_in_of (GL j) i dd.mapOf ?_;rw[<- (c.val k).isSome_eq,<- l];exact h _ (I.tok _)
 ·subst d;cases(show u=bh b from j);obtain⟨z,i,xs,c,dd⟩:=GN I.hok e;refine wpAny_in_heap (rJ m) (yn I.hok eb) i dd ?_;have q:=(c.val k).isSome_eq;rw[xS] at q;rw[<- q,<- l];exact h _ (I.tok _)
def UL(m:A.units+1<eQ)(I:bQ X pins σ H s)(g:zQ H a y o)(j:dX y u)(h:∀s',bQ X pins σ H s'->Q (.bool (!o.isSome)) s'):
  au (az X.prog X.w) A (cp .NotIn u (.ref a)) Q E s:=by
 rcases g with⟨f,k,e,d,l⟩|⟨f,k,b,e,d,eb,l⟩
 ·subst d;obtain⟨z,i,n,c,dd⟩:=GM I.hok e;refine wpAny_notIn_of (GL j) i dd.mapOf ?_;rw[<- (c.val k).isSome_eq,<- l];exact h _ (I.tok _)
 ·subst d;cases(show u=bh b from j);obtain⟨z,i,xs,c,dd⟩:=GN I.hok e;refine wpAny_notIn_heap (rJ m) (yn I.hok eb) i dd ?_;have q:=(c.val k).isSome_eq;rw[xS] at q;rw[<- q,<- l];exact h _ (I.tok _)
def EM(I:bQ X pins σ H s)(c:ZN (H a))(hs:bG a s.heap h')(he:∃q,h'.get? a=some q)(new:c_ X.prog X.w (upd H a ob) h' a ob):
  bQ X pins σ (upd H a ob) {s with heap:=h',toks:=t'}:=
 I.write (x:=a) (e:=a) c (.inl rfl) (λb q d z=>(hs.2 b d).trans z) he new
def Yn(z:kvs.length<=sizeLine)(c:(a==e_)=false)(b:KV kvs vs)(dd:h'.DictOf (i3 P w) a vs):
  c_ P w H' h' a (.dK kvs):=⟨z,c,vs,b,dd⟩
def NQ(K:A.units+1<eQ)(I:bQ X pins σ H s)(g:GO H a y v H')(x:dX y u)(B:dX v r)(h:∀s',bQ X pins σ H' s'->Q () s'):
  au (az X.prog X.w) A (setItem (.ref a) u r) Q E s:=by
 rcases g with⟨d,k,e,t,l,n⟩|⟨d,k,b,e,t,eb,l,n⟩
 ·subst t n;obtain⟨z,p,S,f,dd⟩:=q08 I.hok e;have o:S.length<=sizeLine:=by rw[<- f.length];exact z
  have m:(o_ d k v).length<=sizeLine:=by have:=tJ d k v;omega
  refine wpAny_setItem_pairs (hsz:=o) (GL x) dd λh' i hs=>h _ ?_;have he:∃q,h'.get? a=some q:=let ⟨q,_,_,j,_⟩:=i;⟨q,j⟩
  exact EM I (by rw[e];exact jP) hs he (Yn m p (f.put k B) i)
 ·subst t n;cases(show u=bh b from x);obtain⟨z,p,xs,f,dd⟩:=WR I.hok e;have o:xs.length<=sizeLine:=by rw[<- kr f];exact z
  have m:(o_ d k v).length<=sizeLine:=by have:=tJ d k v;omega
  refine wpAny_setItem_heap (hsz:=o) (rJ K) (yn I.hok eb) dd λh' i hs=>h _ ?_;obtain⟨q,es,M,j,P,L,N,_,O⟩:=i;refine EM I (by rw[e];exact jP) hs ⟨q,j⟩ ⟨m,p,_,(f.put k eb B).keeps λc ys G=>?_,q,es,M,j,P,L,N,O⟩;rw[b9 (PF G e (λz=>nomatch z))];exact G
def q09(i:bC):Prop:=∀b a,Gk i false b a=operate [b,a] (oP b a)
def UM{prog:bd}{w:bz}{A:cg}{E:ag->aq->Prop}{s:aq}{env:Env}{b a:bC}{k:Pos}{T id:String}{Q:ag->aq->Prop}
  (l:JH (.type T) "__getitem__"=pure (some (.builtin id))) (hs:q09 a)
  (h:au (az prog w) A (eu b env) (λo e=>au (az prog w) A (eu a env) (λi c=>c.TypeIs o T/\au (az prog w) A (oP o i) Q E c) E e) E s):
  au (az prog w) A (eu (.Subscript b a k) env) Q E s:=by
 refine JJ (cn h (λo e g=>cn g (λi c d=>?_) λ_ _ x=>x) λ_ _ x=>x);obtain⟨hT,d⟩:=d;unfold A3;refine a7 ?_;rw[getitemInPython_of_ne hT.not_modules];refine a7 (Gw hT l ?_);have fin:au (az prog w) A (Gk a false o i) (λr f=>au (az prog w) A (letTemporaryGo b o r>>=λ_=>pure r) Q E f) E c:=by
  rw[hs o i];exact wpAny_operating (cn d (λr f j=>a7 (wpAny_letTemporaryGo (a9 j))) λ_ _ x=>x)
 first
  |exact a9 (a7 fin)
  |exact a7 (a9 (a7 fin))
  |exact a7 fin
def GP(I:bQ X pins σ H s)(g:zQ H a y o):s.TypeIs (.ref a) "dict":=by
 rcases g with⟨c,k,e,_,_⟩|⟨c,k,b,e,_,_,_⟩
 ·obtain⟨_,_,d,_,dd⟩:=GM I.hok e;exact dd.typeIs
 ·obtain⟨_,_,xs,_,dd⟩:=GN I.hok e;exact dd.typeIs
def q0a(d ty:TE):TE:=λb H Q=>d b H λx e=>ty b e λy c=>∃a v,x=.ref a/\zQ c a y (some v)/\Q v c
def WS(e ty h:TE):TS:=λD b H=>h b H λv g=>e b g λx f=>ty b f λy d=>∃a c,x=.ref a/\GO d a y v c/\D.nx b c
def M5(l:X.A.units+1<eQ)(ho:PE X o td)(n:PE X i ty)(hs:q09 i):PE X (.Subscript o i pos) (q0a td ty):=by
 intro b s d H Q I h;refine UM PySem.F.slot_dict_getitem.lookup hs (fS (ho b s d H _ I h) λu s1 ⟨x,j,w,f,m⟩=>fS (n b s1 d j _ w m) λB E ⟨y,p,e,q,a,v,z,g,t⟩=>?_);subst z;obtain rfl:u=bh a:=f;exact⟨GP e g,NP l e g q λG s3 k c=>⟨v,p,k,c,t⟩⟩
def M6(j:X.A.units+1<eQ)(ho:PE X o td)(m:PE X i ty)(E:PE X value tv)(hs:j6 value (some (.Subscript o i pos')) pos.line X.env=pure false):
  PS X (.Assign [.Subscript o i pos'] value pos) (WS td ty tv):=by
 intro b s c H D I h;refine wpAny_Assign_Subscript (fS (E b s c H _ I h) λr s1 ⟨v,e,G,z,l⟩=>fS (ho b s1 c e _ G l) λu t ⟨x,p,n,d,w⟩=>fS (m b t c p _ n w) λN s3 ⟨y,O,f,q,a,k,K,g,L⟩=>?_) hs;subst K;obtain rfl:u=bh a:=d;exact NQ j f g q z λM B=>⟨c,k,B,L⟩
def Qe(h:bP)(a:e_<h.objs.size):c_ P w H (h.push {cls:=.type "dict",data:=.dict #[]}) h.objs.size (.dK []):=
 ⟨cu _,beq_eq_false_iff_ne.mpr (dk (aO a)),[],.nil,Heap.DictOf.new h⟩
def Qf(h:bP)(a:e_<h.objs.size):c_ P w H (h.push {cls:=.type "dict",data:=.dict #[]}) h.objs.size (.dT []):=
 ⟨cu _,beq_eq_false_iff_ne.mpr (dk (aO a)),[],.nil,_,#[],0,aD _ rfl,⟨rfl,rfl,rfl⟩,rfl,rfl,gY⟩
def Yo:TE:=λ_ H Q=>∀p,H p=none->Q (.ref p) (upd H p (.dK []))
def Qg:PE X (.Dict [] [] pos) Yo:=λb s c H Q I h=>
 wpAny_Dict_empty ⟨.ref s.heap.objs.size,_,I.laid (a:=s.heap.objs.size) (o:=.dK []) (t':=s.toks) (λ_ _ q=>af _ q) (aw _) (Qe s.heap I.big),rfl,h _ (I.hok.fresh (aw _))⟩
end L2
namespace L2
open PySem PySem.Spec PyProof.Rows
section
variable{κ:Type}[DecidableEq κ]
theorem EN:∀{l:List κ}{k:κ},l.Nodup->¬ k∈l->(l++[k]).Nodup
 |[],k,_,_=>by simp
 |a::r,k,h,b=>by
  obtain⟨c,d⟩:=List.nodup_cons.mp h;show(a::(r++[k])).Nodup;refine List.nodup_cons.mpr ⟨λm=>?_,EN d λm=>b (List.mem_cons.mpr (fk m))⟩;rcases List.mem_append.mp m with q|q
  ·exact c q
  ·exact b (List.mem_cons.mpr (io (List.mem_singleton.mp q).symm))
end
end L2
namespace L2
open PySem PySem.Spec PyProof.Rows
def Kq(names:List (Str × mR)):∀(b:List (Str × ak)),(∀y ∈ names,y.2 = .free -> ∃c,env.cells.lookup y.1 = some c) ->
    (∀x c,b.lookup x = some c -> env.cells.lookup x = some c) ->
    ∃f,(forIn names b λ(x:Str × mR) (b:List (Str × ak))=>match x with
        | (name,g)=>if(g == cN) = true then do let a <- cellOf env name; pure (j_ ((name,a) :: b)) else pure (j_ b):Sem (List (Str × ak))) = pure f /\
      (∀x c,f.lookup x = some c -> env.cells.lookup x = some c) /\ (∀y ∈ names,y.2 = .free -> ∃c,f.lookup y.1 = some c) /\ (∀x c,b.lookup x = some c -> ∃A,f.lookup x = some A):= by
  induction names with
  | nil=>intro b _ l; exact⟨b,rfl,l,λ_ h=>absurd h (by simp),λx c h=>⟨c,h⟩⟩
  | cons B r v=>
    obtain⟨n,k⟩:= B;intro b m l;by_cases s:k = .free
    · subst s;obtain⟨a,w⟩:= m (n,.free) ap rfl;have o:∀x c,((n,a) :: b).lookup x = some c -> env.cells.lookup x = some c:= λx c h=>by
        rw[dA] at h;cases e:x == n with
        | true => rw [e] at h; have : x = n := by simpa using e
                  subst this; cases h; exact w
        | false=>rw[e] at h; exact l x c h
      obtain⟨f,p,t,u,i⟩:= v ((n,a) :: b) (λy d=>m y (ai _ d)) o;refine⟨f,?_,t,λy d j=>?_,λx c h=>?_⟩
      · rw[jh];have z:cellOf env n = pure a:= by unfold cellOf; rw[w]
        simp only[beq_self_eq_true,if_true,z];exact p
      · rcases List.mem_cons.mp d with rfl | d
        · exact i n a (by simp)
        · exact u y d j
      · cases e:x == n with
        | true=>exact i x a (by rw[dA,e])
        | false=>exact i x c (by rw[dA,e]; exact h)
    · obtain⟨f,p,t,u,i⟩:= v b (λy d=>m y (ai _ d)) l;refine⟨f,?_,t,λy d j=>?_,i⟩
      · rw[jh];have q:(k == cN) = false:= by simpa using s
        simp only[q,bg,if_false];exact p
      · rcases List.mem_cons.mp d with rfl | d
        · exact absurd j s
        · exact u y d j
def o7(h:∀y∈scope.names,y.2=.free->∃c,env.cells.lookup y.1=some c):∃a,closureFor scope env=pure a /\
  (∀x c,a.lookup x=some c->env.cells.lookup x=some c)/\(∀y∈scope.names,y.2=.free->∃c,a.lookup y.1=some c):=by
 obtain⟨a,b,d,e,_⟩:=Kq (env:=env) scope.names [] h (λx c h=>by simp at h);refine⟨a,?_,d,e⟩;simp only[closureFor];rw[show(forIn scope.names ([]:List (Str×ak)) λx r=>_)=(pure a:Sem (List (Str×ak))) from b];rfl
def bN(X:Cx)(N':List Str)(scope:eP)(a:List (Str×ak))(C:ak)(s₀:aq)(H₀:Hp)(ex:List ak)(pn:List (ak×Obj)):Cx:=
 {X with N:=N',s₀:=s₀,H₀:=H₀,env:=compEnvC scope a C X.env,outer:=X.stack,stack:=X.stack,ex:=ex,fn:=λy=>scope.names.lookup y==some .cell,pn:=pn,xe:=λ_ _=>False}
def Kr(X:Cx)(d:List bC)(t:TT):Prop:=
 ∀(a:List (ak×Obj)) (s:aq) (b:St) (H:Hp) (Q:Bool->Hp->Prop),bQ X a b H s->t b H Q ->
  au (az X.prog X.w) X.A (forIn d true λc r=>if r=true then do let ok <- Am c X.env (eu c X.env);pure (j_ ok) else pure (j_ r)) (TP X a b Q) X.xe s
def q1L:TT:=λ_ H Q=>Q true H
def UN:Kr X [] q1L:=λa s b H Q I h=>wpAny_tests_nil ⟨H,I,h⟩
def UO(h:PT X c t):Kr X [c] t:=λa s b H Q I d=>wpAny_tests_one (h a s b H Q I d)
structure lZ (X:Cx) (scope:eP) (N':List Str) (nt:Nat) (ix:List Nat):Prop where
 kind:scope.kind=.function
 cel:∀y∈scope.names,y.2=.cell->scope.names.lookup y.1=some .cell
 loc:∀y∈scope.names,y.2=.local->scope.names.lookup y.1=some .local
 free:∀y∈scope.names,y.2=.free->X.env.scope.names.lookup y.1=some .cell\/X.env.scope.names.lookup y.1=some .free
 cap:∀k i,ix[k]?=some i->∃x,X.N[i]?=some x/\N'[nt+k]?=some x/\scope.names.lookup x=some .free
 len:N'.length=nt+ix.length
def mH(nt:Nat)(ix:List Nat)(a:St):St:=pf nt none++ix.map λi=>(a[i]?).join
def v3{env:Env}{x:Str}{names:List (Str×mR)}:names.lookup x=some .free ->
  (names.map λ(n,k)=>if(k==cN&&env.scope.kind == .function&&env.kindOf n==some .cell) then(n,eW) else(n,k)).lookup x=some .free \/
  (names.map λ(n,k)=>if(k==cN&&env.scope.kind == .function&&env.kindOf n==some .cell) then(n,eW) else(n,k)).lookup x=some .cell:=by
 induction names with
 |nil=>intro h;simp at h
 |cons d r c=>
  obtain⟨n,k⟩:=d;intro h;show As x ((if(k==cN&&env.scope.kind == .function&&env.kindOf n==some .cell)=true then(n,eW) else(n,k))::_)=_ \/
   As x ((if(k==cN&&env.scope.kind == .function&&env.kindOf n==some .cell)=true then(n,eW) else(n,k))::_)=_
  cases a:x==n with
  |true=>
   simp only[dA,a] at h;cases h;by_cases b:(cN==cN&&env.scope.kind == .function&&env.kindOf n==some .cell)=true
   ·rw[if_pos b];right;simp[dA,a]
   ·rw[if_neg b];left;simp[dA,a]
  |false=>
   simp only[dA,a] at h;by_cases b:(k==cN&&env.scope.kind == .function&&env.kindOf n==some .cell)=true
   ·rw[if_pos b];simp only[dA,a];exact c h
   ·rw[if_neg b];simp only[dA,a];exact c h
def wQ{env:Env}{x:Str}{names:List (Str×mR)}:
  ((names.map λ(n,k)=>if(k==cN&&env.scope.kind == .function&&env.kindOf n==some .cell) then(n,eW) else(n,k)).lookup x=some .free \/
  (names.map λ(n,k)=>if(k==cN&&env.scope.kind == .function&&env.kindOf n==some .cell) then(n,eW) else(n,k)).lookup x=some .cell) ->
  (x,cN)∈names\/(x,eW)∈names:=by
 induction names with
 |nil=>intro h;simp at h
 |cons d r c=>
  obtain⟨n,k⟩:=d;intro h;have h:As x ((if(k==cN&&env.scope.kind == .function&&env.kindOf n==some .cell)=true then(n,eW) else(n,k))::_)=_ \/
   As x ((if(k==cN&&env.scope.kind == .function&&env.kindOf n==some .cell)=true then(n,eW) else(n,k))::_)=_:=h
  cases b:x==n with
  |true=>
   have e:x=n:=by simpa using b
   subst e;by_cases a:(k==cN&&env.scope.kind == .function&&env.kindOf x==some .cell)=true
   ·have:k=.free:=by simp at a;exact a.1.1
    subst this;left;exact ap
   ·rw[if_neg a] at h;simp only[dA,b] at h;rcases h with h|h
    ·cases h;left;exact ap
    ·cases h;right;exact ap
  |false=>
   have h':=c (by
    by_cases a:(k==cN&&env.scope.kind == .function&&env.kindOf n==some .cell)=true
    ·rw[if_pos a] at h;simp only[dA,b] at h;exact h
    ·rw[if_neg a] at h;simp only[dA,b] at h;exact h)
   rcases h' with h' | h'
   ·left;exact ai _ h'
   ·right;exact ai _ h'
inductive WT (nt:Nat) (ix:List Nat) (g:TG) (tt:TT) (te:TE) (σ:St) (Q:VK) (J:It) (H1:Hp):Prop
 |mk (W:Nat->Nat->List V->Hp->Prop) (w0:∃m,W 0 m [] H1) (turn:∀i m acc H,W i m acc H ->
 (J.stop i H/\∀p,H p=none->Q (.ref p) (upd H p (.lst acc))) \/
 (J.go i H/\acc.length<sizeLine/\∀x H',J.yld i H x H'->g x (mH nt ix σ) H' λσ2 H2=>tt σ2 H2 λb H3=>
  if b=true then te σ2 H3 λy H4=>∃m',m'<m/\W (i+1) m' (acc++[y]) H4 else ∃m',m'<m/\W (i+1) m' acc H3)):WT nt ix g tt te σ Q J H1
def Qh(nt:Nat)(ix:List Nat)(d:TI)(g:TG)(c:TT)(b:TE):TE:=λa H Q=>d a H (WT nt ix g c b a Q)
theorem kh:∀(names:List (Str×mR)) (n:Nat) (a:List (Str×ak)),cq n names a=cq n names []++a
 |[],_,_=>rfl
 |(y,k)::r,n,a=>by
  unfold cq;split
  ·rw[kh r (n+1) ((y,n)::a),kh r (n+1) [(y,n)],z9];rfl
  ·exact kh r n a
theorem qr:∀(names:List (Str×mR)) (n:Nat) (a:List (Str×ak)),(x,c)∈cq n names a->(x,eW)∈names\/(x,c)∈a
 |[],_,_,h=>.inr h
 |(y,k)::r,n,a,h=>by
  unfold cq at h;split at h
  ·rename_i b
   have b:k=.cell:=by simpa using b
   rcases qr r _ _ h with z|z
   ·exact .inl (ai _ z)
   ·rcases List.mem_cons.mp z with z|z
    ·cases z;subst b;exact .inl ap
    ·exact .inr z
  ·exact(qr r _ _ h).imp (ai _) id
def o8(h:(cq n names cl).lookup x=some c):
  (x,c)∈cq n names []\/((cq n names []).lookup x=none/\cl.lookup x=some c):=by
 rw[kh,P9] at h;cases e:(cq n names []).lookup x with
 |some d=>rw[e] at h;cases h;exact .inl (d_ e)
 |none=>rw[e] at h;exact .inr ⟨rfl,h⟩
def UP{M:Model}{A:cg}{E:ag->aq->Prop}{s:aq}{scope:eP}{b:ak}{j:List (Str×ak)}{e:Str}{f:Option ak}{c:ag}{outer:Env}{a:ak}{Q:Env->aq->Prop}
  (k:∀d,d=pushCells (s.heap.push {cls:=.type "dict",data:=.dict #[]}) scope.names->Q (newEnv scope s.heap.objs.size b (cq (s.heap.objs.size+1) scope.names j) e f c (some outer) a) {s with heap:=d}):
  au M A (JQ scope b j [] e f c (some outer) a) Q E s:=by
 simp only[JQ,wx,if_true];refine a7 (U3 ?_);refine a7 (wpAny_layCells _ (λname g i=>by cases h:g==eW<;>simp[h]) _ _ _ _ ?_);rw[show({s with heap:=s.heap.push {cls:=.type "dict",data:=.dict #[]}}:aq).heap.objs.size=s.heap.objs.size+1 from cF ..];refine a7 ?_;rw[pi];exact a9 (a9 (k _ rfl))
def NR(h:bP)(names:List (Str×mR)):CellsOk (pushCells (h.push {cls:=.type "dict",data:=.dict #[]}) names) (h.objs.size+1) (cq (h.objs.size+1) names []):=by
 have ok:=cellsFrom_ok names (h.push {cls:=.type "dict",data:=.dict #[]}) (h.objs.size+1) [] ⟨λ_ _ a=>(nomatch a),t5⟩ (by rw[cF];exact aw _);rw[cF] at ok;exact ok
def Qi{scope:eP}{N':List Str}{nt:Nat}{ix:List Nat}{G:List (Str×ak)}{C:ak}{fp:List ak}{t:bP}{t':Nat}{m:Str->Option ag}
  (S:lZ X scope N' nt ix) (I:bQ X pins σ H s) (E:∀x c,G.lookup x=some c->X.env.cells.lookup x=some c) (c2:∀y∈scope.names,y.2=.free->∃c,G.lookup y.1=some c)
  (T:∀b∈fp,vL X pins H b) (ff:∀b∈fp,b<s.heap.objs.size) (O:s.heap.objs.size<=C) (a1:t.Ns C m) (A:∀b o,s.heap.get? b=some o->t.get? b=some o) (ok:CellsOk t (C+1) (cq (C+1) scope.names [])):
  bQ (bN X N' scope (cq (C+1) scope.names G) C s H fp (X.pn++pins)) [] (mH nt ix σ) H {s with heap:=t,toks:=t'}:=by
 have g:∀{c v},s.heap.IsCell c v->t.IsCell c v:=λ{c v} ⟨o,ho,hd⟩=>⟨o,A _ _ ho,hd⟩;have L:∀{x c},(x,c)∈cq (C+1) scope.names []->s.heap.objs.size<c:=λ{x c} h=>aK (rn O) (ok.empty x c h).2;have N:∀{x c},G.lookup x=some c->c<s.heap.objs.size:=λ{x c} h=>by
  obtain⟨v,q⟩:=I.cell x c (E x c h);exact q.lt
 refine⟨⟨I.ok.mod,S.kind,I.ok.glob,I.ok.blt,O,λx y c Y K=>?_,λx hx=>?_,λx c h K=>?_,I.ok.hd,I.ok.frames,.inl rfl,λb B=>⟨?_,λx c h=>?_⟩,I.bs,cH I.ok.bsz I.sz,λb o h B=>?_,λb B z=>?_,I.stack,I.stkFree⟩,
  rfl,I.bare,Un.kept A,⟨m,a1,λi x v Y K h3=>?_⟩,λx c h=>?_,I.hok.fresh O,λx c h=>?_,λp hp=>?_,I.hok.kept A,?_⟩
 ·rcases o8 Y with a|⟨_,a⟩<;>rcases o8 K with b|⟨_,b⟩
  ·exact name_of_addr ok.apart a b
  ·exact absurd (L a) (JR (N b))
  ·exact absurd (L b) (JR (N a))
  ·exact I.ok.inj x y c (E x c a) (E y c b)
 ·have a0:(x,cN)∈scope.names\/(x,eW)∈scope.names:=wQ (env:=X.env) (hx.elim .inr .inl);have hs:((cq (C+1) scope.names G).lookup x).isSome=true:=by
   rcases a0 with z|z
   ·obtain⟨c,e⟩:=c2 _ z rfl;exact gm _ _ _ (.inr (by rw[e];rfl))
   ·exact gm _ _ _ (.inl (S.cel _ z rfl))
  exact Option.isSome_iff_exists.mp hs
 ·rcases o8 K with a|⟨a,_⟩
  ·exact bL (L a)
  ·have:=gm (x:=x) scope.names (C+1) [] (.inl (by simpa[bN] using h));rw[a] at this;cases this
 ·exact aO (aK (ff b B) O)
 ·rcases o8 h with a|⟨_,a⟩
  ·exact dZ (iq (ff b B) (L a))
  ·exact(T b B).f4 x c (E x c a)
 ·rcases (T b B).f3 with z|z
  ·exact I.ok.noex b o h z
  ·exact absurd (aK (av h) (cH I.ok.bsz z)) (cB _)
 ·rcases List.mem_cons.mp (I.stkSub b z) with e|e
  ·exact(T b B).f1 e
  ·exact(T b B).f2 e
 ·have M:nt<=i:=by
   refine U2 λQ=>?_;have f:(mH nt ix σ)[i]?=some (some v):=K;unfold mH at f;rw[bx (by simpa using Q),c8,if_pos Q] at f;cases f
  have f:(mH nt ix σ)[i]?=some (some v):=K;unfold mH at f;rw[aV (by simpa using M),dD,aI] at f;cases e:ix[i-nt]? with
  |none=>rw[e] at f;cases f
  |some j=>
   rw[e] at f;have hj:σ[j]?=some (some v):=by
    have q:(σ[j]?).join=some v:=bW f;cases e3:σ[j]? with
    |none=>rw[e3] at q;cases q
    |some o=>rw[e3] at q;cases o with
     |none=>cases q
     |some v'=>cases q;rfl
   obtain⟨x',n1,n2,U⟩:=S.cap _ _ e;rw[Nat.add_sub_cancel' M] at n2;have a2:N'[i]?=some x:=Y;rw[a2] at n2;cases n2;obtain⟨mm,hn,hl⟩:=I.loc;have w:=S.free (x,.free) (d_ U) rfl;obtain⟨u,r,l⟩:=hl j x v n1 hj (w.elim (λz=>.inr (.inl z)) λz=>.inr (.inr z));refine⟨u,r,?_⟩;rcases l with⟨k,_⟩|⟨k,c,hc,hcell⟩
   ·have k:X.env.scope.names.lookup x=some .local:=k;rcases w with z|z<;>(rw[z] at k;cases k)
   ·obtain⟨c',P⟩:=c2 _ (d_ U) rfl;have:=E x c' P;rw[hc] at this;cases this;have a3:(cq (C+1) scope.names []).lookup x=none:=by
     cases e:(cq (C+1) scope.names []).lookup x with
     |none=>rfl
     |some d=>
      rcases qr _ _ _ (d_ e) with z|z
      ·have q:=S.cel _ z rfl;rw[U] at q;cases q
      ·cases z
    refine .inr ⟨?_,c,by show(cq (C+1) scope.names G).lookup x=some c;rw[kh,P9,a3];exact P,g hcell⟩;rcases v3 (env:=X.env) U with z|z
    ·exact .inr z
    ·exact .inl z
 ·rcases o8 h with a|⟨_,a⟩
  ·exact⟨none,(ok.empty x c a).1⟩
  ·obtain⟨v,q⟩:=I.cell x c (E x c a);exact⟨v,g q⟩
 ·rcases o8 h with a|⟨_,a⟩
  ·exact I.hok.fresh (bL (L a))
  ·exact I.freeC x c (E x c a)
 ·have hp:p∈X.pn++pins:=(List.mem_append.mp hp).elim id λz=>absurd z (by simp);obtain⟨e,n,ne,nf,d⟩:=I.pin p hp;refine⟨A _ _ e,n,aO (aK (av e) O),λz=>?_,d⟩;rcases List.mem_cons.mp (I.stkSub p.1 z) with e|e
  ·exact ne e
  ·exact nf e
 ·show(mH nt ix σ).length=N'.length;rw[S.len];simp[mH]
def Un.grow(u:Un fs ex H H1 h h1)(f:bG C h1 h2)(d:h.objs.size<=C)(i:h.objs.size<=D)(c:H1 D=none):Un fs ex H (upd H1 D o) h h2 where
 keep:=λb ob q n g a=>(f.2 b (aO (aK (av q) d))).trans (u.keep b ob q n g a)
 slot:=λb ob q n g a=>by
  obtain⟨j,e⟩:=u.slot b ob q n g a;exact⟨j,(f.2 b (aO (aK (av q) d))).trans e⟩
 free:=λb ob q n a=>by rw[b9 (aO (aK (av q) i))];exact u.free b ob q n a
 there:=λb ob q a=>by
  obtain⟨o',e⟩:=u.there b ob q a;exact⟨o',(f.2 b (aO (aK (av q) d))).trans e⟩
 tups:=λb xs q=>by have z:=u.tups b xs q;rw[b9 (bw z c)];exact z
 frzs:=λb ob xs q=>by have z:=u.frzs b ob xs q;rw[b9 (bw z c)];exact z
 tbls:=λb ps q=>by
  obtain⟨m,z⟩:=u.tbls b ps q;exact⟨m,by rw[b9 (bw z c)];exact z⟩
def GQ(k:sR P w H h)(d:H C=none)(f:bG C h h'):sR P w H h':=λb ob e=>by
 refine(k b ob e).stay (λc g a q=>(f.2 c ?_).trans q) (λ_ q=>q) λ_ _ q=>q;rintro rfl;rcases a with rfl|a
 ·rw[d] at e;cases e
 ·rw[d] at a;cases a
def yo(k:sR P w H h)(d:H D=none)(new:c_ P w (upd H D o) h D o):sR P w (upd H D o) h:=λb ob e=>by
 by_cases a:b=D
 ·subst a;rw[aX] at e;cases e;exact new
 ·rw[b9 a] at e;exact(k b ob e).stay (λc g f q=>q) (λc q=>by rw[b9 (bw q d)];exact q) λc x q=>by rw[b9 (bw q d)];exact q
def nf{M:Model}{A:cg}{α:Type}{t:Sem α}{Q:α->aq->Prop}{a:ag->aq->Prop}{s:aq}(h:au M A t Q (λ_ _=>False) s):au M A t Q a s:=
 cn h (λ_ _ q=>q) λ_ _ f=>f.elim
def bQ.pin1(I:bQ X [] σ H s)(e:s.heap.get? D=some o)(n:H D=none)(ne:D≠X.env.locals)(nf:D∉X.fs)(d:∀v,o.data≠.cell v):bQ X [(D,o)] σ H s:=
 I.pins_of λp a=>by
  have:p=(D,o):=by simpa using a
  subst this;exact⟨e,n,ne,nf,d⟩
def UQ(nt:Nat)(g:TG):Prop:=∀x a H (Q:St->Hp->Prop),g x a H Q->g x a H (λb c=>Q b c/\b.length=a.length/\∀j,nt<=j->b[j]?=a[j]?)
def Qj(h:i<nt):UQ nt (pA i):=λx a H Q q=>⟨q,by simp,λj b=>ar ∅⟩
def UR{nt i k n:Nat}{K:a8}(h:i<nt)(h':k<nt):UQ nt (Y1 K n (aa (pA i) (aa (pA k) aC))):=by
 rintro x d H Q ⟨a,xs,rfl,sq,c,v,r,rfl,b,f,rfl,rfl,q⟩;exact⟨a,_,rfl,sq,c,v,_,rfl,b,_,rfl,rfl,q,by simp,λj e=>by rw[ar ∅,ar ∅]⟩
def bQ.swap{X:Cx}{pl:List (ak×Obj)}{a:St}{H:Hp}{s:aq}{D:ak}{o o':Obj}{h':bP}(I:bQ X ((D,o)::pl) a H s)(t:bG D s.heap h')(m:h'.get? D=some o')(k:∀v,o'.data≠.cell v)(h:D∈X.ex\/X.s₀.heap.objs.size<=D)(n:∀x c,X.env.cells.lookup x=some c->c≠D)(j:∀p∈X.pn++pl,p.1≠D):bQ X ((D,o')::pl) a H {s with heap:=h'}:=by
 obtain⟨u,g,d,i,_⟩:=I.pin (D,o) (aA _ ap)
 have q:bQ X pl a H s:=I.pins_of λp hp=>I.pin p (aA _ (ai _ hp))
 have f:bQ X pl a H {s with heap:=h',toks:=s.toks}:=q.turned (it:=D) (λb o l e=>t.extBut b o l e) g d h n j
 refine f.pins_of λp hp=>?_
 rcases aW.1 hp with z|hp
 ·rw[z];exact⟨m,g,d,i,k⟩
 ·exact f.pin p (aA _ hp)
abbrev Yp(a:List ag)(b:Nat):Obj:={cls:=.type "list",data:=.seq a.toArray b}
inductive GLI (X:Cx) {α:Type} (P:ak->Obj->α->Prop) (pins:List (ak×Obj)) (N':List Str) (scope:eP) (cl:List (Str×ak)) (C:ak) (s2:aq) (H2:Hp) (fp:List ak) (nt:Nat) (ix:List Nat) (σ:St) (tn:Nat->bP->Prop) (W:Nat->Nat->α->Hp->Prop) (n:Nat) (s':aq):Prop
 |mk (i:Nat) (acc:α) (oD:Obj) (H':Hp) (I:bQ (bN X N' scope cl C s2 H2 fp (X.pn++pins)) [(s2.heap.objs.size,oD)] (mH nt ix σ) H' s') (S:P s2.heap.objs.size oD acc) (t:tn i s'.heap) (f:∀b∈fp,H' b=none) (w:W i n acc H'):GLI X P pins N' scope cl C s2 H2 fp nt ix σ tn W n s'
def GR(X:Cx)(i tg:bC)(h:List bC)(it:ak)(d:Nat)(Bd:Env->ak->(aq->Prop)->aq->Prop):Prop:=
 ∀(env:Env) (D:ak) (R:Eo->aq->Prop) (I:Nat->aq->Prop),(∀n s,I n s->au (az X.prog X.w) X.A (nY (.ref it)) (λr a=>match r with
   |none=>R (.ok .next) a
   |some v=>au (az X.prog X.w) X.A (jF tg (.ref it) v) (λ_ e=>au (az X.prog X.w) X.A (vA tg env v) (λ_ f=>
     au (az X.prog X.w) X.A (forIn h true λc r=>if r=true then do let ok <- Am c env (eu c env);pure (j_ ok) else pure (j_ r)) (λok b=>
      if ok=true then Bd env D (λg=>∃m,m<n/\I m g) b else ∃m,m<n/\I m b) (λ_ _=>False) f) (λ_ _=>False) e) (λ_ _=>False) a) (λ_ _=>False) s) ->
  ∀n s,I n s->fR (az X.prog X.w) X.A (.compLoop i d (.ref it) (.ref D) env) R s
def GS{X:Cx}{e0 tg iter:bC}{ifs:List bC}{d:Nat}{Bd:Env->ak->(aq->Prop)->aq->Prop}{it:ak}{Kt:Env->ak->Bool->Sem Fin}
  (hT:∀env D,compTurn e0 d (.ref it) (.ref D) env=(do
   qJ iter.pos
   match <- nY (.ref it) with
   |none=>pure (.done .next)
   |some v=>
    jF tg (.ref it) v
    vA tg env v
    let mut ok:=true
    for c in ifs do
     if ok then ok <- Am c env (eu c env)
    Kt env D ok))
  (ht:∀env D K s,Bd env D K s->au (az X.prog X.w) X.A (Kt env D true) (λf s5=>f=.again (.compLoop e0 d (.ref it) (.ref D) env)/\K s5) (λ_ _=>False) s)
  (hf:∀env D,Kt env D false=pure (.again (.compLoop e0 d (.ref it) (.ref D) env)):=by intros;rfl) (hA:∀env D,X.A.under (.compLoop e0 d (.ref it) (.ref D) env)=X.A:=by intros;rfl)
  (hD:∀env D,(az X.prog X.w).den (.compLoop e0 d (.ref it) (.ref D) env)=(compTurn e0 d (.ref it) (.ref D) env).onRaise (λx=>do Et x env;theTreesLotGoes x):=by intros;rfl):GR X e0 tg ifs it d Bd:=by
 intro env D R I turn n s h
 refine codeAny_loop rfl I (λn s hI=>?_) n h
 rw[hA,hD]
 refine wpAny_noted ?_
 rw[hT]
 refine a7 (hV (a7 (nf (cn (turn n s hI) (λr s₁ h₁=>?_) λ_ _ h'=>h'))))
 cases r with
 |none=>exact a9 h₁
 |some v=>
  refine a7 (nf (cn h₁ (λ_ s₁' h₁'=>?_) λ_ _ h'=>h'))
  refine a7 (nf (cn h₁' (λ_ s₂ h₂=>a7 (nf (cn h₂ (λok s₃ h₃=>?_) λ_ _ h'=>h'))) λ_ _ h'=>h'))
  cases ok with
  |false=>rw[hf];exact a9 ⟨rfl,h₃⟩
  |true=>
   refine nf (cn (ht _ _ _ _ h₃) (λf s₅ h₅=>?_) λ_ _ h'=>h')
   obtain⟨e,h₅⟩:=h₅
   subst e
   exact⟨rfl,h₅⟩
def Dp(X:Cx){α:Type}(N':List Str)(scope:eP)(M:St->Prop)(P:ak->Obj->α->Prop)(L:α->Prop)(U:St->Hp->α->Nat->(Nat->α->Hp->Prop)->Prop)(Bd:Env->ak->(aq->Prop)->aq->Prop):Prop:=
 ∀f C a b i g (D:ak) (pl:List (ak×Obj)) (o:Obj) (e:α) (h:St) (H:Hp) (s:aq) (K:aq->Prop) (m:Nat) (V:Nat->α->Hp->Prop),(D∈i\/a.heap.objs.size<=D)->(∀x c,f.lookup x=some c->c≠D)->(∀p∈g++pl,p.1≠D)->M h->L e->P D o e ->
  bQ (bN X N' scope f C a b i g) ((D,o)::pl) h H s->U h H e m V->(∀d o' l j k,bQ (bN X N' scope f C a b i g) ((D,o')::pl) h l j->P D o' d->k<m->V k d l->K j)->Bd (bN X N' scope f C a b i g).env D K s
inductive Ks (X:Cx) (N':List Str) (scope:eP) (nt nc:Nat) (ix:List Nat) (e0 tg:bC) (ifs:List bC) (newA:Sem ag) {α:Type} (O:ak->α->HO) (a0:α) (L:α->Prop) (U:St->Hp->α->Nat->(Nat->α->Hp->Prop)->Prop):Prop
 |mk (P:ak->Obj->α->Prop) (o0:Obj) (Bd:ak->Env->ak->(aq->Prop)->aq->Prop) (M:St->Prop) (nd:∀{D o acc},P D o acc->∀v,o.data≠.cell v) (of:o0.isFreed=false) (p0:∀D,P D o0 a0)
  (tr:∀{H h D o acc},e_<D->P D o acc->h.get? D=some o->c_ X.prog X.w H h D (O D acc))
  (hnew:∀{E s2}{Q:ag->aq->Prop},Q (.ref s2.heap.objs.size) {s2 with heap:=s2.heap.push o0}->au (az X.prog X.w) X.A newA Q E s2) (loopX:∀it,GR X e0 tg ifs it 0 (Bd it))
  (hst:∀{it acc env R s},fR (az X.prog X.w) X.A (.compLoop e0 0 (.ref it) acc env) R s->au (az X.prog X.w) X.A (rG (.ref it)) (λit' s'=>fR (az X.prog X.w) X.A (.compLoop e0 0 it' acc env) R s') (notedBy (az X.prog X.w) X.A env λx s'=>R (.error x) s') s->fR (az X.prog X.w) X.A (.compStart e0 0 (.ref it) acc env) R s)
  (hM:nt<=nc/\∀ σ σ6:St,(∀j,nt<=j->σ6[j]?=(mH nc ix σ)[j]?)->M σ6) (hstep:∀it,Dp X N' scope M P L U (Bd it)):Ks X N' scope nt nc ix e0 tg ifs newA O a0 L U
def AD{X:Cx}{α:Type}{O:ak->α->HO}{a0:α}{b0:Sem ag}{L:α->Prop}{U:St->Hp->α->Nat->(Nat->α->Hp->Prop)->Prop}{e0 tg:bC}{e9:List bC}{scope:eP}{g:TG}{tt:TT}{N':List Str}{nt nc:Nat}{ix:List Nat}
  (h3:Ks X N' scope nt nc ix e0 tg e9 b0 O a0 L U) (hc:X.calm=true) (S:lZ X scope N' nc ix) (lo:UQ nt g)
  (l:∀G C a5 b7 ex pn,PG (bN X N' scope G C a5 b7 ex pn) tg g/\Kr (bN X N' scope G C a5 b7 ex pn) e9 tt)
  {G:List (Str×ak)} (c1:∀x c,G.lookup x=some c->X.env.cells.lookup x=some c) (c2:∀y∈scope.names,y.2=.free->∃c,G.lookup y.1=some c)
  {h:List (ak×Obj)}{σ:St}{I:Hp}{k:aq}{it:ak}{B:List ak}{tn:Nat->bP->Prop}{J:It}{Q:VK}{E:ag->aq->Prop}
  (Y:bQ X h σ I k) (T:Cq X.prog X.w X.K tg J B it tn) (st2:tn 0 k.heap) (f2:∀b∈B,vL X h I b)
  {W:Nat->Nat->α->Hp->Prop} (w0:∃m,W 0 m a0 I)
  (d8:∀i m f H,W i m f H->(J.stop i H/\∀p,H p=none->Q (.ref p) (upd H p (O p f))) \/
   (J.go i H/\L f/\∀x H',J.yld i H x H'->g x (mH nc ix σ) H' λe6 I=>tt e6 I λb H3=>
    if b=true then U e6 H3 f m (W (i+1)) else ∃m',m'<m/\W (i+1) m' f H3))
  {RR:ag->ak->Eo->aq->Prop}
  (g4:∀D C m s' (f:α) H',H' D=none->vL X h (upd H' D (O D f)) C->Q (.ref D) (upd H' D (O D f))->s'.heap.Ns C m->(∀h',bG C s'.heap h'->bQ X h σ (upd H' D (O D f)) {s' with heap:=h'})->RR (.ref D) C (.ok .next) s'):
  au (az X.prog X.w) X.A b0 (λf g1=>au (az X.prog X.w) X.A (JQ scope X.env.globals G [] X.env.qual none .none (some X.env)) (λa6 d6=>
   fR (az X.prog X.w) X.A (.compStart e0 0 (.ref it) f {a6 with scope:=relabel scope X.env}) (RR f a6.locals) d6) E g1) E k:=by
 obtain⟨P,o0,Bd,M,nd,of,p0,tr,e3,b8,h1,⟨h9,hM⟩,d0⟩:=h3
 refine e3 (UP λs t=>?_);dsimp only at t ⊢;generalize d1:k.heap.push o0=G2 at t ⊢;have hC:G2.objs.size=k.heap.objs.size+1:=by rw[<- d1,cF]
 have d2:k.heap.objs.size≠G2.objs.size:=by rw[hC];exact aO (gX _)
 have N:k.heap.objs.size<=G2.objs.size:=by rw[hC];exact ir _
 have below:∀b,b<k.heap.objs.size->b≠G2.objs.size:=λb l=>by rw[hC];exact aO (gj l)
 have kp:∀b o,G2.get? b=some o->s.get? b=some o:=λb o e=>by rw[t];exact pushCells_keeps _ _ b o (af _ e)
 have a3:s.Ns G2.objs.size (λ_=>none):=by rw[t];exact(Heap.Ns.new G2 (.type "dict")).keeps (pushCells_keeps _ _)
 have a1:CellsOk s (G2.objs.size+1) (cq (G2.objs.size+1) scope.names []):=by rw[t];exact NR G2 scope.names
 have cne:∀x c,(cq (G2.objs.size+1) scope.names G).lookup x=some c->X.env.cells.lookup x=some c\/k.heap.objs.size<c:=λx c e=>by
  rcases o8 e with a|⟨_,a⟩
  ·exact .inr (aK (rn N) (a1.empty x c a).2)
  ·exact .inl (c1 x c a)
 have e4:∀b o,k.heap.get? b=some o->s.get? b=some o:=λb o e=>kp b o (d1 ▸ af _ e);have d4:s.get? k.heap.objs.size=some o0:=kp _ _ (d1 ▸ aD _ of);have ff:∀b∈B,b<k.heap.objs.size:=λb l=>by
  obtain⟨o,e,_⟩:=T.obj _ _ st2 b l;exact av e
 have I3:bQ (bN X N' scope (cq (G2.objs.size+1) scope.names G) G2.objs.size k I B (X.pn++h)) [] (mH nc ix σ) I {k with heap:=s,toks:=k.toks}:=Qi S Y c1 c2 f2 ff N a3 e4 a1;obtain⟨pg,pt⟩:=l (cq (G2.objs.size+1) scope.names G) G2.objs.size k I B (X.pn++h);have d9:k.heap.objs.size∉vi X.stack:=λz=>by
  rcases List.mem_cons.mp (Y.stkSub _ z) with e|e
  ·exact absurd Y.lt (by rw[<- e];exact cB _)
  ·exact Y.nofs (aw _) e
 have d7:tn 0 s:=T.keep _ _ _ st2 λb _ o e=>e4 b o e;have d3:k.heap.objs.size∉B:=λz=>absurd (ff _ z) (cB _);have a2:∀{H':Hp}{pl:List (ak×Obj)},(∀p∈pl,p.1∉B)->(∀b∈B,H' b=none)->∀b∈B,vL (bN X N' scope (cq (G2.objs.size+1) scope.names G) G2.objs.size k I B (X.pn++h)) pl H' b:=λh5 hn b l=>by
  obtain⟨f0,f1,g5,f3,f4,f5⟩:=f2 b l;refine⟨hn b l,below b (ff b l),λz=>?_,.inl l,λx c e=>(cne x c e).elim (f4 x c) λq z=>JR q (by rw[z];exact ff b l),λp hp z=>?_⟩
  ·rcases List.mem_cons.mp (Y.stkSub _ z) with e|e
   ·exact f1 e
   ·exact g5 e
  ·rcases List.mem_append.mp hp with q|q
   ·exact f5 p q z
   ·exact h5 p q (z ▸ l)
 obtain⟨m0,w0⟩:=w0;have a4:fR (az X.prog X.w) X.A (.compLoop e0 0 (.ref it) (.ref k.heap.objs.size) (compEnvC scope (cq (G2.objs.size+1) scope.names G) G2.objs.size X.env))
    (RR (.ref k.heap.objs.size) G2.objs.size) {k with heap:=s,toks:=k.toks}:=by
  refine b8 it _ _ _ (GLI X P h N' scope (cq (G2.objs.size+1) scope.names G) G2.objs.size k I B nc ix σ tn W) ?_ m0 _
   ⟨0,a0,_,I,I3.pin1 d4 (Y.hok.fresh (aw _)) d2 d9 (nd (p0 k.heap.objs.size)),p0 _,d7,λb l=>(f2 b l).1,w0⟩
  rintro n s3 ⟨i,f,oD,H3,J3,c5,st3,e2,w3⟩;have c3:∀p∈[(k.heap.objs.size,oD)],p.1∉B:=λp hp=>by
   have:p=(k.heap.objs.size,oD):=by simpa using hp
   rw[this];exact d3
  rcases d8 i n f H3 w3 with⟨d5,qn⟩|⟨go,hlt,step⟩
  ·refine fS (T.done (bN X N' scope (cq (G2.objs.size+1) scope.names G) G2.objs.size k I B (X.pn++h)) rfl rfl rfl hc i _ s3 _ H3 _ J3 (a2 c3 e2) st3 d5) λr s4 g7=>?_;obtain⟨hr,I4⟩:=g7;subst hr;obtain⟨pD,pN,_⟩:=I4.pin (k.heap.objs.size,_) (aA _ (List.mem_singleton.mpr rfl));obtain⟨mm,hn,_⟩:=I4.loc;have g0:H3 G2.objs.size=none:=I4.free;refine g4 _ _ mm s4 f H3 pN (Y.fpOk N (by rw[b9 (dk d2)];exact g0)) (qn _ pN) hn λh' sb=>?_;have hu:Un (vi X.stack) B I (upd H3 k.heap.objs.size (O k.heap.objs.size f)) k.heap h':=Un.grow I4.base sb N (aw _) pN;refine Y.call' (s':={s4 with heap:=h'}) (ch:=B) I4.os hu ?_ I4.bare λb l=>?_
   ·exact yo (GQ I4.hok g0 sb) pN (tr Y.big c5 ((sb.2 _ d2).trans pD))
   ·obtain⟨_,f1,_,f3,f4,f5⟩:=f2 b l;exact⟨f3,f1,f4,f5⟩
  ·refine fS (T.item (bN X N' scope (cq (G2.objs.size+1) scope.names G) G2.objs.size k I B (X.pn++h)) rfl rfl rfl hc i _ s3 _ H3 _ J3 (a2 c3 e2) st3 go) λr s4 h7=>?_;obtain⟨u,hr,h4⟩:=h7;subst hr;refine fS h4 λ_ s5 g8=>?_;obtain⟨x,H5,I5,r5,y5,st5,h6⟩:=g8;have g3:=I5.pinned (a2 c3 h6) (T.obj _ _ st5);refine fS (pg _ s5 _ H5 x u _ g3 r5 (lo _ _ _ _ (step x H5 y5))) λ_ s6 h0=>?_;obtain⟨c0,H6,I6,q6,l6,k6⟩:=h0;have hw:∀(j:Nat) v,(mH nc ix σ)[j]?=some (some v)->c0[j]?=some (some v):=λj v e=>by
    by_cases hj:nt<=j
    ·rw[k6 j hj];exact e
    ·unfold mH at e;rw[bx (by simp;omega),c8,if_pos ∅] at e;cases e
   refine fS (pt _ s6 c0 H6 _ I6 q6) λb s7 h2=>?_;obtain⟨H7,I7,q7⟩:=h2;have h8:∀{s8:aq}{e5:St}{H8:Hp},bQ (bN X N' scope (cq (G2.objs.size+1) scope.names G) G2.objs.size k I B (X.pn++h)) ([(k.heap.objs.size,oD)]++tE B s5.heap) e5 H8 s8 ->
     tn (i+1) s8.heap/\∀b∈B,H8 b=none:=λ{s8 e5 H8} I8=>by
    refine⟨T.keep _ _ _ st5 λb l o e=>(I8.pin (b,o) (aA _ (aA _ (jt l e)))).1,λb l=>?_⟩;obtain⟨o,e,d⟩:=T.obj _ _ st5 b l;exact(I8.pin (b,o) (aA _ (aA _ (jt l e)))).2.1
   cases b with
   |false=>
    simp only[bg,if_false] at q7 ⊢;obtain⟨m',hm,w7⟩:=q7;obtain⟨t7,f7⟩:=h8 I7;exact⟨m',hm,i+1,f,oD,H7,(I7.weak l6.symm hw).unpinned,c5,t7,f7,w7⟩
   |true=>
    simp only[if_true] at q7 ⊢
    refine d0 it _ _ _ _ _ _ _ _ _ _ _ _ _ _ _ _ (.inr (aw _)) (λx c e z=>?_) (λp hp z=>?_) (hM σ c0 k6) hlt c5 I7 q7 λe1 o' H8 s8 m' I8 p8 hm w8=>?_
    ·rcases cne x c e with e|e
     ·obtain⟨v,q⟩:=Y.cell x c e;exact absurd q.lt (by rw[z];exact cB _)
     ·exact absurd e (by rw[z];exact cB _)
    ·rcases dz.1 hp with hp|hp
     ·exact absurd (av (Y.pin p hp).1) (by rw[z];exact cB _)
     ·exact d3 (z ▸ (yj hp).1)
    ·obtain⟨t8,f8⟩:tn (i+1) s8.heap/\∀b∈B,H8 b=none:=by
      refine⟨T.keep _ _ _ st5 λb l o e=>(I8.pin (b,o) (aA _ (ai _ (jt l e)))).1,λb l=>?_⟩;obtain⟨o,e,d⟩:=T.obj _ _ st5 b l;exact(I8.pin (b,o) (aA _ (ai _ (jt l e)))).2.1
     exact⟨m',hm,i+1,e1,o',H8,(I8.weak (σ':=mH nc ix σ) l6.symm hw).pins_of λp hp=>I8.pin p (aA _ (by rw[df.1 hp];exact ap)),p8,t8,f8,w8⟩
 exact h1 a4 (T.self _ 0 _ _ _ d7 a4)
def Yq(_:ak)(o:Obj)(b:List V):Prop:=∃a c,o=Yp a c/\dI b a/\b.length<=sizeLine
def US(X:Cx)(c:bC)(env:Env)(D:ak)(K:aq->Prop)(s:aq):Prop:=au (az X.prog X.w) X.A (eu c env) (λx a=>au (az X.prog X.w) X.A (call (.builtin "list.append") [.ref D,x]) (λ_ b=>K b) (λ_ _=>False) a) (λ_ _=>False) s
def GT{X:Cx}{d:bC}{s:TE}{N':List Str}{scope:eP}{M:St->Prop}(A:∀f C c b p h,PE (bN X N' scope f C c b p h) d s):
  Dp X N' scope M Yq (λa=>a.length<sizeLine) (λI H a m V=>s I H λy B=>∃e,e<m/\V e (a++[y]) B) (US X d):=by
 intro f C c b p h D pl o a n G x K m V v h2 E _ hl P N L fin
 obtain⟨k,nn,rfl,t,hz⟩:=P
 refine fS (A f C c b p h _ x n G _ N L) λw s8 g=>?_
 obtain⟨y,T,u,U,e,S,Q⟩:=g
 obtain⟨Y,pN,_⟩:=u.pin (D,_) (aA _ ap)
 have hv:=t.length
 refine wpAny_list_append_plain ⟨nn,Y⟩ (hsz:=by rw[aM];omega) ?_
 intro O i l
 obtain⟨q,e9⟩:=i
 have j:O.get? D=some (Yp (k++[w]) q):=by rw[e9];simp
 exact fin (a++[y]) _ T _ e (u.swap l j (λ_ z=>nomatch z) v h2 E) ⟨_,q,rfl,t.append (.cons U .nil),by rw[aT,eA];omega⟩ S Q
def GU{X:Cx}{b:bC}{f:Sem Fin}{a:Code}(d:f=pure (.again a))(env:Env)(D:ak)(K:aq->Prop)(s:aq)(h:US X b env D K s):au (az X.prog X.w) X.A ((do let _ <- call (.builtin "list.append") [.ref D,<- eu b env])>>=λ_=>f) (λf c=>f=.again a/\K c) (λ_ _=>False) s:=by
 subst d;exact a7 (a7 (fS h λx g e=>a7 (fS e λ_ _ q=>a9 (a9 ⟨rfl,q⟩))))
def M7{X:Cx}{g tg iter:bC}{j:List bC}{scope:eP}{n:Pos}{p:TE}{N':List Str}{nt:Nat}{ix:List Nat}(t:∀q C k i B s,PE (bN X N' scope q C k i B s) g p):
  Ks X N' scope nt nt ix (.ListComp g [⟨tg,iter,j,0⟩] scope n) tg j (Jk []) (λ_=>HO.lst) [] (λf=>f.length<sizeLine) (λw H f m V=>p w H λy v=>∃o,o<m/\V o (f++[y]) v):=
 ⟨Yq,_,λ_=>US X g,λ_=>True,λ⟨_,_,h,_⟩ _ z=>(by rw[h] at z;cases z),rfl,λ_=>⟨[],0,rfl,.nil,cu _⟩,λ_ ⟨l,A,h,x,u⟩ e=>⟨u,l,A,x,by rw[e,h]⟩,bu,λ_=>GS (iter:=iter) (λ_ _=>rfl) λa b c d h=>GU rfl a b c d h,Po,⟨aw _,λ_ _ _=>trivial⟩,λ_=>GT t⟩
def GV
  (N:X.calm=true) (S:lZ X scope N' nt ix) (lo:UQ nt g) (O:PI X tg iter wi)
  (t:∀o C j i u p,PG (bN X N' scope o C j i u p) tg g/\Kr (bN X N' scope o C j i u p) ifs tt/\PE (bN X N' scope o C j i u p) elt te)
  (hs:∀x,bS iter X.env x=pure x:=by intro _;rfl):PE X (.ListComp elt [⟨tg,iter,ifs,0⟩] scope pos) (Qh nt ix wi g tt te):=by
 intro k s B H Q I h;obtain⟨o,z,c1,c2⟩:=o7 (scope:=scope) (env:=X.env) λy G P=>I.ok.has y.1 (S.free y G P);rw[eval_ListComp];refine iF (use:=none) rfl hs z S.kind S.loc (fS (O k s B H _ I h) λv s1 E=>fS E λL s2 h2=>?_);obtain⟨it,fp,tn,J,H2,e,Y,T,st2,U,W,K,n⟩:=h2;subst e;refine AD (RR:=λl C=>JU (az X.prog X.w) X.A X.xe none (EP X k B Q) l C) (M7 λa b c d e f=>(t a b c d e f).2.2) N S lo (λa b c d e f=>⟨(t a b c d e f).1,(t a b c d e f).2.1⟩) c1 c2 Y T st2 U K n ?_;intro D C m s' l H' hD _ q hn M;exact⟨m,hn,λh' sb=>⟨.ref D,_,M h' sb,rfl,q⟩⟩
def q0b(i:Nat)(b:TE):TS:=λD a H=>b a H λx c=>D.nx (a.set i (some x)) c
def Ku
  (hN:X.N.Nodup) (G:X.N[i]?=some y) (u:X.env.scope.names.lookup y=some .local)
  (hc:X.calm=true) (S:lZ X scope N' nt ix) (lo:UQ nt g) (hi:PI X tg iter wi)
  (t:∀B C k l M O,PG (bN X N' scope B C k l M O) tg g/\Kr (bN X N' scope B C k l M O) ifs tt/\PE (bN X N' scope B C k l M O) elt te)
  (K:j6 (.ListComp elt [⟨tg,iter,ifs,0⟩] scope pos) (some (.Name y py)) spos.line X.env=pure true:=by rfl)
  (hs:∀x,bS iter X.env x=pure x:=by intro _;rfl):PS X (.Assign [.Name y py] (.ListComp elt [⟨tg,iter,ifs,0⟩] scope pos) spos) (q0b i (Qh nt ix wi g tt te)):=by
 intro j s U H D I h;obtain⟨B,Y,c1,c2⟩:=o7 (scope:=scope) (env:=X.env) λy u hf=>I.ok.has y.1 (S.free y u hf);rw[exec_Assign_Name_used _ _ _ _ K];refine a7 (hV (a7 ?_));show au _ X.A (do let _ <- A4 (.ListComp elt [⟨tg,iter,ifs,0⟩] scope pos) scope X.env _ (Jk []) false (eu iter X.env) (some (vA (.Name y py) X.env))) _ _ s;refine a7 (cn (iF (use:=some (vA (.Name y py) X.env)) (Q:=λ_ s'=>SP X j D .next s') rfl hs Y S.kind S.loc
  (fS (hi j s U H _ I h) λv s1 h1=>fS h1 λa0 s2 h2=>?_)) (λ_ s' hq=>a9 (a9 hq)) λ_ _ e=>e)
 obtain⟨it,fp,tn,J,H2,e,I2,T,st2,f2,W,w0,p⟩:=h2;subst e;refine AD (Q:=λx H1=>D.nx (U.set i (some x)) H1) (RR:=λn C=>JU (az X.prog X.w) X.A X.xe (some (vA (.Name y py) X.env)) (λ_ s'=>SP X j D .next s') n C) (M7 λa b c d e f=>(t a b c d e f).2.2) hc S lo (λa b c d e f=>⟨(t a b c d e f).1,(t a b c d e f).2.1⟩) c1 c2 I2 T st2 f2 w0 p ?_;intro L C m s' n H' hD fC q hn hI;show au _ X.A (vA (.Name y py) X.env (.ref L)) _ _ _;have I3:bQ X j U (upd H' L (.lst n)) s':=hI s'.heap (.refl ..);refine wpAny_assign_Name (Dd I3 hN G (.inl u) (v:=.ref L) rfl (λs4 I4 ⟨a,sb,ha⟩=>?_) (.inr u));obtain⟨g0,g1,g2,g3,g4,g5⟩:=fC;have E:C≠a:=by
  rcases ha with z|z
  ·rw[z];exact g1
  ·exact λe=>g4 y a z e.symm
 refine⟨m,hn.sameBut sb E,λh5 P=>?_⟩;exact⟨_,_,I4.turned (t':=s4.toks) (λb o t e=>(P.2 b t).trans e) g0 g1 g3 g4 g5,q⟩
def lO(e:Int×ag):Str:=match e.2 with
 |.str x _=>x
 |_=>⟨#[]⟩
def vM(w:bz)(e:Int×ag):Prop:=∃x a,e=(hashStr w x,lc x a)
structure fu (w:bz) (h:bP) (a:ak) (es:Array (Int×ag)) (ep:Nat) (t:eR):Prop where
 at_:h.get? a=some {cls:=.type "set",dict:=none,data:=.set es ep t}
 txt:∀e∈es.toList,vM w e
 nd:(es.toList.map lO).Nodup
 few:es.size<iA
 fits:t.fits es.size=true
 led:t.led=!w.params.followText "set-order"
 pl:es.size=0\/t.plain=false
inductive nq (w:bz) (h:bP) (a:ak) (ss:List Str):Prop
 |mk (es ep t:_) (h0:fu w h a es ep t) (h1:(es.toList.map lO).Perm ss):nq w h a ss
def Kv(t:eR)(es:Array (Int×ag))(h:Int)(x:ag):(layNew t es h x).2.1.led=t.led:=by
 unfold layNew;cases t.freeSlot h with
 |none=>rfl
 |some p=>
  obtain⟨slot,d⟩:=p;show((t.put slot).1.orStandIn _).led=_;unfold Jl;split<;>rfl
def EO(t:eR)(es:Array (Int×ag))(h:Int)(x:ag):t.plain=false->(layNew t es h x).2.1.plain=false:=by
 intro a;unfold layNew;cases t.freeSlot h with
 |none=>rfl
 |some p=>
  obtain⟨slot,d⟩:=p;show((t.put slot).1.orStandIn _).plain=_;unfold Jl;split
  ·exact a
  ·rfl
def GW{t t':eR}{hs:Array Int}{n:Nat}{o:Array Nat}(h:t.relaid hs n=some (t',o)):t'.led=t.led/\t'.plain=t.plain:=by
 unfold zb pj at h;cases e:lf (bK n-1) hs with
 |none=>rw[e] at h;cases h
 |some b=>
  rw[e] at h;have h:=bW h;have a:=congrArg Prod.fst h;subst a;exact⟨rfl,rfl⟩
def NS(t:eR)(es:Array (Int×ag))(n:Nat):(y0 t es n).2.1.led=t.led/\(t.plain=false->(y0 t es n).2.1.plain=false):=by
 unfold y0;cases e:t.relaid (es.map (·.1)) n with
 |none=>exact⟨rfl,λ_=>rfl⟩
 |some p=>
  obtain⟨t',o⟩:=p;obtain⟨a,b⟩:=GW e;dsimp only;split
  ·exact⟨a,λh=>b.trans h⟩
  ·exact⟨rfl,λ_=>rfl⟩
def Qk(h:∀e∈l,vM w e):ElemsOf (strKind P w) l:=λe he=>by
 obtain⟨x,a,rfl⟩:=h e he;exact⟨⟨x,by simp[Eu,qI],rfl⟩,rfl⟩
def ZF(P:bd)(w:bz)(x:Str)(a:Tok):(strKind P w).is x (.str x a)=true:=by simp[Eu,qI]
def M8(h:vM w e)(x:Str):(strKind P w).is x e.2=true↔lO e=x:=by
 obtain⟨y,a,rfl⟩:=h;constructor
 ·intro q;have:=(strKind P w).inj _ _ _ q (ZF P w y a);rw[this];rfl
 ·rintro rfl;exact ZF P w _ a
def uq(I:fu w h a es ep t):(h.update a (jW es' t')).get? a=some {cls:=.type "set",dict:=none,data:=.set es' (ep+1) t'}:=by
 have q:=eB (jW es' t') I.at_ rfl;exact q
def Dq(hS:nq w s.heap a ss)(hr:ss.length+1<iA)
  (h:∀h' n,bG a s.heap h'->nq w h' a (if x∈ss then ss else ss++[x])->Q (!decide (x∈ss)) {s with heap:=h',toks:=n}):
  au (az P w) A (Cb a (.str x tk) ((strKind P w).hash x)) Q E s:=by
 obtain⟨es,O,t,I,B⟩:=hS
 have a0:es.size=ss.length:=by rw[<- B.length_eq,ah,ax]
 have N:ElemsOf (strKind P w) es.toList:=Qk I.txt
 unfold Cb setAddHashedIn
 refine bY (a7 (bj (s:=s) I.at_ rfl I.fits ?_))
 dsimp only
 rw[byScan_of rfl I.few N]
 rw[if_pos rfl]
 unfold setAddByScan
 refine a7 (a7 (eI (a7 (wpAny_setScan_of (s:=s) (ZF P w x tk) I.at_ rfl I.fits N ?_))))
 have f:x∈ss↔∃e∈es.toList,(strKind P w).is x e.2=true:=by
  rw[<- B.mem_iff,i_]
  constructor
  ·rintro⟨e,he,q⟩;exact⟨e,he,(M8 (I.txt e he) x).mpr q⟩
  ·rintro⟨e,he,q⟩;exact⟨e,he,(M8 (I.txt e he) x).mp q⟩
 cases hf:List.findIdx? (λe=>(strKind P w).is x e.2) es.toList with
 |some j=>
  obtain⟨hj,hp,_⟩:=List.findIdx?_eq_some_iff_getElem.mp hf
  have M:x∈ss:=f.mpr ⟨_,mO hj,hp⟩
  have q:=h s.heap s.toks (.refl ..) (by rw[if_pos M];exact⟨es,O,t,I,B⟩)
  rw[decide_eq_true M] at q
  exact a9 (a9 q)
 |none=>
  have i:x∉ss:=λz=>by
   obtain⟨e,he,q⟩:=f.mp z
   rw[List.findIdx?_eq_none_iff.mp hf e he] at q
   cases q
  have h:=λh' n sb=>h h' n sb
  rw[decide_eq_false i,if_neg i] at h
  have o:=layNew_perm t es ((strKind P w).hash x) (.str x tk)
  have T:=layNew_fits t es ((strKind P w).hash x) (.str x tk)
  have X:=Kv t es ((strKind P w).hash x) (.str x tk)
  have q1:=EO t es ((strKind P w).hash x) (.str x tk)
  generalize layNew t es ((strKind P w).hash x) (.str x tk)=L at o T X q1 ⊢
  obtain⟨c,U,wd,gv⟩:=L
  dsimp only at o T X q1 ⊢
  rw[Pa] at o
  have G:∀e∈c.toList,vM w e:=λe he=>by
   rcases List.mem_append.mp (o.mem_iff.mp he) with z|z
   ·exact I.txt e z
   ·rw[df] at z;exact⟨x,tk,z⟩
  have km:(c.toList.map lO).Perm (ss++[x]):=(o.map lO).trans (by rw[bF];exact B.append_right _)
  have H:(ss++[x]).Nodup:=by
   rw[zc]
   exact⟨B.nodup_iff.mp I.nd,by simp,λy hy z hz e=>i (by rw[df] at hz;rw[<- hz,<- e];exact hy)⟩
  have a1:c.size=es.size+1:=by rw[<- ax,o.length_eq,aT,ax];rfl
  have g:c.size<iA:=by omega
  have gw:∀(b:Bool) {k:aq}{Q':Unit->aq->Prop},Q' () k->au (az P w) A (match b with|true=>rule "set.scan.the-table-gave-way" | false=>pure ()) Q' E k:=
   λb _ _ z=>by cases b<;>first|exact a9 z|exact eI z
  have l:∀d:eR,d.fits c.size=true->d.led=t.led->d.plain=false->au (az P w) A (do
    storeSet a c d
    if(!wd&&d.tooFull)=true then do
      (match (y0 d c (gL c.size)).2.2 with|true=>rule "set.scan.the-table-gave-way" | false=>pure ())
      storeSet a (y0 d c (gL c.size)).1 (y0 d c (gL c.size)).2.1
      pure (some true)
     else pure (some true)) (λr s'=>r=some true/\Q true s') E s:=λd f2 l2 n2=>by
   refine a7 (gM (s:=s) I.at_ rfl ?_ (gN g))
   have Y:=uq (es':=c) (t':=d) I
   have v:=bB s.heap a (jW c d)
   have I1:fu w (s.heap.update a (jW c d)) a c (O+1) d:=⟨Y,G,km.nodup_iff.mpr H,g,f2,l2.trans I.led,.inr n2⟩
   split
   ·have p:=relayAll_perm d c (gL c.size)
    have f3:=relayAll_fits d c (gL c.size)
    have S:=NS d c (gL c.size)
    generalize y0 d c (gL c.size)=R3 at p f3 S ⊢
    obtain⟨K,t3,a2⟩:=R3
    dsimp only at p f3 S ⊢
    have m:K.size<iA:=by rw[<- ax,p.length_eq,ax];exact g
    have u:=(p.map lO).trans km
    refine a7 (gw _ (a7 (gM (s:={s with heap:=s.heap.update a (jW c d)}) I1.at_ rfl ?_ (gN m))))
    refine a9 ⟨rfl,h _ _ (v.trans (bB _ a _)) ⟨K,O+1+1,t3,⟨uq I1,λe he=>G e (p.mem_iff.mp he),u.nodup_iff.mpr H,m,f3,S.1.trans (l2.trans I.led),.inr (S.2 n2)⟩,u⟩⟩
   ·exact a9 ⟨rfl,h _ _ v ⟨c,O+1,d,I1,km⟩⟩
  refine a7 (gw gv ?_)
  cases hp:U.plain with
  |true=>
   simp only[if_true]
   rw[hashByValue_scannable 8 (x:=.str x tk) rfl]
   refine a7 (a9 ?_)
   refine cn (l {U with plain:=false} (by cases U;exact T) X rfl) (λr s' z=>?_) λ_ _ z=>z
   obtain⟨rfl,z⟩:=z
   exact a9 z
  |false=>
   simp only[bg,if_false]
   refine a7 (a9 ?_)
   refine cn (l U T X hp) (λr s' z=>?_) λ_ _ z=>z
   obtain⟨rfl,z⟩:=z
   exact a9 z
def GX(d:nq w s.heap a ss)(c:ss.length+1<iA)
  (h:∀h' b,bG a s.heap h'->nq w h' a (if x∈ss then ss else ss++[x])->Q (!decide (x∈ss)) {s with heap:=h',toks:=b}):
  au (az P w) A (setAdd a (.str x tk)) Q E s:=by
 unfold setAdd;refine bY (a7 ((strKind P w).pyHash (k:=x) (ZF P w x tk) ?_));exact Dq (s:={s with toks:=s.toks+1}) d c h
abbrev gV(w:bz):Obj:={cls:=.type "set",dict:=none,data:=.set #[] 0 (.fresh 0 0 (!w.params.followText "set-order"))}
def Dr(w:bz)(e:h.get? a=some (gV w)):nq w h a []:=
 ⟨#[],0,_,⟨e,λe he=>by simp at he,by simp,by decide,rfl,rfl,.inl rfl⟩,by simp⟩
def dY:List Str->List Str->List Str
 |acc,[]=>acc
 |acc,x::r=>dY (if x∈acc then acc else acc++[x]) r
theorem jH:∀(l a:List Str) (x:Str),x∈dY a l↔x∈a\/x∈l
 |[],a,x=>by simp[dY]
 |y::r,a,x=>by
  rw[dY,jH r];by_cases h:y∈a
  ·rw[if_pos h];simp only[aW];constructor
   ·exact λz=>z.elim .inl λz=>.inr (.inr z)
   ·rintro (z|z|z)
    ·exact .inl z
    ·exact .inl (z ▸ h)
    ·exact .inr z
  ·rw[if_neg h];simp[dz,or_assoc]
theorem jv:∀(l c:List Str),c.Nodup->(dY c l).Nodup
 |[],c,h=>h
 |y::r,c,h=>by
  rw[dY];refine jv r _ ?_;by_cases d:y∈c
  ·rw[if_pos d];exact h
  ·rw[if_neg d,zc];exact⟨h,by simp,λa g b f e=>d (by rw[df] at f;rw[<- f,<- e];exact g)⟩
theorem iK:∀(l a:List Str),(dY a l).length<=a.length+l.length
 |[],a=>by simp[dY]
 |y::r,a=>by
  rw[dY];have:=iK r (if y∈a then a else a++[y]);by_cases b:y∈a
  ·rw[if_pos b] at this ⊢;simp only[aU];omega
  ·rw[if_neg b] at this ⊢;simp only[aU,aT,eA,cD] at this ⊢;omega
def nq.keep(x:nq w h a ss)(k:∀o,h.get? a=some o->h'.get? a=some o):nq w h' a ss:=
 let ⟨es,ep,t,I,p⟩:=x;⟨es,ep,t,⟨k _ I.at_,I.txt,I.nd,I.few,I.fits,I.led,I.pl⟩,p⟩
def Ct{I:ak}{G l:List ak}{n:Nat}{E:Nat->ag->Prop}{St:Nat->bP->Prop}(W:U4 prog w A.in1 I G l n E St)(D:ak)(H:D∉G)(xs:List Str)(hx:xs.length=n)
  (Y:∀i v,E i v->∃x t,xs[i]?=some x/\v=.str x t) (c:n+1<iA):
  ∀(k i:Nat) (s:aq) (a:List Str),n-i=k->i<=n->a.length<=i->St i s.heap->nq w s.heap D a ->
   (∀h' g,(∀b o,b∉D::l->s.heap.get? b=some o->h'.get? b=some o)->nq w h' D (dY a (xs.drop i))->R (.ok (.ret .none)) {s with heap:=h',toks:=g}) ->
   fR (az prog w) A (.builtin "set.update.loop" ⟨[.ref D,.ref I],[]⟩) R s:=by
 have d:D∉l:=λz=>H (W.sub _ z);intro k;induction k with
 |zero=>
  intro i s a X Q O st u B;obtain rfl:i=n:=by omega
  refine eX ro ?_;rw[dM ji _];show au _ A.in1 (nY (.ref I)>>=_) _ _ s;refine a7 (W.done s _ _ st λh' g kp=>?_);refine a9 (B h' g (λb o c e=>kp b o (λz=>c (ai _ z)) e) ?_);rw[List.drop_of_length_le ∅];exact u.keep λo e=>kp D o d e
 |succ k M=>
  intro i s a X Q O st u B;have f:i<n:=by omega
  refine eX ro ?_;rw[dM ji _];show au _ A.in1 (nY (.ref I)>>=_) _ _ s;refine a7 (W.item i s _ _ f st λv h' g S q kp=>?_);obtain⟨x,t,m,rfl⟩:=Y i v S;have h:nq w h' D a:=u.keep λo e=>kp D o d e;refine a7 (bY (GX (s:={s with heap:=h',toks:=g}) h ∅ λK T L y=>?_));refine a9 ⟨oQ ji _,M (i+1) _ (if x∈a then a else a++[x]) ∅ f ?_ (W.frame _ _ _ q λb c o e=>?_) y λP p k3 j=>?_⟩
  ·by_cases z:x∈a
   ·rw[if_pos z];omega
   ·rw[if_neg z,aT,eA];omega
  ·rw[L.2 b λz=>H (z ▸ c)];exact e
  ·refine B P p (λb o c e=>k3 b o c ?_) ?_
   ·rw[L.2 b λz=>c (by rw[z];exact ap)];exact kp b o (λz=>c (ai _ z)) e
   ·have U:xs.drop i=x::xs.drop (i+1):=by
     obtain⟨N,K⟩:=List.getElem?_eq_some_iff.mp m;rw[List.drop_eq_getElem_cons N,K]
    rw[U,dY];exact j
def Ql(a:ag)(h:Q₁ (.ref s.heap.objs.size) {s with heap:=s.heap.push (gV w)}):
  fR (az prog w) A (.call (.builtin "set.__new__") ⟨[.type "set",a],[]⟩) (wants Q₁ E) s:=by
 refine wy ?_;show au _ A.in1 (do checkBuiltinCall "set.__new__" ⟨[.type "set",a],[]⟩;again (.builtin "set.__new__" ⟨[.type "set",a],[]⟩)) _ _ s;refine a7 (eM (F.newCall_set_1 a) (a9 ⟨oQ F.plain_set_new _,eX F.entry_set_new ?_⟩));rw[dM F.plain_set_new _];unfold iB.«set.__new__» U5;have b:=Pp;obtain⟨c,g,d,f,e⟩:=s;dsimp only;wp_walk;refine h_ (a9 ?_);dsimp only;simp only[newObj];refine a7 (U3 (a9 ?_));exact a9 h
structure Yr (prog:bd) (w:bz) (A:cg) (T:String) (l:ak) (o:Obj) (items:Array ag):Prop where
 ty:o.cls=.type T
 s1:isSubtype (.type T) (.type "set")=pure false
 s2:isSubtype (.type T) (.type "frozenset")=pure false
 nd:(jD T==jD "dict")=false
 iter:∀(s:aq) (Q:ag->aq->Prop) (E:ag->aq->Prop),s.heap.get? l=some o ->
  (∀ob St,U4 prog w A.in1 s.heap.objs.size [s.heap.objs.size,l] [s.heap.objs.size] items.size (λi v=>items[i]?=some v) St->St 0 (s.heap.push ob)->Q (.ref s.heap.objs.size) {s with heap:=s.heap.push ob})->au (az prog w) A (rG (.ref l)) Q E s
def wR{T:String}{l:ak}{H:Obj}{items:Array ag}{xs:List Str}{Q:ag->aq->Prop}
  (B:Yr prog w A.in1.in1 T l H items) (y:s.heap.get? l=some H) (X:∀(i:Nat) (v:ag),items[i]?=some v->∃x t,xs[i]?=some x/\v=lc x t) (hx:xs.length=items.size) (Y:items.size+1<iA)
  (h:∀(h':bP) (k:Nat),nq w h' s.heap.objs.size (dY [] xs)->(∀b o,s.heap.get? b=some o->h'.get? b=some o)->Q (.ref s.heap.objs.size) {s with heap:=h',toks:=k}):
  au (az prog w) A (call (.type "set") [.ref l]) Q E s:=by
 obtain⟨c,tl,P⟩:=F.called_set.mro;have G:=F.called_set.made;have O:=F.called_set.sub;refine Ap (wy ?_);show au _ _ (callAny (.type "set") _) _ _ _;refine a9 ⟨Pb _ ∎,eX F.entry_type_call ?_⟩;rw[Around.under_plain (weight_type_call_type "set" [.ref l] []) rfl];have h1:=F.called_set.notType;have h2:=F.called_set.canCreate;have a0:=F.typeCall_set_1 (.ref l);repeat (any_goals (first|assumption|wp_step))
 refine k_ (Ql (.ref l) (E:=E) (Q₁:=λm d=>m=.ref s.heap.objs.size/\d={s with heap:=s.heap.push (gV w)}) ⟨rfl,rfl⟩) λr d q=>?_;cases r with
 |error e=>exact q
 |ok U=>
  cases U with
  |ret m=>
   obtain⟨rfl,rfl⟩:=q;have N:(s.heap.push (gV w)).get? s.heap.objs.size=some (gV w):=aD _ rfl;have hT:U6 {s with heap:=s.heap.push (gV w)} (.ref s.heap.objs.size) "set":=⟨_,N,rfl⟩;have S:=F.called_set.init.lookup;have a1:=F.called_set.init.bind (.ref s.heap.objs.size);repeat (any_goals (first|assumption|wp_step))
   refine k_ (y8 (R:=wants (λr f=>r=.none/\∃h' k,f={s with heap:=h',toks:=k}/\nq w h' s.heap.objs.size (dY [] xs) /\
     (∀b o,s.heap.get? b=some o->h'.get? b=some o)) E) F.called_set.init.plain F.entry_set_init (check_set_init_1 hT ?_)) λp f a=>?_
   ·obtain⟨oc,od,I,L⟩:=H;obtain⟨ty,s1,s2,nd,iter⟩:=B;have ty:oc=.type T:=ty;subst ty;have u:(s.heap.push (gV w)).get? l=some {cls:=.type T,dict:=od,data:=I,slots:=L}:=af _ y;unfold iB.«set.__init__» noKeywords l5;generalize K:rG=PI;wp_walk;subst K;refine iter {s with heap:=s.heap.push (gV w)} _ _ u λob St W st=>?_;have z:l<s.heap.objs.size:=av y;refine a7 (y9 ?_);have n:(s.heap.push (gV w)).objs.size=s.heap.objs.size+1:=cF ..;refine Ct (A:=A.in1.in1) W s.heap.objs.size (by rw[n];simp only[aW,br,or_false,not_or];exact⟨aO (gX _),dZ z⟩) xs hx X Y items.size 0 _ [] ∅ (cu _) (aw _) st (Dr w (af _ N)) λh' k kp j=>?_;show au _ _ _ _ _ _;refine a9 ?_;show au _ _ (ret dO) _ _ _;refine a9 ⟨rfl,h',k,rfl,j,λb o e=>kp b o ?_ (af _ (af _ e))⟩;have:=av e;rw[n];simp only[aW,br,or_false,not_or];exact⟨aO this,aO (gj this)⟩
   ·cases p with
    |error e=>exact a
    |ok g=>
     cases g with
     |ret r=>
      obtain⟨rfl,h',k,rfl,j,M⟩:=a;repeat (any_goals (first|assumption|wp_step))
      exact h _ _ j M
     |next=>exact a.elim
     |brk=>exact a.elim
     |cont=>exact a.elim
  |next=>exact q.elim
  |brk=>exact q.elim
  |cont=>exact q.elim
def Qm{l:ak}{o:Obj}{a:List ag}(d:A.handled=none)(b:o.cls=.type "list")(c:∃n,o.data=.seq a.toArray n):Yr prog w A "list" l o a.toArray:=
 ⟨b,F.sub_list_set,F.sub_list_frozenset,by decide,λs Q E e h=>sW ⟨_,e,b,c⟩
  (h _ _ (Nr (by simpa using d) _ l (aO (av e)) a.toArray) ⟨⟨_,aD _ rfl,rfl,rfl⟩,⟨_,af _ e,b,c⟩⟩)⟩
def UT{l:ak}{o:Obj}{a:List ag}(d:A.handled=none)(b:o.cls=.type "tuple")(c:∃n,o.data=.seq a.toArray n):Yr prog w A "tuple" l o a.toArray:=
 ⟨b,F.sub_tuple_set,F.sub_tuple_frozenset,by decide,λs Q E e h=>ic ⟨_,e,b,c⟩
  (h _ _ (Walks.tuple (by simpa using d) _ l (aO (av e)) a.toArray) ⟨⟨_,aD _ rfl,rfl,rfl⟩,⟨_,af _ e,b,c⟩⟩)⟩
end L2
namespace L2
open PySem PySem.Spec PyProof.Rows
namespace SI
def entry_iter:U7 table "set.__iter__"=some iB.«frozenset.__iter__»:=
 JV (id':="frozenset.__iter__") (by kernel_rfl) rfl ∎ (by kernel_rfl)
def slot_next:Slot "set_iterator" "__next__" "set_iterator.__next__":=by
 refine .of (owner:="set_iterator") (n:="__next__") ?_ ?_ ?_ ?_ ?_ ?_
 ·rw[typeLookup_type,TJ];kernel_rfl
 ·decide +kernel
 ·decide +kernel
 ·decide +kernel
 ·first
   |exact .inl ∎
   |exact .inr ∎
 ·rw[JX];kernel_rfl
def entry_next:U7 table "set_iterator.__next__"=some iB.«set_iterator.__next__»:=
 entryFor_of_tree (by kernel_rfl)
def GY:Manifest.owners.lookup (String.ofList ['r','o','t','a','r','e','t','i','_','t','e','s'].reverse)=some Manifest.sig_set_iterator:=by kernel_rfl
def args_next(a:ag):argsOk "set_iterator.__next__" ⟨[a],[]⟩:=by
 unfold argsOk;rw[signature?_of (id:="set_iterator.__next__") (n:=['_','_','t','x','e','n','_','_']) (o:=['r','o','t','a','r','e','t','i','_','t','e','s']) (by kernel_rfl) GY]
 kernel_rfl
def args_iter(a:ag):argsOk "set_iterator.__iter__" ⟨[a],[]⟩:=by
 unfold argsOk;rw[signature?_of (id:="set_iterator.__iter__") (n:=['_','_','r','e','t','i','_','_']) (o:=['r','o','t','a','r','e','t','i','_','t','e','s']) (by kernel_rfl) GY]
 kernel_rfl
def entry_self:U7 table "set_iterator.__iter__"=some iB.«dict_keyiterator.__iter__»:=
 JV (id':="dict_keyiterator.__iter__") (by kernel_rfl) rfl ∎ (by kernel_rfl)
def slot_iter:Slot "set_iterator" "__iter__" "set_iterator.__iter__":=by
 refine .of (owner:="set_iterator") (n:="__iter__") ?_ ?_ ?_ ?_ ?_ ?_
 ·rw[typeLookup_type,TJ];kernel_rfl
 ·decide +kernel
 ·decide +kernel
 ·decide +kernel
 ·first
   |exact .inl ∎
   |exact .inr ∎
 ·rw[JX];kernel_rfl
end SI
end L2
namespace L2
open PySem PySem.Spec PyProof.Rows
theorem vN{α:Type}:∀{l:List α}{i:Nat} (h:i<l.length),(l[i]::l.eraseIdx i).Perm l
 |x::r,0,_=>.refl _
 |x::r,i+1,h=>by
  have q:=vN (l:=r) (i:=i) (by simpa using h);rw[List.getElem_cons_succ,List.eraseIdx_cons_succ];exact(zJ _ _ _).trans (q.cons x)
def NT(a:n≠0)(h:∀i d,i<n->Q i {s with drawn:=d}):au M A (choose src n) Q E s:=
 λ_ _ _=>⟨a,h _ _ (mU _ (Nat.pos_of_ne_zero a))⟩
theorem wS{α:Type}:∀(n:Nat) (xs:List α) (s:aq) (Q:List α->aq->Prop),n=xs.length->(∀ys d,ys.Perm xs->Q ys {s with drawn:=d})->au M A (drawOrder n xs) Q E s
 | 0,xs,s,Q,a,h=>by
  obtain rfl:xs=[]:=List.length_eq_zero_iff.mp a.symm;exact a9 (h [] s.drawn .nil)
 |n+1,[],s,Q,a,h=>by cases a
 |n+1,x::r,s,Q,a,h=>by
  show au M A (choose .order (x::r).length>>=_) Q E s;refine a7 (NT (by simp) λi d b=>?_);rw[bt b];refine a7 (wS n _ _ _ (by rw[D8 b];omega) λys d' p=>a9 ?_);exact h _ _ ((p.cons _).trans (vN b))
theorem M9{α:Type}(next:Nat->Nat):∀(n k:Nat) (left:List α) (out:Array α),n=left.length->(Cc next n k left out).toList.Perm (out.toList++left)
 | 0,k,left,out,hn=>by
  obtain rfl:left=[]:=List.length_eq_zero_iff.mp hn.symm;rw[Cc,ck]
 |n+1,k,left,out,hn=>by
  have a:next k % left.length<left.length:=mU _ ∅
  rw[Cc,bt a];refine(M9 next n (k+1) _ _ (by rw[D8 a];omega)).trans ?_;rw[Pa,z9];exact(vN a).append_left _
def yp{α:Type}(next:Nat->Nat)(xs:Array α):(rq next xs).toList.Perm xs.toList:=by
 have:=M9 next xs.size 0 xs.toList #[] (by simp)
 simpa[rq] using this
def EQ(h:bP)(I S:ak)(first:ag)(i n a:Nat):Prop:=h.get? I=some {cls:=.type "set_iterator",data:=.fields #[first,.int i 0,.ref S,.int n 0,.int a 0]}
def EQ.put{f c:ag}{j b:Nat}{k:Nat}{x:ag}{h:bP}(a:EQ h I S f j n ep)(e:(#[f,.int j 0,.ref S,.int n 0,.int ep 0]:Array ag).setIfInBounds k x=#[c,.int b 0,.ref S,.int n 0,.int ep 0]):
  EQ (h.update I (ft (·.setIfInBounds k x))) I S c b n ep:=by
 have q:=eB (ft (·.setIfInBounds k x)) a rfl;unfold EQ;rw[q];show some ({cls:=.type "set_iterator",data:=.fields ((#[f,.int j 0,.ref S,.int n 0,.int ep 0]:Array ag).setIfInBounds k x)}:Obj)=_;rw[e]
def ES{B:cg}{Q:Option ag->aq->Prop}{Q':Fin->aq->Prop}{o:Obj}{d:Array ag}(f:B.handled=none)(ho:s.heap.get? I=some o)(i:o.data=.fields d)(g:2<d.size)
  (h:∀h',LR I s.heap h'->Q none {s with heap:=h'}):
  au (az prog w) B (do j7 (.ref I) 2 .none;uV (<- vC (.type "StopIteration") []))
   Q' (λe s'=>au (az prog w) A (At e (.type "StopIteration")) (λb c=>b=true/\Q none c) E s') s:=by
 refine a7 (ii ho i g ?_);show au _ _ (vC (.type "StopIteration") []>>=_) _ _ _;refine a7 ?_;simp only[vC,U8];refine a7 (bu ?_ (by size_fits));refine a7 (m:=mV _ _) (eM (a:=dO) ?_ ?_)
 ·first
   |rfl
   |(simp only[mV];rfl)
 refine bu ?_ (by size_fits);simp only[uV];refine a7 (Nt ?_);rw[f];refine a7 (a9 (U9 ?_));refine i0 (T:="StopIteration") (b:=true) ⟨_,aD _ rfl,rfl⟩ yc ⟨rfl,?_⟩;exact h _ (((bB ..).extBut.push _).push _)
section
variable{prog:bd}{w:bz}{A:cg}{E:ag->aq->Prop}{s:aq}{I S:ak}{es:Array (Int×ag)}{ep:Nat}{t:eR}{i n:Nat}{first:ag}
def fu.keep(x:fu w h S es ep t)(k:∀o,h.get? S=some o->h'.get? S=some o):fu w h' S es ep t:=⟨k _ x.at_,x.txt,x.nd,x.few,x.fits,x.led,x.pl⟩
def ET{Q:ag->aq->Prop}(a:EQ s.heap I S first i n ep)(h:Q (.ref I) s):au (az prog w) A (rG (.ref I)) Q E s:=by
 refine Cd ⟨_,a,rfl⟩ SI.slot_iter (bE SI.slot_iter ⟨_,a,rfl⟩ SI.entry_self ?_ (SI.args_iter _));show au _ _ (ret (.ref I)) _ _ s;exact a9 ⟨_,rfl,"set_iterator",_,⟨_,a,rfl⟩,SI.slot_next.lookup,h⟩
def gF{Q:Bool->aq->Prop}{B:cg}(h:Q (w.params.followText "set-order") s):au (az prog w) B setsByText Q E s:=by
 unfold setsByText;exact a7 (h_ (a9 h))
def Qn{B:cg}{Q':Fin->aq->Prop}{x:ag}{nx:Nat}{c:ag->aq->Prop}(a:EQ s.heap I S first i n ep)
  (h:∀h',EQ h' I S (.int nx 0) (i+1) n ep->bG I s.heap h'->Q' (.done (.ret x)) {s with heap:=h'}):
  au (az prog w) B (do j7 (.ref I) 0 (cJ nx);j7 (.ref I) 1 (cJ (i+1));ret x) Q' c s:=by
 refine a7 (ii a rfl (by simp) ?_);have b:EQ (s.heap.update I (ft (·.setIfInBounds 0 (cJ nx)))) I S (.int nx 0) i n ep:=a.put (by simp[cJ]);refine a7 (ii b rfl (by simp) ?_);have d:EQ ((s.heap.update I (ft (·.setIfInBounds 0 (cJ nx)))).update I (ft (·.setIfInBounds 1 (cJ (i+1))))) I S (.int nx 0) (i+1) n ep:=b.put (by simp[cJ]);exact a9 (h _ d ((bB ..).trans (bB ..)))
def yq(f:Nat->Nat)(es:Array (Int×ag)):(rq f es).size=es.size:=by
 rw[<- ax,(yp f es).length_eq,ax]
inductive SPl (h:bP) (T:ak) (ps:List Nat):Prop
 |mk (o k:_) (h0:h.get? T=some o) (h1:o.data=.seq (ps.map λ(p:Nat)=>rF (p:Int) 0).toArray k):SPl h T ps
def Qo(h:p=#[j]):cm p 0=0:=by subst h;simp[cm,mW]
def Qp{p:Array Nat}{j:Nat}(h:p=#[j]):cm p (j+1)=1:=by subst h;simp[cm,mW]
theorem NU(h:t.fits 1 = true):∃j,t.place = #[j]:= by
  have a:t.place.size = 1:= by
    simp only[k7,aR,beq_iff_eq] at h; exact h.1
  exact ⟨t.place[0], by apply Array.ext; · simp [a]
                        · intro i c b; have:i = 0:= by omega
                          subst this; simp⟩
def Ys(a:t.led=true)(h:au (az prog w) B (k ()) Q E s):
  au (az prog w) B ((if(!t.led && !es.isEmpty)=true then oV "set:maker-not-led" else pure ())>>=k) Q E s:=by
 rw[if_neg (by rw[a];simp)];exact a7 (a9 h)
end
structure lT (w:bz) (h:bP) (a:ak) (es:Array (Int×ag)) (ep:Nat) (t:eR):Prop where
 at_:h.get? a=some {cls:=.type "set",dict:=none,data:=.set es ep t}
 few:es.size<iA
 fits:t.fits es.size=true
 led:t.led=!w.params.followText "set-order"
 pl:es.size=0\/t.plain=false
def lT.keep(x:lT w h S es ep t)(k:∀o,h.get? S=some o->h'.get? S=some o):lT w h' S es ep t:=⟨k _ x.at_,x.few,x.fits,x.led,x.pl⟩
def qQ(c:EQ s.heap I S first i n ep)(f:lT w s.heap S es ep t)(g:n=es.size)
  (h:au (az prog w) A.in1 (do
   if let .int slot _:=first then
    match <- Pq S slot.toNat i ep with
    |some (x,next)=>
     j7 (.ref I) 0 (cJ next)
     j7 (.ref I) 1 (cJ (i+1))
     ret x
    |none=>j7 (.ref I) 2 .none;uV (<- vC (.type "StopIteration") [])
   else
    let some places <- Pc first|oV "internal:set_iterator"
    match places[i]? with
    |some (.int a _)=>
     let x <- setNextDrawn S a.toNat ep
     j7 (.ref I) 1 (cJ (i+1))
     ret x
    |some _=>oV "internal:set_iterator"
    |none=>j7 (.ref I) 0 (cJ 0);j7 (.ref I) 2 .none;uV (<- vC (.type "StopIteration") []))
   (λfin s'=>∃v,fin=.done (.ret v)/\Q (some v) s') (λe s'=>au (az prog w) A (At e (.type "StopIteration")) (λb d=>b=true/\Q none d) E s') s):
  au (az prog w) A (nY (.ref I)) Q E s:=by
 unfold nY;refine a7 (iG ?_);refine cy (name:=gO "__next__") ⟨_,c,rfl⟩ SI.slot_next ?_;refine bE SI.slot_next ⟨_,c,rfl⟩ SI.entry_next ?_ (SI.args_next _);show au _ _ (fieldsOf (.ref I)>>=_) _ _ s;refine a7 (JY c rfl ?_);show au _ _ (setEntries S>>=_) _ _ s;refine a7 (wpAny_setEntries_of f.at_ rfl f.fits ?_);rw[if_neg (by rw[g];simp)];refine cn h (λfin s' z=>?_) λe s' z=>?_
 ·obtain⟨v,rfl,q⟩:=z;exact⟨v,rfl,a9 q⟩
 ·refine a7 (cn z (λb d ⟨j,q⟩=>?_) λ_ _ z=>z);subst j;exact a9 q
def GZ(q:A.handled=none)(g:w.params.followText "set-order"=true)(j:S≠I):
  U4 prog w A I [I,S] [I] es.size (λi v=>((rq (w.params.setOrder S ep) es).toList.map (·.2))[i]?=some v) (λi h=>EQ h I S (.int 0 0) i es.size ep/\lT w h S es ep t) where
 sub:=λb d=>by simp at d;simp[d]
 frame:=λi h h' st k=>⟨k I (by simp) _ st.1,st.2.keep λo e=>k S (by simp) o e⟩
 item:=λi s Q E p st l=>by
  obtain⟨c,a⟩:=st;refine qQ c a rfl ?_;dsimp only;unfold Pq setWalk;refine a7 (a7 (bj a.at_ rfl a.fits (a7 (gF ?_))));rw[g];simp only[if_true,bne_self_eq_false,bg,if_false];refine a7 (a7 (bj a.at_ rfl a.fits (a7 (gF ?_))));rw[g];simp only[if_true];refine a7 (h_ (a9 (a9 ?_)));have f:i<(rq (w.params.setOrder S ep) es).size:=by rw[yq];exact p
  show au _ _ (match ((rq (w.params.setOrder S ep) es)[i]?).map λe=>(e.2,(0:Int).toNat) with
   |some (x,next)=>do j7 (.ref I) 0 (cJ next);j7 (.ref I) 1 (cJ (i+1));ret x
   |none=>do j7 (.ref I) 2 .none;uV (<- vC (.type "StopIteration") [])) _ _ s
  rw[getElem?_pos _ i f];refine Qn (nx:=0) c λh' n m=>⟨_,rfl,l _ h' s.toks ?_ ⟨n,a.keep λo e=>(m.2 S j).trans e⟩ λb o d e=>(m.2 b λz=>d (by simp[z])).trans e⟩;simp[f]
 done:=λs Q E st l=>by
  obtain⟨c,a⟩:=st;refine qQ c a rfl ?_;dsimp only;unfold Pq setWalk;refine a7 (a7 (bj a.at_ rfl a.fits (a7 (gF ?_))));rw[g];simp only[if_true,bne_self_eq_false,bg,if_false];refine a7 (a7 (bj a.at_ rfl a.fits (a7 (gF ?_))));rw[g];simp only[if_true];refine a7 (h_ (a9 (a9 ?_)));show au _ _ (match ((rq (w.params.setOrder S ep) es)[es.size]?).map λe=>(e.2,(0:Int).toNat) with
   |some (x,next)=>do j7 (.ref I) 0 (cJ next);j7 (.ref I) 1 (cJ (es.size+1));ret x
   |none=>do j7 (.ref I) 2 .none;uV (<- vC (.type "StopIteration") [])) _ _ s
  rw[getElem?_neg _ es.size (by rw[yq];exact cB _)];exact ES (by simpa using q) c rfl (by simp) λh' u=>l h' s.toks λb o d e=>u b o (λz=>d (by simp[z])) e
 self:=λi s Q E st h=>ET st.1 h
def EU(y:A.handled=none)(n:S≠I)(hT:T≠I)(B:∀p∈ps,p<es.size)(x:ps.length=es.size):
  U4 prog w A I [I,S,T] [I] es.size (λi v=>(ps.map λp=>(es.getD p (0,.none)).2)[i]?=some v) (λi h=>EQ h I S (.ref T) i es.size ep/\lT w h S es ep t/\SPl h T ps) where
 sub:=λb f=>by simp at f;simp[f]
 frame:=λi h h' st k=>⟨k I (by simp) _ st.1,st.2.1.keep λo e=>k S (by simp) o e,let ⟨o,q,e,d⟩:=st.2.2;⟨o,q,k T (by simp) o e,d⟩⟩
 item:=λi s Q E H st u=>by
  obtain⟨a,g,o,q,e,d⟩:=st;refine qQ a g rfl ?_;dsimp only;refine a7 (eS e d ?_);have c:i<ps.length:=by omega
  dsimp only;rw[show((ps.map λ(p:Nat)=>rF (p:Int) 0).toArray)[i]?=some (.int (ps[i]:Nat) 0) by simp[c]];dsimp only;unfold setNextDrawn;refine a7 (a7 (bj g.at_ rfl g.fits ?_));have l:=B ps[i] (mO c);simp only[bne_self_eq_false,bg,if_false,lW];rw[getElem?_pos es ps[i] l];refine a9 ?_;refine a7 (ii a rfl (by simp) ?_);have m:EQ (s.heap.update I (ft (·.setIfInBounds 1 (cJ (i+1))))) I S (.ref T) (i+1) es.size ep:=a.put (by simp[cJ]);have j:bG I s.heap (s.heap.update I (ft (·.setIfInBounds 1 (cJ (i+1))))):=bB ..;refine a9 ⟨_,rfl,u _ _ s.toks ?_ ⟨m,g.keep λo e=>(j.2 S n).trans e,o,q,(j.2 T hT).trans e,d⟩ λb o f e=>(j.2 b λz=>f (by simp[z])).trans e⟩;simp[c,l]
 done:=λs Q E st u=>by
  obtain⟨a,g,o,q,e,d⟩:=st;refine qQ a g rfl ?_;dsimp only;refine a7 (eS e d ?_);dsimp only;rw[show((ps.map λ(p:Nat)=>rF (p:Int) 0).toArray)[es.size]?=none by simp[<- x]];dsimp only;refine a7 (ii a rfl (by simp) ?_);have m:EQ (s.heap.update I (ft (·.setIfInBounds 0 (cJ 0)))) I S (.int 0 0) es.size es.size ep:=a.put (by simp[cJ]);have j:bG I s.heap (s.heap.update I (ft (·.setIfInBounds 0 (cJ 0)))):=bB ..;exact ES (s:={s with heap:=s.heap.update I (ft (·.setIfInBounds 0 (cJ 0)))}) (by simpa using y) m rfl (by simp) λh' G=>u h' s.toks λb o f e=>G b o (λz=>f (by simp[z])) ((j.2 b λz=>f (by simp[z])).trans e)
 self:=λi s Q E st h=>ET st.1 h
def vk(b:w.params.followText "set-order"=false)(a:lT w s.heap S es ep t)(d:es.size<=1)
  (h:Q (match es[cm t.place slot]?,t.place[cm t.place slot]? with|some (_,x),some j=>some (x,j+1)|_,_=>none) s):au (az prog w) B (Pq S slot g ep) Q E s:=by
 unfold Pq;refine a7 (bj a.at_ rfl a.fits (a7 (gF ?_)));rw[b];simp only[bg,if_false];split
 ·rename_i z
  exact absurd (show(!t.plain&&decide (es.size > 1))=true from z) (by simp;omega)
 ·have c:t.led=true:=by rw[a.led,b];rfl
  exact Ys c (a9 h)
def Kw(K:A.handled=none)(u:w.params.followText "set-order"=false)(p:S≠I)(m:es.size<=1):
  U4 prog w A I [I,S] [I] es.size (λi v=>(es.toList.map (·.2))[i]?=some v)
   (λi h=>∃k,EQ h I S (.int (k:Nat) 0) i es.size ep/\lT w h S es ep t/\(i=0->k=0)/\(i=1->es.size=1->∃j,t.place=#[j]/\k=j+1)) where
 sub:=λb f=>by simp at f;simp[f]
 frame:=λi h h' st k=>let ⟨c,a1,a2,a3⟩:=st;⟨c,k I (by simp) _ a1,a2.keep λo e=>k S (by simp) o e,a3⟩
 item:=λi s Q E M st q=>by
  obtain⟨c,a,d,x,y⟩:=st;have n:i=0:=by omega
  subst n;obtain rfl:c=0:=x rfl;have g:es.size=1:=by omega
  obtain⟨j,l⟩:=NU (t:=t) (by rw[<- g];exact d.fits);refine qQ a d rfl ?_;dsimp only;refine a7 (vk u d m ?_);rw[show(((0:Nat):Int).toNat)=0 from rfl,Qo l,getElem?_pos es 0 ∅,l];refine Qn (nx:=j+1) a λh' m B=>⟨_,rfl,q _ h' s.toks ?_ ⟨j+1,m,d.keep λo e=>(B.2 S p).trans e,by simp,λ_ _=>⟨j,l,rfl⟩⟩ λb o f e=>(B.2 b λz=>f (by simp[z])).trans e⟩;simp[g]
 done:=λs Q E st q=>by
  obtain⟨c,a,d,x,y⟩:=st;refine qQ a d rfl ?_;dsimp only;refine a7 (vk u d m ?_);have G:es[cm t.place ((c:Nat):Int).toNat]?=none:=by
   rcases Nat.eq_zero_or_pos es.size with z|z
   ·rw[getElem?_neg];omega
   ·have g:es.size=1:=by omega
    obtain⟨j,l,H⟩:=y g g;rw[H,show(((j+1:Nat):Int).toNat)=j+1 from rfl,Qp l,getElem?_neg];omega
  rw[G];exact ES (by simpa using K) a rfl (by simp) λh' L=>q h' s.toks λb o f e=>L b o (λz=>f (by simp[z])) e
 self:=λi s Q E st h=>let ⟨_,a1,_⟩:=st;ET a1 h
def G_(X:A.handled=none)(g:lT w s.heap S es ep t)
  (h:∀(I:ak) (l:List ak) (a:List ag) (St:Nat->bP->Prop) (h':bP) (d:P7),s.heap.objs.size<=I->(∀b∈l,b=S\/s.heap.objs.size<=b)->(∀b∈l,b<h'.objs.size)->a.Perm (es.toList.map (·.2))->(∀B:cg,B.handled=none->U4 prog w B I l [I] a.length (λi v=>a[i]?=some v) St)->St 0 h' ->
   (∀b o,s.heap.get? b=some o->h'.get? b=some o)->U6 {s with heap:=h',drawn:=d} (.ref I) "set_iterator"->Q (.ref I) {s with heap:=h',drawn:=d}):au (az prog w) A (rG (.ref S)) Q E s:=by
 have hT:s.TypeIs (.ref S) "set":=⟨_,g.at_,rfl⟩;have m:=av g.at_;refine Cd hT F.slot_set_iter (bE F.slot_set_iter hT SI.entry_iter ?_ (F.args_set_iter_1 _));show au _ _ (vD S>>=_) _ _ s;unfold vD;refine a7 (a7 (wpAny_setEntries_of g.at_ rfl g.fits (a9 ?_)));show au _ _ (setDrawn S>>=_) _ _ s;unfold setDrawn;refine a7 (a7 (bj g.at_ rfl g.fits (a7 (gF (a9 ?_)))));have fin:∀(first:ag) (l:List ak) (a:List ag) (St:Nat->bP->Prop) (h':bP) (d:P7),(∀b o,s.heap.get? b=some o->h'.get? b=some o)->s.heap.objs.size<=h'.objs.size ->
   (∀b∈l,b=S\/b=h'.objs.size\/(s.heap.objs.size<=b/\b<h'.objs.size))->a.Perm (es.toList.map (·.2))->(∀B:cg,B.handled=none->U4 prog w B h'.objs.size l [h'.objs.size] a.length (λi v=>a[i]?=some v) St) ->
   (∀c:bP,(∀b o,h'.get? b=some o->c.get? b=some o)->EQ c h'.objs.size S first 0 es.size ep->St 0 c) ->
   au (az prog w) A.in1 (setEpoch S>>=λe=>newFields "set_iterator" [first,cJ 0,.ref S,cJ es.size,cJ e]>>=λx=>ret x) (λfin s'=>∃v,fin=.done (.ret v)/\∃P r,s'.TypeIs v P/\JH (.type P) "__next__"=pure (some r)/\Q v s') E {s with heap:=h',drawn:=d}:=by
  intro first l a St h' d kp hsz q H W st
  have u:lT w h' S es ep t:=g.keep λo e=>kp S o e;refine a7 (wpAny_setEpoch_of (s:={s with heap:=h',drawn:=d}) u.at_ rfl u.fits ?_);refine a7 (bu ?_ (by size_fits));have O:∀b o,h'.get? b=some o->(h'.push {cls:=.type "set_iterator",dict:=none,data:=.fields #[first,cJ 0,.ref S,cJ es.size,cJ ep]}).get? b=some o:=λb o e=>af _ e;have it:(h'.push {cls:=.type "set_iterator",dict:=none,data:=.fields #[first,cJ 0,.ref S,cJ es.size,cJ ep]}).get? h'.objs.size=some {cls:=.type "set_iterator",dict:=none,data:=.fields #[first,cJ 0,.ref S,cJ es.size,cJ ep]}:=aD _ rfl;refine a9 ⟨_,rfl,"set_iterator",_,⟨_,it,rfl⟩,SI.slot_next.lookup,h h'.objs.size l a St _ d hsz (λb f=>?_) (λb f=>?_) H W (st _ O it) (λb o e=>O b o (kp b o e)) ⟨_,it,rfl⟩⟩
  ·rcases q b f with z|z|z
   ·exact .inl z
   ·exact .inr (by rw[z];exact hsz)
   ·exact .inr z.1
  ·rw[cF];rcases q b f with z|z|z
   ·rw[z];exact gj (aK m hsz)
   ·rw[z];exact gX _
   ·exact gj z.2
 dsimp only;split
 ·rename_i z
  have z:(!w.params.followText "set-order" && (!t.plain&&decide (es.size > 1)))=true:=z;refine a7 (wS _ _ _ _ (by simp) λys d H=>?_);simp only[U8];have K:ys.length=es.size:=by have:=H.length_eq;rwa[dG] at this
  have U:=gN g.few;refine a7 (bu ?_ (by show(ys.map λ(i:Nat)=>cJ i).toArray.size<=sizeLine;simp;omega));have n:∀ob:Obj,(s.heap.push ob).objs.size=s.heap.objs.size+1:=λob=>cF ..;refine fin (.ref s.heap.objs.size) [s.heap.objs.size+1,S,s.heap.objs.size] (ys.map λp=>(es.getD p (0,.none)).2)
   (λi h=>EQ h (s.heap.objs.size+1) S (.ref s.heap.objs.size) i es.size ep/\lT w h S es ep t/\SPl h s.heap.objs.size ys) (s.heap.push _) d
   (λb o e=>af _ e) (by rw[n];exact ir _) (λb f=>?_) ?_ (λB L=>?_) (λc k it=>⟨by rw[n] at it;exact it,g.keep λo e=>k S o (af _ e),_,_,k _ _ (aD _ rfl),rfl⟩)
  ·simp only[aW,br,or_false] at f;rcases f with y|y|y
   ·exact .inr (.inl (by rw[n];exact y))
   ·exact .inl y
   ·exact .inr (.inr ⟨by rw[y];exact aw _,by rw[n,y];exact gX _⟩)
  ·refine(H.map _).trans (.of_eq ?_);apply mP
   ·simp
   ·intro k M Y;have:k<es.size:=by simpa using M
    simp[this]
  ·rw[ah,K,n];exact EU L (aO (gj m)) (aO (gX _)) (λp T=>List.mem_range.mp (H.mem_iff.mp T)) K
 ·rename_i z
  have z:¬ (!w.params.followText "set-order" && (!t.plain&&decide (es.size > 1)))=true:=z;refine a7 (a9 ?_);have G:S≠s.heap.objs.size:=aO m;cases N:w.params.followText "set-order" with
  |true=>
   refine fin (cJ 0) [s.heap.objs.size,S] ((rq (w.params.setOrder S ep) es).toList.map (·.2)) (λi h=>EQ h s.heap.objs.size S (.int 0 0) i es.size ep/\lT w h S es ep t) s.heap s.drawn (λ_ _ e=>e) (aw _) (λb f=>?_) ((yp _ es).map _) (λB L=>?_) (λc k it=>⟨it,g.keep λo e=>k S o e⟩)
   ·simp only[aW,br,or_false] at f;exact f.elim (λz=>.inr (.inl z)) .inl
   ·rw[ah,ax,yq];exact GZ L N G
  |false=>
   have M:es.size<=1:=by
    rw[N] at z;rcases g.pl with y|y
    ·omega
    ·rw[y] at z;simpa using z
   refine fin (cJ 0) [s.heap.objs.size,S] (es.toList.map (·.2)) (λi h=>∃k,EQ h s.heap.objs.size S (.int (k:Nat) 0) i es.size ep/\lT w h S es ep t/\(i=0->k=0)/\(i=1->es.size=1->∃j,t.place=#[j]/\k=j+1)) s.heap s.drawn (λ_ _ e=>e) (aw _) (λb f=>?_) (.refl _) (λB L=>?_) (λc k it=>⟨0,it,g.keep λo e=>k S o e,λ_=>rfl,λy=>by cases y⟩)
   ·simp only[aW,br,or_false] at f;exact f.elim (λz=>.inr (.inl z)) .inl
   ·rw[ah,ax];exact Kw L N G M
def wT(X:A.handled=none)(N:lT w s.heap S es ep t)
  (h:∀(a:List ag) (h':bP) (d:P7) (tk:Nat),a.Perm (es.toList.map (·.2))->(∀b o,s.heap.get? b=some o->h'.get? b=some o)->s.heap.objs.size<=h'.objs.size->Q a {s with heap:=h',drawn:=d,toks:=tk}):
  au (az prog w) A (vE (.ref S)) Q E s:=by
 have B:=av N.at_;unfold vE;refine a7 (y9 (eX vF ?_));rw[dM vG _];show au _ A.in1 (Jk []>>=λl=>again (.builtin "list.__iadd__" ⟨[l,.ref S],[]⟩)) _ _ s;refine a7 (bu ?_);refine a9 ⟨oQ jQ _,eX Au ?_⟩;rw[dM jQ _];let s1:aq:={s with heap:=s.heap.push {cls:=.type "list",data:=.seq ([]:List ag).toArray}}
 have p:s1.heap.objs.size=s.heap.objs.size+1:=cF ..;have H:s1.heap.get? s.heap.objs.size=some {cls:=.type "list",data:=.seq ([]:List ag).toArray}:=aD _ rfl;have k:lT w s1.heap S es ep t:=N.keep λo e=>af _ e;show au _ A.in1 (iH (.ref s.heap.objs.size) (.ref S) (.ref s.heap.objs.size)) _ _ s1;have K:s1.TypeIs (.ref S) "set":=⟨_,k.at_,rfl⟩;unfold iH;refine a7 (mT K ?_);have e1:zd (.ref s.heap.objs.size) (.ref S)=false:=by simp[zd,dZ B]
 have e2:(jD "set" == jD "list")=false:=by decide
 have e3:(jD "set" == jD "tuple")=false:=by decide
 simp only[e1,e2,e3,Bool.or_false,bg,if_false];refine a7 (G_ (A:=A.in1) (by simpa using X) k λI fp a St h' d hI L a0 Y W st kp tI=>?_);let f:aq:={s1 with heap:=h',drawn:=d}
 have O:lT w f.heap S es ep t:=k.keep λo e=>kp S o e;have n:f.TypeIs (.ref S) "set":=⟨_,O.at_,rfl⟩;refine a7 (bY ?_);unfold Builtin.List.listLengthHint;refine a7 (Gw (s:=f) n F.slot_set_len.lookup ?_);dsimp only;rw[show splitId "set.__len__"=some ("set","__len__") from by decide +kernel];dsimp only;refine a7 (i0 (b:=true) (s:=f) n (by rw[JX];kernel_rfl) ?_);rw[if_neg ⋯,if_pos ⋯];refine a7 (mT (s:=f) n (a9 ?_));rw[if_pos ⋯];refine a7 (eI ?_);have nS:s.heap.objs.size∉fp:=λz=>by
  rcases L _ z with q|q
  ·exact absurd B (by rw[<- q];exact cB _)
  ·rw[p] at q;exact absurd q (Nat.not_succ_le_self _)
 have y:f.heap.get? s.heap.objs.size=some {cls:=.type "list",data:=.seq ([]:List ag).toArray}:=kp _ _ H;refine a7 ?_;show au _ A.in1 (updateSeq s.heap.objs.size (·.push .none)>>=λ_=>updateSeq s.heap.objs.size (·.pop)) _ _ f;refine a7 (wpAny_updateSeq y rfl ?_);have u:=eB (fN (·.push dO)) y rfl;refine wpAny_updateSeq u rfl ?_;have P:=eB (fN (·.pop)) u rfl;have x:∀b o,b≠s.heap.objs.size->f.heap.get? b=some o->((f.heap.update s.heap.objs.size (fN (·.push dO))).update s.heap.objs.size (fN (·.pop))).get? b=some o:=
  λb o g e=>(fo _ _ (dk g)).trans ((fo _ _ (dk g)).trans e)
 have zl:a.length<=sizeLine:=by rw[Y.length_eq,ah,ax];exact gN N.few
 have W1:=W A.in1 (by simpa using X);refine a9 ⟨oQ F.plain_extend_loop _,codeAny_extend_loopS (A:=A) W1.toS zl _ nS _ a.length 0 {f with heap:=(f.heap.update s.heap.objs.size (fN (·.push dO))).update s.heap.objs.size (fN (·.pop))} _ _ rfl (cu _) (W1.frame 0 _ _ st λb g o e=>x b o (λz=>nS (z ▸ g)) e) P (ItemsOf.nil _) λs' c c' G v i=>?_⟩;show au _ A (load s.heap.objs.size>>=_) _ _ s';refine a7 (Jx v (a9 ?_));have m:c.toList=a:=by
  apply Pr;intro j;rw[bH];by_cases T:j<c.size
  ·have:=i.2 j c[j] (by simp[T]);rw[this];simp[T]
  ·rw[getElem?_neg c j T,cU (by rw[<- i.1];omega)]
 rw[m];obtain⟨M,g3,d3,t3,o3⟩:=s';obtain rfl:g3=s.gens:=G.gens;obtain rfl:d3=d:=G.drawn;obtain rfl:o3=s.os:=G.os;have U:∀b o,s.heap.get? b=some o->M.get? b=some o:=λb o e=>by
  have g:=av e;refine G.heap b o ?_ (x b o (aO g) (kp b o (af _ e)));simp only[aW,br,or_false,not_or];exact⟨aO g,aO (aK g (by have q:=hI;rw[p] at q;exact Nat.le_of_succ_le q))⟩
 refine h a M _ t3 Y U ?_;have:=av (show M.get? s.heap.objs.size=some _ from v);exact bL this
def fu.an(x:fu w h S es ep t):lT w h S es ep t:=⟨x.at_,x.few,x.fits,x.led,x.pl⟩
def zf(v:au (az prog w) A.in1 (vE x) (λf s1=>∃ss,sX f ss/\f.length<64 /\
   ∀(h':bP) (g:List ag) (a:List Str) (e:Nat),(∀b o,s1.heap.get? b=some o->h'.get? b=some o)->h'.get? s1.heap.objs.size=some (jX "list" g.toArray e)->sX g a->a.Perm ss->sortedS a=true ->
    Q (.ref s1.heap.objs.size) {s1 with heap:=h'}) E s):au (az prog w) A (call (.builtin "sorted") [x]) Q E s:=by
 refine qm kind_sorted plain_sorted entry_sorted (args_sorted1 _) ?_;unfold iB.«sorted»;refine a7 (m:=checkCount "sorted" 1 1 _) (a9 ?_);refine a7 (cn v (λf s1 z=>?_) λ_ _ z=>z);obtain⟨ss,d,h,y⟩:=z;refine a7 (Nu ?_);have c:(s1.heap.push (jX "list" f.toArray 0)).get? s1.heap.objs.size=some (jX "list" f.toArray 0):=aD _ rfl;show au _ _ _ _ _ {s1 with heap:=s1.heap.push (jX "list" f.toArray 0)};refine a7 (bY (bE slot_list_sort ⟨_,c,rfl⟩ entry_list_sort (list_sort_treeK strKind_oneLt c d.keysOf (λk n bA e=>keyKind_strs (by rw[<- e];exact d)) h λi p G=>⟨_,rfl,?_⟩) (args_list_sort _)));obtain⟨a,B,t,u⟩:=sorted_out_str d p G;obtain⟨e,j⟩:=sortedHeap_at (out:=(bU i).map (·.2)) c;refine a9 ⟨_,rfl,y _ _ a e (λb o q=>?_) j B t u⟩;have l:=av q;rw[sortedHeap_old (aO l) (by rw[cF];exact gj l)];exact af _ q
def oR(x y:Str):Bool:=decide (x.cps.toList<y.cps.toList)
def Kx(x:Str):List Str->List Str
 |[]=>[x]
 |y::r=>if oR y x then y::Kx x r else x::y::r
def iW:List Str->List Str
 |[]=>[]
 |x::r=>Kx x (iW r)
theorem yr(x:Str):∀l,(Kx x l).Perm (x::l)
 |[]=>.refl _
 |y::r=>by
  rw[Kx];split
  ·exact((yr x r).cons y).trans (.swap ..)
  ·exact .refl _
theorem gR:∀l,(iW l).Perm l
 |[]=>.refl _
 |x::r=>(yr x _).trans ((gR r).cons x)
def kE(x:Str):oR x x=false:=decide_eq_false (List.lt_irrefl _)
def nQ(a:oR x y=true)(b:oR y z=true):oR x z=true:=
 decide_eq_true (List.lt_trans (of_decide_eq_true a) (of_decide_eq_true b))
def wU(a:oR x y=false)(b:oR y x=false):x=y:=by
 have a:¬ x.cps.toList<y.cps.toList:=of_decide_eq_false a;have b:¬ y.cps.toList<x.cps.toList:=of_decide_eq_false b;have:x.cps.toList=y.cps.toList:=List.le_antisymm (List.not_lt.mp b) (List.not_lt.mp a)
 cases x;cases y;exact congrArg Str.mk (Array.toList_inj.mp this)
abbrev Qq(l:List Str):Prop:=l.Pairwise λa b=>oR b a=false
theorem Qr(x:Str):∀l,Qq l->Qq (Kx x l)
 |[],_=>by simp[Kx,Qq]
 |y::r,h=>by
  obtain⟨d,g⟩:=List.pairwise_cons.mp h;rw[Kx];split
  ·rename_i b
   refine List.pairwise_cons.mpr ⟨λz c=>?_,Qr x r g⟩;rcases List.mem_cons.mp ((yr x r).mem_iff.mp c) with e|e
   ·subst e;cases q:oR z y with
    |false=>rfl
    |true=>exact absurd (nQ q b) (by rw[kE];decide)
   ·exact d z e
  ·rename_i b
   have b:oR y x=false:=by simpa using b
   refine List.pairwise_cons.mpr ⟨λz c=>?_,h⟩;rcases List.mem_cons.mp c with e|e
   ·subst e;exact b
   ·cases q:oR z x with
    |false=>rfl
    |true=>
     have a:=d z e;cases f:oR x y with
     |true=>rw[nQ q f] at a;cases a
     |false=>rw[<- wU b f,a] at q;cases q
theorem qR:∀l,Qq (iW l)
 |[]=>.nil
 |x::r=>Qr x _ (qR r)
theorem wV:∀(p:Str) (l:List Str),risingS p l=true->Qq (p::l)
 |p,[],_=>by simp[Qq]
 |p,x::r,h=>by
  rw[risingS,aR] at h;obtain⟨b,f⟩:=h;have b:oR x p=false:=by
   rw[ltCps_eq] at b;simpa[oR] using b
  have c:=wV x r f;refine List.pairwise_cons.mpr ⟨λz g=>?_,c⟩;rcases List.mem_cons.mp g with e|e
  ·rw[e];exact b
  ·have a:=(List.pairwise_cons.mp c).1 z e;cases q:oR z p with
   |false=>rfl
   |true=>
    cases d:oR p x with
    |true=>rw[nQ q d] at a;cases a
    |false=>rw[wU d b,a] at q;cases q
def EV:∀(l:List Str),sortedS l=true->Qq l
 |[],_=>.nil
 |x::r,h=>wV x r h
theorem yt:∀{l l':List Str},l.Perm l'->Qq l->Qq l'->l=l'
 |[],l',p,_,_=>by rw[List.nil_perm.mp p]
 |x::r,[],p,_,_=>by have:=p.length_eq;simp at this
 |x::r,y::d,p,h,h'=>by
  obtain⟨c,g⟩:=List.pairwise_cons.mp h;obtain⟨b1,b2⟩:=List.pairwise_cons.mp h';have e:x=y:=by
   have f:x∈y::d:=p.mem_iff.mp ap;have b:y∈x::r:=p.mem_iff.mpr ap;rcases List.mem_cons.mp f with e|e
   ·exact e
   ·rcases List.mem_cons.mp b with a | a
    ·exact a.symm
    ·exact wU (b1 x e) (c y a)
  subst e;rw[yt (List.Perm.cons_inv p) g b2]
def AE(p:l'.Perm l)(h:sortedS l'=true):l'=iW l:=yt (p.trans (gR l).symm) (EV _ h) (qR l)
def yu(h:Qq l)(g:l.Nodup):l.Pairwise λa b=>oR a b=true:=by
 induction l with
 |nil=>exact .nil
 |cons x r d=>
  obtain⟨e,f⟩:=List.pairwise_cons.mp h;obtain⟨i,j⟩:=List.nodup_cons.mp g;refine List.pairwise_cons.mpr ⟨λy c=>?_,d f j⟩;cases q:oR x y with
  |true=>rfl
  |false=>exact absurd (wU q (e y c) ▸ c) i
theorem jI:∀{ss:List Str}{a:List ag},dI (ss.map V.str) a->sX a ss
 |[],_,.nil=>.nil
 |x::r,_,.cons h t=>by obtain⟨b,rfl⟩:=h;exact .cons x b (jI t)
theorem nr:∀{ss:List Str}{a:List ag},sX a ss->dI (ss.map V.str) a
 |_,_,.nil=>.nil
 |_,_,.cons x t h=>.cons ⟨t,rfl⟩ (nr h)
theorem fO:∀{ss:List Str}{a:List ag},sX a ss->a.length=ss.length
 |_,_,.nil=>rfl
 |_,_,.cons x t h=>by simp[fO h]
def AF(h:sX us ss)(i:Nat)(v:ag)(e:us[i]?=some v):∃x t,ss[i]?=some x/\v=lc x t:=by
 induction h generalizing i with
 |nil=>simp at e
 |cons y t _ a=>
  cases i with
  |zero=>simp at e;exact⟨y,t,by simp,e.symm⟩
  |succ i=>simp at e;simpa using a i e
theorem wW:∀{l:List (Int×ag)},(∀e∈l,vM w e)->sX (l.map (·.2)) (l.map lO)
 |[],_=>.nil
 |e::r,h=>by
  obtain⟨x,a,rfl⟩:=h e ap;exact .cons x a (wW λe he=>h e (ai _ he))
def EW(h:sX us ss)(p:us'.Perm us):∃a,sX us' a/\a.Perm ss:=by
 refine⟨us'.map strOf,strsAre_map _ λv b=>h.all v (p.mem_iff.mp b),?_⟩;rw[<- h.strs];exact p.map _
def qS(w:bz)(a:ak)(ss:List Str):HO:=.ext λh=>nq w h a ss
def EX(x:nq w h a ss):c_ P w H h a (qS w a ss):=
 ⟨x,let ⟨_,_,_,I,_⟩:=x;⟨_,I.at_⟩,λ_ _ y k=>y.keep k⟩
def Ha(z:X.calm=true):jU X (.type "set") (λxs H Q=>∃p ss,xs=[.ref p]/\(oZ X.K H p (ss.map V.str)\/lY X.K H p (ss.map V.str))/\ss.length+1<iA/\∀a,H a=none->Q (.ref a) (upd H a (qS X.w a (dY [] ss)))):=by
 intro f s A H xs G Q I r h;obtain⟨p,ss,rfl,d,t,q⟩:=h;obtain⟨u,rfl,y⟩:=lB r;cases y;have x:=I.ok.hd z;have fin:∀(h':bP) (j:Nat),nq X.w h' s.heap.objs.size (dY [] ss)->(∀b o,s.heap.get? b=some o->h'.get? b=some o)->EP X f A Q (.ref s.heap.objs.size) {s with heap:=h',toks:=j}:=λh' j B kp=>
  ⟨.ref s.heap.objs.size,_,I.laid (t':=j) kp (aw _) (EX B),rfl,q _ (I.hok.fresh (aw _))⟩
 rcases d with d|d
 ·obtain⟨l,m,⟨o,n,ho,g,E,k⟩,_⟩:=I.list d;have c:=jI m;exact wR (Qm (by simpa using x) g ⟨n,k⟩) ho (λi v e=>AF c i v (by simpa using e)) (by simp[fO c]) (by simp[fO c];exact t) fin
 ·obtain⟨l,m,⟨o,ho,g,n,k⟩,_⟩:=I.tuple d;have c:=jI m;exact wR (UT (by simpa using x) g ⟨n,k⟩) ho (λi v e=>AF c i v (by simpa using e)) (by simp[fO c]) (by simp[fO c];exact t) fin
def yv:jU X (.builtin "sorted") (λxs H Q=>∃p ss,xs=[.ref p]/\oZ X.K H p (ss.map V.str)/\ss.length<64/\∀l,H l=none->Q (.ref l) (upd H l (.lst ((iW ss).map V.str)))):=by
 intro d s x H xs y Q I r h;obtain⟨p,ss,rfl,m,k,q⟩:=h;obtain⟨u,rfl,i⟩:=lB r;cases i;obtain⟨a,t,pl,j⟩:=I.list m;have c:=jI t;refine sorted_strs pl.isList c (by rw[fO c];exact k) λout v g n f=>?_;obtain⟨e,he⟩:=sortedAll_at s.heap a out;have kp:∀b o,s.heap.get? b=some o->(sortedAll s.heap a out).get? b=some o:=λb o=>sortedAll_old;obtain rfl:=AE n f;refine⟨.ref (s.heap.objs.size+1),upd H (s.heap.objs.size+1) (.lst ((iW ss).map V.str)),I.laid (t':=s.toks) kp (ir _) (show c_ X.prog X.w _ _ _ (.lst _) from⟨?_,out.toList,e,nr g,by simpa[jX] using he⟩),rfl,q _ (I.hok.fresh (ir _))⟩;rw[ah,(gR ss).length_eq];have:=j;rw[ah] at this;exact this
def zR(N:X.calm=true):jU X (.builtin "sorted") (λxs H Q=>∃p ss,xs=[.ref p]/\H p=some (qS X.w p ss)/\ss.length<64/\∀l,H l=none->Q (.ref l) (upd H l (.lst ((iW ss).map V.str)))):=by
 intro y s σ H xs us Q I r h;obtain⟨p,ss,rfl,O,v,q⟩:=h;obtain⟨u,rfl,K⟩:=lB r;cases K;have P:=I.ok.hd N;obtain⟨⟨es,ep,t,S,B⟩,_⟩:=(show c_ X.prog X.w H s.heap p (qS X.w p ss) from I.hok p _ O);refine zf (wT (by simpa using P) S.an λM h' d G U kp sz=>?_);obtain⟨a,n,A⟩:=EW (wW S.txt) U;have Y:a.length=ss.length:=(A.trans B).length_eq;refine⟨a,n,by rw[fO n,Y];exact v,λi c j e f g k L T=>?_⟩;have x:∀b o,s.heap.get? b=some o->i.get? b=some o:=λb o e=>f b o (kp b o e);have es':j=iW ss:=AE (L.trans (A.trans B)) T;subst es';have E:=I.hok.fresh sz;have m:c_ X.prog X.w (upd H h'.objs.size (.lst ((iW ss).map V.str))) i h'.objs.size (.lst ((iW ss).map V.str)):=
  ⟨by rw[ah,(gR ss).length_eq];exact cH (bL v) (by rw[hW];decide),c,e,nr k,g⟩
 exact⟨.ref h'.objs.size,_,I.call' (s':={s with heap:=i,drawn:=d,toks:=G}) (ch:=[]) rfl (Un.laid x sz E) (I.hok.laid x sz m) I.bare (λb z=>absurd z (by simp)),rfl,q _ E⟩
def zg{prog:bd}{w:bz}{B:cg}{bs:List Bool}{a:List ag}(r:dI (bs.map V.bl) a):TruthOf prog w B (λi v=>a.toArray[i]?=some v) (λi=>bs.getD i false):=by
 intro i v s Q E c b;have c:a[i]?=some v:=by simpa using c
 have f:=r.length;rw[ah] at f;obtain⟨h,_⟩:=List.getElem?_eq_some_iff.mp c;have e:bs[i]?=some bs[i]:=bt ∅;obtain⟨u,d,g⟩:=r.get (i:=i) (x:=.bl bs[i]) (by rw[aI,e];rfl);rw[c] at d;cases d;cases g;have b:Q (bs.getD i false) s:=b;rw[gZ,e] at b;exact dP b
def Qs(bs:List Bool):(bq bs.length).all (λi=>bs.getD i false)=bs.all id:=by
 rw[dw,cx,cx];constructor
 ·intro h b c;obtain⟨i,a,rfl⟩:=nZ c;have:=h i (List.mem_range.mpr a);simpa[gZ,a] using this
 ·intro h i a;have a:=List.mem_range.mp a;have:=h bs[i] (mO a);simpa[gZ,a] using this
def Qt(bs:List Bool):(bq bs.length).any (λi=>bs.getD i false)=bs.any id:=by
 rw[dw,eU,eU];constructor
 ·rintro⟨i,a,h⟩;have a:=List.mem_range.mp a;exact⟨bs[i],mO a,by simpa[gZ,a] using h⟩
 ·rintro⟨b,c,h⟩;obtain⟨i,a,rfl⟩:=nZ c;exact⟨i,List.mem_range.mpr a,by simpa[gZ,a] using h⟩
def AG(i:X.calm=true):jU X (.builtin "all") (λxs H Q=>∃p,∃bs:List Bool,xs=[.ref p]/\oZ X.K H p (bs.map V.bl)/\Q (.bl (bs.all id)) H):=by
 intro c s m H xs n Q I r h;obtain⟨p,bs,rfl,j,q⟩:=h;obtain⟨u,rfl,g⟩:=lB r;cases g;obtain⟨a,d,pl,l⟩:=I.list j;have k:a.toArray.size=bs.length:=by have:=d.length;simp at this ⊢;omega
 obtain⟨o,ho,t⟩:=pl.isList;refine call_all_walk (sW pl.isList ⟨_,_,_,_,_,_,_,rfl,Nr (by simpa using I.ok.hd i) _ p (aO (av ho)) a.toArray,⟨⟨_,aD _ rfl,rfl,rfl⟩,pl.isList.push _⟩,zg d,λh' f kp=>?_⟩);rw[k,Qs];refine⟨.bl _,H,I.kept (t':=f) λb o e=>kp b o ?_ (af _ e),rfl,q⟩;simp only[df];exact aO (av e)
def AH(i:X.calm=true):jU X (.builtin "any") (λxs H Q=>∃p,∃bs:List Bool,xs=[.ref p]/\oZ X.K H p (bs.map V.bl)/\Q (.bl (bs.any id)) H):=by
 intro c s m H xs n Q I r h;obtain⟨p,bs,rfl,j,q⟩:=h;obtain⟨u,rfl,g⟩:=lB r;cases g;obtain⟨a,d,pl,l⟩:=I.list j;have k:a.toArray.size=bs.length:=by have:=d.length;simp at this ⊢;omega
 obtain⟨o,ho,t⟩:=pl.isList;refine call_any_walk (sW pl.isList ⟨_,_,_,_,_,_,_,rfl,Nr (by simpa using I.ok.hd i) _ p (aO (av ho)) a.toArray,⟨⟨_,aD _ rfl,rfl,rfl⟩,pl.isList.push _⟩,zg d,λh' f kp=>?_⟩);rw[k,Qt];refine⟨.bl _,H,I.kept (t':=f) λb o e=>kp b o ?_ (af _ e),rfl,q⟩;simp only[df];exact aO (av e)
def NV:tF X (cp .LtE) (λx y H Q=>∃i j,x=.str i/\y=.str j/\Q (.bl (!decide (j.cps.toList<i.cps.toList))) H):=by
 intro a s d H x y v u Q I b c h;obtain⟨i,j,rfl,rfl,q⟩:=h;obtain⟨t,rfl⟩:=b;obtain⟨t',rfl⟩:=c;exact PySem.P.le_str (ju I q rfl)
def Its(x:Str):It:=⟨λi _=>i<x.cps.size,λi H v H'=>H'=H/\∃c,x.cps[i]?=some c/\v=.str ⟨#[c]⟩,λi _=>x.cps.size<=i⟩
def Qu{P:bd}{w:bz}{K:a8}{tg:bC}(x:Str)(t:Tok)(it:ak):Cq P w K tg (Its x) [it] it (λi h=>h.IsStrIter it (jj x) x t i) where
 mem:=by simp
 obj:=λi h st b j=>by
  obtain rfl:b=it:=by simpa using j
  obtain⟨o,e,c,d⟩:=st;exact⟨o,e,λv z=>by rw[d] at z;cases z⟩
 keep:=λi h h' st k=>let ⟨o,e,r⟩:=st;⟨o,k it (by simp) o e,r⟩
 item:=by
  intro X Y U S T i a s G H E I L st m;subst Y U S;have m:i<x.cps.size:=m;obtain⟨Q,O,f2,N,B,M⟩:=L it (by simp);have n:x.cps[i]?=some x.cps[i]:=getElem?_pos _ i m;have go:∀(h':bP) (y g:Nat),h'.IsStrIter it (jj x) x t (i+1)->bG it s.heap h'->∃u,some (lc ⟨#[x.cps[i]]⟩ y)=some u /\
    au (az X.prog X.w) X.A (jF tg (.ref it) u) (λ_ s2=>∃v H',bQ X a G H' s2/\dX v u/\(Its x).yld i H v H'/\s2.heap.IsStrIter it (jj x) x t (i+1)/\∀b∈[it],H' b=none) E {s with heap:=h',toks:=g}:=λh' y g f p=>by
   have I1:bQ X a G H {s with heap:=h',toks:=g}:=I.turned (λb o j e=>(p.2 b j).trans e) Q O N B M;refine⟨_,rfl,?_⟩;have q:∃v H',bQ X a G H' {s with heap:=h',toks:=g}/\dX v (lc ⟨#[x.cps[i]]⟩ y)/\(Its x).yld i H v H'/\h'.IsStrIter it (jj x) x t (i+1)/\∀b∈[it],H' b=none:=
    ⟨.str ⟨#[x.cps[i]]⟩,H,I1,⟨y,rfl⟩,⟨rfl,_,n,rfl⟩,f,λb j=>(L b j).1⟩
   unfold jF;cases tg<;>exact a9 q
  cases l:x.cps.all (·<128)
  ·have ty:jj x="str_iterator":=by unfold jj;rw[l];rfl
   rw[ty] at st;exact wpAny_pyNext_wide_item st n λh' f p=>go h' _ _ (by rw[ty];exact f) p
  ·have ty:jj x="str_ascii_iterator":=by unfold jj;rw[l];rfl
   rw[ty] at st;exact wpAny_pyNext_ascii_item st n λh' f p=>go h' _ _ (by rw[ty];exact f) p
 done:=by
  intro X Y U S T i a s G H E I L st m;subst Y U S;have m:x.cps.size<=i:=m;obtain⟨Q,O,f2,N,B,M⟩:=L it (by simp);have n:x.cps[i]?=none:=getElem?_neg _ i (Nat.not_lt.mpr m);unfold jj at st;cases l:x.cps.all (·<128)
  ·rw[l] at st;exact wpAny_pyNext_wide_end (I.ok.hd T) st n λh' eb=>⟨rfl,I.turned (t':=s.toks) (λb o j e=>eb b o j e) Q O N B M⟩
  ·rw[l] at st;exact wpAny_pyNext_ascii_end (I.ok.hd T) st n λh' eb=>⟨rfl,I.turned (t':=s.toks) (λb o j e=>eb b o j e) Q O N B M⟩
 self:=λ_ _ _ _ _ st h=>by
  unfold jj at st;cases l:x.cps.all (·<128)
  ·rw[l] at st;exact wpAny_pyIter_striter_wide st h
  ·rw[l] at st;exact wpAny_pyIter_striter_ascii st h
def q1M(tl:TE):TI:=λa H R=>tl a H λv b=>∃x,v=.str x/\R (Its x) b
def Qv{X:Cx}{tg l:bC}{tl:TE}(g:PE X l tl):PI X tg l (q1M tl):=by
 intro a s i H R I h;refine fS (g a s i H _ I h) λv s1 c=>?_;obtain⟨y,f,d,m,j⟩:=c;obtain⟨x,rfl,q⟩:=j;obtain⟨t,rfl⟩:=m;refine wpAny_pyIter_strU ?_;refine⟨s1.heap.objs.size,[s1.heap.objs.size],_,_,f,rfl,d.kept (t':=s1.toks) λb o e=>af _ e,Qu x t _,⟨_,aD _ rfl,rfl,rfl⟩,λb k=>?_,q⟩;obtain rfl:b=s1.heap.objs.size:=by simpa using k
 exact d.fpOk (aw _) (d.hok.fresh (aw _))
def bQ.turnedL{t':Nat}{ch:List ak}(I:bQ X pins σ H s)(k:∀b o,b∉ch->s.heap.get? b=some o->h'.get? b=some o)(d:∀b∈ch,vL X pins H b):bQ X pins σ H {s with heap:=h',toks:=t'}:=by
 have nt:∀b u,H b=some u->b∉ch:=λb u e z=>by rw[(d b z).1] at e;cases e
 refine I.step (g':=s.gens) (d':=s.drawn) (ch:=ch) (λb h=>?_) (λb o _ _ a e _=>k b o a e) (λb o _ _ a e _=>⟨o.slots,k b o a e⟩) (λ_ _ _ _ n=>n)
  (λb o a e=>⟨o,k b o a e⟩) (λ_ _ e=>e) (λ_ _ _ e=>e) (λb ps e=>⟨#[],by rw[e];simp⟩) (λm l=>?_) (λb u e=>?_) I.bare
 ·obtain⟨w,p,t,j,f,i⟩:=d b h;exact⟨j,p,f,i⟩
 ·obtain⟨o,es,g,ho,r⟩:=l;exact⟨o,es,g,k _ o (λz=>(d _ z).f1 rfl) ho,r⟩
 ·refine(I.hok b u e).stay (λc v a q=>k c v ?_ q) (λ_ q=>q) λ_ _ q=>q;rcases a with z|z
  ·rw[z];exact nt b u e
  ·exact nt c _ z
def bQ.track(I:bQ X pins σ H s)(f:vL X pins H D)(new:c_ X.prog X.w (upd H D ho) s.heap D ho):bQ X pins σ (upd H D ho) s:=by
 obtain⟨a,l,p,i,c,h⟩:=f;have k:bQ X pins σ (upd H D ho) {s with heap:=s.heap,gens:=s.gens,drawn:=s.drawn,toks:=s.toks}:=I.step (ch:=[D]) (λb g=>by
   obtain rfl:b=D:=by simpa using g
   exact⟨i,l,c,h⟩) (λb o _ _ _ e _=>e) (λb o _ _ _ e _=>⟨o.slots,e⟩) (λb o d e n=>by rw[b9 (λz=>d (by simp[z]))];exact n) (λb o _ e=>⟨o,e⟩)
  (λb xs e=>by rw[b9 (bw e a)];exact e) (λb o xs e=>by rw[b9 (bw e a)];exact e) (λb ps e=>⟨#[],by rw[b9 (bw e a),e];simp⟩) (λm j=>j) (yo I.hok a new) I.bare
 exact k
def wX(c:s.heap.IsTupleIter it l i)(tl:s.heap.IsTuple l items)(g:items[i]?=some x)
  (q:∀h',h'.IsTupleIter it l (i+1)->bG it s.heap h'->Q x {s with heap:=h'}):au (az prog w) A (cR (.ref it)) Q E s:=by
 obtain⟨j,b,e,a⟩:=id c;obtain⟨h,d,_,nt,f⟩:=tl;unfold cR;refine a7 (cy (name:=gO "__next__") c.typeIs kc ?_);refine bE kc c.typeIs Gm ?_ (Ev _);show au _ _ (JZ (.ref it) 0>>=_) _ _ s;refine a7 (dq b a (x:=.ref l) rfl ?_);show au _ _ (if(bh l==dO)=true then _ else _) _ _ s;rw[if_neg (λz:(bh l==dO)=true=>aG z)];show au _ _ (JZ (.ref it) 1>>=_) _ _ s;refine a7 (dq b a (x:=.int i 0) rfl ?_);show au _ _ (Pc (.ref l)>>=_) _ _ s;refine a7 (eS d f ?_);simp only[lW,g];refine a7 (ii b a (by simp) (a9 ⟨x,rfl,a9 (q _ ?_ (bB ..))⟩));refine⟨_,eB _ b (Obj.isFreed_of_fields (Ps a _)),(Obj.cls_mapFields ..).trans e,?_⟩;rw[Ps a];simp[cJ]
def wY(g:A.handled=none)(d:s.heap.IsTupleIter it l i)(tl:s.heap.IsTuple l items)(h:items[i]?=none)
  (q:∀h' e,LR it s.heap h'->(∃o,h'.get? e=some o/\o.cls=.type "StopIteration")->E (.ref e) {s with heap:=h'}):au (az prog w) A (cR (.ref it)) Q E s:=by
 obtain⟨n,b,k,c⟩:=id d;obtain⟨p,f,_,nt,j⟩:=tl;unfold cR;refine a7 (cy (name:=gO "__next__") d.typeIs kc ?_);refine bE kc d.typeIs Gm ?_ (Ev _);show au _ _ (JZ (.ref it) 0>>=_) _ _ s;refine a7 (dq b c (x:=.ref l) rfl ?_);show au _ _ (if(bh l==dO)=true then _ else _) _ _ s;rw[if_neg (λz:(bh l==dO)=true=>aG z)];show au _ _ (JZ (.ref it) 1>>=_) _ _ s;refine a7 (dq b c (x:=.int i 0) rfl ?_);show au _ _ (Pc (.ref l)>>=_) _ _ s;refine a7 (eS f j ?_);simp only[lW,h];refine a7 (eI (a7 (ii b c (by simp) ?_)));show au _ _ (vC (.type "StopIteration") []>>=_) _ _ _;refine a7 ?_;simp only[vC,U8];refine a7 (bu ?_ (by size_fits));refine a7 (m:=mV _ _) (eM (a:=dO) ?_ ?_)
 ·first
   |rfl
   |(simp only[mV];rfl)
 refine bu ?_ (by size_fits);simp only[uV];refine a7 (Nt ?_);rw[show A.in1.handled=none from g];refine a7 (a9 (U9 ?_));exact q _ _ (((bB ..).extBut.push _).push _) ⟨_,aD _ rfl,rfl⟩
def NW(d:A.handled=none)(it l:ak)(a:l≠it)(items:Array ag):
  Draws prog w A it [it,l] items.size (λi v=>items[i]?=some v) (λi h=>h.IsTupleIter it l i/\h.IsTuple l items) where
 live:=λi h st=>let ⟨o,e,_⟩:=st.1;⟨o,e⟩
 frame:=λi h h' st k=>⟨let ⟨o,e,r⟩:=st.1;⟨o,k it (by simp) o e,r⟩,let ⟨o,e,r⟩:=st.2;⟨o,k l (by simp) o e,r⟩⟩
 item:=λi s Q E b st q=>wX st.1 st.2 (x:=items[i]) (by simp[b]) λh' t' c=>q _ h' s.toks (by simp[b]) ⟨t',st.2.extBut c.extBut a⟩ c
 done:=λs Q E st q=>wY d st.1 st.2 (by simp) q
def AI(l:ak)(items:Array ag)(n:Nat)(b:Option ak)(j:Array (Option ag)):
  Meets (iB.«enumerate.__new__» ⟨[.type "enumerate",.ref l],[]⟩) (λ_ R s=>s.heap.get? l=some {cls:=.type "tuple",dict:=b,data:=.seq items n,slots:=j} /\
   R (.ok (.ret (.ref (s.heap.push {cls:=.type "tuple_iterator",data:=.fields #[.ref l,.int 0 0]}).objs.size)))
    {s with heap:=(s.heap.push {cls:=.type "tuple_iterator",data:=.fields #[.ref l,.int 0 0]}).push {cls:=.type "enumerate",data:=.fields #[.none,.bool false,.ref s.heap.objs.size,cJ 0,.none,.none]}}):=
 .of_wp λprog w A R s h=>by
  obtain⟨k,g,d,m,i⟩:=s;obtain⟨a,h⟩:=h;have f:=PySem.sub_enumerate;have e:Jm (Jn ⟨k,g,d,m,i⟩) l items:=⟨_,a,rfl,n,rfl⟩;wp_walk using hX a;refine wpAny_stack_any λst=>a9 ?_;split
  ·rename_i c _ _ _ _ _
   cases(c==jD "enumerate")
   ·wp_walk using hX a,ic e;exact⟨_,rfl,h⟩
   ·wp_walk using hX a,ic e;exact⟨_,rfl,h⟩
  ·wp_walk using hX a,ic e;exact⟨_,rfl,h⟩
def Cu(p:s.heap.IsTuple l items)
  (h:∀h',IsEnum h' (s.heap.objs.size+1) s.heap.objs.size 0 .none->h'.IsTupleIter s.heap.objs.size l 0->(∀b o,s.heap.get? b=some o->h'.get? b=some o)->h'.objs.size=s.heap.objs.size+2 ->
   Q (.ref (s.heap.objs.size+1)) {s with heap:=h'}):au (az prog w) A (call (.type "enumerate") [.ref l]) Q E s:=by
 obtain⟨⟨c,g,j,m⟩,f,i,n,k⟩:=p;obtain rfl:c=.type "tuple":=i;obtain rfl:j=.seq items n:=k;refine callType_new F.called_enumerate ⋯ (F.typeCall_enumerate_1 _) (F.newCall_enumerate_1 _) (λa=>F.args_object_init_2 a _) F.entry_enumerate_new (AI l items n g m) ⟨f,?_⟩;have d:(s.heap.push {cls:=.type "tuple_iterator",data:=.fields #[.ref l,.int 0 0]}).objs.size=s.heap.objs.size+1:=cF ..;show _/\_;rw[d];have he:IsEnum ((s.heap.push {cls:=.type "tuple_iterator",data:=.fields #[.ref l,.int 0 0]}).push {cls:=.type "enumerate",data:=.fields #[.none,.bool false,.ref s.heap.objs.size,cJ 0,.none,.none]}) (s.heap.objs.size+1) s.heap.objs.size 0 .none:=by
  have q:=aD (s.heap.push {cls:=.type "tuple_iterator",data:=.fields #[.ref l,.int 0 0]}) (o:={cls:=.type "enumerate",data:=.fields #[.none,.bool false,.ref s.heap.objs.size,cJ 0,.none,.none]}) rfl;rw[d] at q;exact q
 exact⟨⟨_,he,rfl⟩,h _ he ⟨_,af _ (aD _ rfl),rfl,rfl⟩ (λb o e=>af _ (af _ e)) (by rw[cF,d])⟩
def Ite(K:a8)(a:ak):It:=
 ⟨λi H=>∃xs x,lY K H a xs/\xs[i]?=some x,λi H v H'=>∃p,H p=none/\v=.ref p/\∀xs,lY K H a xs->∃x,xs[i]?=some x/\H'=upd H p (.tup [.int i,x]),λi H=>∃xs,lY K H a xs/\xs.length<=i⟩
def NX{P:bd}{w:bz}{K:a8}{A:List bC}{x1}{a6:Pos}(a e it:ak)(t:e≠it):Cq P w K (.Tuple A x1 a6) (Ite K a) [e,it] e (λi h=>(∃f,IsEnum h e it i f)/\h.IsTupleIter it a i) where
 mem:=by simp
 obj:=λi h st b c=>by
  simp only[aW,br,or_false] at c;rcases c with rfl|rfl
  ·obtain⟨⟨f,q⟩,_⟩:=st;exact⟨_,q,λv z=>by cases z⟩
  ·obtain⟨_,o,q,_,d⟩:=st;exact⟨o,q,λv z=>by rw[d] at z;cases z⟩
 keep:=λi h h' st k=>⟨let ⟨f,q⟩:=st.1;⟨f,k e (by simp) _ q⟩,let ⟨o,q,r⟩:=st.2;⟨o,k it (by simp) o q,r⟩⟩
 item:=by
  intro X hP hw Y hc i m s σ H E I O st hg;subst hP hw Y;obtain⟨xs,x,N,hx⟩:=hg;obtain⟨g,rv,p,hz⟩:=I.tuple N;obtain⟨u,hu,ru⟩:=rv.get hx;obtain⟨⟨f,he⟩,j⟩:=st;have B:=j;obtain⟨oi,ei,_⟩:=B;have a1:a≠it:=λz=>by
   obtain⟨o1,y,M,_⟩:=p;obtain⟨o2,U,c2,_⟩:=j;rw[z,U] at y;cases y;rw[c2] at M;exact absurd (LS M) ⋯
  have a2:a≠e:=λz=>by
   obtain⟨o1,y,M,_⟩:=p;rw[z,he] at y;cases y;exact absurd (LS (show jD "enumerate"=jD "tuple" from M)) ⋯
  have a3:i<g.toArray.size:=by simp;exact(List.getElem?_eq_some_iff.mp hu).1
  have G:=av he;refine wpAny_pyNext_enum_itemD (NW (by simpa using I.ok.hd hc) it a a1 g.toArray) he ⟨j,p⟩ a3 t (by simp[t,dk a2]) ?_;intro x' h1 Q a4 eo a0 tup sz k1;have l:g[i]?=some x':=by simpa using a4
  rw[hu] at l;cases l;refine⟨_,rfl,J_ eo λh2 U n=>?_⟩;have S:s.heap.objs.size≠e:=dZ G;have I2:bQ X m σ H {s with heap:=h2,toks:=Q+1}:=I.turnedL (ch:=[e,it]) (λb o c q=>by
   simp only[aW,br,or_false,not_or] at c;exact(n.2 b c.1).trans (k1 b o c.1 c.2 q)) O
  have fT:=I.fpOk (H':=H) (aw _) (I.hok.fresh (aw _));have L:h2.get? s.heap.objs.size=some {cls:=.type "tuple",data:=.seq #[.int i Q,u]}:=(n.2 _ S).trans tup;have I3:=I2.track (ho:=.tup [.int i,x]) fT ⟨by show 2<=sizeLine;decide,[.int i Q,u],.cons ⟨Q,rfl⟩ (.cons ru .nil),⟨_,L,rfl,0,rfl⟩⟩;refine⟨.ref s.heap.objs.size,_,I3,rfl,⟨_,fT.1,rfl,λys hy=>?_⟩,⟨⟨u,?_⟩,?_⟩,λb c=>?_⟩
  ·rw[I.tuple_inj hy N];exact⟨x,hx,rfl⟩
  ·have:(((i+1:Nat):Int))=(i:Int)+1:=by omega
   rw[this];exact U
  ·obtain⟨o,q,r⟩:=a0.1;exact⟨o,(n.2 it (dk t)).trans q,r⟩
  ·rw[b9]
   ·exact(O b c).1
   ·simp only[aW,br,or_false] at c;rcases c with z|z
    ·rw[z];exact aO G
    ·rw[z];exact aO (av ei)
 done:=by
  intro X hP hw Y hc i m s σ H E I O st hg;subst hP hw Y;obtain⟨xs,N,hx⟩:=hg;obtain⟨g,rv,p,hz⟩:=I.tuple N;obtain⟨⟨f,he⟩,j⟩:=st;have hl:=rv.length;have hT:s.TypeIs (.ref e) "enumerate":=⟨_,he,rfl⟩;unfold nY;refine a7 (iG (cy (name:=gO "__next__") hT Pd ?_));refine bE Pd hT F.entry_enumerate_next ?_ (F.args_enumerate_next_1 _);show au _ _ (JZ (.ref e) 2>>=_) _ _ _;refine a7 (dq he rfl (x:=.ref it) rfl ?_);refine a7 (wY (by simpa using I.ok.hd hc) j (show s.heap.IsTuple a g.toArray from p) (by simp;omega) λh' z eb a5=>?_);obtain⟨o,ho,b0⟩:=a5;refine a7 (i0 (T:="StopIteration") (b:=true) ⟨o,ho,b0⟩ yc ?_);exact a9 ⟨rfl,I.turnedL (t':=s.toks) (ch:=[e,it]) (λb o c q=>eb b o (by
   simp only[aW,br,or_false,not_or] at c;exact c.2) q) O⟩
 self:=λ_ _ _ _ _ st h=>let ⟨⟨_,q⟩,_⟩:=st;sY q h
def q0c(K:a8)(d:TA):TI:=λc H R=>d c H λe b=>∃a xs,e=[.ref a]/\lY K b a xs/\R (Ite K a) b
def UU{X:Cx}{f:List bC}{x1}{e p g:Pos}{a:bC}{o:TA}(L:Gl X "enumerate")(A:X.mg "enumerate"=none)(w:PA X [a] o)(hs:aF [a] X.env=[(false,eu a X.env)]:=by rfl):
  PI X (.Tuple f x1 e) (.Call (.Name "enumerate" p) [a] [] g) (q0c X.K o):=by
 intro c s k H R I h;refine Call_ (vK I L A boot_enumerate (fV (fS (w g c s k H _ I h) λO s1 ⟨P,j,d,E,y⟩=>?_) hs rfl));obtain⟨m,xs,rfl,x,q⟩:=y;obtain⟨u,rfl,t⟩:=lB E;cases t;obtain⟨i,N,v,M⟩:=d.tuple x;refine Cu (show s1.heap.IsTuple m i.toArray from v) λh' n G kp sz=>?_;refine sY n ?_;have B:bQ X c k j {s1 with heap:=h'}:=d.kept (t':=s1.toks) kp;refine⟨s1.heap.objs.size+1,[s1.heap.objs.size+1,s1.heap.objs.size],_,_,j,rfl,B,NX m _ _ (dZ (gX _)),⟨⟨.none,n⟩,G⟩,λb l=>?_,q⟩;simp only[aW,br,or_false] at l;rcases l with z|z
 ·rw[z];exact d.fpOk (ir _) (d.hok.fresh (ir _))
 ·rw[z];exact d.fpOk (aw _) (d.hok.fresh (aw _))
section
variable{prog:bd}{w:bz}{A:cg}{E:ag->aq->Prop}{s:aq}{z TI TO i1 i2 l1 l2:ak}{k1 k2:Nat}{xs ys:Array ag}{x y a b:ag}
def kF(t:h.IsTupleIter it l k)(d:bG c h h')(ne:it≠c):h'.IsTupleIter it l k:=t.extBut d.extBut ne
def rK(t:h.IsTuple l xs)(d:bG c h h')(ne:l≠c):h'.IsTuple l xs:=t.extBut d.extBut ne
def Qw{Q:ag->aq->Prop}(D:Ua z TI TO i1 i2 l1 l2)(g:yd s.heap z TI TO .none)(pa:lX s.heap TI (.ref i1) (.ref i2))(Y:lX s.heap TO a b)
  (u1:s.heap.IsTupleIter i1 l1 k1) (X:s.heap.IsTupleIter i2 l2 k2) (v1:s.heap.IsTuple l1 xs) (v2:s.heap.IsTuple l2 ys) (hx:xs[k1]?=some x) (O:ys[k2]?=some y)
  (q:∀h',yd h' z TI TO (cJ s.heap.objs.size)->lX h' TO x y->h'.IsTupleIter i1 l1 (k1+1)->h'.IsTupleIter i2 l2 (k2+1)->lX h' s.heap.objs.size x y ->
   (∀c o,c≠z->c≠TO->c≠i1->c≠i2->s.heap.get? c=some o->h'.get? c=some o)->Q (.ref s.heap.objs.size) {s with heap:=h'}):
  au (az prog w) A (iB.«zip.__next__» ⟨[.ref z],[]⟩) (λfin s'=>∃v,fin=.done (.ret v)/\Q v s') E s:=by
 show au _ _ (JZ (.ref z) 2>>=_) _ _ _;refine a7 (dq g rfl (x:=.bool false) rfl ?_);show au _ _ (JZ (.ref z) 3>>=_) _ _ _;refine a7 (dq g rfl (x:=.ref TI) rfl ?_);refine a7 (eS pa rfl ?_);show au _ _ (fI (.ref z)>>=_) _ _ _;refine a7 ?_;unfold fI;refine a7 (dq g rfl (x:=.none) rfl (a9 ?_));simp only[if_true];refine a7 (eI ?_);refine a7 (dq g rfl (x:=.ref TO) rfl ?_);refine a7 (jr g (by simp) λg1 p b1=>?_);replace p:yd g1 z TI TO .ellipsis:=p;refine a7 ?_;simp only[TK,Ub,jh,pi];refine a7 (a7 (A5 ?_));show au _ _ (cR (.ref i1)>>=_) _ _ _;refine a7 (wX (kF u1 b1 D.i1z) (rK v1 b1 D.l1z) hx λg2 N b2=>a9 ?_);have B:lX g2 TO a b:=b2.extBut _ _ D.TOi1 (b1.extBut _ _ D.TOz Y);refine a7 (eS B rfl (a7 (ye B λS m b3=>?_)));replace m:lX S TO x b:=m;refine a7 (Uc (a9 (a7 (a7 (A5 ?_)))));show au _ _ (cR (.ref i2)>>=_) _ _ _;refine a7 (wX (kF (kF (kF X b1 D.i2z) b2 D.i12.symm) b3 D.TOi2.symm) (rK (rK (rK v2 b1 D.l2z) b2 D.l2i1) b3 D.l2TO) O λg4 T b4=>a9 ?_);have G:lX g4 TO x b:=b4.extBut _ _ D.TOi2 m;refine a7 (eS G rfl (a7 (ye G λd l b5=>?_)));replace l:lX d TO x y:=l;refine a7 (Uc (a9 (a9 ?_)));refine a7 (eS l rfl (a7 (wpAny_newTuple ?_)));have sz:d.objs.size=s.heap.objs.size:=by rw[b5.1,b4.1,b3.1,b2.1,b1.1]
 have M:yd d z TI TO .ellipsis:=b5.extBut _ _ D.TOz.symm (b4.extBut _ _ D.i2z.symm (b3.extBut _ _ D.TOz.symm (b2.extBut _ _ D.i1z.symm p)));have k5:∀c o,c≠z->c≠TO->c≠i1->c≠i2->s.heap.get? c=some o->d.get? c=some o:=λc o f i u n e=>
  b5.extBut _ _ i (b4.extBut _ _ n (b3.extBut _ _ i (b2.extBut _ _ u (b1.extBut _ _ f e))))
 have U:d.IsTupleIter i1 l1 (k1+1):=kF (kF (kF N b3 D.TOi1.symm) b4 D.i12) b5 D.TOi1.symm;have P:d.IsTupleIter i2 l2 (k2+1):=kF T b5 D.TOi2.symm;have K:z<d.objs.size:=av M;show au _ _ (pp (.ref z) (.ref d.objs.size)>>=_) _ _ _;refine a7 ?_;unfold pp;have z6:yd (d.push {cls:=.type "tuple",data:=.seq #[x,y]}) z TI TO .ellipsis:=af _ M;refine a7 (jr z6 (by simp) λg7 t I=>?_);replace t:yd g7 z TI TO (cJ d.objs.size):=t;refine jr t (by simp) λj k L=>?_;replace k:yd j z TI TO (cJ d.objs.size):=k;have h:∀c o,c≠z->d.get? c=some o->j.get? c=some o:=λc o f e=>L.extBut _ _ f (I.extBut _ _ f (af _ e));have H:lX j d.objs.size x y:=L.extBut _ _ (dZ K) (I.extBut _ _ (dZ K) (aD _ rfl));rw[sz] at k H;refine a9 ⟨_,rfl,?_⟩;show Q (.ref d.objs.size) _;rw[sz];exact q j k (h _ _ D.TOz l) (let ⟨o,e,r⟩:=U;⟨o,h _ o D.i1z e,r⟩) (let ⟨o,e,r⟩:=P;⟨o,h _ o D.i2z e,r⟩) H λc o f i u n e=>h c o f (k5 c o f i u n e)
theorem Qx(G:A.handled=none)(D:Ua z TI TO i1 i2 l1 l2)(h:yd s.heap z TI TO .none)(S:lX s.heap TI (.ref i1) (.ref i2))(P:lX s.heap TO a b)
  (I:s.heap.IsTupleIter i1 l1 k1) (O:s.heap.IsTupleIter i2 l2 k2) (K:s.heap.IsTuple l1 xs) (U:s.heap.IsTuple l2 ys) (g:xs[k1]?=none\/ys[k2]?=none)
  (q:∀h' e,(∀c o,c≠z->c≠TO->c≠i1->c≠i2->s.heap.get? c=some o->h'.get? c=some o)->(∃o,h'.get? e=some o/\o.cls=.type "StopIteration")->E (.ref e) {s with heap:=h'}):
  au (az prog w) A (iB.«zip.__next__» ⟨[.ref z],[]⟩) Q E s:=by
 show au _ _ (JZ (.ref z) 2>>=_) _ _ _;refine a7 (dq h rfl (x:=.bool false) rfl ?_);show au _ _ (JZ (.ref z) 3>>=_) _ _ _;refine a7 (dq h rfl (x:=.ref TI) rfl ?_);refine a7 (eS S rfl ?_);show au _ _ (fI (.ref z)>>=_) _ _ _;refine a7 ?_;unfold fI;refine a7 (dq h rfl (x:=.none) rfl (a9 ?_));simp only[if_true];refine a7 (eI ?_);refine a7 (dq h rfl (x:=.ref TO) rfl ?_);refine a7 (jr h (by simp) λT j b1=>?_);replace j:yd T z TI TO .ellipsis:=j;refine a7 ?_;simp only[TK,Ub,jh,pi];refine a7 (a7 (A5 ?_));show au _ _ (cR (.ref i1)>>=_) _ _ _;cases p:xs[k1]? with
 |none=>
  refine a7 (wY G (kF I b1 D.i1z) (rK K b1 D.l1z) p λg2 e b2 he=>?_);obtain⟨k,d,f⟩:=he;have H:yd g2 z TI TO .ellipsis:=b2 _ _ D.i1z.symm j;have l:e≠z:=λn=>by subst n;rw[H] at d;cases d;simp at f
  refine jr H (by simp) λv _ b3=>q v e (λc o i _ t _ m=>b3.extBut _ _ i (b2 _ _ t (b1.extBut _ _ i m))) ⟨k,b3.extBut _ _ l d,f⟩
 |some x=>
  have L:ys[k2]?=none:=g.resolve_left λn=>by rw[p] at n;cases n
  refine a7 (wX (kF I b1 D.i1z) (rK K b1 D.l1z) p λg2 w1 b2=>a9 ?_);have u:lX g2 TO a b:=b2.extBut _ _ D.TOi1 (b1.extBut _ _ D.TOz P);refine a7 (eS u rfl (a7 (ye u λv p3 b3=>?_)));refine a7 (Uc (a9 (a7 (a7 (A5 ?_)))));show au _ _ (cR (.ref i2)>>=_) _ _ _;refine a7 (wY G (kF (kF (kF O b1 D.i2z) b2 D.i12.symm) b3 D.TOi2.symm) (rK (rK (rK U b1 D.l2z) b2 D.l2i1) b3 D.l2TO) L λX e b4 he=>?_);obtain⟨k,d,f⟩:=he;have B:yd X z TI TO .ellipsis:=b4 _ _ D.i2z.symm (b3.extBut _ _ D.TOz.symm (b2.extBut _ _ D.i1z.symm j));have l:e≠z:=λn=>by subst n;rw[B] at d;cases d;simp at f
  refine jr B (by simp) λY _ b5=>q Y e (λc o i N t M m=>b5.extBut _ _ i (b4 _ _ M (b3.extBut _ _ N (b2.extBut _ _ t (b1.extBut _ _ i m))))) ⟨k,b5.extBut _ _ l d,f⟩
end
abbrev zt1(h:bP)(a:ak):bP:=h.push {cls:=.type "tuple_iterator",data:=.fields #[.ref a,.int 0 0]}
abbrev zt2(h:bP)(b a:ak):bP:=(zt1 h b).push {cls:=.type "tuple_iterator",data:=.fields #[.ref a,.int 0 0]}
abbrev zt3(h:bP)(a b:ak):bP:=(zt2 h a b).push {cls:=.type "tuple",data:=.seq #[.ref h.objs.size,.ref (zt1 h a).objs.size]}
abbrev zt4(h:bP)(b a:ak):bP:=(zt3 h b a).push {cls:=.type "tuple",data:=.seq #[.none,.none]}
abbrev ZG(h:bP)(b a:ak):bP:=(zt4 h b a).push {cls:=.type "zip",data:=.fields #[.none,.bool false,.bool false,.ref (zt2 h b a).objs.size,.ref (zt3 h b a).objs.size]}
def Cv(a b:ak)(xs ys:Array ag):
  Meets (iB.«zip.__new__» ⟨[.type "zip",.ref a,.ref b],[]⟩) (λ_ R s=>s.heap.IsTuple a xs/\s.heap.IsTuple b ys/\R (.ok (.ret (.ref (zt4 s.heap a b).objs.size))) {s with heap:=ZG s.heap a b}):=
 .of_wp λprog w A R s h=>by
  obtain⟨f,g,d,i,c⟩:=s;obtain⟨l,k,h⟩:=h;have e:=PySem.sub_zip;have j:Jm (Jn ⟨f,g,d,i,c⟩) a xs:=l;have L2:Jm (Jn ⟨f.push {cls:=.type "tuple_iterator",data:=.fields #[.ref a,.int 0 0]},g,d,i,c⟩) b ys:=Heap.IsTuple.push k _;wp_walk using ic j,ic L2;exact⟨_,rfl,h⟩
def EY(m:s.heap.IsTuple l1 xs)(k:s.heap.IsTuple l2 ys)
  (h:∀h',yd h' (s.heap.objs.size+4) (s.heap.objs.size+2) (s.heap.objs.size+3) .none->lX h' (s.heap.objs.size+2) (.ref s.heap.objs.size) (.ref (s.heap.objs.size+1)) ->
   lX h' (s.heap.objs.size+3) .none .none->h'.IsTupleIter s.heap.objs.size l1 0->h'.IsTupleIter (s.heap.objs.size+1) l2 0 ->
   (∀c o,s.heap.get? c=some o->h'.get? c=some o)->Q (.ref (s.heap.objs.size+4)) {s with heap:=h'}):au (az prog w) A (call (.type "zip") [.ref l1,.ref l2]) Q E s:=by
 refine callType_new F.called_zip ⋯ (F.typeCall_zip_2 _ _) (F.newCall_zip_2 _ _) (λa=>F.args_object_init_3 a _ _) F.entry_zip_new (Cv l1 l2 xs ys) ⟨m,k,?_⟩;have b:(zt1 s.heap l1).objs.size=s.heap.objs.size+1:=cF ..;have d:(zt2 s.heap l1 l2).objs.size=s.heap.objs.size+2:=by rw[cF,b]
 have g:(zt3 s.heap l1 l2).objs.size=s.heap.objs.size+3:=by rw[cF,d]
 have i:(zt4 s.heap l1 l2).objs.size=s.heap.objs.size+4:=by rw[cF,g]
 have f:(ZG s.heap l1 l2).get? (zt4 s.heap l1 l2).objs.size=some _:=aD _ rfl;have c4:(ZG s.heap l1 l2).get? (zt3 s.heap l1 l2).objs.size=some _:=af _ (aD _ rfl);have j:(ZG s.heap l1 l2).get? (zt2 s.heap l1 l2).objs.size=some _:=af _ (af _ (aD _ rfl));have c2:(ZG s.heap l1 l2).get? (zt1 s.heap l1).objs.size=some _:=af _ (af _ (af _ (aD _ rfl)));have l:(ZG s.heap l1 l2).get? s.heap.objs.size=some _:=af _ (af _ (af _ (af _ (aD _ rfl))));show _/\_;rw[d,g,i] at f;rw[b,d] at j;rw[g] at c4;rw[b] at c2;rw[i];exact⟨⟨_,f,rfl⟩,h _ f j c4 ⟨_,l,rfl,rfl⟩ ⟨_,c2,rfl,rfl⟩ λc o e=>af _ (af _ (af _ (af _ (af _ e))))⟩
def lY.ne_fp(I:bQ X pins σ H s)(d:lY X.K H a xs)(c:vL X pins H b):a≠b:=by
 rintro rfl;rcases d with (h|⟨o,h⟩)|⟨o,its,n,hk,_⟩
 ·rw[c.1] at h;cases h
 ·rw[c.1] at h;cases h
 ·have e:X.base.get? a=some o:=I.mod.kin a o hk;rcases c.f3 with z|z
  ·exact I.ok.noex a o e z
  ·exact absurd (aK (av e) (cH I.ok.bsz z)) (cB _)
def Itz(K:a8)(a b:ak):It:=
 ⟨λi H=>∃xs ys x y,lY K H a xs/\lY K H b ys/\xs[i]?=some x/\ys[i]?=some y,
  λi H v H'=>∃p,H p=none/\v=.ref p/\∀xs ys,lY K H a xs->lY K H b ys->∃x y,xs[i]?=some x/\ys[i]?=some y/\H'=upd H p (.tup [x,y]),
  λi H=>∃xs ys,lY K H a xs/\lY K H b ys/\(xs.length<=i\/ys.length<=i)⟩
structure q1N (z TI TO i1 i2:ak):Prop where
 d1:TI≠z
 d2:TO≠z
 d3:i1≠z
 d4:i2≠z
 d5:TI≠TO
 d6:TI≠i1
 d7:TI≠i2
 d8:TO≠i1
 d9:TO≠i2
 d0:i1≠i2
def Qy{P:bd}{w:bz}{K:a8}{O:List bC}{x1}{a3:Pos}(L G z TI TO g j:ak)(Z:q1N z TI TO g j):
  Cq P w K (.Tuple O x1 a3) (Itz K L G) [z,TI,TO,g,j] z (λi h=>yd h z TI TO .none/\lX h TI (.ref g) (.ref j)/\(∃a b,lX h TO a b)/\h.IsTupleIter g L i/\h.IsTupleIter j G i) where
 mem:=by simp
 obj:=λi h st b c=>by
  obtain⟨s1,n,⟨_,_,s3⟩,⟨o4,e4,_,f4⟩,⟨o5,e5,_,f5⟩⟩:=st;simp only[aW,br,or_false] at c;rcases c with rfl|rfl|rfl|rfl|rfl
  ·exact⟨_,s1,λv q=>by cases q⟩
  ·exact⟨_,n,λv q=>by cases q⟩
  ·exact⟨_,s3,λv q=>by cases q⟩
  ·exact⟨o4,e4,λv q=>by rw[f4] at q;cases q⟩
  ·exact⟨o5,e5,λv q=>by rw[f5] at q;cases q⟩
 keep:=λi h h' st k=>by
  obtain⟨s1,n,⟨u,v,s3⟩,⟨o4,e4,r4⟩,⟨o5,e5,r5⟩⟩:=st;exact⟨k z (by simp) _ s1,k TI (by simp) _ n,⟨u,v,k TO (by simp) _ s3⟩,⟨o4,k g (by simp) _ e4,r4⟩,⟨o5,k j (by simp) _ e5,r5⟩⟩
 item:=by
  intro X hP hw hK hc i p s σ H E I t st hg;subst hP hw hK;obtain⟨xs,ys,x,y,l,m,hx,hy⟩:=hg;obtain⟨M,B,p1,_⟩:=I.tuple l;obtain⟨N,A,p2,_⟩:=I.tuple m;obtain⟨u,hu,ru⟩:=B.get hx;obtain⟨v,hv,rv⟩:=A.get hy;obtain⟨s1,n,⟨a,b,s3⟩,S,U⟩:=st;have d:∀b∈[z,TI,TO,g,j],L≠b:=λb c=>l.ne_fp I (t b c);have f:∀b∈[z,TI,TO,g,j],G≠b:=λb c=>m.ne_fp I (t b c);have D:Ua z TI TO g j L G:=⟨Z.d1,Z.d2,Z.d3,Z.d4,Z.d5,Z.d6,Z.d7,Z.d8,Z.d9,Z.d0,d z (by simp),d TO (by simp),d g (by simp),d j (by simp),f z (by simp),f TO (by simp),f g (by simp),f j (by simp)⟩;have zl:=av s1;have hT:s.TypeIs (.ref z) "zip":=⟨_,s1,rfl⟩;unfold nY;refine a7 (iG (cy (name:=gO "__next__") hT vc ?_));refine bE vc hT F.entry_zip_next (Qw D s1 n s3 S U p1 p2 (by simpa using hu) (by simpa using hv) λh1 z1 t1 y1 y2 pr k1=>?_) (F.args_zip_next_1 _);refine a9 ⟨_,rfl,wpAny_letOwnedTupleGo_zip z1 λY z2 b2=>?_⟩;have a0:s.heap.objs.size≠z:=dZ zl;have a1:lX h1 TI (.ref g) (.ref j):=k1 TI _ Z.d1 Z.d5 Z.d6 Z.d7 n;have I2:bQ X p σ H {s with heap:=Y}:=I.turnedL (t':=s.toks) (ch:=[z,TI,TO,g,j]) (λb o c q=>by
   simp only[aW,br,or_false,not_or] at c;exact(b2.2 b c.1).trans (k1 b o c.1 c.2.2.1 c.2.2.2.1 c.2.2.2.2 q)) t
  have fT:=I.fpOk (H':=H) (aw _) (I.hok.fresh (aw _));have a2:Y.get? s.heap.objs.size=some {cls:=.type "tuple",data:=.seq #[u,v]}:=(b2.2 _ a0).trans pr;have I3:=I2.track (ho:=.tup [x,y]) fT ⟨by show 2<=sizeLine;decide,[u,v],.cons ru (.cons rv .nil),⟨_,a2,rfl,0,rfl⟩⟩;refine⟨.ref s.heap.objs.size,_,I3,rfl,⟨_,fT.1,rfl,λa5 a4 h1 Y=>?_⟩,⟨z2,(b2.2 TI Z.d1).trans a1,⟨u,v,(b2.2 TO Z.d2).trans t1⟩,kF y1 b2 Z.d3,kF y2 b2 Z.d4⟩,λb c=>?_⟩
  ·rw[I.tuple_inj h1 l,I.tuple_inj Y m];exact⟨x,y,hx,hy,rfl⟩
  ·have bl:b<s.heap.objs.size:=by
    simp only[aW,br,or_false] at c;rcases c with q|q|q|q|q
    ·rw[q];exact zl
    ·rw[q];exact av n
    ·rw[q];exact av s3
    ·obtain⟨_,e,_⟩:=S;rw[q];exact av e
    ·obtain⟨_,e,_⟩:=U;rw[q];exact av e
   rw[b9 (aO bl)];exact(t b c).1
 done:=by
  intro X hP hw hK hc i p s σ H E I t st hg;subst hP hw hK;obtain⟨xs,ys,l,m,Q⟩:=hg;obtain⟨M,B,p1,_⟩:=I.tuple l;obtain⟨N,A,p2,_⟩:=I.tuple m;obtain⟨s1,n,⟨a,b,s3⟩,S,U⟩:=st;have d:∀b∈[z,TI,TO,g,j],L≠b:=λb c=>l.ne_fp I (t b c);have f:∀b∈[z,TI,TO,g,j],G≠b:=λb c=>m.ne_fp I (t b c);have D:Ua z TI TO g j L G:=⟨Z.d1,Z.d2,Z.d3,Z.d4,Z.d5,Z.d6,Z.d7,Z.d8,Z.d9,Z.d0,d z (by simp),d TO (by simp),d g (by simp),d j (by simp),f z (by simp),f TO (by simp),f g (by simp),f j (by simp)⟩;have hT:s.TypeIs (.ref z) "zip":=⟨_,s1,rfl⟩;have n1:=B.length;have n2:=A.length;unfold nY;refine a7 (iG (cy (name:=gO "__next__") hT vc ?_));refine bE vc hT F.entry_zip_next (Qx (by simpa using I.ok.hd hc) D s1 n s3 S U p1 p2 (Q.elim (λq=>.inl (by simp;omega)) λq=>.inr (by simp;omega)) λh' e kp he=>?_) (F.args_zip_next_1 _);obtain⟨o,eo,co⟩:=he;refine a7 (i0 (T:="StopIteration") (b:=true) ⟨o,eo,co⟩ yc ?_);exact a9 ⟨rfl,I.turnedL (t':=s.toks) (ch:=[z,TI,TO,g,j]) (λb o c q=>by
   simp only[aW,br,or_false,not_or] at c;exact kp b o c.1 c.2.2.1 c.2.2.2.1 c.2.2.2.2 q) t⟩
 self:=λ_ _ _ _ _ st h=>wpAny_pyIter_zip st.1 h
def q1O(K:a8)(e:TA):TI:=λd H R=>e d H λf c=>∃a b xs ys,f=[.ref a,.ref b]/\lY K c a xs/\lY K c b ys/\R (Itz K a b) c
def Yt{X:Cx}{m:List bC}{x1}{i p o:Pos}{a b:bC}{E:TA}(hg:Gl X "zip")(U:X.mg "zip"=none)(P:PA X [a,b] E)(hs:aF [a,b] X.env=[(false,eu a X.env),(false,eu b X.env)]:=by rfl)
  (f:aF [b] X.env=[(false,eu b X.env)]:=by rfl):PI X (.Tuple m x1 i) (.Call (.Name "zip" p) [a,b] [] o) (q1O X.K E):=by
 intro c s A H R I h;refine Call_ (vK I hg U boot_zip (fV (fS (P o c s A H _ I h) λus s1 ⟨vs,v,t,r1,Q⟩=>?_) (by rw[hs,f]) (by rw[f];rfl)));obtain⟨z,G,xs,ys,rfl,x,u,q⟩:=Q;obtain⟨u1,u2,rfl,w,y⟩:=Q2 r1;cases w;cases y;obtain⟨g,S,p1,_⟩:=t.tuple x;obtain⟨l,T,M,_⟩:=t.tuple u;refine EY (show s1.heap.IsTuple z g.toArray from p1) (show s1.heap.IsTuple G l.toArray from M) λh' L c2 O c4 N kp=>?_;refine wpAny_pyIter_zip L ?_;have Y:bQ X c A v {s1 with heap:=h'}:=t.kept (t':=s1.toks) kp;have d:∀k j:Nat,k≠j->s1.heap.objs.size+k≠s1.heap.objs.size+j:=λk j n e=>n (Nat.add_left_cancel e);refine⟨s1.heap.objs.size+4,[s1.heap.objs.size+4,s1.heap.objs.size+2,s1.heap.objs.size+3,s1.heap.objs.size+0,s1.heap.objs.size+1],_,_,v,rfl,Y,
  Qy z G _ _ _ _ _ ⟨d _ _ ⋯,d _ _ ⋯,d _ _ ⋯,d _ _ ⋯,d _ _ ⋯,d _ _ ⋯,d _ _ ⋯,d _ _ ⋯,d _ _ ⋯,d _ _ ⋯⟩,
  ⟨L,c2,⟨_,_,O⟩,c4,N⟩,λb B=>?_,q⟩
 have:∀k:Nat,vL X c v (s1.heap.objs.size+k):=λk=>t.fpOk (Ud _ _) (t.hok.fresh (Ud _ _))
 simp only[aW,br,or_false] at B;rcases B with q|q|q|q|q<;>(rw[q];exact this _)
mutual
inductive Ky (K:a8) (H:Hp):V->Ew->Prop
 |none:Ky K H .non .none
 |bool (b:Bool):Ky K H (.bl b) (.bool b)
 |int (i:Int):Ky K H (.int i) (.int i)
 |str (x:Str):Ky K H (.str x) (.str x)
 |list {a:ak}{xs:List V}{ds:List Ew}:oZ K H a xs->Reps K H xs ds->Ky K H (.ref a) (.list ds)
 |tuple {a:ak}{xs:List V}{ds:List Ew}:lY K H a xs->Reps K H xs ds->Ky K H (.ref a) (.tuple ds)
inductive Reps (K:a8) (H:Hp):List V->List Ew->Prop
 |nil:Reps K H [] []
 |cons {x:V}{xs:List V}{d:Ew}{ds:List Ew}:Ky K H x d->Reps K H xs ds->Reps K H (x::xs) (d::ds)
end
def dS.tup{K:a8}{H H':Hp}{a:ak}{xs:List V}(e:dS H H')(h:lY K H a xs):lY K H' a xs:=by
 rcases h with (h|⟨o,h⟩)|h
 ·exact .inl (.inl (e _ _ h))
 ·exact .inl (.inr ⟨o,e _ _ h⟩)
 ·exact .inr h
def UV(I:bQ X pins σ H s)(h:oZ X.K H a xs)(g:∀{f:List ag},dI xs f->∃b,ReadsAll s.heap f ds b)(r:dX (.ref a) u):∃b,Reads s.heap u (.list ds) b:=by
 cases r;obtain⟨i,k,⟨o,n,e,c,_,d⟩,_⟩:=I.list h;obtain⟨b,j⟩:=g k;exact⟨_,.list e c d (by simpa using j)⟩
def Qz(I:bQ X pins σ H s)(h:lY X.K H a xs)(g:∀{f:List ag},dI xs f->∃b,ReadsAll s.heap f ds b)(r:dX (.ref a) u):∃b,Reads s.heap u (.tuple ds) b:=by
 cases r;obtain⟨i,k,⟨o,e,c,n,d⟩,_⟩:=I.tuple h;obtain⟨b,j⟩:=g k;exact⟨_,.tuple e c d (by simpa using j)⟩
def nR(I:bQ X pins σ H s)(h:Ky X.K H v d):∀{u:ag},dX v u->∃c,Reads s.heap u d c:=
 Ky.rec (motive_1:=λv d _=>∀{u:ag},dX v u->∃c,Reads s.heap u d c) (motive_2:=λl ds _=>∀{f:List ag},dI l f->∃c,ReadsAll s.heap f ds c)
  (λr=>by cases r;exact⟨_,.none⟩) (λb _ r=>by cases r;exact⟨_,.bool b⟩) (λi _ r=>by obtain⟨t,rfl⟩:=r;exact⟨_,.int i t⟩) (λx _ r=>by obtain⟨t,rfl⟩:=r;exact⟨_,.str x t⟩)
  (λh _ e _ r=>UV I h e r) (λh _ e _ r=>Qz I h e r) (λr=>by cases r;exact⟨_,.nil⟩) (λ_ _ a b _ r=>by
   cases r with
   |cons r g=>
    obtain⟨c,k⟩:=a r;obtain⟨bs,j⟩:=b g;exact⟨_,.cons k j⟩) h
inductive WU (K:a8) (neg:Bool) (x:V) (y:V) (H:Hp) (Q:VK):Prop
 |mk (dx dy:_) (h0:Ky K H x dx) (h1:Ky K H y dy) (h2:dx.canLay0=true) (h3:dy.canLay0=true) (h4:min dx.depth dy.depth<=60) (h5:Q (.bl (if neg then !bn dx dy else bn dx dy)) H):WU K neg x y H Q
def Yu(K:a8)(a:Bool):R2:=WU K a
def Yv(l:X.A.units+64<eQ):tF X (cp .Eq) (Yu X.K false):=by
 intro a s m H x y v u Q I c e h;obtain⟨n,k,i,b,d,j,p,q⟩:=h;obtain⟨o,g⟩:=nR I i c;obtain⟨bs,f⟩:=nR I b e;exact PySem.SeqAt.compareEq_reads g f d j ∅ ⟨.bl _,H,I,rfl,q⟩
def Yw(l:X.A.units+64<eQ):tF X (cp .NotEq) (Yu X.K true):=by
 intro a s m H x y v u Q I c e h;obtain⟨n,k,i,b,d,j,p,q⟩:=h;obtain⟨o,g⟩:=nR I i c;obtain⟨bs,f⟩:=nR I b e;exact PySem.SeqAt.compareNe_reads g f d j ∅ ⟨.bl _,H,I,rfl,q⟩
structure WV (P:bd) (w:bz) (l:List Env) (H H':Hp) (h h' B:bP) (ea C t:ak):Prop where
 fly:Heap.FlyingW B l ea (.ref C) (.ref t) h'
 cov:∀b u,H' b=some u->∃o,B.get? b=some o
 old:∀b o,h.get? b=some o->H b=none->b∉vi l->B.get? b=some o
 all:∀b o,h.get? b=some o->b∉vi l->∃o',B.get? b=some o'
 un:Un (vi l) [] H H' h h'
 hok:sR P w H' h'
inductive q0d (P:bd) (w:bz) (outer:List Env) (H:Hp) (s:aq) (E:XK) (e:ag) (s':aq):Prop
 |mk (ea C t H' B:_) (h0:e=.ref ea) (h1:s'.os=s.os) (h2:sV s'.gens) (h3:WV P w outer H H' s.heap s'.heap B ea C t) (h4:E (.ref C) none H'):q0d P w outer H s E e s'
def oS(P:bd)(w:bz):Pj:=q0d P w
def QA(x:sR P w H h)(e:H b=some u):∃o,h.get? b=some o:=by
 have y:=x b u e;cases u with
 |lst xs=>obtain⟨_,_,_,_,k⟩:=y;exact⟨_,k⟩
 |tup xs=>obtain⟨_,_,_,o,k,_⟩:=y;exact⟨o,k⟩
 |dK a=>obtain⟨_,_,_,_,o,_,_,k,_⟩:=y;exact⟨o,k⟩
 |dT a=>obtain⟨_,_,_,_,o,_,_,k,_⟩:=y;exact⟨o,k⟩
 |set S n=>obtain⟨o,_,_,_,k,_⟩:=y;exact⟨o,k⟩
 |ins C d fs=>obtain⟨_,_,_,k,_⟩:=y;exact⟨_,k⟩
 |own c=>exact y
 |xd fs=>obtain⟨_,⟨o,_,_,k,_⟩,_⟩:=y;exact⟨o,k⟩
 |rng lo g=>obtain⟨_,_,_,k⟩:=y;exact⟨_,k⟩
 |frz o u=>exact⟨o,y.1⟩
 |tbl ps=>exact⟨_,y⟩
 |met f c=>exact⟨_,y⟩
 |ext φ=>exact y.2.1
def Ma(he:env∈l)(a:env.frame=some b):b∈vi l:=List.mem_filterMap.mpr ⟨env,he,a⟩
def WV.kp(x:WV P w l H H' h h' B ea C t)(st:B.StaysIn h'')(b:ak)(u:HO)(o:Obj)(e:H' b=some u)(q:h'.get? b=some o):h''.get? b=some o:=by
 obtain⟨o',a⟩:=x.cov b u e;have:=x.fly.1 b o' a;rw[q] at this;cases this;exact st b o a
def WV.on(x:WV P w l H H' h h' B ea C t)(d:Heap.FlyingW B l ea (.ref C) (.ref t) h'')(j:h'.UpToSlots h''):WV P w l H H' h h'' B ea C t:=by
 have st:=d.1;refine⟨d,x.cov,x.old,x.all,⟨λb o q n a g=>st b o (x.old b o q n a),λb o q n a g=>?_,x.un.free,λb o q g=>?_,x.un.tups,x.un.frzs,x.un.tbls⟩,λb u e=>?_⟩
 ·obtain⟨s,i⟩:=x.un.slot b o q n a g;obtain⟨_,o',k1,k2⟩:=gd x.fly.2.2.1 a;rw[i] at k1;cases k1;obtain⟨f,p⟩:=j b _ i k2;exact⟨f,p⟩
 ·by_cases a:b∈vi l
  ·obtain⟨_,o',k1,_⟩:=gd d.2.2.1 a;exact⟨o',k1⟩
  ·obtain⟨o',k⟩:=x.all b o q a;exact⟨o',st b o' k⟩
 ·exact(x.hok b u e).stay (λc o m q=>by
   rcases m with z|z
   ·rw[z] at q ⊢;exact x.kp st b u o e q
   ·exact x.kp st c _ o z q) (λ_ q=>q) λ_ _ q=>q
section
variable{P:bd}{w:bz}{K:a8}{mg:Str->Option ag}{base:bP}{N:List Str}{qual:Str}{scope:eP}{f:ak}{cd:ag}{A:cg}{outer:List Env}{s:aq}{H:Hp}{E:XK}
def EZ(I:bQ (kC (oS P w) P w K mg base N qual scope f cd A outer s H E) pins σ H1 s1)
  (M:Heap.MadeExcOf s1.heap h' ea (.ref C) vs) (q:E (.ref C) none H1):(kC (oS P w) P w K mg base N qual scope f cd A outer s H E).xe (.ref ea) {s1 with heap:=h'}:=by
 let X:=kC (oS P w) P w K mg base N qual scope f cd A outer s H E
 let B:=P6 s1.heap (vi X.stack)
 have G:∀env∈X.stack,∀a,env.frame=some a->a∈vi X.stack:=λenv he a T=>Ma he T;have p:B.StaysIn s1.heap:=λb o e=>Ju _ e;have h:∀b,b∉vi X.stack->∀o,s1.heap.get? b=some o->B.get? b=some o:=λb n o e=>Jh _ e n;show au _ X.A (leaving X.env (.ref ea)) _ _ _;refine wpAny_leaves_madeW (s:={s1 with heap:=h'}) (base:=B) (outer:=outer) (L:=X.env.locals) I.ok.frames rfl p (PySem.W.funFrames_hide I.stack G) M λU t m tup tn O=>?_;have st2:=m.1;have i:∀b o,s.heap.get? b=some o->b∉vi outer->b∉vi X.stack:=λb o e n z=>by
  rcases List.mem_cons.mp (I.stkSub b z) with y|y
  ·exact absurd (av e) (by rw[y];exact Nat.not_lt.mpr I.ok.above)
  ·exact n y
 have d:∀b:ak,b∉X.ex:=λb z=>absurd (show b∈([]:List ak) from z) (by simp);have x:∀b u,H1 b=some u->∃o,B.get? b=some o:=λb u e=>by
  have g:b∉vi X.stack:=λz=>by have:=I.stkFree b z;rw[e] at this;cases this
  obtain⟨o,k⟩:=QA I.hok e;exact⟨o,h b g o k⟩
 refine⟨ea,C,t,H1,B,rfl,I.os,I.bare,⟨m,x,λb o e n g=>?_,λb o e g=>?_,⟨λb o e n g j=>?_,λb o e n g j=>?_,λb o e n _=>I.base.free b o e n (d b),λb o e _=>?_,I.base.tups,I.base.frzs,I.base.tbls⟩,λb u e=>?_⟩,q⟩
 ·exact h b (i b o e g) o (I.base.keep b o e n g (d b))
 ·obtain⟨o',k⟩:=I.base.there b o e (d b);exact⟨o',h b (i b o e g) o' k⟩
 ·exact st2 b o (h b (i b o e g) o (I.base.keep b o e n g (d b)))
 ·obtain⟨Y,k⟩:=I.base.slot b o e n g (d b);obtain⟨_,o',k1,k2⟩:=gd I.funs g;rw[k] at k1;cases k1;obtain⟨v,k3⟩:=O b _ (M.keeps _ _ k) k2;exact⟨v,k3⟩
 ·obtain⟨o',k⟩:=I.base.there b o e (d b);by_cases g:b∈vi outer
  ·obtain⟨_,Q,k1,_⟩:=gd m.2.2.1 g;exact⟨Q,k1⟩
  ·exact⟨o',st2 b o' (h b (i b o e g) o' k)⟩
 ·refine(I.hok b u e).stay (λc o S k=>?_) (λ_ q=>q) λ_ _ q=>q;have l:c∉vi X.stack:=λz=>by
   have:=I.stkFree c z;rcases S with y|y
   ·rw[y,e] at this;cases this
   ·rw[y] at this;cases this
  exact st2 c o (h c l o k)
def Hb(hE:∀c H',E' c none H'->E c none H'):lD (oS P w) (kC (oS P w) P w K mg base N qual scope f cd A outer s H E) E':=by
 intro G σ H1 s1 e s' I h;obtain⟨v,C,t,H',B,rfl,Y,g,x,q⟩:=h;let X:=kC (oS P w) P w K mg base N qual scope f cd A outer s H E
 have a:∀b:ak,b∉X.ex:=λb z=>absurd (show b∈([]:List ak) from z) (by simp);have j:∀b o,s.heap.get? b=some o->b∉vi outer->b∉vi X.stack:=λb o e n z=>by
  rcases List.mem_cons.mp (I.stkSub b z) with y|y
  ·exact absurd (av e) (by rw[y];exact Nat.not_lt.mpr I.ok.above)
  ·exact n y
 have sub:∀b∈vi outer,b∈vi X.stack:=λb d=>by
  obtain⟨env,he,T⟩:=List.mem_filterMap.mp d;exact Ma (ai _ he) T
 show au _ X.A (leaving X.env (.ref v)) _ _ _;refine wpAny_leaves_onW (base:=B) (outer:=outer) (L:=X.env.locals) I.ok.frames rfl x.fly λh2 p O=>?_;have st2:=p.1;refine⟨v,C,t,H',B,rfl,Y.trans I.os,g,⟨p,x.cov,λb o e n d=>?_,λb o e d=>?_,⟨λb o e n d m=>?_,λb o e n d m=>?_,λb o e n _=>?_,λb o e _=>?_,λb xs e=>x.un.tups b xs (I.base.tups b xs e),λb o xs e=>x.un.frzs b o xs (I.base.frzs b o xs e),λb ps e=>?_⟩,λb u e=>?_⟩,hE _ _ q⟩
 ·exact x.old b o (I.base.keep b o e n d (a b)) (I.base.free b o e n (a b)) (j b o e d)
 ·obtain⟨o',k⟩:=I.base.there b o e (a b);exact x.all b o' k (j b o e d)
 ·exact st2 b o (x.old b o (I.base.keep b o e n d (a b)) (I.base.free b o e n (a b)) (j b o e d))
 ·obtain⟨sl,k⟩:=I.base.slot b o e n d (a b);obtain⟨M,k1⟩:=x.un.slot b _ k (I.base.free b o e n (a b)) (sub b d) (by simp);obtain⟨_,o',k2,k3⟩:=gd x.fly.2.2.1 (sub b d);rw[k1] at k2;cases k2;obtain⟨l,Q⟩:=O b _ k1 k3;exact⟨l,Q⟩
 ·obtain⟨o',k⟩:=I.base.there b o e (a b);exact x.un.free b o' k (I.base.free b o e n (a b)) (by simp)
 ·obtain⟨o',k⟩:=I.base.there b o e (a b);by_cases d:b∈vi outer
  ·obtain⟨_,i,k1,_⟩:=gd p.2.2.1 d;exact⟨i,k1⟩
  ·obtain⟨i,k2⟩:=x.all b o' k (j b o e d);exact⟨i,st2 b i k2⟩
 ·obtain⟨m1,e1⟩:=I.base.tbls b ps e;obtain⟨U,e2⟩:=x.un.tbls b _ e1;exact⟨m1++U,by rw[e2,Nh]⟩
 ·exact(x.hok b u e).stay (λc o S k=>by
   rcases S with z|z
   ·rw[z] at k ⊢;exact x.kp st2 b u o e k
   ·exact x.kp st2 c _ o z k) (λ_ q=>q) λ_ _ q=>q
end
section
variable{P:bd}{w:bz}{K:a8}{mg:Str->Option ag}{base:bP}{N:List Str}{qual:Str}{scope:eP}{f:ak}{cd:ag}{A:cg}{outer:List Env}{s:aq}{H:Hp}{E:XK}
def QB{x:Str}{Q c t:Pos}{i:bC}{bA:List bC}{C:ak}{g:List ag}{a d Bn:String}{y:TA}(O:OwnCls x C g a mg base)(B:ExcBaseFacts Bn a d g)
  (hg:Gl (kC (oS P w) P w K mg base N qual scope f cd A outer s H E) x) (X:PA (kC (oS P w) P w K mg base N qual scope f cd A outer s H E) (i::bA) y)
  (he:aF (i::bA) (kC (oS P w) P w K mg base N qual scope f cd A outer s H E).env=(false,eu i (kC (oS P w) P w K mg base N qual scope f cd A outer s H E).env)::aF bA (kC (oS P w) P w K mg base N qual scope f cd A outer s H E).env:=by rfl)
  (n:(x==("__debug__" : Str))=false:=by decide) (p:(hG c (aF bA (kC (oS P w) P w K mg base N qual scope f cd A outer s H E).env)).any (·.1)=false:=by rfl):
  PS (kC (oS P w) P w K mg base N qual scope f cd A outer s H E) (.Raise (some (.Call (.Name x Q) (i::bA) [] c)) none t) (λD m j=>y m j λL v=>L.length<=sizeLine/\E (.ref C) none v):=by
 intro e s1 m j D I h;obtain⟨tl,S,nm,q,bs,hdct,sn,sub,ab,col,dd,k0,k1,k2,k3,k5,mN,hC,M,l,T⟩:=O.obj;refine wpAny_Raise_call_subT (C:=C) (nm:=nm) (q:=q) (N:=S) (bs:=bs) (bm:=tl) (hdct:=hdct) (sn:=sn) (sub:=sub) (ab:=ab) (col:=col) (dd:=dd) (k0:=k0) (k1:=k1) (k2:=k2) (k3:=k3) (k5:=k5)
  B (mN:=mN) (T.hasType B.hasBase) (I.ok.hd rfl) ?_ l (A8 I hg O.bound ⟨rfl,?_⟩ n)
 ·rw[he];show(false||_)=false;rw[rm];exact p
 ·have G:=X c e s1 m j _ I h;rw[he] at G ⊢;refine JK (fS G λus s2 ⟨L,v,u,r2,z,U⟩=>?_);have k:∀b o,base.get? b=some o->s2.heap.get? b=some o:=u.bk;exact⟨rfl,by show us.length<=sizeLine;rw[<- r2.length];exact z,k _ _ hC,M.keeps k,T.keeps k,λh' ea Y=>EZ u Y U⟩
end
structure Hc (base:bP) (C:ak) (bm:List ag):Prop where
 obj:∃nm q N bs hdct sn sub ab col dd k0 k1 k2 k3 k5 newId,base.get? C=some (excClassObj nm q C N bs bm hdct sn sub ab col dd k0 k1 k2 k3 k5 newId)
 exc:bm.contains (.type "BaseException")=true
def AJ(j:∀b o,base.get? b=some o->s.heap.get? b=some o)(x:Hc base C bm)(y:Hc base Cp bp)
  (G:bm.contains (.ref Cp)=true) (he:s.heap.get? ea=some oe) (a:oe.cls=.ref C) (h:Q true s):au M A (excMatches (.ref ea) (.ref Cp)) Q E s:=by
 obtain⟨⟨nm,q,U,bs,hdct,sn,sub,ab,col,dd,k0,k1,k2,k3,k5,e,I⟩,Y⟩:=x;obtain⟨⟨w,q',z,P,i,O,m,H,k,B,n,S,t,L,v,c,u⟩,p⟩:=y;have K:=j _ _ I;have l:=j _ _ u;have N:(bh C::bm).contains (.ref Cp)=true:=by rw[xT,G,Bool.or_true]
 have c2:(bh Cp::bp).contains (.type "BaseException")=true:=by rw[xT,p,Bool.or_true]
 have f:=tc_notTuple;obtain⟨hp,g,d,T,X⟩:=s;unfold excMatches;repeat (first
  |(with_reducible refine wpAny_loadPart_at he ?_;rw[a])
  |with_reducible refine wpAny_loadPart_at l ?_
  |(with_reducible refine wpAny_isSubtype_exc K ?_;rw[N])
  |(with_reducible refine wpAny_isSubtype_exc l ?_;rw[c2])
  |wp_step)
 exact h
def AK(a C:ak):HO:=.ext λh=>∃o,h.get? a=some o/\o.cls=.ref C
def UW(e:h.get? ea=some o)(c:o.cls=.ref C):c_ P w H h ea (AK ea C):=
 ⟨⟨o,e,c⟩,⟨o,e⟩,λa b ⟨o,e,c⟩ k=>⟨o,k o e,c⟩⟩
def ZH(X:Cx)(a:ak):Cx:={X with A:=X.A.mark (some (.ref a)),calm:=false,xe:=λ_ _=>False}
def bQ.inH(I:bQ X pins σ H s)(a:ak):bQ (ZH X a) pins σ H s:=
 ⟨⟨I.ok.mod,I.ok.kind,I.ok.glob,I.ok.blt,I.ok.above,I.ok.inj,I.ok.has,I.ok.cab,(λz=>mQ z),I.ok.frames,I.ok.stk,I.ok.exf,I.ok.bs,I.ok.bsz,I.ok.noex,I.ok.exfs,I.ok.funs,I.ok.frf⟩,I.os,I.bare,I.base,I.loc,I.cell,I.free,I.freeC,I.pin,I.hok,I.len⟩
def bQ.outH(ok:X.Ok)(I:bQ (ZH X ea) pins σ H s):bQ X pins σ H s:=
 ⟨ok,I.os,I.bare,I.base,I.loc,I.cell,I.free,I.freeC,I.pin,I.hok,I.len⟩
def AL(X:Cx):St:=pf X.N.length none
def bQ.forget(I:bQ X pins σ H s)(l:h'.Ns X.env.locals m')(g:bG X.env.locals s.heap h'):bQ X pins (AL X) H {s with heap:=h',toks:=t'}:=by
 have a:∀b o,X.s₀.heap.get? b=some o->b≠X.env.locals:=λb o e=>aO (aK (av e) I.ok.above);refine⟨I.ok,I.os,I.bare,⟨λb o e n j h=>(g.2 b (a b o e)).trans (I.base.keep b o e n j h),λb o e n j h=>?_,I.base.free,λb o e h=>?_,I.base.tups,I.base.frzs,I.base.tbls⟩,⟨m',l,λi x v t f u=>?_⟩,λx c e=>?_,I.free,I.freeC,λp m=>?_,GQ I.hok I.free g,by simp[AL]⟩
 ·obtain⟨q,k⟩:=I.base.slot b o e n j h;exact⟨q,(g.2 b (a b o e)).trans k⟩
 ·obtain⟨o',k⟩:=I.base.there b o e h;exact⟨o',(g.2 b (a b o e)).trans k⟩
 ·have f:(AL X)[i]?=some (some v):=f;unfold AL at f;rw[c8] at f;split at f<;>cases f
 ·obtain⟨v,z⟩:=I.cell x c e;exact⟨v,z.sameBut g (I.cne x c e)⟩
 ·obtain⟨e,n,ne,nf,d⟩:=I.pin p m;exact⟨(g.2 p.1 ne).trans e,n,ne,nf,d⟩
def WW(X:Cx)(Cp:ak)(i:Nat)(b:TS)(D:ED):XK:=λc _ H'=>∃C bm,c=.ref C/\Hc X.base C bm/\bm.contains (.ref Cp)=true /\
 ∀a,H' a=none->b {nx:=λ_ H=>D.nx (AL X) H,rt:=D.rt} ((AL X).set i (some (.ref a))) (upd H' a (AK a C))
def q1P(X:Cx)(Cp:ak)(i:Nat)(tb:XK->TS)(b:TS):TS:=λD a H=>tb (WW X Cp i b D) D a H
def QC(I:bQ X pins σ H s)(b:Gl X x)(a:X.mg x=some u)(h:Q u s)
  (c:(x==("__debug__" : Str))=false:=by decide):au (az X.prog X.w) A (eu (.Name x pos) X.env) Q E s:=
 oT I.ok.kind b (Gj (by rw[I.ok.glob];exact I.mod.glob.keeps I.bk) a h) c
def WX(X:Cx)(xe:ag->aq->Prop)(pn:List (ak×Obj)):Cx:={X with xe:=xe,pn:=pn}
def bQ.inT(I:bQ X pins σ H s)(b:ag->aq->Prop):bQ (WX X b (X.pn++pins)) [] σ H s:=
 ⟨⟨I.ok.mod,I.ok.kind,I.ok.glob,I.ok.blt,I.ok.above,I.ok.inj,I.ok.has,I.ok.cab,I.ok.hd,I.ok.frames,I.ok.stk,I.ok.exf,I.ok.bs,I.ok.bsz,I.ok.noex,I.ok.exfs,I.ok.funs,I.ok.frf⟩,I.os,I.bare,I.base,I.loc,I.cell,I.free,I.freeC,
  λp a=>I.pin p ((List.mem_append.mp a).elim id λz=>absurd z (by simp)),I.hok,I.len⟩
def bQ.outT(ok:X.Ok)(I:bQ (WX X xe (X.pn++pins)) pins' σ H s):bQ X pins σ H s:=
 ⟨ok,I.os,I.bare,I.base,I.loc,I.cell,I.free,I.freeC,λp a=>I.pin p (c6 _ a),I.hok,I.len⟩
def bQ.track0(I:bQ X pins σ H s)(i:X.s₀.heap.get? D=none)(a:H D=none)(f:D≠X.env.locals)(g:∀x c,X.env.cells.lookup x=some c->c≠D)(j:∀p∈X.pn++pins,p.1≠D)
  (new:c_ X.prog X.w (upd H D ho) s.heap D ho):bQ X pins σ (upd H D ho) s:=
 ⟨I.ok,I.os,I.bare,⟨I.base.keep,I.base.slot,λb o e n h=>by rw[b9 (λz=>by rw[z,i] at e;cases e)];exact I.base.free b o e n h,I.base.there,λb xs e=>by have q:=I.base.tups b xs e;rw[b9 (bw q a)];exact q,
  λb o xs e=>by have q:=I.base.frzs b o xs e;rw[b9 (bw q a)];exact q,λb ps e=>by obtain⟨m,q⟩:=I.base.tbls b ps e;exact⟨m,by rw[b9 (bw q a)];exact q⟩⟩,I.loc,I.cell,
  by rw[b9 (dk f)];exact I.free,λx c e=>by rw[b9 (g x c e)];exact I.freeC x c e,λp d=>by
  obtain⟨e,n,r⟩:=I.pin p d;exact⟨e,by rw[b9 (j p d)];exact n,r⟩,yo I.hok a new,I.len⟩
def Yx(hg:Gl X x)(hm:X.mg x=some (.ref Cp))(y:Hc X.base Cp bp)
  (hN:X.N.Nodup) (hi:X.N[i]?=some n) (hn:X.env.scope.names.lookup n=some .local) (d7:∃l,X.stack=X.env::l/\X.env.frame=some X.env.locals) (d9:X.ex=[])
  (hb:∀(E:XK) (U:ag->aq->Prop) (pn:List (ak×Obj)),lD (oS X.prog X.w) (WX X U pn) E->Co (WX X U pn) body (tb E)) (hs:∀g,Co (ZH X g) (b0::suite) ts) (e0:(x==("__debug__" : Str))=false:=by decide):
  PS X (.Try body [.ExceptHandler (some (.Name x np)) (some n) (b0::suite) hpos] [] [] pos) (q1P X Cp i tb ts):=by
 intro d s σ H D I h;obtain⟨l,hl,d6⟩:=d7;have ok:=I.ok;refine wpAny_Try_except ?_;let U:ag->aq->Prop:=λe a0=>au (az X.prog X.w) X.A (Et e X.env) (λ_ a2=>au (az X.prog X.w) X.A (setFlight e none) (λ_ c1=>
  au (az X.prog X.w) X.A (handleBy e X.env [.ExceptHandler (some (.Name x np)) (some n) (b0::suite) hpos]) (SP X d D) X.xe c1) X.xe a2) X.xe a0
 have hp:lD (oS X.prog X.w) (WX X U (X.pn++d)) (WW X Cp i ts D):=by
  intro e2 σ' H1 s1 e s' I' hx;have I1:bQ X d σ' H1 s1:=I'.outT ok;obtain⟨g,C,t,H',B,rfl,os,c0,G,C',bm,e1,ox,d4,d0⟩:=hx;cases e1;have G:WV X.prog X.w X.stack H1 H' s1.heap s'.heap B g C t:=G;have O:∀h2,WV X.prog X.w X.stack H1 H' s1.heap h2 B g C t->bQ X d σ' H' {s' with heap:=h2}:=λh2 a=>
   I1.call' (s':={s' with heap:=h2}) (ch:=[]) os a.un a.hok c0 (λb z=>absurd z (by simp))
  have a1:=G.fly;rw[hl] at a1;show au _ X.A (Et (.ref g) X.env) _ _ s';refine wpAny_looks_onW (base:=B) (outer:=l) (L:=X.env.locals) (by rw[ok.frames,hl]) d6 a1 λh2 d3 d5=>?_;refine wpAny_landsW d3 λh3 T c3=>?_;have P:=d5.trans c3;have a3:=G.on (by rw[hl];exact T) P;have I3:=O h3 a3;obtain⟨oe,he,e5⟩:=T.there;refine wpAny_handleBy_cons (codeAny_handlers_test (QC I3 hg hm ?_ e0)) (by intro q;cases q);refine AJ (base:=X.base) (s:={s' with heap:=h3}) I3.bk ox y d4 he e5 (codeAny_handlers_suite_as ?_);refine lands_againW (s:={s' with heap:=h3}) T λh4 M d8=>?_;have a4:=G.on (by rw[hl];exact M) (P.trans d8);have I4:=O h4 a4;obtain⟨e6,ws,b8,a6,d1,_⟩:=M.first;have nB:B.get? g=none:=M.2.1;have d2:g∉vi X.stack:=λz=>by
   obtain⟨_,o',k1,k2⟩:=gd M.2.2.1 (by rw[<- hl];exact z);rw[b8] at k1;cases k1;exact k2 _ d1
  have n1:s1.heap.get? g=none:=by
   cases q:s1.heap.get? g with
   |none=>rfl
   |some o=>
    obtain⟨o',k⟩:=G.all g o q d2;rw[nB] at k;cases k
  have nH:H' g=none:=by
   cases q:H' g with
   |none=>rfl
   |some u=>
    obtain⟨o',k⟩:=G.cov g u q;rw[nB] at k;cases k
  have a5:g≠X.env.locals:=λz=>by
   obtain⟨m,⟨o,_,_,k,_⟩,_⟩:=I1.loc;rw[<- z,n1] at k;cases k
  have Q:∀x c,X.env.cells.lookup x=some c->c≠g:=λx c e z=>by
   obtain⟨v,o,k,_⟩:=I1.cell x c e;rw[z,n1] at k;cases k
  have b7:∀p∈X.pn++d,p.1≠g:=λp hp z=>by
   have k:=(I1.pin p hp).1;rw[z,n1] at k;cases k
  have n0:X.s₀.heap.get? g=none:=by
   cases q:X.s₀.heap.get? g with
   |none=>rfl
   |some o=>
    by_cases hx:g∈X.ex
    ·rw[d9] at hx;cases hx
    ·obtain⟨o',k⟩:=I1.base.there g o q hx;rw[n1] at k;cases k
  have I5:=(I4.weak (σ':=AL X) (by rw[I4.len];simp[AL]) (λj v z=>by
   unfold AL at z;rw[c8] at z;split at z<;>cases z)).track0 (ho:=AK g C) n0 nH a5 Q b7 (UW b8 a6)
  refine tx I5 hN hi (.inl hn) (v:=.ref g) rfl (λs6 I6=>?_) (.inr hn);refine cn (hs g d s6 _ _ _ (I6.inH g) (d0 g nH)) (λf s7 q7=>?_) λ_ _ z=>z.elim;have fin:∀{K:St}{S:Hp}{Q':St->Hp->Prop},bQ (ZH X g) d K S s7->(∀Y,bQ X d (AL X) S Y->SP X d D f Y)->au (az X.prog X.w) X.A (do Jw X.env n .none;unbindBehindTheSuite X.env n hpos) (λ_ Y=>SP X d D f Y) X.xe s7:=λ{K S Q'} J k=>by
   have J:=J.outH ok;obtain⟨m,e4,_⟩:=J.loc;exact wpAny_nameGoes hn e4 (by rw[ok.kind];rfl) λh8 m8 e3 c5=>k _ (J.forget e3 c5)
  cases f with
  |next=>obtain⟨K,S,J,q⟩:=q7;exact fin (Q':=λ_ _=>True) J λY I8=>⟨_,_,I8,q⟩
  |brk=>obtain⟨K,S,J,q⟩:=q7;exact q.elim
  |cont=>obtain⟨K,S,J,q⟩:=q7;exact q.elim
  |ret v=>obtain⟨z,K,S,J,r,q⟩:=q7;exact fin (Q':=λ_ _=>True) J λY I8=>⟨z,_,_,I8,r,q⟩
 refine cn (hb _ U (X.pn++d) hp [] s σ H D (I.inT U) h) (λf s1 q=>?_) λe s1 q=>q;have q:SP X d D f s1:=by
  cases f with
  |next=>obtain⟨σ',H',J,q⟩:=q;exact⟨σ',H',J.outT ok,q⟩
  |brk=>obtain⟨σ',H',J,q⟩:=q;exact⟨σ',H',J.outT ok,q⟩
  |cont=>obtain⟨σ',H',J,q⟩:=q;exact⟨σ',H',J.outT ok,q⟩
  |ret v=>obtain⟨z,σ',H',J,r,q⟩:=q;exact⟨z,σ',H',J.outT ok,r,q⟩
 cases f with
 |next=>exact qk q
 |brk=>exact q
 |cont=>exact q
 |ret v=>exact q
structure QD (K:a8) (C:ak):Prop where
 ga:iw K (.ref C) "__getattribute__"=some (some (.builtin "BaseException.__getattribute__"))
 gn:iw K (.ref C) "__getattr__"=some none
 ca:iw K (.ref C) "__class__"=some (some (.builtin "object.__class__"))
 gg:wB K (.builtin "object.__class__") "__get__"=some (some (.builtin "getset_descriptor.__get__"))
 tk:zG K (.builtin "object.__class__")=some true
 mo:e7 K C (.type "object")=some true
 be:e7 K C (.type "BaseException")=some true
 cl:(j3 K C).isSome=true
def Ds(x C:ak)(h:bP):Prop:=∃o,h.get? x=some o/\o.cls=.ref C
def Ds.type(p:Ds x C h):TL M h (typeOf (.ref x)) (.ref C):=by
 obtain⟨o,e,c⟩:=p;exact c ▸ (PySem.W.Looks.ld e).andThen .now
section
variable{prog:bd}{w:bz}{A:cg}{E:ag->aq->Prop}{s:aq}{K:a8}{x C:ak}{R:Eo->aq->Prop}
open PySem.W Builtin Builtin.ObjectAttr Builtin.Getset_descriptor in
def UX(Z:QD K C)(X:K.In s.heap)(p:Ds x C s.heap)(q:R (.ok (.ret (.ref C))) s):fR (az prog w) A (.call (.builtin "getset_descriptor.__get__") ⟨[.builtin "object.__class__",.ref x,tp],[]⟩) R s:=by
 obtain⟨a,d,dr,b,f⟩:=s;have c:=p.type (M:=az prog w);have e:=looks_mroIn (M:=az prog w) X Z.mo;refine y8 KF.slot_gs.plain KF.entry_gs ?_;refine KF.slot_gs.check _ _ _ _ _ _ _ _ KF.type_class (KF.args_gs _ _ _) ?_;unfold iB.«getset_descriptor.__get__» descrGet;rw[dga_obj];refine a7 (a9 ?_);unfold descrGetter descrCheckInstance descrNameAndClass At;simp only[KF.owner_class];repeat lk
 refine⟨Pb _ ∎,eX KF.entry_class ?_⟩;unfold iB.«object.__class__» shownTypeOf;repeat lk
 exact q
def NY(Z:QD K C)(X:K.In s.heap)(p:Ds x C s.heap)(h:Q (some (.ref C)) {s with toks:=s.toks+1}):au (az prog w) A (getAttr? (.ref x) "__class__") Q E s:=by
 obtain⟨f,g,d,t,q⟩:=s;have e:=p.type (M:=az prog w);have l:=tj (M:=az prog w) X Z.ga;have L2:=tj (M:=az prog w) X Z.gn;have k:=tj (M:=az prog w) X Z.ca;have u:=PySem.W.looks_specialIn (M:=az prog w) X Z.gg;have i:=PySem.W.looks_takesIn (M:=az prog w) X Z.tk;have o:=PySem.W.looks_mroIn (M:=az prog w) X Z.be;unfold getAttr? getAttrBy? getAttrBy;refine a7 (wpAny_mkText (a7 (iG (bY (a7 (e.at (a7 (l.at ?_))))))));show au _ _ (getAttrByItsOwn (.ref x) (.str "__class__" t) (.ref C) (.builtin "BaseException.__getattribute__") false false) _ _ _;unfold getAttrByItsOwn;show au _ _ (JH (.ref C) "__getattr__">>=_) _ _ _;refine a7 (L2.at (a7 (iG (bY ?_))));show au _ _ (boundAndCalled (.builtin "BaseException.__getattribute__") (.ref x) (.str "__class__" t)) _ _ _;unfold boundAndCalled;refine a7 (eM (F.excAttr_ValueError.ga.bind (.ref x)) ?_);show au _ _ (call (.builtin "BaseException.__getattribute__") [.ref x,.str "__class__" t]) _ _ _;refine Ap (y8 F.excAttr_ValueError.ga.plain F.entry_bexc_ga ?_);have n:builtinKind "BaseException.__getattribute__"=some .slot:=by decide +kernel
 have c:splitId "BaseException.__getattribute__"=some ("BaseException","__getattribute__"):=by decide +kernel
 have b:=F.args_bexc_ga (.ref x) (.str "__class__" t);simp only[checkBuiltinCall,n,c];have j:TL (az prog w) f (At (.ref x) (.type "BaseException")) true:=e.andThen o;refine a7 (j.at ?_);rw[if_neg ⋯];refine eM (a:=()) (by unfold argsOk at b;exact b) ?_;unfold iB.«object.__getattribute__»;refine a7 (m:=slotArgs "__getattribute__" 1 _) (a9 ?_);refine a7 (m:=TM _) (a9 ?_);refine a7 (e.at (a7 ?_));unfold TQ;refine a7 (k.at (a7 (u.at (a7 ?_))));refine a7 (i.at ?_);refine a9 (a7 (eI (a9 ?_)));show au _ _ (Ji [.builtin "object.__class__"] (call (.builtin "getset_descriptor.__get__") [.builtin "object.__class__",.ref x,.ref C])>>=λv=>ret v) _ _ _;refine a7 (bY (Ap (UX (s:=⟨f,g,d,t+1,q⟩) Z X p ?_)));exact a9 (PySem.W.handed_on rfl (a9 h))
def QE(Z:QD K C):PySem.W.KitX K (.ref x) (.ref C) (Ds x C) where
 ty:=λ_ _ _ p=>p.type
 it:=λM h X _=>by
  obtain⟨e,a⟩:=Option.isSome_iff_exists.mp Z.cl;unfold j3 at a;split at a
  ·rename_i g d' b c ho
   intro j Q' m s' k q;unfold isType loadHead;exact a7 (wpAny_loadPart (k _ _ (X _ _ ho)) (a9 q))
  ·cases a
 ne:=λh f dd i n l X d=>by
  refine Bool.eq_false_iff.mpr λq=>?_;obtain rfl:C=f:=Value.ref.inj (beq_iff_eq.mp q);obtain⟨e,a⟩:=Option.isSome_iff_exists.mp Z.cl;unfold j3 at a;split at a
  ·rename_i g d' b c ho
   have z:=(X _ _ ho).symm.trans d;cases z
  ·cases a
 ca:=λX p k=>NY Z X p k
end
def zh:jU X (.builtin "isinstance") (λxs H Q=>∃x c d b,xs=[x,c]/\((∃n,c=.ty n/\d=.type n)\/∃g,c=.ref g/\d=.ref g)/\((∃t,ym X.K H x t/\e8 X.K t d=some b) \/
  ∃a C,x=.ref a/\H a=some (AK a C)/\QD X.K C/\e8 X.K (.ref C) d=some b)/\Q (.bl b) H):=by
 intro i s m H xs o Q I r h;obtain⟨x,c,d,b,rfl,l,h,q⟩:=h;obtain⟨u,v,rfl,k,j⟩:=Q2 r;obtain rfl:v=d:=by
  rcases l with⟨n,rfl,rfl⟩|⟨g,rfl,rfl⟩
  ·exact j
  ·exact j
 rcases h with⟨t,ty,e⟩|⟨a,C,rfl,hH,Z,e⟩
 ·exact qN I k ty e λf=>⟨.bl b,H,I.tok f,rfl,q⟩
 ·cases k;have p:Ds a C s.heap:=(show c_ X.prog X.w H s.heap a (AK a C) from I.hok a _ hH).1;exact cT (QE Z) I.kIn p e (λz=>nomatch z) λf=>⟨.bl b,H,I.tok f,rfl,q⟩
structure o9 (k:Nat) (A:cg):Prop where
 dp:A.depth+3*k+5<Jz
 un:A.units+16*k+200<eQ
def l8.h(r:l8 k A):o9 k A:=⟨r.dp,r.un⟩
def o9.mark(r:o9 k A)(v:Option ag):o9 k (A.mark v):=⟨r.dp,r.un⟩
def o9.deeper(r:o9 (k+1) A)(env:Env):o9 k (A.deeper env):=⟨by have:=r.dp;show A.depth+1+3*k+5<_;omega,by have:=r.un;show A.units+3+16*k+200<_;omega⟩
structure Hd (P:bd) (w:bz) (K:a8) (mg:Str->Option ag) (base:bP) (k:Nat) (f:ak) (fd:gW) (ps:List Str) (sp:Sp):Prop where
 len:∀vs H Q E,sp vs H Q E->vs.length=ps.length
 run:∀(A:cg) (outer:List Env) (s:aq) (H:Hp) (args:Args) (us:List ag) (vs:List V) (Q:VK) (E:XK),o9 k A->Kk P w K mg base A outer s H->C7 s fd args (ps.zip us)->dI vs us->sp vs H Q E ->
  fR (az P w) A (.call (.ref f) args) (CR CX0 outer P w H s Q E) s
def cxF(P:bd)(w:bz)(K:a8)(mg:Str->Option ag)(base:bP)(N:List Str)(qual:Str)(scope:eP)(f:ak)(cd:ag)(A:cg)(outer:List Env)(s:aq)(H:Hp):Cx where
 prog:=P
 w:=w
 K:=K
 mg:=mg
 base:=base
 A:=A.deeper (kA qual scope s.heap.objs.size f cd)
 N:=N
 s₀:=s
 H₀:=H
 env:=kA qual scope s.heap.objs.size f cd
 outer:=outer
 stack:=kA qual scope s.heap.objs.size f cd::outer
 ex:=[]
 calm:=false
 fn:=λ_=>true
 pn:=[]
 xe:=λ_ _=>False
section
variable{P:bd}{w:bz}{K:a8}{mg:Str->Option ag}{base:bP}
def Kz
  (S:bM N ps scope) (a:Kk P w K mg base A outer s H) (c:vs.length=ps.length) (r:dI vs us)
  (x:InCallC s s.heap.objs.size (JA (kA qual scope s.heap.objs.size f cd).kindOf (ps.zip us) λ_=>none) (cq (s.heap.objs.size+1) scope.names []) (JC (kA qual scope s.heap.objs.size f cd).kindOf (ps.zip us) λ_=>none) s1):
  bQ (cxF P w K mg base N qual scope f cd A outer s H) [] (start N vs) H s1:=by
 have b:Kk P w K mg base {A with handled:=none} outer s H:=⟨a.frames,a.mod,a.bs,a.bsz,a.funs,a.frf,a.hok,a.bare⟩;have I:=Di (CX:=CX0) (E:=E0) S (A:={A with handled:=none}) rfl b c r x;exact⟨⟨I.ok.mod,I.ok.kind,I.ok.glob,I.ok.blt,I.ok.above,I.ok.inj,I.ok.has,I.ok.cab,(λz=>mQ z),I.ok.frames,I.ok.stk,I.ok.exf,I.ok.bs,I.ok.bsz,I.ok.noex,I.ok.exfs,I.ok.funs,I.ok.frf⟩,I.os,I.bare,I.base,I.loc,I.cell,I.free,I.freeC,I.pin,I.hok,I.len⟩
def Yy{k:Nat}{f:ak}{name a:Str}{d:Arguments}{g:List eG}{scope:eP}{M kV l X c Y oc:ag}{an od:Option ak}
  {B:Array (Option ag)}{N ps:List Str}{sp:Sp} (lk:K.lookup f=some ⟨oc,od,.func (fH name a d g scope M kV l X an c Y),B⟩) (z:lv K c a=true) (S:bM N ps scope)
  (len:∀h H Q E,sp h H Q E->h.length=ps.length)
  (j:∀(A:cg) (outer:List Env) (s:aq) (H:Hp) (h:List V) (Q:VK) (E:XK),o9 k (A.deeper (kA a scope s.heap.objs.size f c))->sp h H Q E ->
   ∃t,Co (cxF P w K mg base N a scope f c A outer s H) g t/\t {nx:=λ_ H'=>Q .non H',rt:=Q} (start N h) H):
  Hd P w K mg base (k+1) f (fH name a d g scope M kV l X an c Y) ps sp:=by
 refine⟨len,λA outer s H U us h Q E O m hb r p=>?_⟩;have hl:=len _ _ _ _ p;have T:K.In s.heap:=m.mod.kin.keeps λb o e=>(m.bs b o e).1;have G:s.heap.NoLimit:=m.mod.nolimit.keeps λb o e=>(m.bs b o e).1;have i:∀y∈ps.zip us,scope.names.lookup y.1=some .local\/(scope.names.lookup y.1=some .cell/\((cq (s.heap.objs.size+1) scope.names []).lookup y.1).isSome=true):=λ⟨n,v⟩ hy=>by
  rcases S.par n (t4 hy).1 with q|q
  ·exact .inl q
  ·exact .inr ⟨q,gm _ _ _ (.inl q)⟩
 refine TF (by have:=O.dp;omega) (T _ _ lk) rfl S.co S.gen rfl (JD T z) (hb _ _ _ _ ?_);refine JF S.kind i λenv he s1 x=>?_;subst he;refine⟨G.keeps x.toInCall.keep,codeAny_func ?_⟩;obtain⟨t,ht,hq⟩:=j A outer s H h Q E (O.deeper _) p;have I:bQ (cxF P w K mg base N a scope f c A outer s H) [] (start N h) H s1:=Kz S m hl r x;refine cn (ht [] s1 (start N h) H _ I hq) (λfl s' hs=>?_) λe s' hs=>(show False from hs).elim;have fin:∀{σ':St}{H':Hp}{v:V}{u:ag},bQ (cxF P w K mg base N a scope f c A outer s H) [] σ' H' s'->dX v u->Q v H'->CE outer P w H s Q u s':=
  λ{σ' H' v u} J L q=>⟨v,H',J.os,J.bare,J.base,J.hok,L,q⟩
 cases fl with
 |ret u=>
  obtain⟨v,σ',H',J,L,q⟩:=hs;exact fin J L q
 |next=>
  obtain⟨σ',H',J,q⟩:=hs;exact fin (v:=V.non) (u:=dO) J rfl q
 |brk=>
  obtain⟨_,_,_,q⟩:=hs;exact fG q
 |cont=>
  obtain⟨_,_,_,q⟩:=hs;exact fG q
def GJ.okH{x a:Str}{st:eG}{f:ak}{h:gW}{N ps:List Str}{k:Nat}{sp:Sp}(F:GJ K x a st f h)(S:bM N ps (aB st))(len:∀d H Q E,sp d H Q E->d.length=ps.length)
  (c:∀(b:ag) (A:cg) (outer:List Env) (s:aq) (H:Hp) (d:List V) (Q:VK) (E:XK),o9 k (A.deeper (kA a (aB st) s.heap.objs.size f b))->sp d H Q E ->
   ∃t,Co (cxF P w K mg base N a (aB st) f b A outer s H) (jG st) t/\t {nx:=λ_ H'=>Q .non H',rt:=Q} (start N d) H):Hd P w K mg base (k+1) f h ps sp:=by
 obtain⟨o,q,kV,i,n,an,b,p,l,rfl,m,e⟩:=F.ex;exact Yy m e S len λA outer s H d Q E j g=>c b A outer s H d Q E j g
end
def QF(F:Hd X.prog X.w X.K X.mg X.base k f fd ps sp)(z:o9 k X.A)(L:Gl X x)(E:X.mg x=some (.ref f))(G:f6 X.K (.ref f)=true)(B:lC X.K fd ps [])
  (o:PA X (e::es) t) (i:(x==("__debug__" : Str))=false:=by decide) (he:aF (e::es) X.env=(false,eu e X.env)::aF es X.env:=by rfl) (j:(hG pos (aF es X.env)).any (·.1)=false:=by rfl):
  PE X (.Call (.Name x p) (e::es) [] pos) (M1 sp [] E0 t):=by
 intro c s v H Q I h;refine lV (A8 I L E ?_ i);refine vB (h₀:=X.base) I.ok.mod.kin G (fS (o pos c s v H _ I h) λd s1 ⟨m,l,g,r,q⟩=>⟨g.kIn,?_⟩) he j;have q:sp (m++[]) l Q E0:=q;rw[ck] at q;have n:d.length=ps.length:=by rw[<- r.length];exact F.len _ _ _ _ q
 have a:=B s1 d g.kIn (by rw[ck];exact n);rw[ck] at a;refine Ap (k_ (F.run X.A X.stack s1 l ⟨d,[]⟩ d m Q E0 z g.env0 a r q) λr s' b=>?_);cases r with
 |error e=>exact(show False from b).elim
 |ok y=>
  cases y with
  |ret u=>exact g.after b
  |next=>exact fG b
  |brk=>exact fG b
  |cont=>exact fG b
def tyD:Ew->String
 |.none=>"NoneType" | .bool _=>"bool" | .int _=>"int" | .str _=>"str" | .list _=>"list" | .tuple _=>"tuple" | .dict _=>"dict"
def KA(I:bQ X pins σ H s)(a:dX x u)(r:Ky X.K H x d)(e:e8 X.K (.type (tyD d)) c=some b)(h:∀k,Q (.bool b) {s with toks:=k}):
  au (az X.prog X.w) A (call (.builtin "isinstance") [u,c]) Q E s:=by
 cases r with
 |none=>exact qN I a .non e h
 |bool y=>exact qN I a (.bl y) e h
 |int i=>exact qN I a (.int i) e h
 |str y=>exact qN I a (.str y) e h
 |list f _=>
  cases a;obtain⟨g,j,⟨o,n,ho,c,_,dd⟩,_⟩:=I.list f;exact cT wC I.kIn ⟨o,ho,c⟩ e (λz=>nomatch z) h
 |tuple f _=>
  cases a;obtain⟨g,j,⟨o,ho,c,n,dd⟩,_⟩:=I.tuple f;exact cT Jy I.kIn ⟨o,ho,c⟩ e (λz=>nomatch z) h
def QG:jU X (.builtin "isinstance") (λxs H Q=>∃x d T b,xs=[x,.ty T]/\Ky X.K H x d/\e8 X.K (.type (tyD d)) (.type T)=some b/\Q (.bl b) H):=by
 intro a s j H xs k Q I r h;obtain⟨x,d,T,b,rfl,i,e,q⟩:=h;obtain⟨u,v,rfl,g,f⟩:=Q2 r;obtain rfl:v=.type T:=f;exact KA I g i e λc=>⟨.bl b,H,I.tok c,rfl,q⟩
end L2
namespace HT
open PySem PyProof.Rows
def He{t f:ak}{items:Array ag}{k i:ag}{lo c:Option Int}{Q:ag->aq->Prop}(a:U0 s.heap t items)(hs:s.heap.IsSliceOf f k i .none)(pl:xY k lo)(m:xY i c)
  (j:jV items.size 0 lo=0/\jV items.size items.size c=items.size) (h:Q (.ref t) s):au (az prog w) A (oP (.ref t) (.ref f)) Q E s:=by
 obtain⟨n,d,e,l⟩:=id hs;have g:s.TypeIs (.ref f) "slice":=⟨n,d,e⟩;unfold oP;try with_reducible refine bY ?_
 first|refine a7 (a9 ?_)|skip
 refine a7 (C9 a.typeIs ⋯ ?_);refine a7 (cy (name:=gO "__getitem__") a.typeIs dB
  (bE dB a.typeIs zH ?_ (Ar _ _)))
 show au _ _ (mE (.ref t)>>=_) _ _ s;refine a7 (Nl a ?_);refine a7 (mT g ?_);rw[if_pos ⋯];refine a7 (qO hs pl m ?_);have b:((((jV items.size 0 lo:Nat):Int)==0&&(1:Int)==1&&(jV items.size items.size c-jV items.size 0 lo)==items.size)=true):=by
  rw[j.1,j.2];simp
 show au _ _ (if(((jV items.size 0 lo:Nat):Int)==0&&(1:Int)==1&&(jV items.size items.size c-jV items.size 0 lo)==items.size)=true then _ else _) _ _ s;rw[if_pos b];refine a7 ?_;unfold Builtin.Tuple.tupleIsExact;refine a7 (mT a.typeIs (a9 ?_));rw[if_pos ⋯];refine a7 (eI ?_);first
  |exact a9 (a9 ⟨_,rfl,h⟩)
  |exact a9 ⟨_,rfl,a9 h⟩
  |exact a7 (a9 (a9 ⟨_,rfl,a9 h⟩))
  |exact a7 (a9 (a9 ⟨_,rfl,h⟩))
end HT
namespace L2
open PySem PySem.Spec PyProof.Rows
inductive QH (K:a8) (x:V) (lo:Option Int) (hi:Option Int) (H:Hp) (Q:VK):Prop
 |mk (a xs:_) (h0:x=.ref a) (h1:lY K H a xs) (h2:(HT.jV xs.length 0 lo=0/\HT.jV xs.length xs.length hi=xs.length)) (h3:Q (.ref a) H):QH K x lo hi H Q
def q0e(K:a8):V->Option Int->Option Int->Hp->VK->Prop:=QH K
def UY:SlR X (q0e X.K):=by
 intro e s l H x v n o lo m p Q I f hs pl i h;obtain⟨a,xs,rfl,j,g,q⟩:=h;cases f;obtain⟨c,r,d,k⟩:=I.tuple j;have b:c.toArray.size=xs.length:=by rw[aM];exact r.length.symm
 exact⟨"tuple",_,PyProof.Rows.slot_tuple_getitem.lookup,d.typeIs,HT.He d hs pl i (by rw[b];exact g) ⟨.ref a,H,I,rfl,q⟩⟩
def ki(h:H p=none):dS H (upd H p o):=λb u e=>by rw[b9 (bw e h)];exact e
theorem vO:∀{bs:List Bool}{a:List ag},dI (bs.map V.bl) a->a=bs.map jC
 |[],_,.nil=>rfl
 |b::r,_,.cons h t=>by cases h;rw[vO t];rfl
def AM{A:cg}{s:aq}{bs:List Bool}:∀y,y∈(bs.map jC).toArray->No A s y (.bool true) (yf true y):=λy a=>by
 have a:y∈bs.map jC:=by simpa using a
 obtain⟨b,_,rfl⟩:=List.mem_map.mp a;exact D7 b true
def UZ(K:a8):V->List V->Hp->VK->Prop:=λx a H Q=>∃l,∃bs:List Bool,x=.ref l/\a=[.bl true]/\oZ K H l (bs.map V.bl)/\Q (.int (bs.countP id:Nat)) H
def NZ:MtR X "list.count" (UZ X.K):=by
 intro f s z H x E v B Q I i m h;obtain⟨l,bs,rfl,rfl,j,q⟩:=h;cases i;obtain⟨u,rfl,p⟩:=m.one;cases p;obtain⟨k,r,⟨o,n,ho,c,A,a⟩,w⟩:=I.list j;rw[vO r] at a;obtain⟨cls,dd,d,t⟩:=o;simp only at c a;subst c a;refine JM D9 ⟨_,ho,rfl⟩ PySem.F.entry_list_count (PySem.F.args_list_count_2 _ _) (SeqAt.list_countAt l (bs.map jC).toArray n dd t (.bool true) (yf true)) ⟨ho,λy g=>AM y g,?_⟩;refine⟨.int _,H,I.tok _,⟨_,rfl⟩,?_⟩;have e:(bs.map jC).toArray.toList.countP (yf true)=bs.countP id:=by
  show(bs.map jC).countP (yf true)=_;rw[List.countP_map];congr 1;funext b;cases b<;>rfl
 rw[e];exact q
def U_(K:a8):V->List V->Hp->VK->Prop:=λx a H Q=>∃l,∃bs:List Bool,∃j:Nat,x=.ref l/\a=[.bl true]/\oZ K H l (bs.map V.bl)/\bs[j]?=some true/\(∀m,m<j->bs[m]?=some false)/\j<=1000/\Q (.int (j:Nat)) H
def N_:MtR X "list.index" (U_ X.K):=by
 intro i s N H x T v S Q I p A h;obtain⟨l,bs,j,rfl,rfl,t,G,e,w,q⟩:=h;cases p;obtain⟨u,rfl,B⟩:=A.one;cases B;obtain⟨z,r,⟨o,n,ho,c,P,b⟩,M⟩:=I.list t;rw[vO r] at b;obtain⟨cls,dd,g,E⟩:=o;simp only at c b;subst c b;obtain⟨f,a⟩:=List.getElem?_eq_some_iff.mp G;refine JM Da ⟨_,ho,rfl⟩ PySem.F.entry_list_index (PySem.F.args_list_index_2 _ _) (SeqAt.list_indexAt l (bs.map jC).toArray n dd E (.bool true) (yf true) j (by simpa using f) ∅ ?_ ?_) ⟨ho,λy k=>AM y k,?_⟩
 ·simp[yf,a]
 ·intro m O d;have:=e m d;obtain⟨_,L⟩:=List.getElem?_eq_some_iff.mp this;simp[yf,L]
 ·exact⟨.int _,H,I.tok _,⟨_,rfl⟩,q⟩
def AN(Y:X.calm=true):jU X (.type "list") (λxs H Q=>∃a b,xs=[.ref a]/\H a=some (.dK b)/\∀l,H l=none->Q (.ref l) (upd H l (.lst (b.map λp=>kV p.1)))):=by
 intro G s σ H xs us Q I r h;obtain⟨a,b,rfl,hH,q⟩:=h;obtain⟨u,rfl,S⟩:=lB r;cases S;obtain⟨T,hs,g,m,hd⟩:=(show c_ X.prog X.w H s.heap a (.dK b) from I.hok a _ hH);obtain⟨y,B⟩:∃y,s.heap.DictAt (i3 X.prog X.w) a g y:=by
  obtain⟨o,es,y,A,h2,U,h4⟩:=hd;exact⟨y,o,es,A,h2,U,h4⟩
 have M:b.length=g.length:=kr m;refine PySem.W.kdl_call (PySem.W.kdl_dict hs) (I.ok.hd Y) B ∅ λh' O d c' kp e f=>?_;have rv:dI (b.map λp=>kV p.1) d.toList:=by
  have z:∀{b:List (ip×V)}{g:List (ip×ag)} (c:List ag),KV b g->c.length=g.length->(∀(j:Nat) (v:ag),c[j]?=some v->∃k x,g[j]?=some (k,x)/\Ax k v=true)->dI (b.map λp=>kV p.1) c:=by
   intro b;induction b with
   |nil=>intro g c m n _;cases m;cases c with
    |nil=>exact .nil
    |cons _ _=>simp at n
   |cons p b P=>
    intro g c m n N;cases m with
    |cons A t1=>
     cases c with
     |nil=>simp at n
     |cons v c=>
      refine .cons ?_ (P c t1 (by simpa using n) λj v E=>by simpa using N (j+1) v (by simpa using E));obtain⟨k,x,K,e2⟩:=N 0 v rfl;simp only[Gx,Gn] at K;subst K;have L:p.1=k:=A.1;rcases gE e2 with⟨i,t,e,rfl⟩|⟨i,t,e,rfl⟩
      ·show dX (kV p.1) _;rw[L,e];exact⟨t,rfl⟩
      ·show dX (kV p.1) _;rw[L,e];exact⟨t,rfl⟩
  exact z d.toList m (by rw[ax];exact f.1) λj v E=>f.2 j v (by rw[<- bH];exact E)
 exact⟨.ref s.heap.objs.size,_,I.laid (t':=O) kp (aw _) (show c_ X.prog X.w _ h' _ (.lst _) from⟨by simpa using T,d.toList,c',rv,by rw[K0];exact e⟩),rfl,q _ (I.hok.fresh (aw _))⟩
def AO(x:Str):List V:=x.cps.toList.map λc=>V.str ⟨#[c]⟩
def zS(K:X.calm=true):jU X (.type "tuple") (λxs H Q=>∃x,xs=[.str x]/\x.cps.size<=sizeLine/\∀l,H l=none->Q (.ref l) (upd H l (.tup (AO x)))):=by
 intro d s z H xs P Q I r h;obtain⟨x,rfl,y,q⟩:=h;obtain⟨u,rfl,G⟩:=lB r;obtain⟨t,rfl⟩:=G;refine call_tuple_str (I.ok.hd K) x t (λh' i a kp f=>?_) y;have B:bQ X d z H {s with heap:=h',toks:=i}:=I.kept (t':=i) kp;have M:dI (AO x) a.toList:=by
  have n:∀(g:List Nat) (a:List ag),a.length=g.length->(∀(j:Nat) (v:ag),a[j]?=some v->∃c u,g[j]?=some c/\v=.str ⟨#[c]⟩ u)->dI (g.map λc=>V.str ⟨#[c]⟩) a:=by
   intro g;induction g with
   |nil=>intro a k _;cases a with
    |nil=>exact .nil
    |cons _ _=>simp at k
   |cons c g E=>
    intro a k A;cases a with
    |nil=>simp at k
    |cons v a=>
     obtain⟨O,u,m,rfl⟩:=A 0 v rfl;simp only[Gx,Gn] at m;subst m;exact .cons ⟨u,rfl⟩ (E a (by simpa using k) λj v p=>by simpa using A (j+1) v (by simpa using p))
  refine n x.cps.toList a.toList (by rw[ax,ax];exact f.1) λj v p=>?_;obtain⟨c,u,m,N⟩:=f.2 j v (by rw[<- bH];exact p);exact⟨c,u,by rw[bH];exact m,N⟩
 have L:bQ X d z (upd H h'.objs.size (.tup (AO x))) {s with heap:=h'.push {cls:=.type "tuple",data:=.seq a},toks:=i}:=
  B.laid (t':=i) (λb o e=>af _ e) (aw _) (show c_ X.prog X.w _ _ _ (.tup (AO x)) from⟨by unfold AO;simpa using y,a.toList,M,by rw[K0];exact v9 _ _⟩)
 exact⟨.ref h'.objs.size,_,L,rfl,q _ (B.hok.fresh (aw _))⟩
end L2
namespace L2
open PySem PySem.Spec PyProof.Rows
def lU{elt target iter ifs bA scope pos it acc env}
  (c:fR (az prog w) A (.compLoop (.SetComp elt (⟨target,iter,ifs,0⟩::bA) scope pos) 0 it acc env) R s)
  (h:au (az prog w) A (rG it) (λa s'=>fR (az prog w) A (.compLoop (.SetComp elt (⟨target,iter,ifs,0⟩::bA) scope pos) 0 a acc env) R s')
   (notedBy (az prog w) A env λx s'=>R (.error x) s') s):
  fR (az prog w) A (.compStart (.SetComp elt (⟨target,iter,ifs,0⟩::bA) scope pos) 0 it acc env) R s:=by
 refine wy ?_;show au _ _ ((compStart (.SetComp elt (⟨target,iter,ifs,0⟩::bA) scope pos) 0 it acc env).onRaise (λx=>do Et x env;qJ theWindowsPlace)) _ _ s;refine wpAny_notedAt ?_;unfold compStart;show au _ _ (ask>>=_) _ _ s;refine a7 (h_ (Ex ?_));split
 ·first
   |exact a7 (a9 (a9 (lM rfl c)))
   |exact a9 (lM rfl c)
 ·first
   |exact a7 (eI (a7 (hV (a7 (cn h (λa s' b=>a9 (lM rfl b)) λ_ _ x=>x)))))
   |(refine a7 (eI ?_);show au _ _ (qJ iter.pos>>=_) _ _ s;exact a7 (hV (a7 (cn h (λa s' b=>a9 (lM rfl b)) λ_ _ x=>x))))
def qt(h:Q (.ref s.heap.objs.size) {s with heap:=s.heap.push (gV w)}):au (az prog w) A (Pt (.type "set")) Q E s:=by
 unfold Pt setsByText;refine a7 (a7 (h_ (a9 ?_)));dsimp only;simp only[newObj];exact a7 (U3 (a9 h))
def Cy(d:nq w s.heap a ss)(e:ss.length+1<iA)
  (h:∀h' b,bG a s.heap h'->nq w h' a (if x∈ss then ss else ss++[x])->Q .none {s with heap:=h',toks:=b}):
  au (az prog w) A (call (.builtin "set.add") [.ref a,.str x tk]) Q E s:=by
 have hT:s.TypeIs (.ref a) "set":=by obtain⟨es,g,t,I,_⟩:=id d;exact⟨_,I.at_,rfl⟩
 refine bE F.slot_set_add hT F.entry_set_add ?_ (F.args_set_add_2 _ _);unfold iB.«set.add» uW;simp only[TU,bind_assoc];unfold vH;refine a7 (a9 ?_);try dsimp only
 refine a7 (a9 ?_);try dsimp only
 refine a7 ?_;refine GX d e λh' b f c=>?_;exact a9 ⟨_,rfl,h h' b f c⟩
def q1Q(w:bz)(D:ak)(o:Obj)(a:List Str):Prop:=∀h:bP,h.get? D=some o->nq w h D a
def QI(X:Cx)(c:bC)(env:Env)(D:ak)(K:aq->Prop)(s:aq):Prop:=au (az X.prog X.w) X.A (eu c env) (λx a=>au (az X.prog X.w) X.A (call (.builtin "set.add") [.ref D,x]) (λ_ b=>K b) (λ_ _=>False) a) (λ_ _=>False) s
abbrev q0f(c:TE)(e:St)(H:Hp)(a:List Str)(m:Nat)(V:Nat->List Str->Hp->Prop):Prop:=c e H λy d=>∃z b,y=.str z/\b<m/\V b (if z∈a then a else a++[z]) d
def QJ{X:Cx}{g:bC}{s:TE}{N':List Str}{scope:eP}{M:St->Prop}(E:∀i C b a q k,PE (bN X N' scope i C b a q k) g s):
  Dp X N' scope M (λD o c=>(∀v,o.data≠.cell v)/\q1Q X.w D o c) (λc=>c.length+1<iA) (q0f s) (QI X g):=by
 intro i C b a q k D pl o c p N A K m V x h2 L _ I Q P O fin
 refine fS (E i C b a q k _ A p N _ P O) λu8 s8 j=>?_
 obtain⟨y,Y,u,r8,z,S,B,U,T⟩:=j
 obtain⟨pD,pN,_⟩:=u.pin (D,_) (aA _ ap)
 subst B
 obtain⟨tz,rfl⟩:=r8
 refine Cy (Q.2 _ pD) I λh9 a1 n f=>?_
 obtain⟨H,G,t9,l,a0⟩:=id f
 have d:=l.at_
 exact fin _ _ Y _ S ((u.swap n d (λ_ z=>nomatch z) x h2 L).tok _) ⟨λ_ z=>(nomatch z),λh e=>f.keep λo t=>by rw[d] at t;cases t;exact e⟩ U T
def Hf{X:Cx}{b:bC}{f:Sem Fin}{a:Code}(d:f=pure (.again a))(env:Env)(D:ak)(K:aq->Prop)(s:aq)(h:QI X b env D K s):au (az X.prog X.w) X.A ((do let v <- eu b env;qJ b.pos;let _ <- call (.builtin "set.add") [.ref D,v])>>=λ_=>f) (λf c=>f=.again a/\K c) (λ_ _=>False) s:=by
 subst d;exact a7 (a7 (fS h λx g e=>a7 (hV (a7 (fS e λ_ _ q=>a9 (a9 ⟨rfl,q⟩))))))
def V0{X:Cx}{f tg iter:bC}{i:List bC}{scope:eP}{l:Pos}{m:TE}{N':List Str}{nt:Nat}{ix:List Nat}(p:∀n C j g q o,PE (bN X N' scope n C j g q o) f m):
  Ks X N' scope nt nt ix (.SetComp f [⟨tg,iter,i,0⟩] scope l) tg i (Pt (.type "set")) (qS X.w) [] (λk=>k.length+1<iA) (q0f m):=
 ⟨_,_,λ_=>QI X f,λ_=>True,λh=>h.1,rfl,λ_=>⟨λ_ z=>(nomatch z),λ_ e=>Dr X.w e⟩,λ_ h e=>EX (h.2 _ e),qt,λ_=>GS (iter:=iter) (λ_ _=>rfl) λa b c d h=>Hf rfl a b c d h,lU,⟨aw _,λ_ _ _=>trivial⟩,λ_=>QJ p⟩
inductive WY (w:bz) (nt:Nat) (ix:List Nat) (g:TG) (tt:TT) (te:TE) (σ:St) (Q:VK) (J:It) (H1:Hp):Prop
 |mk (W:Nat->Nat->List Str->Hp->Prop) (w0:∃m,W 0 m [] H1) (turn:∀i m acc H,W i m acc H ->
 (J.stop i H/\∀p,H p=none->Q (.ref p) (upd H p (qS w p acc))) \/
 (J.go i H/\acc.length+1<iA/\∀x H',J.yld i H x H'->g x (mH nt ix σ) H' λσ2 H2=>tt σ2 H2 λb H3=>
  if b=true then te σ2 H3 λy H4=>∃z m',y=.str z/\m'<m/\W (i+1) m' (if z∈acc then acc else acc++[z]) H4 else ∃m',m'<m/\W (i+1) m' acc H3)):WY w nt ix g tt te σ Q J H1
def QK(w:bz)(nt:Nat)(ix:List Nat)(d:TI)(g:TG)(c:TT)(b:TE):TE:=λa H Q=>d a H (WY w nt ix g c b a Q)
def KB{X:Cx}{n tg iter:bC}{i:List bC}{scope:eP}{o:Pos}{M:TI}{g:TG}{N:TT}{L:TE}{N':List Str}{nt:Nat}{ix:List Nat}
  (hc:X.calm=true) (S:lZ X scope N' nt ix) (lo:UQ nt g) (hi:PI X tg iter M)
  (B:∀u C j k E z,PG (bN X N' scope u C j k E z) tg g/\Kr (bN X N' scope u C j k E z) i N/\PE (bN X N' scope u C j k E z) n L)
  (hs:∀x,bS iter X.env x=pure x:=by intro _;rfl):PE X (.SetComp n [⟨tg,iter,i,0⟩] scope o) (QK X.w nt ix M g N L):=by
 intro l s K H Q I h;obtain⟨u,G,c1,c2⟩:=o7 (scope:=scope) (env:=X.env) λy O hf=>I.ok.has y.1 (S.free y O hf);show au _ _ (A4 (.SetComp n [⟨tg,iter,i,0⟩] scope o) scope X.env (Pu [⟨tg,iter,i,0⟩] o) (Pt (.type "set")) (firstAsync [⟨tg,iter,i,0⟩]) (firstIter [⟨tg,iter,i,0⟩] X.env)) _ _ _;refine iF (use:=none) rfl hs G S.kind S.loc (fS (hi l s K H _ I h) λv s1 Y=>fS Y λU s2 h2=>?_);obtain⟨it,fp,tn,J,H2,e,I2,T,st2,f2,W,P,p⟩:=h2;subst e;refine AD (RR:=λt C=>JU (az X.prog X.w) X.A X.xe none (EP X l K Q) t C) (V0 λa b c d e f=>(B a b c d e f).2.2) hc S lo (λa b c d e f=>⟨(B a b c d e f).1,(B a b c d e f).2.1⟩) c1 c2 I2 T st2 f2 P p ?_;intro D C m s' t H' hD _ q hn hI;exact⟨m,hn,λh' sb=>⟨.ref D,_,hI h' sb,rfl,q⟩⟩
def Cz:jU X (.builtin "len") (λxs H Q=>∃p ss,xs=[.ref p]/\H p=some (qS X.w p ss)/\Q (.int ss.length) H):=by
 intro d s j H xs m Q I r h;obtain⟨p,ss,rfl,f,q⟩:=h;obtain⟨u,rfl,e⟩:=lB r;cases e;obtain⟨es,k,t,b,g⟩:=(show c_ X.prog X.w H s.heap p (qS X.w p ss) from I.hok p _ f).1;have a:es.size=ss.length:=by rw[<- g.length_eq,ah,ax]
 have c:(es.size:Int)<2 ^ 63:=by
  have i:=b.few;have l:iA<=2 ^ 62:=by decide
  omega
 refine qm kind_len plain_len entry_len (args_len1 _) (wpAny_len_body_set b.at_ ⟨rfl,rfl,rfl⟩ rfl b.fits c ?_);refine⟨.int _,H,I.tok _,⟨_,rfl⟩,?_⟩;rw[a];exact q
end L2
namespace L2
open PySem PySem.Spec PyProof.Rows
end L2
namespace L2
open PySem PySem.Spec PyProof.Rows
def Mb(so:eP)(N:List Str)(scope:eP)(N':List Str)(nt:Nat)(ix:List Nat):Bool:=
 (scope.kind == .function)&&(scope.names.all λy=>y.2 != .cell||scope.names.lookup y.1==some .cell)&&(scope.names.all λy=>y.2 != .local||scope.names.lookup y.1==some .local) &&
 (scope.names.all λy=>y.2 != .free||so.names.lookup y.1==some .cell||so.names.lookup y.1==some .free) &&
 ((bq ix.length).all λk=>match ix[k]? with
  |none=>false
  |some i=>match N[i]? with
   |none=>false
   |some x=>N'[nt+k]? == some x&&scope.names.lookup x==some .free)&&(N'.length==nt+ix.length)
def bJ(h:Mb so N scope N' nt ix=true)(j:X.env.scope=so:=by rfl)(n:X.N=N:=by rfl):lZ X scope N' nt ix:=by
 unfold Mb at h;simp only[aR,cx] at h;obtain⟨⟨⟨⟨⟨a,b⟩,c⟩,d⟩,e⟩,l⟩:=h;refine⟨by simpa using a,λy f z=>?_,λy f z=>?_,λy f z=>?_,λk i g=>?_,by simpa using l⟩
 ·have:=b y f;simpa[z] using this
 ·have:=c y f;simpa[z] using this
 ·have:=d y f;rw[j];simpa[z] using this
 ·have m:k<ix.length:=(List.getElem?_eq_some_iff.mp g).1;have:=e k (List.mem_range.mpr m);rw[g] at this;rw[n];simp only at this;split at this
  ·cases this
  ·rename_i x o
   simp only[aR] at this;exact⟨x,o,by simpa using this.1,by simpa using this.2⟩
end L2
namespace L2
open PySem PySem.Spec PyProof.Rows
end L2
namespace J
open PySem L2
abbrev D:=Ew
inductive R (α:Type) where
 |ok (a:α)
 |ex (c:Str) (n:Option D)
 |no
def R.bind{α b:Type}:R α->(α->R b)->R b
 |.ok a,f=>f a
 |.ex c n,_=>.ex c n
 |.no,_=>.no
@[simp] theorem bind_ok {α β:Type} (a:α) (f:α->R β):(R.ok a).bind f=f a:=rfl
@[simp] theorem bind_ex {α β:Type} (c:Str) (n:Option D) (f:α->R β):(R.ex c n).bind f=.ex c n:=rfl
@[simp] theorem bind_no {α β:Type} (f:α->R β):(R.no:R α).bind f=.no:=rfl
def kD:ip->D
 |.inl i=>.int i
 |.inr x=>.str x
def tD(a:List ip):D:=.tuple (a.map kD)
mutual
inductive RD (K:a8) (H:Hp):V->D->Prop
 |none:RD K H .non .none
 |bool (b:Bool):RD K H (.bl b) (.bool b)
 |int (i:Int):RD K H (.int i) (.int i)
 |str (x:Str):RD K H (.str x) (.str x)
 |list {a:ak}{xs:List V}{ds:List D}:oZ K H a xs->RDs K H xs ds->RD K H (.ref a) (.list ds)
 |tuple {a:ak}{xs:List V}{ds:List D}:H a=some (.tup xs)->RDs K H xs ds->RD K H (.ref a) (.tuple ds)
 |dictK {a:ak}{kvs:List (ip×V)}{ds:List (D×D)}:H a=some (.dK kvs)->RDk K H kvs ds->RD K H (.ref a) (.dict ds)
 |dictT {a:ak}{kvs:List (List ip×V)}{ds:List (D×D)}:H a=some (.dT kvs)->kvs≠[]->RDt K H kvs ds->RD K H (.ref a) (.dict ds)
 |dictF {a:ak}{o:Obj}{kvs:List (List ip×V)}{ds:List (D×D)}:H a=some (.frz o (.dT kvs))->kvs≠[]->RDt K H kvs ds->RD K H (.ref a) (.dict ((.none,.none)::ds))
inductive RDs (K:a8) (H:Hp):List V->List D->Prop
 |nil:RDs K H [] []
 |cons {x:V}{xs:List V}{d:D}{ds:List D}:RD K H x d->RDs K H xs ds->RDs K H (x::xs) (d::ds)
inductive RDk (K:a8) (H:Hp):List (ip×V)->List (D×D)->Prop
 |nil:RDk K H [] []
 |cons {k:ip}{x:V}{xs:List (ip×V)}{d:D}{ds:List (D×D)}:RD K H x d->RDk K H xs ds->RDk K H ((k,x)::xs) ((kD k,d)::ds)
inductive RDt (K:a8) (H:Hp):List (List ip×V)->List (D×D)->Prop
 |nil:RDt K H [] []
 |cons {k:List ip}{x:V}{xs:List (List ip×V)}{d:D}{ds:List (D×D)}:RD K H x d->RDt K H xs ds->RDt K H ((k,x)::xs) ((tD k,d)::ds)
end
def RD.same(e:dS H H')(h:RD K H v d):RD K H' v d:=RD.rec (motive_1:=λv d _=>RD K H' v d) (motive_2:=λv d _=>RDs K H' v d) (motive_3:=λv d _=>RDk K H' v d) (motive_4:=λv d _=>RDt K H' v d) .none .bool .int .str (λh _ r=>.list (e.seq h) r) (λh _ r=>.tuple (e _ _ h) r) (λh _ r=>.dictK (e _ _ h) r) (λh n _ r=>.dictT (e _ _ h) n r) (λh n _ r=>.dictF (e _ _ h) n r) .nil (λ_ _ a b=>.cons a b) .nil (λ_ _ a b=>.cons a b) .nil (λ_ _ a b=>.cons a b) h
def RDs.same(e:dS H H')(h:RDs K H v d):RDs K H' v d:=RDs.rec (motive_1:=λv d _=>RD K H' v d) (motive_2:=λv d _=>RDs K H' v d) (motive_3:=λv d _=>RDk K H' v d) (motive_4:=λv d _=>RDt K H' v d) .none .bool .int .str (λh _ r=>.list (e.seq h) r) (λh _ r=>.tuple (e _ _ h) r) (λh _ r=>.dictK (e _ _ h) r) (λh n _ r=>.dictT (e _ _ h) n r) (λh n _ r=>.dictF (e _ _ h) n r) .nil (λ_ _ a b=>.cons a b) .nil (λ_ _ a b=>.cons a b) .nil (λ_ _ a b=>.cons a b) h
def RDk.same(e:dS H H')(h:RDk K H v d):RDk K H' v d:=RDk.rec (motive_1:=λv d _=>RD K H' v d) (motive_2:=λv d _=>RDs K H' v d) (motive_3:=λv d _=>RDk K H' v d) (motive_4:=λv d _=>RDt K H' v d) .none .bool .int .str (λh _ r=>.list (e.seq h) r) (λh _ r=>.tuple (e _ _ h) r) (λh _ r=>.dictK (e _ _ h) r) (λh n _ r=>.dictT (e _ _ h) n r) (λh n _ r=>.dictF (e _ _ h) n r) .nil (λ_ _ a b=>.cons a b) .nil (λ_ _ a b=>.cons a b) .nil (λ_ _ a b=>.cons a b) h
def RDt.same(e:dS H H')(h:RDt K H v d):RDt K H' v d:=RDt.rec (motive_1:=λv d _=>RD K H' v d) (motive_2:=λv d _=>RDs K H' v d) (motive_3:=λv d _=>RDk K H' v d) (motive_4:=λv d _=>RDt K H' v d) .none .bool .int .str (λh _ r=>.list (e.seq h) r) (λh _ r=>.tuple (e _ _ h) r) (λh _ r=>.dictK (e _ _ h) r) (λh n _ r=>.dictT (e _ _ h) n r) (λh n _ r=>.dictF (e _ _ h) n r) .nil (λ_ _ a b=>.cons a b) .nil (λ_ _ a b=>.cons a b) .nil (λ_ _ a b=>.cons a b) h
mutual
def qT:D->Bool
 |.dict _=>false
 |.list xs=>noDs xs
 |.tuple xs=>noDs xs
 |_=>true
def noDs:List D->Bool
 |[]=>true
 |x::r=>qT x&&noDs r
end
def q0g(h:(a&&b)=true):a=true:=(Bool.and_eq_true_iff.mp h).1
def q0h(h:(a&&b)=true):b=true:=(Bool.and_eq_true_iff.mp h).2
def RD.rep(h:RD K H v d):qT d=true->Ky K H v d:=RD.rec (motive_1:=λv d _=>qT d=true->Ky K H v d) (motive_2:=λv d _=>noDs d=true->Reps K H v d) (motive_3:=λ_ _ _=>True) (motive_4:=λ_ _ _=>True) (λ_=>.none) (λb _=>.bool b) (λi _=>.int i) (λx _=>.str x) (λh _ r e=>.list h (r e)) (λh _ r e=>.tuple (.of h) (r e)) (λ_ _ _ e=>mQ e) (λ_ _ _ _ e=>mQ e) (λ_ _ _ _ e=>mQ e) (λ_=>.nil) (λ_ _ a b e=>.cons (a (q0g e)) (b (q0h e))) trivial (λ_ _ _ _=>trivial) trivial (λ_ _ _ _=>trivial) h
def RDs.length:∀{ds:List D},RDs K H vs ds->vs.length=ds.length:=by
 induction vs with
 |nil=>intro ds h;cases h;rfl
 |cons x r c=>intro ds h;cases h with|cons a b=>exact congrArg (· + 1) (c b)
def RDs.get:∀{ds:List D}{i:Nat}{v:V},RDs K H vs ds->vs[i]?=some v->∃d,ds[i]?=some d/\RD K H v d:=by
 induction vs with
 |nil=>intro ds i v _ e;cases e
 |cons x r c=>
  intro ds i v h e;cases h with
  |cons a b=>
   cases i with
   |zero=>cases e;exact⟨_,rfl,a⟩
   |succ i=>have q:=c (i:=i) b e;exact q
def RDs.get':∀{ds:List D}{i:Nat}{d:D},RDs K H vs ds->ds[i]?=some d->∃v,vs[i]?=some v/\RD K H v d:=by
 induction vs with
 |nil=>intro ds i v h e;cases h;cases e
 |cons x r c=>
  intro ds i v h e;cases h with
  |cons a b=>
   cases i with
   |zero=>cases e;exact⟨_,rfl,a⟩
   |succ i=>have q:=c (i:=i) b e;exact q
def RDs.append:∀{ds:List D},RDs K H vs ds->RDs K H ws es->RDs K H (vs++ws) (ds++es):=by
 induction vs with
 |nil=>intro ds h s;cases h;exact s
 |cons x r c=>intro ds h s;cases h with|cons a b=>exact .cons a (c b s)
def RDs.drop:∀{ds:List D} (n:Nat),RDs K H vs ds->RDs K H (vs.drop n) (ds.drop n):=by
 induction vs with
 |nil=>intro ds n h;cases h;cases n<;>exact .nil
 |cons x r c=>
  intro ds n h;cases n with
  |zero=>exact h
  |succ n=>cases h with|cons a b=>exact c n b
def RDs.take:∀{ds:List D} (n:Nat),RDs K H vs ds->RDs K H (vs.take n) (ds.take n):=by
 induction vs with
 |nil=>intro ds n h;cases h;cases n<;>exact .nil
 |cons x r c=>
  intro ds n h;cases n with
  |zero=>exact .nil
  |succ n=>cases h with|cons a b=>exact .cons a (c n b)
def RDs.reverse(h:RDs K H vs ds):RDs K H vs.reverse ds.reverse:=by
 induction vs generalizing ds with
 |nil=>cases h;exact .nil
 |cons x r c=>cases h with|cons a b=>rw[qL,qL];exact(c b).append (.cons a .nil)
theorem tK:∀(ss:List Str),RDs K H (ss.map V.str) (ss.map aS)
 |[]=>.nil
 |x::r=>.cons (.str x) (tK r)
def RD.str_inv(h:RD K H v (.str x)):v=.str x:=by cases h;rfl
def RD.bool_inv(h:RD K H v (.bool x)):v=.bl x:=by cases h;rfl
def RD.int_inv(h:RD K H v (.int x)):v=.int x:=by cases h;rfl
def E_{α:Type}{c:α->D}{k:α->V}(f:∀{v x},RD K H v (c x)->v=k x){ss:List α}:∀{d:List V},RDs K H d (ss.map c)->d=ss.map k:=by
 induction ss with
 |nil=>intro d h;cases h;rfl
 |cons x r e=>intro d h;cases h with|cons a b=>rw[f a,e b];rfl
def jJ{ss:List Str}{a:List V}:RDs K H a (ss.map aS)->a=ss.map V.str:=E_ RD.str_inv
def CA{ss:List Bool}{a:List V}:RDs K H a (ss.map bO)->a=ss.map V.bl:=E_ RD.bool_inv
def nt:HO->Bool
 |.tup _=>false
 |_=>true
structure cQ (H Hs H' Hs':Hp):Prop where
 all:dS H H'
 sh:dS Hs Hs'
 sub:dS Hs' H'
 out:∀a o,H a=some o->nt o=true->Hs a=none->Hs' a=none
theorem cQ.refl(h:dS Hs H):cQ H Hs H Hs:=⟨.refl _,.refl _,h,λ_ _ _ _ e=>e⟩
theorem cQ.trans(a:cQ H Hs H1 Hs1)(b:cQ H1 Hs1 H2 Hs2):cQ H Hs H2 Hs2:=
 ⟨a.all.trans b.all,a.sh.trans b.sh,b.sub,λc o e t n=>b.out c o (a.all c o e) t (a.out c o e t n)⟩
def cQ.new(h:dS Hs H)(n:H p=none):cQ H Hs (upd H p o) (upd Hs p o):=by
 have d:Hs p=none:=h.free n;refine⟨ki n,ki d,λb u e=>?_,λa u e t z=>?_⟩
 ·by_cases c:b=p
  ·subst c;rw[aX] at e ⊢;exact e
  ·rw[b9 c] at e ⊢;exact h b u e
 ·rw[b9 (bw e n)];exact z
def cQ.mine(h:dS Hs H)(n:H p=none):cQ H Hs (upd H p o) Hs:=by
 refine⟨ki n,.refl _,λb u e=>?_,λa u e t z=>z⟩;have c:=h b u e;rw[b9 (bw c n)];exact c
inductive pc (K:a8) (Hs:Hp):HO->D->Prop
 |lst {vs:List V}{ds:List D}:RDs K Hs vs ds->pc K Hs (.lst vs) (.list ds)
 |dK {kvs:List (ip×V)}{ds:List (D×D)}:RDk K Hs kvs ds->pc K Hs (.dK kvs) (.dict ds)
 |dT {kvs:List (List ip×V)}{ds:List (D×D)}:kvs≠[]->RDt K Hs kvs ds->pc K Hs (.dT kvs) (.dict ds)
 |dF {o:Obj}{kvs:List (List ip×V)}{ds:List (D×D)}:kvs≠[]->RDt K Hs kvs ds->pc K Hs (.frz o (.dT kvs)) (.dict ((.none,.none)::ds))
theorem pc.same(e:dS Hs Hs')(h:pc K Hs o d):pc K Hs' o d:=by
 cases h with
 |lst r=>exact .lst (r.same e)
 |dK r=>exact .dK (r.same e)
 |dT n r=>exact .dT n (r.same e)
 |dF n r=>exact .dF n (r.same e)
def pc.nt(h:pc K Hs o d):J.nt o=true:=by cases h<;>rfl
def pc.share(n:Hs a=none)(h:pc K Hs o d):RD K (upd Hs a o) (.ref a) d:=by
 have e:dS Hs (upd Hs a o):=ki n;cases h with
 |lst r=>exact .list (.of aX) (r.same e)
 |dK r=>exact .dictK aX (r.same e)
 |dT n r=>exact .dictT aX n (r.same e)
 |dF n r=>exact .dictF aX n (r.same e)
inductive Sl where
 |no
 |shr (d:D)
 |own (d:D)
 |lck (d:D)
 |ow2 (dss:List (List D))
abbrev aE:=List Sl
inductive Dt (K:a8) (H Hs:Hp):List ak->List (List D)->Prop
 |nil:Dt K H Hs [] []
 |cons {a:ak}{as:List ak}{vs:List V}{ds:List D}{dss:List (List D)}:H a=some (.lst vs)->RDs K Hs vs ds->Dt K H Hs as dss->Dt K H Hs (a::as) (ds::dss)
def Dt.step(e:dS H H')(a:dS Hs Hs')(h:Dt K H Hs as dss):Dt K H' Hs' as dss:=by
 induction h with
 |nil=>exact .nil
 |cons h r t b=>exact .cons (e _ _ h) (r.same a) b
def Dt.upd(n:b∉as)(h:Dt K H Hs as dss):Dt K (upd H b o) Hs as dss:=by
 induction h with
 |nil=>exact .nil
 |cons h r t a=>exact .cons (by rw[b9 (λz=>n (by rw[<- z];exact ap))];exact h) r (a λz=>n (ai _ z))
def Dt.there(h:Dt K H Hs as dss)(a:b∈as):∃o,H b=some o/\nt o=true:=by
 induction h with
 |nil=>cases a
 |cons h r t c=>
  rcases List.mem_cons.mp a with e|a
  ·exact⟨_,e ▸ h,rfl⟩
  ·exact c a
structure O2 (K:a8) (H0 H Hs:Hp) (ρ:aE) (σ:St) (i:Nat) (dss:List (List D)) (a:ak) (as:List ak):Prop where
 at_:σ[i]?=some (some (V.ref a))
 ob:H a=some (.lst (as.map V.ref))
 nd:(a::as).Nodup
 out:∀b∈a::as,Hs b=none/\H0 b=none
 dj:∀b∈a::as,∀(j:Nat) (e:D),ρ[j]?=some (Sl.own e)->σ[j]?≠some (some (V.ref b))
 inn:Dt K H Hs as dss
structure Fr (K:a8) (H0 Hs0:Hp) (la:Nat->Option ak) (ρ:aE) (σ:St) (H Hs:Hp):Prop where
 st:cQ H0 Hs0 H Hs
 len:ρ.length=σ.length
 sh:∀(i:Nat) (d:D),ρ[i]?=some (Sl.shr d)->∃v,σ[i]?=some (some v)/\RD K Hs v d
 ow:∀(i:Nat) (d:D),ρ[i]?=some (Sl.own d)->∃a o,σ[i]?=some (some (V.ref a))/\H a=some o/\Hs a=none/\H0 a=none/\pc K Hs o d
 lk:∀(i:Nat) (d:D),ρ[i]?=some (Sl.lck d)->∃a o,σ[i]?=some (some (V.ref a))/\la i=some a/\H a=some o/\Hs a=none/\H0 a=some o/\pc K Hs o d
 dj:∀(i j:Nat) (d e:D) (a:ak),ρ[i]?=some (Sl.own d)->ρ[j]?=some (Sl.own e)->σ[i]?=some (some (V.ref a))->σ[j]?=some (some (V.ref a))->i=j
 lh:∀(i:Nat) (a:ak),la i=some a->∃o,H0 a=some o
 o2:∀(i:Nat) (dss:List (List D)),ρ[i]?=some (Sl.ow2 dss)->∃a as,O2 K H0 H Hs ρ σ i dss a as
 u2:∀(i j:Nat) (d e:List (List D)),ρ[i]?=some (Sl.ow2 d)->ρ[j]?=some (Sl.ow2 e)->i=j
theorem Fr.step(f:Fr K H0 Hs0 la ρ σ H Hs)(s:cQ H Hs H' Hs'):Fr K H0 Hs0 la ρ σ H' Hs':=by
 refine⟨f.st.trans s,f.len,λi d e=>?_,λi d e=>?_,λi d e=>?_,f.dj,f.lh,λi m e=>?_,f.u2⟩
 ·obtain⟨v,g,c⟩:=f.sh i d e;exact⟨v,g,c.same s.sh⟩
 ·obtain⟨a,o,g,c,j,n,l⟩:=f.ow i d e;exact⟨a,o,g,s.all _ _ c,s.out _ _ c l.nt j,n,l.same s.sh⟩
 ·obtain⟨a,o,g,c,j,n,l,p⟩:=f.lk i d e;exact⟨a,o,g,c,s.all _ _ j,s.out _ _ j p.nt n,l,p.same s.sh⟩
 ·obtain⟨a,t,h⟩:=f.o2 i m e;refine⟨a,t,h.at_,s.all _ _ h.ob,h.nd,λb k=>⟨?_,(h.out b k).2⟩,h.dj,h.inn.step s.all s.sh⟩;have there:∃o,H b=some o/\nt o=true:=by
   rcases List.mem_cons.mp k with rfl|k
   ·exact⟨_,h.ob,rfl⟩
   ·exact h.inn.there k
  obtain⟨o,ho,q⟩:=there;exact s.out b o ho q (h.out b (by assumption)).1
inductive q0i (K:a8) (H Hs:Hp) (v:V) (d:D):Prop
 |mk (a:ak) (o:HO) (h0:v=.ref a) (h1:H a=some o) (h2:Hs a=none) (h3:pc K Hs o d):q0i K H Hs v d
def RB(K:a8)(H Hs:Hp)(v:V)(d:D):Prop:=RD K Hs v d\/q0i K H Hs v d
def RB.step(h:RB K H Hs v d)(s:cQ H Hs H' Hs'):RB K H' Hs' v d:=by
 rcases h with h|⟨a,o,h1,h2,h3,h4⟩
 ·exact .inl (h.same s.sh)
 ·exact .inr ⟨a,o,h1,s.all _ _ h2,s.out _ _ h2 h4.nt h3,h4.same s.sh⟩
def RB.full(sub:dS Hs H)(h:RB K H Hs v d):RD K H v d:=by
 rcases h with h|⟨a,o,rfl,h2,h3,h4⟩
 ·exact h.same sub
 ·have e:dS (upd Hs a o) H:=λb u q=>by
   by_cases c:b=a
   ·subst c;rw[aX] at q;cases q;exact h2
   ·rw[b9 c] at q;exact sub b u q
  exact(h4.share h3).same e
theorem RB.list(sub:dS Hs H)(h:RB K H Hs v (.list ds)):∃a b,v=.ref a/\oZ K H a b/\RDs K Hs b ds:=by
 rcases h with h|⟨a,o,rfl,h2,h3,h4⟩
 ·cases h with|list q r=>exact⟨_,_,rfl,sub.seq q,r⟩
 ·cases h4 with|lst r=>exact⟨a,_,rfl,.of h2,r⟩
theorem RB.tuple(sub:dS Hs H)(h:RB K H Hs v (.tuple ds)):∃a b,v=.ref a/\lY K H a b/\RDs K Hs b ds/\Hs a=some (.tup b):=by
 rcases h with h|⟨a,o,rfl,h2,h3,h4⟩
 ·cases h with|tuple q r=>exact⟨_,_,rfl,.of (sub _ _ q),r,q⟩
 ·cases h4
def RB.str(h:RB K H Hs v (.str x)):v=.str x:=by
 rcases h with h|⟨a,o,rfl,h2,h3,h4⟩
 ·exact h.str_inv
 ·cases h4
def RB.int(h:RB K H Hs v (.int i)):v=.int i:=by
 rcases h with h|⟨a,o,rfl,h2,h3,h4⟩
 ·exact h.int_inv
 ·cases h4
def XW(K:a8)(cls:Str->ak)(E:XK)(c:Str)(n:Option D)(H Hs:Hp):Prop:=match n with
 |none=>E (.ref (cls c)) none H
 |some d=>∀a v,H a=some (.xd [("number",v)])->RD K Hs v d->E (.ref (cls c)) (some a) H
def Fin{α:Type}(K:a8)(cls:Str->ak)(E:XK)(H Hs:Hp)(r:R α)(q:α->Prop):Prop:=match r with
 |.ok d=>q d
 |.ex c n=>∀H' a,cQ H Hs H' a->XW K cls E c n H' a
 |.no=>False
inductive TRI (K:a8) (cls:Str->ak) (E:XK) (ρ:aE) (r:R D) (σ:St) (H:Hp) (Q:VK):Prop
 |mk (H0 Hs0:Hp) (la:Nat->Option ak) (Hs:Hp) (f:Fr K H0 Hs0 la ρ σ H Hs) (q:Fin K cls E H Hs r λd=>∀v H' Hs',cQ H Hs H' Hs'->RD K Hs' v d->Q v H'):TRI K cls E ρ r σ H Q
def TR(K:a8)(cls:Str->ak)(E:XK)(ρ:aE)(r:R D):TE:=TRI K cls E ρ r
inductive TBI (K:a8) (cls:Str->ak) (E:XK) (ρ:aE) (r:R D) (σ:St) (H:Hp) (Q:VK):Prop
 |mk (H0 Hs0:Hp) (la:Nat->Option ak) (Hs:Hp) (f:Fr K H0 Hs0 la ρ σ H Hs) (q:Fin K cls E H Hs r λd=>∀v H' Hs',cQ H Hs H' Hs'->RB K H' Hs' v d->Q v H'):TBI K cls E ρ r σ H Q
def TB(K:a8)(cls:Str->ak)(E:XK)(ρ:aE)(r:R D):TE:=TBI K cls E ρ r
inductive q0j (K:a8) (cls:Str->ak) (E:XK) (ρ:aE) (r:R Bool) (σ:St) (H:Hp) (Q:Bool->Hp->Prop):Prop
 |mk (H0 Hs0:Hp) (la:Nat->Option ak) (Hs:Hp) (f:Fr K H0 Hs0 la ρ σ H Hs) (q:Fin K cls E H Hs r λb=>∀H' Hs',cQ H Hs H' Hs'->Q b H'):q0j K cls E ρ r σ H Q
def Hg(K:a8)(cls:Str->ak)(E:XK)(ρ:aE)(r:R Bool):TT:=q0j K cls E ρ r
inductive WZ (K:a8) (H Hs:Hp):List V->List D->Prop
 |nil:WZ K H Hs [] []
 |cons {x:V}{xs:List V}{d:D}{ds:List D}:RB K H Hs x d->WZ K H Hs xs ds->WZ K H Hs (x::xs) (d::ds)
inductive q0k (K:a8) (cls:Str->ak) (E:XK) (ρ:aE) (r:R (List D)) (σ:St) (H:Hp) (Q:List V->Hp->Prop):Prop
 |mk (H0 Hs0:Hp) (la:Nat->Option ak) (Hs:Hp) (f:Fr K H0 Hs0 la ρ σ H Hs) (q:Fin K cls E H Hs r λd=>∀v H' Hs',cQ H Hs H' Hs'->RDs K Hs' v d->Q v H'):q0k K cls E ρ r σ H Q
def TAs(K:a8)(cls:Str->ak)(E:XK)(ρ:aE)(r:R (List D)):TA:=q0k K cls E ρ r
inductive q0l (K:a8) (cls:Str->ak) (E:XK) (ρ:aE) (r:R (List D)) (σ:St) (H:Hp) (Q:List V->Hp->Prop):Prop
 |mk (H0 Hs0:Hp) (la:Nat->Option ak) (Hs:Hp) (f:Fr K H0 Hs0 la ρ σ H Hs) (q:Fin K cls E H Hs r λd=>∀v H' Hs',cQ H Hs H' Hs'->WZ K H' Hs' v d->Q v H'):q0l K cls E ρ r σ H Q
def TBs(K:a8)(cls:Str->ak)(E:XK)(ρ:aE)(r:R (List D)):TA:=q0l K cls E ρ r
structure C where
 X:Cx
 cls:Str->ak
 E:XK
structure JE (c:C) (e:bC) (g:aE->R D):Prop where of ::
 run:∀ ρ,PE c.X e (TR c.X.K c.cls c.E ρ (g ρ))
instance{c:C}{e:bC}{g:aE->R D}:CoeFun (JE c e g) (λ_=>∀ ρ,PE c.X e (TR c.X.K c.cls c.E ρ (g ρ))):=⟨JE.run⟩
structure JB (c:C) (e:bC) (g:aE->R D):Prop where of ::
 run:∀ ρ,PE c.X e (TB c.X.K c.cls c.E ρ (g ρ))
instance{c:C}{e:bC}{g:aE->R D}:CoeFun (JB c e g) (λ_=>∀ ρ,PE c.X e (TB c.X.K c.cls c.E ρ (g ρ))):=⟨JB.run⟩
structure JT (c:C) (e:bC) (g:aE->R Bool):Prop where of ::
 run:∀ ρ,PT c.X e (Hg c.X.K c.cls c.E ρ (g ρ))
instance{c:C}{e:bC}{g:aE->R Bool}:CoeFun (JT c e g) (λ_=>∀ ρ,PT c.X e (Hg c.X.K c.cls c.E ρ (g ρ))):=⟨JT.run⟩
structure JW (c:C) (e:bC) (g:aE->R Bool):Prop where of ::
 run:∀ ρ,PW c.X e (Hg c.X.K c.cls c.E ρ (g ρ))
instance{c:C}{e:bC}{g:aE->R Bool}:CoeFun (JW c e g) (λ_=>∀ ρ,PW c.X e (Hg c.X.K c.cls c.E ρ (g ρ))):=⟨JW.run⟩
structure Gs (c:C) (es:List bC) (g:aE->R (List D)):Prop where of ::
 run:∀ ρ,PA c.X es (TAs c.X.K c.cls c.E ρ (g ρ))
instance{c:C}{es:List bC}{g:aE->R (List D)}:CoeFun (Gs c es g) (λ_=>∀ ρ,PA c.X es (TAs c.X.K c.cls c.E ρ (g ρ))):=⟨Gs.run⟩
structure W_ (c:C) (es:List bC) (g:aE->R (List D)):Prop where of ::
 run:∀ ρ,PA c.X es (TBs c.X.K c.cls c.E ρ (g ρ))
instance{c:C}{es:List bC}{g:aE->R (List D)}:CoeFun (W_ c es g) (λ_=>∀ ρ,PA c.X es (TBs c.X.K c.cls c.E ρ (g ρ))):=⟨W_.run⟩
def sK(h:PE X e t)(m:∀a H Q,t' a H Q->t a H Q):PE X e t':=λb s a H Q I q=>h b s a H Q I (m a H Q q)
def mPT(h:PT X e t)(m:∀a H Q,t' a H Q->t a H Q):PT X e t':=λb s a H Q I q=>h b s a H Q I (m a H Q q)
def mPW(h:PW X e t)(m:∀a H Q,t' a H Q->t a H Q):PW X e t':=λc b s a H Q I q=>h c b s a H Q I (m a H Q q)
def mPA{X:Cx}{e:List bC}{t t':TA}(h:PA X e t)(m:∀a H Q,t' a H Q->t a H Q):PA X e t':=λc b s a H Q I q=>h c b s a H Q I (m a H Q q)
def AQ{X:Cx}{e:eG}{t t':TS}(h:PS X e t)(m:∀D a H,t' D a H->t D a H):PS X e t':=λb s a H Q I q=>h b s a H Q I (m Q a H q)
def q1R{X:Cx}{e:List eG}{t t':TS}(h:Co X e t)(m:∀D a H,t' D a H->t D a H):Co X e t':=λb s a H Q I q=>h b s a H Q I (m Q a H q)
def JE.bor(h:JE c e g):JB c e g:=.of λρ=>sK (h ρ) λk H Q ⟨j,b,la,Hs,f,q⟩=>⟨j,b,la,Hs,f,by
 cases a:g ρ with
 |ok d=>rw[a] at q;exact λv H' i s r=>q v H' i s (.inl r)
 |ex c n=>rw[a] at q;exact q
 |no=>rw[a] at q;exact q⟩
def one{K:a8}{cls:Str->ak}{E:XK}{ρ:aE}{r:R D}{i:Type}{k:D->R i}{e:St}{H:Hp}{g b Hs:Hp}{la:Nat->Option ak}{Q:V->Hp->Prop}{q:i->Prop}(f:Fr K g b la ρ e H Hs)
  (h:Fin K cls E H Hs (r.bind k) q) (m:∀d v H' a,r=.ok d->cQ H Hs H' a->Fr K g b la ρ e H' a->RB K H' a v d->Q v H'):TB K cls E ρ r e H Q:=by
 refine⟨g,b,la,Hs,f,?_⟩;cases r with
 |ok d=>exact λv H' a s r=>m d v H' a rfl s (f.step s) r
 |ex c n=>exact h
 |no=>exact h
def F4{K:a8}{cls:Str->ak}{E:XK}{ρ:aE}{r:R D}{i:Type}{k:D->R i}{e:St}{H:Hp}{g b Hs:Hp}{la:Nat->Option ak}{Q:V->Hp->Prop}{q:i->Prop}(f:Fr K g b la ρ e H Hs)
  (h:Fin K cls E H Hs (r.bind k) q) (m:∀d v H' a,r=.ok d->cQ H Hs H' a->Fr K g b la ρ e H' a->RD K a v d->Q v H'):TR K cls E ρ r e H Q:=by
 refine⟨g,b,la,Hs,f,?_⟩;cases r with
 |ok d=>exact λv H' a s r=>m d v H' a rfl s (f.step s) r
 |ex c n=>exact h
 |no=>exact h
def O0{K:a8}{cls:Str->ak}{E:XK}{ρ:aE}{r:R Bool}{i:Type}{k:Bool->R i}{e:St}{H:Hp}{g b Hs:Hp}{la:Nat->Option ak}{Q:Bool->Hp->Prop}{q:i->Prop}(f:Fr K g b la ρ e H Hs)
  (h:Fin K cls E H Hs (r.bind k) q) (m:∀d H' a,r=.ok d->cQ H Hs H' a->Fr K g b la ρ e H' a->Q d H'):Hg K cls E ρ r e H Q:=by
 refine⟨g,b,la,Hs,f,?_⟩;cases r with
 |ok d=>exact λH' a s=>m d H' a rfl s (f.step s)
 |ex c n=>exact h
 |no=>exact h
def CB{K:a8}{cls:Str->ak}{E:XK}{ρ:aE}{r:R (List D)}{i:Type}{k:List D->R i}{e:St}{H:Hp}{g b Hs:Hp}{la:Nat->Option ak}{Q:List V->Hp->Prop}{q:i->Prop}(f:Fr K g b la ρ e H Hs)
  (h:Fin K cls E H Hs (r.bind k) q) (m:∀d v H' a,r=.ok d->cQ H Hs H' a->Fr K g b la ρ e H' a->RDs K a v d->Q v H'):TAs K cls E ρ r e H Q:=by
 refine⟨g,b,la,Hs,f,?_⟩;cases r with
 |ok d=>exact λv H' a s r=>m d v H' a rfl s (f.step s) r
 |ex c n=>exact h
 |no=>exact h
def QL{K:a8}{cls:Str->ak}{E:XK}{ρ:aE}{r:R (List D)}{i:Type}{k:List D->R i}{e:St}{H:Hp}{g b Hs:Hp}{la:Nat->Option ak}{Q:List V->Hp->Prop}{q:i->Prop}(f:Fr K g b la ρ e H Hs)
  (h:Fin K cls E H Hs (r.bind k) q) (m:∀d v H' a,r=.ok d->cQ H Hs H' a->Fr K g b la ρ e H' a->WZ K H' a v d->Q v H'):TBs K cls E ρ r e H Q:=by
 refine⟨g,b,la,Hs,f,?_⟩;cases r with
 |ok d=>exact λv H' a s r=>m d v H' a rfl s (f.step s) r
 |ex c n=>exact h
 |no=>exact h
def Fin.on{α:Type}{K:a8}{cls:Str->ak}{E:XK}{H Hs H' b:Hp}{r:R α}{q q':α->Prop}(h:Fin K cls E H Hs r q)(s:cQ H Hs H' b)(m:∀a,q a->q' a):Fin K cls E H' b r q':=by
 cases r with
 |ok a=>exact m a h
 |ex c n=>exact λe d f=>h e d (s.trans f)
 |no=>exact h
def Jp(ρ:aE)(i:Nat):R D:=match ρ[i]? with
 |some (Sl.shr d)=>.ok d
 |_=>.no
def Jq(ρ:aE)(i:Nat):R D:=match ρ[i]? with
 |some (Sl.shr d)=>.ok d
 |some (Sl.own d)=>.ok d
 |some (Sl.lck d)=>.ok d
 |_=>.no
section
variable{c:C}{e a b:bC}{g ga gb:aE->R D}{pos:Pos}
def ao(i:Nat)(l:c.X.N[i]?=some x:=by rfl)(p:Pi c.X.env.scope x:=by first|exact io rfl|exact fk (io rfl)|exact fk (fk rfl))(n:(x==("__debug__" : Str))=false:=by decide)
  (k:(x==("__classdict__" : Str))=false:=by decide):JE c (.Name x pos) (λρ=>Jp ρ i):=.of λρ=>sK (qp l p n k) λu H Q j=>by
 obtain⟨w,t,la,Hs,f,q⟩:=j;cases h:ρ[i]? with
 |none=>simp only[Jp,h] at q;exact q.elim
 |some s=>
  cases s with
  |shr d=>
   obtain⟨v,m,o⟩:=f.sh i d h;simp only[Jp,h] at q;exact⟨v,m,q v H Hs (.refl f.st.sub) o⟩
  |no=>simp only[Jp,h] at q;exact q.elim
  |own d=>simp only[Jp,h] at q;exact q.elim
  |lck d=>simp only[Jp,h] at q;exact q.elim
  |ow2 d=>simp only[Jp,h] at q;exact q.elim
theorem aj(i:Nat)(u:c.X.N[i]?=some x:=by rfl)(z:Pi c.X.env.scope x:=by first|exact io rfl|exact fk (io rfl)|exact fk (fk rfl))(y:(x==("__debug__" : Str))=false:=by decide)
  (l:(x==("__classdict__" : Str))=false:=by decide):JB c (.Name x pos) (λρ=>Jq ρ i):=.of λρ=>sK (qp u z y l) λB H Q n=>by
 obtain⟨E,A,la,Hs,f,q⟩:=n;cases h:ρ[i]? with
 |none=>simp only[Jq,h] at q;exact q.elim
 |some s=>
  cases s with
  |shr d=>
   obtain⟨v,j,k⟩:=f.sh i d h;simp only[Jq,h] at q;exact⟨v,j,q v H Hs (.refl f.st.sub) (.inl k)⟩
  |no=>simp only[Jq,h] at q;exact q.elim
  |own d=>
   obtain⟨a,o,j,k,m,p,t⟩:=f.ow i d h;simp only[Jq,h] at q;exact⟨_,j,q _ H Hs (.refl f.st.sub) (.inr ⟨a,o,rfl,k,m,t⟩)⟩
  |lck d=>
   obtain⟨a,o,j,k,m,p,t,w⟩:=f.lk i d h;simp only[Jq,h] at q;exact⟨_,j,q _ H Hs (.refl f.st.sub) (.inr ⟨a,o,rfl,m,p,w⟩)⟩
  |ow2 d=>simp only[Jq,h] at q;exact q.elim
def tL(h:PE c.X e (tC v))(r:∀Hs,RD c.X.K Hs v d):JE c e (λ_=>.ok d):=.of λρ=>sK h λk H Q i=>by obtain⟨l,j,la,Hs,f,q⟩:=i;exact q v H Hs (.refl f.st.sub) (r Hs)
def aH:JE c (.Constant (.int i) j pos) (λ_=>.ok (.int i)):=tL Kc λ_=>.int i
def kQ:JE c (.Constant (.bool i) j pos) (λ_=>.ok (.bool i)):=tL PJ λ_=>.bool i
def QM:JE c (.Constant .none j pos) (λ_=>.ok .none):=tL XV λ_=>.none
def tM:JE c (.Constant (.str i) j pos) (λ_=>.ok (.str i)):=tL PK λ_=>.str i
def wZ(f:Gl c.X x)(d:∃t,c.X.mg x=some (.int i t))(h:(x==("__debug__" : Str))=false:=by decide):JE c (.Name x pos) (λ_=>.ok (.int i)):=by
 obtain⟨t,d⟩:=d;exact tL (EE f d (v:=.int i) ⟨t,rfl⟩ h) λ_=>.int i
inductive rDI (K:a8) (h:D->D->R D) (x:V) (y:V) (H:Hp) (Q:VK):Prop
 |mk (Hs dx dy:_) (h0:dS Hs H) (h1:RB K H Hs x dx) (h2:RB K H Hs y dy) (h3:∃d,h dx dy=.ok d/\∀v H' Hs',cQ H Hs H' Hs'->RD K Hs' v d->Q v H'):rDI K h x y H Q
def rD(K:a8)(h:D->D->R D):R2:=rDI K h
def A9(X:Cx)(f:ag->ag->Sem ag)(h:D->D->R D):Prop:=tF X f (rD X.K h)/\∀x y c n,h x y≠.ex c n
def g2(ga gb:aE->R D)(h:D->D->R D):aE->R D:=λρ=>(ga ρ).bind λx=>(gb ρ).bind λy=>h x y
def two(G:∀x y c n,h x y≠.ex c n)(q:TR K cls E ρ (g2 ga gb h ρ) σ H Q):ZY (rD K h) (TB K cls E ρ (ga ρ)) (TB K cls E ρ (gb ρ)) σ H Q:=by
 obtain⟨N,I,la,Hs,f,q⟩:=q;refine one f q λx v M o t s1 s z=>?_;unfold g2 at q;rw[t,bind_ok] at q;refine one s (q.on s1 (q':=λ_=>True) λ_ _=>trivial) λy u O k L l m A=>?_;rw[L,bind_ok] at q;cases i:h x y with
 |ok d=>
  rw[i] at q;exact⟨k,x,y,m.st.sub,z.step l,A,d,i,λw p j s3 B=>q w p j (s1.trans (l.trans s3)) B⟩
 |ex c n=>exact(G x y c n i).elim
 |no=>rw[i] at q;exact q.elim
def cc(ho:A9 c.X (ig op) h)(d:JB c a ga)(f:JB c b gb):JE c (.BinOp a op b pos) (g2 ga gb h):=.of λρ=>sK (WJ ho.1 (d ρ) (f ρ)) λi H Q q=>two ho.2 q
def j8(ho:A9 c.X (cp op) h)(f:JB c a ga)(i:JB c b gb)(d:oO op b=false:=by first|exact Kg _|rfl):JE c (.Compare a [op] [b] pos) (g2 ga gb h):=.of λρ=>sK (Uy ho.1 (f ρ) (i ρ) d) λj H Q q=>two ho.2 q
def ej(g:aE->R D):aE->R Bool:=λρ=>(g ρ).bind λd=>match d with
 |.bool b=>.ok b
 |_=>.no
theorem ZI(q:Hg K cls E ρ (ej g ρ) σ H Q):TR K cls E ρ (g ρ) σ H λx H'=>∃k,x=.bl k/\Q k H':=by
 obtain⟨o,m,la,Hs,f,q⟩:=q;refine F4 f q λd v i h j s1 n l=>?_;unfold ej at q;rw[j,bind_ok] at q;cases l with
 |bool b=>exact⟨b,rfl,q i h s1⟩
 |_=>exact q.elim
def eT(ho:A9 c.X (cp op) h)(f:JB c a ga)(i:JB c b gb)(d:oO op b=false:=by first|exact Kg _|rfl):JT c (.Compare a [op] [b] pos) (ej (g2 ga gb h)):=.of λρ=>mPT (M0 ho.1 (f ρ) (i ρ) d) λj H Q q=>two ho.2 (ZI q)
def eJ(h:JE c e g)(he:∀d,Am e c.X.env d=(do let v <- d;qJ e.pos;Ji [v] (truthy v)):=by intro _;rfl):JT c e (ej g):=.of λρ=>mPT (PL (h ρ) he) λf H Q q=>ZI q
def i5(g:aE->R Bool):aE->R Bool:=λρ=>(g ρ).bind λb=>.ok (!b)
def AR(g h:aE->R Bool):aE->R Bool:=λρ=>(g ρ).bind λb=>if b then h ρ else .ok false
def zT(g h:aE->R Bool):aE->R Bool:=λρ=>(g ρ).bind λb=>if b then .ok true else h ρ
variable{gt gu:aE->R Bool}{bA:List bC}
def g6(h:JT c e gt):JT c (.UnaryOp .Not e pos) (i5 gt):=.of λρ=>mPT (PN (h ρ)) λm H Q q=>by
 obtain⟨o,l,la,Hs,f,q⟩:=q;refine O0 f q λd j i k s1 n=>?_;unfold i5 at q;rw[k,bind_ok] at q;exact q j i s1
def Aa(h:JT c a gt):JW c (.BoolOp .And [a] pos) gt:=.of λρ=>Us (h ρ)
def l_(h:JT c a gt):JW c (.BoolOp .Or [a] pos) gt:=.of λρ=>PM (h ρ)
def F5(h:JT c a gt)(u:JW c (.BoolOp .And (b::bA) pos) gu):JW c (.BoolOp .And (a::b::bA) pos) (AR gt gu):=.of λρ=>mPW (XX (h ρ) (u ρ)) λv H Q q=>by
 obtain⟨n,l,la,Hs,f,q⟩:=q;refine O0 f q λd m i s s1 o=>?_;unfold AR at q;rw[s,bind_ok] at q;cases d with
 |true=>exact zP ⟨n,l,la,i,o,q.on s1 λb k p j t=>k p j (s1.trans t)⟩
 |false=>exact wP (q m i s1)
def ng(h:JT c a gt)(u:JW c (.BoolOp .Or (b::bA) pos) gu):JW c (.BoolOp .Or (a::b::bA) pos) (zT gt gu):=.of λρ=>mPW (WF (h ρ) (u ρ)) λv H Q q=>by
 obtain⟨n,l,la,Hs,f,q⟩:=q;refine O0 f q λd m i s s1 o=>?_;unfold zT at q;rw[s,bind_ok] at q;cases d with
 |false=>exact wP ⟨n,l,la,i,o,q.on s1 λb k p j t=>k p j (s1.trans t)⟩
 |true=>exact zP (q m i s1)
def JW.t(h:JW c e gt):JT c e gt:=.of λρ=>(h ρ).pt
def w_(g:aE->R D):aE->R D:=λρ=>(ej g ρ).bind λb=>.ok (.bool (!b))
def F6(h:JE c e g):JE c (.UnaryOp .Not e pos) (w_ g):=.of λρ=>sK (X_ (h ρ)) λm H Q q=>by
 refine ZI ?_;obtain⟨o,l,la,Hs,f,q⟩:=q;refine O0 f q λd j i k s1 n=>?_;unfold w_ at q;rw[k,bind_ok] at q;exact q _ j i s1 (.bool _)
def pC(g h:aE->R D):aE->R D:=λρ=>(ej g ρ).bind λb=>if b then h ρ else .ok (.bool false)
def CC(g h:aE->R D):aE->R D:=λρ=>(ej g ρ).bind λb=>if b then .ok (.bool true) else h ρ
def qu(h:JE c a g):JE c (.BoolOp op [a] pos) g:=.of λρ=>XY (h ρ)
def tN(h:JE c a ga)(u:JE c (.BoolOp .And (b::bA) pos) gb):JE c (.BoolOp .And (a::b::bA) pos) (pC ga gb):=.of λρ=>sK (XZ (h ρ) (u ρ)) λx H Q q=>by
 refine ZI ?_;obtain⟨n,l,la,Hs,f,q⟩:=q;refine O0 f q λd m i s s1 o=>?_;unfold pC at q;rw[s,bind_ok] at q;cases d with
 |true=>exact zP ⟨n,l,la,i,o,q.on s1 λb k v p j t w=>k v p j (s1.trans t) w⟩
 |false=>exact wP (q _ m i s1 (.bool _))
def X1(h:JE c a ga)(u:JE c (.BoolOp .Or (b::bA) pos) gb):JE c (.BoolOp .Or (a::b::bA) pos) (CC ga gb):=.of λρ=>sK (ZR (h ρ) (u ρ)) λx H Q q=>by
 refine ZI ?_;obtain⟨n,l,la,Hs,f,q⟩:=q;refine O0 f q λd m i s s1 o=>?_;unfold CC at q;rw[s,bind_ok] at q;cases d with
 |false=>exact wP ⟨n,l,la,i,o,q.on s1 λb k v p j t w=>k v p j (s1.trans t) w⟩
 |true=>exact zP (q _ m i s1 (.bool _))
def tO(ga gb d:aE->R D)(h h':D->D->R D):aE->R D:=λρ=>(ga ρ).bind λx=>(gb ρ).bind λy=>(h x y).bind λz=>match z with
 |.bool true=>(d ρ).bind λw=>h' y w
 |.bool false=>.ok (.bool false)
 |_=>.no
def aa(g:aE->R D)(f:aE->R (List D)):aE->R (List D):=λρ=>(g ρ).bind λd=>(f ρ).bind λds=>.ok (d::ds)
def aC:aE->R (List D):=λ_=>.ok []
def aL:Gs c [] aC:=.of λρ=>mPA f_ λi H Q d=>by obtain⟨j,h,la,Hs,f,q⟩:=d;exact q [] H Hs (.refl f.st.sub) .nil
def c9:W_ c [] aC:=.of λρ=>mPA f_ λi H Q d=>by obtain⟨j,h,la,Hs,f,q⟩:=d;exact q [] H Hs (.refl f.st.sub) .nil
def ac(h:JE c e g)(l:Gs c es gs)(hs:aF (e::es) c.X.env=(false,eu e c.X.env)::aF es c.X.env:=by rfl):Gs c (e::es) (aa g gs):=.of λρ=>mPA (cE (h ρ) (l ρ) hs) λy H Q i=>by
 obtain⟨z,u,la,Hs,f,q⟩:=i;refine F4 f q λd v x m p s1 n s=>?_;unfold aa at q;rw[p,bind_ok] at q;refine CB n (q.on s1 (q':=λ_=>True) λ_ _=>trivial) λds B o j w k A t=>?_;rw[w,bind_ok] at q;exact q _ o j (s1.trans k) (.cons (s.same k.sh) t)
def bD(h:JB c e g)(l:W_ c es gs)(hs:aF (e::es) c.X.env=(false,eu e c.X.env)::aF es c.X.env:=by rfl):W_ c (e::es) (aa g gs):=.of λρ=>mPA (cE (h ρ) (l ρ) hs) λy H Q i=>by
 obtain⟨z,u,la,Hs,f,q⟩:=i;refine one f q λd v x m p s1 n s=>?_;unfold aa at q;rw[p,bind_ok] at q;refine QL n (q.on s1 (q':=λ_=>True) λ_ _=>trivial) λds B o j w k A t=>?_;rw[w,bind_ok] at q;exact q _ o j (s1.trans k) (.cons (s.step k) t)
def de(d:aE->R (List D))(k:List D->D):aE->R D:=λρ=>(d ρ).bind λds=>if ds.length<=1000 then .ok (k ds) else .no
def j9{x1}(h:Gs c es gs):JE c (.Tuple es x1 pos) (de gs .tuple):=.of λρ=>sK (Q4 (h ρ)) λt H Q d=>by
 obtain⟨u,o,la,Hs,f,q⟩:=d;refine CB f q λds v s m n s1 j k=>?_;unfold de at q;rw[n,bind_ok] at q;by_cases i:ds.length<=1000
 ·rw[if_pos i] at q;refine⟨bL (cV (by rw[k.length];exact i)),λp l=>q _ _ _ (s1.trans (.new j.st.sub l)) (.tuple aX (k.same (cQ.new j.st.sub l).sh))⟩
 ·rw[if_neg i] at q;exact q.elim
def jZ(h:Gs c es gs):JE c (.List es pos) (de gs .list):=.of λρ=>sK (qq (h ρ)) λt H Q d=>by
 obtain⟨u,o,la,Hs,f,q⟩:=d;refine CB f q λds v s m n s1 j k=>?_;unfold de at q;rw[n,bind_ok] at q;by_cases i:ds.length<=1000
 ·rw[if_pos i] at q;refine⟨bL (cV (by rw[k.length];exact i)),λp l=>q _ _ _ (s1.trans (.new j.st.sub l)) (.list (.of aX) (k.same (cQ.new j.st.sub l).sh))⟩
 ·rw[if_neg i] at q;exact q.elim
end
end J
namespace J
open PySem PySem.Spec PyProof.Rows L2
def dU:D->D->R D
 |.int i,.int j=>.ok (.int (i+j))
 |.str x,.str y=>if x.length+y.length<=1000 then .ok (.str (x++y)) else .no
 |.tuple xs,.tuple ys=>if xs.length+ys.length<=1000 then .ok (.tuple (xs++ys)) else .no
 |.list xs,.list ys=>if xs.length+ys.length<=1000 then .ok (.list (xs++ys)) else .no
 |_,_=>.no
inductive QN (K:a8) (x:V) (y:V) (H:Hp) (Q:VK):Prop
 |mk (l b xs zs:_) (h0:x=.ref l) (h1:y=.ref b) (h2:oZ K H l xs) (h3:oZ K H b zs) (h4:xs.length+zs.length<=sizeLine) (h5:∀p,H p=none->Q (.ref p) (upd H p (.lst (xs++zs)))):QN K x y H Q
def q0m(K:a8):R2:=QN K
def V1:tF X (ig .Add) (q0m X.K):=by
 intro i s T H x y v u Q I w M h;obtain⟨l,b,xs,S,rfl,rfl,t,O,E,q⟩:=h;cases w;cases M;obtain⟨c,r,⟨o,n,e,k,c2,f⟩,z⟩:=I.list t;obtain⟨a,m,⟨A,L,p,d,g,j⟩,Y⟩:=I.list O;obtain⟨k1,k2,k3,G⟩:=o;obtain⟨m1,U,P,N⟩:=A;simp only at k c2 f d g j;subst k c2 f d g j;refine C8 ⟨_,e,rfl⟩ ⟨_,p,rfl⟩ noFill_list_add seq_list_add PySem.F.slot_list_add PySem.F.entry_list_add (PySem.F.args_list_add_2 _ _) (PyProof.Rows.list_addW l b _ _ n L _ _ G N (by rw[aM,aM,<- r.length,<- m.length];exact E)) ⟨e,p,?_⟩;have B:c.toArray++a.toArray=(c++a).toArray:=by simp
 rw[B];exact⟨.ref _,_,I.lnew (t':=s.toks) (r.append m) (by rw[aT];omega),rfl,q _ I.fresh⟩
inductive QO (K:a8) (x:V) (y:V) (H:Hp) (Q:VK):Prop
 |mk (a b ys:_) (h0:x=.ref a) (h1:y=.ref b) (h2:lY K H a []) (h3:lY K H b ys) (h4:Q (.ref b) H):QO K x y H Q
def q0n(K:a8):R2:=QO K
def V2:tF X (ig .Add) (q0n X.K):=by
 intro g s G H x y v u Q I m w h;obtain⟨a,b,ys,rfl,rfl,l,B,q⟩:=h;cases m;cases w;obtain⟨p,r,⟨⟨k1,k2,k3,o⟩,e,j,n,d⟩,z⟩:=I.tuple l;obtain⟨f,N,⟨⟨O,L,E,A⟩,k,c,t,i⟩,M⟩:=I.tuple B;simp only at j d c i;subst j d c i;cases r;exact C8 ⟨_,e,rfl⟩ ⟨_,k,rfl⟩ Ep Nk rH qK (ql _ _)
  (PyProof.Rows.tuple_addW0 a b _ _ n t _ _ o A rfl) ⟨e,k,⟨.ref b,H,I,rfl,q⟩⟩
def cS:A9 X (ig .Add) dU:=by
 refine⟨λf s z H x y v u Q I A B ⟨Hs,N,L,sub,i,l,d,g,q⟩=>?_,λx y c n=>?_⟩
 ·unfold dU at g;split at g
  ·cases g;exact Y8 f s z H x y v u Q I A B ⟨_,_,i.int,l.int,q _ H Hs (.refl sub) (.int _)⟩
  ·split at g
   ·rename_i w
    cases g;exact Kj f s z H x y v u Q I A B ⟨_,_,i.str,l.str,bL (cV w),q _ H Hs (.refl sub) (.str _)⟩
   ·cases g
  ·split at g
   ·rename_i xs ys w
    cases g;obtain⟨a,t,rfl,G,o,_⟩:=i.tuple sub;obtain⟨b,k,rfl,K,m,_⟩:=l.tuple sub;have j:t.length+k.length<=sizeLine:=by rw[o.length,m.length];exact bL (cV w)
    have big:∀p,H p=none->Q (.ref p) (upd H p (.tup (t++k))):=λp E=>q _ _ _ (.new sub E) (.tuple aX ((o.append m).same (cQ.new sub E).sh));cases t with
    |nil=>
     cases o;refine V2 f s z H _ _ v u Q I A B ⟨a,b,k,rfl,rfl,G,K,?_⟩;rcases l with l|⟨_,_,_,_,_,ow⟩
     ·exact q _ H Hs (.refl sub) (by simpa using l)
     ·cases ow
    |cons O M=>
     refine UE f s z H _ _ v u Q I A B ⟨a,b,_,k,rfl,rfl,G,K,by simp,j,λe=>?_,λ_=>big⟩;subst e;cases m;rcases i with i|⟨_,_,_,_,_,ow⟩
     ·exact q _ H Hs (.refl sub) (by simpa using i)
     ·cases ow
   ·cases g
  ·split at g
   ·rename_i xs ys w
    cases g;obtain⟨a,t,rfl,G,o⟩:=i.list sub;obtain⟨b,k,rfl,K,m⟩:=l.list sub;have j:t.length+k.length<=sizeLine:=by rw[o.length,m.length];exact bL (cV w)
    exact V1 f s z H _ _ v u Q I A B ⟨a,b,t,k,rfl,rfl,G,K,j,λp E=>q _ _ _ (.new sub E) (.list (.of aX) ((o.append m).same (cQ.new sub E).sh))⟩
   ·cases g
  ·cases g
 ·unfold dU;split<;>(try split)<;>exact λh=>by cases h
def KC(C:Int->Int->Bool)(k:Int->Int->D):D->D->R D
 |.int i,.int j=>if C i j then .ok (k i j) else .no
 |_,_=>.no
def KD{f:ag->ag->Sem ag}{C:Int->Int->Bool}{P:Int->Int->Prop}{k:Int->Int->D}{e:Int->Int->V}(h:tF X f (rI P e))(w:∀i j,C i j=true->P i j)(z:∀Hs i j,RD X.K Hs (e i j) (k i j)):A9 X f (KC C k):=by
 refine⟨λb s m H x y v u Q I p t ⟨Hs,B,A,sub,g,o,d,a,q⟩=>?_,λx y c n=>?_⟩
 ·unfold KC at a;split at a
  ·split at a
   ·rename_i l
    cases a;exact h b s m H x y v u Q I p t ⟨_,_,g.int,o.int,w _ _ l,q _ H Hs (.refl sub) (z _ _ _)⟩
   ·cases a
  ·cases a
 ·unfold KC;split<;>(try split)<;>exact λh=>by cases h
def Du(i j:Int):Bool:=(decide (-(2 ^ 64)<i)&&decide (i<2 ^ 64))||(decide (-(2 ^ 64)<j)&&decide (j<2 ^ 64))
def zU:=KC Du λi j=>.int (i*j)
def O1:=KC (λ_ j=>decide (0<j)) λi j=>.int (i % j)
def QP:=KC (λ_ j=>decide (0<j)&&decide (j<1073741824)) λi j=>.int (i / j)
def tP:A9 X (ig .Mult) zU:=KD Y9 (λi j h=>by
 unfold Du at h;simp only[ij,aR,decide_eq_true_eq] at h;exact h) λ_ _ _=>.int _
def F7:A9 X (ig .Mod) O1:=KD Ya (λi j h=>of_decide_eq_true h) λ_ _ _=>.int _
def V3:A9 X (ig .FloorDiv) QP:=KD Uu (λi j h=>by
 simp only[aR,decide_eq_true_eq] at h;exact h) λ_ _ _=>.int _
def nh(a:Bool)(x y:D):R D:=if x.canLay0&&y.canLay0&&decide (min x.depth y.depth<=60) then .ok (.bool (if a then !bn x y else bn x y)) else .no
mutual
theorem pE:∀d:D,d.canLay0=true->qT d=true
 |.none,_=>rfl
 |.bool _,_=>rfl
 |.int _,_=>rfl
 |.str _,_=>rfl
 |.list xs,h=>by
  simp only[eg] at h;simp only[qT];exact lays_noD xs h
 |.tuple xs,h=>by
  simp only[eg] at h;simp only[qT];exact lays_noD xs h
 |.dict _,h=>by simp[eg] at h
theorem lays_noD:∀d:List D,cY d=true->noDs d=true
 |[],_=>rfl
 |x::r,h=>by
  simp only[cY,aR] at h;simp only[noDs,aR];exact⟨pE x h.1,lays_noD r h.2⟩
end
def QQ(h:tF X f (Yu X.K neg)):A9 X f (nh neg):=by
 refine⟨λb s j H x y v u Q I m o ⟨Hs,k,g,sub,i,l,d,e,q⟩=>?_,λx y c n=>?_⟩
 ·unfold nh at e;split at e
  ·rename_i a
   simp only[aR,decide_eq_true_eq] at a;cases e;exact h b s j H x y v u Q I m o ⟨k,g,(i.full sub).rep (pE _ a.1.1),(l.full sub).rep (pE _ a.1.2),a.1.1,a.1.2,a.2,q _ H Hs (.refl sub) (.bool _)⟩
  ·cases e
 ·unfold nh;split<;>exact λh=>by cases h
def vm(a:X.A.units+64<eQ):A9 X (cp .Eq) (nh false):=QQ (Yv a)
def zi(a:X.A.units+64<eQ):A9 X (cp .NotEq) (nh true):=QQ (Yw a)
def O3(k:Int->Int->Bool)(t:Str->Str->Bool):D->D->R D
 |.int i,.int j=>.ok (.bool (k i j))
 |.str x,.str y=>.ok (.bool (t x y))
 |_,_=>.no
def QR(p:tF X f (Y4 λi j=>.bl (k i j)))(w:tF X f (λx y H Q=>∃i j,x=.str i/\y=.str j/\Q (.bl (t i j)) H)):A9 X f (O3 k t):=by
 refine⟨λa s g H x y v u Q I m o ⟨Hs,A,z,sub,e,l,d,b,q⟩=>?_,λx y c n=>?_⟩
 ·unfold O3 at b;split at b
  ·cases b;exact p a s g H x y v u Q I m o ⟨_,_,e.int,l.int,q _ H Hs (.refl sub) (.bool _)⟩
  ·cases b;exact w a s g H x y v u Q I m o ⟨_,_,e.str,l.str,q _ H Hs (.refl sub) (.bool _)⟩
  ·cases b
 ·unfold O3;split<;>exact λh=>by cases h
def KG:=O3 (λi j=>decide (i<j)) oR
def X2:=O3 (λi j=>decide (i<=j)) λx y=>!oR y x
def X3:D->D->R D
 |.int i,.int j=>.ok (.bool (decide (j<i)))
 |_,_=>.no
def Dv:A9 X (cp .Lt) KG:=QR q01 NJ
def Dw:A9 X (cp .LtE) X2:=QR q02 NV
def QS:A9 X (cp .Gt) X3:=by
 refine⟨λa s f H x y v u Q I i j ⟨Hs,l,k,sub,e,g,d,b,q⟩=>?_,λx y c n=>?_⟩
 ·unfold X3 at b;split at b
  ·cases b;exact q03 a s f H x y v u Q I i j ⟨_,_,e.int,g.int,q _ H Hs (.refl sub) (.bool _)⟩
  ·cases b
 ·unfold X3;split<;>exact λh=>by cases h
def ni:D->Bool
 |.none=>true
 |.bool _=>true
 |.int _=>true
 |.str _=>true
 |_=>false
def sS(a:Bool):D->D->R D
 |x,.list ys=>if ni x&&ys.all ni then .ok (.bool (if a then !(ys.any λy=>bn y x) else ys.any λy=>bn y x)) else .no
 |x,.tuple ys=>if ni x&&ys.all ni then .ok (.bool (if a then !(ys.any λy=>bn y x) else ys.any λy=>bn y x)) else .no
 |_,_=>.no
def Mc{K:a8}{H:Hp}{v:V}{d:D}(h:RD K H v d)(f:ni d=true):tG v=true:=by
 cases h<;>first|rfl|cases f
def Hh{K:a8}{H Hs:Hp}{v:V}{d:D}(h:RB K H Hs v d)(f:ni d=true):tG v=true:=by
 rcases h with h|⟨a,o,rfl,_,_,h⟩
 ·exact Mc h f
 ·cases h<;>cases f
def Hi{K:a8}{H:Hp}{a:List V}:∀{ds:List D},RDs K H a ds->ds.all ni=true->a.all tG=true:=by
 induction a with
 |nil=>intro ds _ _;rfl
 |cons x r b=>
  intro ds h f;cases h with
  |cons h t=>
   rw[wD,aR] at f ⊢;exact⟨Mc h f.1,b t f.2⟩
def Yz{K:a8}{H k Hs:Hp}{v u:V}{d e:D}(h:RD K H v d)(j:RB K k Hs u e)(f:ni d=true)(g:ni e=true):UH v u=bn d e:=by
 have c:RD K Hs u e:=by
  rcases j with j|⟨a,o,rfl,_,_,j⟩
  ·exact j
  ·cases j<;>cases g
 cases h with
 |list _ _=>cases f
 |tuple _ _=>cases f
 |dictK _ _=>cases f
 |dictT _ _ _=>cases f
 |dictF _ _ _=>cases f
 |none=>cases c<;>first|rfl|cases g
 |bool b=>cases c<;>first|rfl|cases g
 |int i=>cases c<;>first|rfl|cases g
 |str x=>cases c<;>first|rfl|cases g
theorem KH{K:a8}{H d Hs:Hp}{u:V}{e:D}(a:RB K d Hs u e)(b:ni e=true):∀{c:List V}{ds:List D},RDs K H c ds->ds.all ni=true->inV u c=ds.any λy=>bn y e
 |_,_,.nil,_=>rfl
 |_,_,.cons h t,f=>by
  rw[wD,aR] at f;have:=KH a b t f.2;unfold inV at this ⊢;rw[dR,dR,this,Yz h a f.1 b]
def QT(h:tF X f (rIn X.K neg)):A9 X f (sS neg):=by
 refine⟨λg s m H x y v u Q I p t ⟨Hs,z,w,sub,j,o,d,e,q⟩=>?_,λx y c n=>?_⟩
 ·unfold sS at e;split at e
  ·split at e
   ·rename_i a
    simp only[aR] at a;cases e;obtain⟨b,l,rfl,k,i⟩:=o.list sub;refine h g s m H _ _ v u Q I p t ⟨b,l,rfl,.inl k,Hh j a.1,Hi i a.2,?_⟩;rw[KH j a.1 i a.2];exact q _ H Hs (.refl sub) (.bool _)
   ·cases e
  ·split at e
   ·rename_i a
    simp only[aR] at a;cases e;obtain⟨b,l,rfl,k,i,_⟩:=o.tuple sub;refine h g s m H _ _ v u Q I p t ⟨b,l,rfl,.inr k,Hh j a.1,Hi i a.2,?_⟩;rw[KH j a.1 i a.2];exact q _ H Hs (.refl sub) (.bool _)
   ·cases e
  ·cases e
 ·unfold sS;split<;>(try split)<;>exact λh=>by cases h
def og:A9 X (cp .In) (sS false):=QT NL
def AS:A9 X (cp .NotIn) (sS true):=QT EK
end J
namespace J
open PySem L2
section
variable{c:C}{e a b:bC}{g ga gb:aE->R D}{pos:Pos}
def KI:D->D->R D
 |.list xs,.int i=>match Kn xs i with
  |some d=>.ok d
  |none=>.no
 |.tuple xs,.int i=>match Kn xs i with
  |some d=>.ok d
  |none=>.no
 |.str x,.int i=>if x.length<=1000 then(match Kn x.cps.toList i with
  |some k=>.ok (.str ⟨#[k]⟩)
  |none=>.no) else .no
 |_,_=>.no
def Md(h:RDs K H vs ds)(e:Kn ds i=some d):∃v,Kn vs i=some v/\RD K H v d:=by
 unfold Kn at e ⊢;rw[h.length];cases f:Yh ds.length i with
 |none=>rw[f] at e;cases e
 |some j=>
  rw[f] at e;exact h.get' e
def q1S:IxR X (rD X.K KI):=by
 intro t E i s n H x y v u Q I A B h;obtain⟨Hs,O,N,sub,m,z,d,f,q⟩:=h;unfold KI at f;split at f
 ·split at f
  ·rename_i d' he
   cases f;obtain⟨p,L,rfl,l,G⟩:=m.list sub;obtain⟨w,o,j⟩:=Md G he;exact EI t E i s n H _ _ v u Q I A B ⟨p,L,_,w,rfl,z.int,l,o,q _ H Hs (.refl sub) j⟩
  ·cases f
 ·split at f
  ·rename_i d' he
   cases f;obtain⟨p,L,rfl,l,G,_⟩:=m.tuple sub;obtain⟨w,o,j⟩:=Md G he;exact Yi t E i s n H _ _ v u Q I A B ⟨p,L,_,w,rfl,z.int,l,o,q _ H Hs (.refl sub) j⟩
  ·cases f
 ·split at f
  ·rename_i M
   split at f
   ·rename_i k he
    cases f;exact Yj t E i s n H _ _ v u Q I A B ⟨_,_,k,m.str,z.int,bL (cV M),he,q _ H Hs (.refl sub) (.str _)⟩
   ·cases f
  ·cases f
 ·cases f
def YA(x y:D)(c:Str)(n:Option D):KI x y≠.ex c n:=by
 unfold KI;split<;>(try split)<;>(try split)<;>exact λh=>by cases h
def q0o(d:JB c a ga)(f:JB c b gb)(hs:wL b:=by exact λ_ _=>rfl):JE c (.Subscript a b pos) (g2 ga gb KI):=.of λρ=>sK (WM q1S (d ρ) (f ρ) hs) λh H Q q=>two YA q
def AT(ds:List D)(lo d:Option Int):List D:=(ds.drop (HT.jV ds.length 0 lo)).take (HT.jV ds.length ds.length d-HT.jV ds.length 0 lo)
def Me(h:RDs K H vs ds)(lo d:Option Int):RDs K H (GG vs lo d) (AT ds lo d):=by
 unfold GG AT;rw[h.length];exact(h.drop _).take _
def Mf:D->Option Int->Option Int->R D
 |.list xs,lo,d=>.ok (.list (AT xs lo d))
 |.tuple xs,lo,d=>.ok (.tuple (AT xs lo d))
 |_,_,_=>.no
inductive X4 (K:a8) (x:V) (lo:Option Int) (hi:Option Int) (H:Hp) (Q:VK):Prop
 |mk (Hs dx:_) (h0:dS Hs H) (h1:RB K H Hs x dx) (h2:∃d,Mf dx lo hi=.ok d/\∀v H' Hs',cQ H Hs H' Hs'->RD K Hs' v d->Q v H'):X4 K x lo hi H Q
def q1T(K:a8):V->Option Int->Option Int->Hp->VK->Prop:=X4 K
def q1U{X:Cx}:SlR X (q1T X.K):=by
 intro f s y H x v z A lo j B Q I w hs pl E h;obtain⟨Hs,G,sub,n,d,m,q⟩:=h;unfold Mf at m;split at m
 ·cases m;obtain⟨p,i,rfl,t,o⟩:=n.list sub;exact UG f s y H _ v z A lo j B Q I w hs pl E ⟨p,i,rfl,t,λl k=>q _ _ _ (.new sub k) (.list (.of aX) ((Me o lo j).same (cQ.new sub k).sh))⟩
 ·cases m;obtain⟨p,i,rfl,t,o,_⟩:=n.tuple sub;by_cases u:HT.jV i.length 0 lo=0/\HT.jV i.length i.length j=i.length
  ·refine UY f s y H _ v z A lo j B Q I w hs pl E ⟨p,i,rfl,t,u,?_⟩;rcases n with n|⟨_,_,_,_,_,ow⟩
   ·refine q _ H Hs (.refl sub) ?_;unfold AT;rw[<- o.length,u.1,u.2,o.length];simpa using n
   ·cases ow
  ·exact Yg f s y H _ v z A lo j B Q I w hs pl E ⟨p,i,rfl,t,u,λl k=>q _ _ _ (.new sub k) (.tuple aX ((Me o lo j).same (cQ.new sub k).sh))⟩
 ·cases m
inductive q0p (K:a8) (cls:Str->ak) (E:XK) (ρ:aE) (r:R (Option Int)) (σ:St) (H:Hp) (Q:Option Int->Hp->Prop):Prop
 |mk (H0 Hs0:Hp) (la:Nat->Option ak) (Hs:Hp) (f:Fr K H0 Hs0 la ρ σ H Hs) (q:Fin K cls E H Hs r λd=>∀H' Hs',cQ H Hs H' Hs'->Q d H'):q0p K cls E ρ r σ H Q
def TOr(K:a8)(cls:Str->ak)(E:XK)(ρ:aE)(r:R (Option Int)):TO:=q0p K cls E ρ r
structure JO (c:C) (e:Option bC) (g:aE->R (Option Int)):Prop where of ::
 run:∀ ρ,PO c.X e (TOr c.X.K c.cls c.E ρ (g ρ))
instance{c:C}{e:Option bC}{g:aE->R (Option Int)}:CoeFun (JO c e g) (λ_=>∀ ρ,PO c.X e (TOr c.X.K c.cls c.E ρ (g ρ))):=⟨JO.run⟩
def mPO{X:Cx}{e:Option bC}{t t':TO}(h:PO X e t)(m:∀d H Q,t' d H Q->t d H Q):PO X e t':=λf s d H Q I q=>h f s d H Q I (m d H Q q)
def Jr:aE->R (Option Int):=λ_=>.ok none
def F8(g:aE->R D):aE->R (Option Int):=λρ=>(g ρ).bind λd=>match d with
 |.int i=>.ok (some i)
 |_=>.no
def xa:JO c none Jr:=.of λρ=>mPO UC λi H Q d=>by obtain⟨j,h,la,Hs,f,q⟩:=d;exact q H Hs (.refl f.st.sub)
def rL(h:JE c e g):JO c (some e) (F8 g):=.of λρ=>mPO (UD (h ρ)) λp H Q k=>by
 obtain⟨s,o,la,Hs,f,q⟩:=k;refine F4 f q λd v l j m s1 t n=>?_;unfold F8 at q;rw[m,bind_ok] at q;cases n with
 |int i=>exact⟨i,rfl,q l j s1⟩
 |_=>exact q.elim
theorem q0q{K:a8}{cls:Str->ak}{E:XK}{ρ:aE}{r:R (Option Int)}{p:Type}{k:Option Int->R p}{l:St}{H:Hp}{o j Hs:Hp}{la:Nat->Option ak}{Q:Option Int->Hp->Prop}{q:p->Prop}(f:Fr K o j la ρ l H Hs)
  (h:Fin K cls E H Hs (r.bind k) q) (m:∀d H' i,r=.ok d->cQ H Hs H' i->Fr K o j la ρ l H' i->Q d H'):TOr K cls E ρ r l H Q:=by
 refine⟨o,j,la,Hs,f,?_⟩;cases r with
 |ok d=>exact λH' i s=>m d H' i rfl s (f.step s)
 |ex c n=>exact h
 |no=>exact h
def Gu(g:aE->R D)(d f:aE->R (Option Int)):aE->R D:=λρ=>(g ρ).bind λx=>(d ρ).bind λl=>(f ρ).bind λh=>Mf x l h
def qU{lo t:Option bC}{p s:aE->R (Option Int)}{x:Pos}(he:JB c e g)(A:JO c lo p)(O:JO c t s):JE c (.Subscript e (.Slice lo t none x) pos) (Gu g p s):=.of λρ=>sK (Q7 q1U (he ρ) (A ρ) (O ρ)) λX H Q j=>by
 obtain⟨Y,S,la,Hs,f,q⟩:=j;refine one f q λd v U G N s1 L P=>?_;unfold Gu at q;rw[N,bind_ok] at q;refine q0q L (q.on s1 (q':=λ_=>True) λ_ _=>trivial) λl H2 M T o E=>?_;rw[T,bind_ok] at q;refine q0q E (q.on (s1.trans o) (q':=λ_=>True) λ_ _=>trivial) λh H3 k y s3 K=>?_;rw[y,bind_ok] at q;cases i:Mf d l h with
 |ok z=>rw[i] at q;exact⟨k,d,K.st.sub,(P.step o).step s3,z,i,λw B m u I=>q w B m (s1.trans (o.trans (s3.trans u))) I⟩
 |ex c n=>unfold Mf at i;split at i<;>cases i
 |no=>rw[i] at q;exact q.elim
inductive rCI (K:a8) (h:List D->R D) (xs:List V) (H:Hp) (Q:VK):Prop
 |mk (Hs ds:_) (h0:dS Hs H) (h1:WZ K H Hs xs ds) (h2:∃d,h ds=.ok d/\∀v H' Hs',cQ H Hs H' Hs'->RD K Hs' v d->Q v H'):rCI K h xs H Q
def rC(K:a8)(h:List D->R D):List V->Hp->VK->Prop:=rCI K h
def O4(X:Cx)(f:ag)(h:List D->R D):Prop:=jU X f (rC X.K h)/\∀x c n,h x≠.ex c n
def c7(d:aE->R (List D))(h:List D->R D):aE->R D:=λρ=>(d ρ).bind h
def X5{K:a8}{cls:Str->ak}{E:XK}{h:List D->R D}{m:aE->R (List D)}{ρ:aE}{l:St}{H:Hp}{Q:VK}(v:∀x c n,h x≠.ex c n)(q:TR K cls E ρ (c7 m h ρ) l H Q):ZE (rC K h) (TBs K cls E ρ (m ρ)) l H Q:=by
 obtain⟨A,y,la,Hs,f,q⟩:=q;refine QL f q λds B z k s s1 p t=>?_;unfold c7 at q;rw[s,bind_ok] at q;cases i:h ds with
 |ok d=>
  rw[i] at q;exact⟨k,ds,p.st.sub,t,d,i,λw o j s3 u=>q w o j (s1.trans s3) u⟩
 |ex c n=>exact(v ds c n i).elim
 |no=>rw[i] at q;exact q.elim
variable{es:List bC}{gs:aE->R (List D)}{x:Str}{p:Pos}{id T:String}{h:List D->R D}
def bV(i:O4 c.X (.builtin id) h)(n:Gl c.X x)(j:c.X.mg x=none)(m:jo x=some (.builtin id))(k:W_ c (e::es) gs)(l:x≠"__name__":=by decide)(d:(x==("__debug__" : Str))=false:=by decide)
  (he:aF (e::es) c.X.env=(false,eu e c.X.env)::aF es c.X.env:=by rfl) (f:(hG pos (aF es c.X.env)).any (·.1)=false:=by rfl):JE c (.Call (.Name x p) (e::es) [] pos) (c7 gs h):=.of λρ=>sK (o6 i.1 n j m (k ρ) l d he f) λo H Q q=>X5 i.2 q
def fX(i:O4 c.X (.type T) h)(n:Gl c.X x)(j:c.X.mg x=none)(m:jo x=some (.type T))(k:W_ c (e::es) gs)(l:x≠"__name__":=by decide)(d:(x==("__debug__" : Str))=false:=by decide)
  (he:aF (e::es) c.X.env=(false,eu e c.X.env)::aF es c.X.env:=by rfl) (f:(hG pos (aF es c.X.env)).any (·.1)=false:=by rfl):JE c (.Call (.Name x p) (e::es) [] pos) (c7 gs h):=.of λρ=>sK (Dj i.1 n j m (k ρ) l d he f) λo H Q q=>X5 i.2 q
end
def WZ.one(h:WZ K H Hs xs [d]):∃x,xs=[x]/\RB K H Hs x d:=by
 cases h with|cons a t=>cases t;exact⟨_,rfl,a⟩
def il(h:D->R D):List D->R D
 |[d]=>h d
 |_=>.no
def tQ(m:∀d c n,h d≠.ex c n)
  (j:∀a s e H x u Q Hs d d',bQ X a e H s->dX x u->dS Hs H->RB X.K H Hs x d->h d=.ok d'->(∀v H' b,cQ H Hs H' b->RD X.K b v d'->Q v H')->au (az X.prog X.w) X.A (call f [u]) (EP X a e Q) X.xe s):O4 X f (il h):=by
 refine⟨λa s e H xs o Q I r ⟨Hs,ds,sub,l,d,g,q⟩=>?_,λx c n=>?_⟩
 ·unfold il at g;split at g
  ·obtain⟨x,rfl,i⟩:=l.one;obtain⟨u,rfl,k⟩:=lB r;exact j a s e H x u Q Hs _ _ I k sub i g q
  ·cases g
 ·unfold il;split
  ·exact m _ _ _
  ·exact λh=>by cases h
def n5:D->R D
 |.list xs=>.ok (.int xs.length)
 |.tuple xs=>.ok (.int xs.length)
 |.str x=>if x.length<=1000 then .ok (.int x.length) else .no
 |_=>.no
def RDk.length:∀{ds:List (D×D)},RDk K H vs ds->vs.length=ds.length:=by
 induction vs with
 |nil=>intro ds h;cases h;rfl
 |cons x r c=>intro ds h;cases h with|cons a b=>exact congrArg (· + 1) (c b)
theorem RDt.length:∀{a:List (List ip×V)}{ds:List (D×D)},RDt K H a ds->a.length=ds.length
 |_,_,.nil=>rfl
 |_,_,.cons _ t=>by simp[RDt.length t]
def RB.dict(sub:dS Hs H)(h:RB K H Hs v (.dict ds)):∃a,v=.ref a/\((∃b,H a=some (.dK b)/\RDk K Hs b ds)\/(∃b,H a=some (.dT b)/\b≠[]/\RDt K Hs b ds)\/∃o b es,ds=(.none,.none)::es/\H a=some (.frz o (.dT b))/\b≠[]/\RDt K Hs b es):=by
 rcases h with h|⟨a,o,rfl,h2,h3,h4⟩
 ·cases h with
  |dictK q r=>exact⟨_,rfl,.inl ⟨_,sub _ _ q,r⟩⟩
  |dictT q n r=>exact⟨_,rfl,.inr (.inl ⟨_,sub _ _ q,n,r⟩)⟩
  |dictF q n r=>exact⟨_,rfl,.inr (.inr ⟨_,_,_,rfl,sub _ _ q,n,r⟩)⟩
 ·cases h4 with
  |dK r=>exact⟨a,rfl,.inl ⟨_,h2,r⟩⟩
  |dT n r=>exact⟨a,rfl,.inr (.inl ⟨_,h2,n,r⟩)⟩
  |dF n r=>exact⟨a,rfl,.inr (.inr ⟨_,_,_,rfl,h2,n,r⟩)⟩
def jw:O4 X (.builtin "len") (il n5):=by
 refine tQ (λd c n=>?_) λb s i H x u Q Hs d d' I j sub g e q=>?_
 ·unfold n5;split<;>(try split)<;>exact λh=>by cases h
 ·unfold n5 at e;split at e
  ·cases e;obtain⟨a,l,rfl,f,k⟩:=g.list sub;refine wN b s i H _ _ Q I (.cons j .nil) ⟨a,l,rfl,.inl f,?_⟩;rw[k.length];exact q _ H Hs (.refl sub) (.int _)
  ·cases e;obtain⟨a,l,rfl,f,k,_⟩:=g.tuple sub;refine wN b s i H _ _ Q I (.cons j .nil) ⟨a,l,rfl,.inr f,?_⟩;rw[k.length];exact q _ H Hs (.refl sub) (.int _)
  ·split at e
   ·rename_i m
    cases e;exact EL b s i H _ _ Q I (.cons j .nil) ⟨_,by rw[g.str],bL (cV m),q _ H Hs (.refl sub) (.int _)⟩
   ·cases e
  ·cases e
def CD(T:String)(d:D):Bool:=match T,d with
 | "str",.str _=>true
 | "int",.int _=>true
 | "int",.bool _=>true
 | "bool",.bool _=>true
 | "list",.list _=>true
 | "tuple",.tuple _=>true
 |_,_=>false
def oh(g:aE->R D)(T:String):aE->R D:=λρ=>(g ρ).bind λd=>if qT d then .ok (.bool (CD T d)) else .no
def V4(T:String)(hT:T="str"\/T="int"\/T="bool"\/T="list"\/T="tuple")(h:qT d=true):e8 K (.type (tyD d)) (.type T)=some (CD T d):=by
 rcases hT with rfl|rfl|rfl|rfl|rfl<;>cases d<;>first|rfl|simp[qT] at h
def oj(h:JB c e g)(i:Gl c.X "isinstance")(s:c.X.mg "isinstance"=none)(m:Gl c.X T)(hT:c.X.mg T=none)(y:jo T=some (.type Ts))
  (k:Ts="str"\/Ts="int"\/Ts="bool"\/Ts="list"\/Ts="tuple")
  (u:T≠"__name__":=by decide) (j:(T==("__debug__" : Str))=false:=by decide)
  (he:aF [e,.Name T p2] c.X.env=(false,eu e c.X.env)::aF [.Name T p2] c.X.env:=by rfl) (n:(hG pos (aF [.Name T p2] c.X.env)).any (·.1)=false:=by rfl):
  JE c (.Call (.Name "isinstance" p) [e,.Name T p2] [] pos) (oh g Ts):=.of λρ=>by
 refine sK (o6 QG i s lQ (cE (h ρ) (cE (LY m hT y (v:=.ty Ts) rfl u j) f_) he) ⋯ ⋯ he n) λA H Q b=>?_;obtain⟨B,z,la,Hs,f,q⟩:=b;refine one f q λd v o l w s1 t x=>?_;unfold oh at q;rw[w,bind_ok] at q;by_cases a:qT d=true
 ·rw[if_pos a] at q;exact⟨v,d,Ts,_,rfl,(x.full t.st.sub).rep a,V4 Ts k a,q _ o l s1 (.bool _)⟩
 ·rw[if_neg a] at q;exact q.elim
def pG:List D->Option (List Bool)
 |[]=>some []
 |.bool b::r=>(pG r).map (b::·)
 |_::_=>none
def F9:∀{bs:List Bool},pG ds=some bs->ds=bs.map bO:=by
 induction ds with
 |nil=>intro bs h;cases h;rfl
 |cons d r c=>
  intro bs h;cases d with
  |bool b=>
   have h:(pG r).map (b::·)=some bs:=h;cases a:pG r with
   |none=>rw[a] at h;cases h
   |some z=>rw[a] at h;cases h;rw[c a];rfl
  |_=>cases h
def f9(k:List Bool->Bool):D->R D
 |.list ds=>match pG ds with
  |some bs=>.ok (.bool (k bs))
  |none=>.no
 |_=>.no
def Hj{id:String}{k:List Bool->Bool}(h:jU X (.builtin id) (λxs H Q=>∃p,∃bs:List Bool,xs=[.ref p]/\oZ X.K H p (bs.map V.bl)/\Q (.bl (k bs)) H)):O4 X (.builtin id) (il (f9 k)):=by
 refine tQ (λd c n=>?_) λe s j H x u Q Hs d d' I m sub i b q=>?_
 ·unfold f9;split<;>(try split)<;>exact λh=>by cases h
 ·unfold f9 at b;split at b
  ·split at b
   ·rename_i bs l
    cases b;obtain⟨a,o,rfl,f,g⟩:=i.list sub;rw[F9 l] at g;rw[CA g] at f;exact h e s j H _ _ Q I (.cons m .nil) ⟨a,bs,rfl,f,q _ H Hs (.refl sub) (.bool _)⟩
   ·cases b
  ·cases b
def qv(a:X.calm=true):O4 X (.builtin "all") (il (f9 λbs=>bs.all id)):=Hj (AG a)
def rM(a:X.calm=true):O4 X (.builtin "any") (il (f9 λbs=>bs.any id)):=Hj (AH a)
def qw(x:Str):List D:=x.cps.toList.map λc=>aS ⟨#[c]⟩
def O5(x:Str):RDs K H (AO x) (qw x):=by
 unfold AO qw;induction x.cps.toList with
 |nil=>exact .nil
 |cons a r b=>exact .cons (.str _) b
def hU:D->R D
 |.list xs=>.ok (.tuple xs)
 |.tuple xs=>.ok (.tuple xs)
 |.str x=>if x.cps.size<=1000 then .ok (.tuple (qw x)) else .no
 |_=>.no
def jx(t:X.calm=true):O4 X (.type "tuple") (il hU):=by
 refine tQ (λd c n=>?_) λb s j H x u Q Hs d d' I k sub f e q=>?_
 ·unfold hU;split<;>(try split)<;>exact λh=>by cases h
 ·unfold hU at e;split at e
  ·cases e;obtain⟨a,m,rfl,i,o⟩:=f.list sub;exact vj b s j H _ _ Q I (.cons k .nil) ⟨a,m,rfl,.inl ⟨i,λl g=>q _ _ _ (.new sub g) (.tuple aX (o.same (cQ.new sub g).sh))⟩⟩
  ·cases e;obtain⟨a,m,rfl,i,o,_⟩:=f.tuple sub;refine vj b s j H _ _ Q I (.cons k .nil) ⟨a,m,rfl,.inr ⟨i,?_⟩⟩;rcases f with f|⟨_,_,_,_,_,ow⟩
   ·exact q _ H Hs (.refl sub) f
   ·cases ow
  ·split at e
   ·rename_i p
    cases e;exact zS t b s j H _ _ Q I (.cons k .nil) ⟨_,by rw[f.str],bL (cV p),λl g=>q _ _ _ (.new sub g) (.tuple aX (O5 _))⟩
   ·cases e
  ·cases e
def zj:D->R D
 |.list xs=>.ok (.list xs)
 |.tuple xs=>.ok (.list xs)
 |_=>.no
def V5:O4 X (.type "list") (il zj):=by
 refine tQ (λd c n=>?_) λb s m H x u Q Hs d d' I o sub k f q=>?_
 ·unfold zj;split<;>exact λh=>by cases h
 ·unfold zj at f;split at f
  ·cases f;obtain⟨a,j,rfl,g,i⟩:=k.list sub;exact wO b s m H _ _ Q I (.cons o .nil) ⟨a,j,rfl,.inl g,λl e=>q _ _ _ (.new sub e) (.list (.of aX) (i.same (cQ.new sub e).sh))⟩
  ·cases f;obtain⟨a,j,rfl,g,i,_⟩:=k.tuple sub;exact wO b s m H _ _ Q I (.cons o .nil) ⟨a,j,rfl,.inr g,λl e=>q _ _ _ (.new sub e) (.list (.of aX) (i.same (cQ.new sub e).sh))⟩
  ·cases f
def fc:List D->Option (List Str)
 |[]=>some []
 |.str b::r=>(fc r).map (b::·)
 |_::_=>none
def mI:∀{bs:List Str},fc ds=some bs->ds=bs.map aS:=by
 induction ds with
 |nil=>intro bs h;cases h;rfl
 |cons d r c=>
  intro bs h;cases d with
  |str b=>
   have h:(fc r).map (b::·)=some bs:=h;cases a:fc r with
   |none=>rw[a] at h;cases h
   |some z=>rw[a] at h;cases h;rw[c a];rfl
  |_=>cases h
@[simp] theorem strsOf_map:∀bs:List Str,fc (bs.map aS)=some bs
 |[]=>rfl
 |b::r=>by show(fc (r.map aS)).map (b::·)=_;rw[strsOf_map r];rfl
def ur:D->R D
 |.list ds=>match fc ds with
  |some ss=>if ss.length<64 then .ok (.list ((iW ss).map .str)) else .no
  |none=>.no
 |_=>.no
def O6:O4 X (.builtin "sorted") (il ur):=by
 refine tQ (λd c n=>?_) λe s m H x u Q Hs d d' I o sub i b q=>?_
 ·unfold ur;split<;>(try split)<;>(try split)<;>exact λh=>by cases h
 ·unfold ur at b;split at b
  ·split at b
   ·split at b
    ·rename_i ss hs k
     cases b;obtain⟨a,p,rfl,f,g⟩:=i.list sub;rw[mI hs] at g;rw[jJ g] at f;exact yv e s m H _ _ Q I (.cons o .nil) ⟨a,ss,rfl,f,k,λl j=>q _ _ _ (.new sub j) (.list (.of aX) (tK _))⟩
    ·cases b
   ·cases b
  ·cases b
inductive q0r (K:a8) (cls:Str->ak) (n:Nat) (F:List D->R D) (vs:List V) (H:Hp) (Q:VK) (E:XK):Prop
 |mk (Hs ds:_) (h0:dS Hs H) (h1:ds.length=n) (h2:RDs K Hs vs ds) (h3:Fin K cls E H Hs (F ds) λd=>∀v H' Hs',cQ H Hs H' Hs'->RD K Hs' v d->Q v H'):q0r K cls n F vs H Q E
def X6(K:a8)(cls:Str->ak)(n:Nat)(F:List D->R D):Sp:=q0r K cls n F
structure Fn (P:bd) (w:bz) (K:a8) (mg:Str->Option ag) (base:bP) (cls:Str->ak) (x:Str) (k n:Nat) (F:List D->R D):Prop where
 ex:∃f fd ps,u_ P w K mg base (oS P w) k f fd ps (X6 K cls n F)/\mg x=some (.ref f)/\f6 K (.ref f)=true/\lC K fd ps []
def dN(n:Nat)(F:List D->R D)(a:aE->R (List D)):aE->R D:=λρ=>(a ρ).bind λds=>if ds.length=n then F ds else .no
def V6(G:Fn c.X.prog c.X.w c.X.K c.X.mg c.X.base c.cls x k n F)(m:l8 k c.X.A)(P:Gl c.X x)(O:lD (oS c.X.prog c.X.w) c.X c.E)(l:Gs c (e::es) gs)
  (b:(x==("__debug__" : Str))=false:=by decide) (he:aF (e::es) c.X.env=(false,eu e c.X.env)::aF es c.X.env:=by rfl) (j:(hG pos (aF es c.X.env)).any (·.1)=false:=by rfl):
  JE c (.Call (.Name x p) (e::es) [] pos) (dN n F gs):=.of λρ=>by
 obtain⟨f,Y,ps,o,t,M,s⟩:=G.ex;refine sK (M2 (E:=c.E) o m P t M s .nil O (l ρ) b he j) λσ H Q a=>?_;obtain⟨H0,S,la,Hs,L,q⟩:=a;refine CB L q λds T U g z s1 u B=>?_;unfold dN at q;rw[z,bind_ok] at q;by_cases h:ds.length=n
 ·rw[if_pos h] at q;show X6 _ _ _ _ (T++[]) _ _ _;rw[ck];exact⟨g,ds,u.st.sub,h,B,q.on s1 λd k v y i I N=>k v y i (s1.trans I) N⟩
 ·rw[if_neg h] at q;exact q.elim
inductive Fl where
 |nx (ρ:aE)
 |rt (d:D)
 |bk (ρ:aE)
 |ct (ρ:aE)
def qV(K:a8)(cls:Str->ak)(E:XK)(e b:Hp)(la:Nat->Option ak)(D:ED)(r:R Fl):Prop:=match r with
 |.ok (.nx ρ')=>∀ σ' H' a,Fr K e b la ρ' σ' H' a->D.nx σ' H'
 |.ok (.bk ρ')=>∀ σ' H' a,Fr K e b la ρ' σ' H' a->D.bk σ' H'
 |.ok (.ct ρ')=>∀ σ' H' a,Fr K e b la ρ' σ' H' a->D.ct σ' H'
 |.ok (.rt d)=>∀v H' a,cQ e b H' a->RD K a v d->D.rt v H'
 |.ex c n=>∀H' a,cQ e b H' a->XW K cls E c n H' a
 |.no=>False
inductive SRI (K:a8) (cls:Str->ak) (E:XK) (ρ:aE) (r:R Fl) (D:ED) (σ:St) (H:Hp):Prop
 |mk (H0 Hs0:Hp) (la:Nat->Option ak) (Hs:Hp) (f:Fr K H0 Hs0 la ρ σ H Hs) (q:qV K cls E H0 Hs0 la D r):SRI K cls E ρ r D σ H
def SR(K:a8)(cls:Str->ak)(E:XK)(ρ:aE)(r:R Fl):TS:=SRI K cls E ρ r
structure JS (c:C) (s:eG) (g:aE->R Fl):Prop where of ::
 run:∀ ρ,PS c.X s (SR c.X.K c.cls c.E ρ (g ρ))
instance{c:C}{s:eG}{g:aE->R Fl}:CoeFun (JS c s g) (λ_=>∀ ρ,PS c.X s (SR c.X.K c.cls c.E ρ (g ρ))):=⟨JS.run⟩
structure Mh (c:C) (s:List eG) (g:aE->R Fl):Prop where of ::
 run:∀ ρ,Co c.X s (SR c.X.K c.cls c.E ρ (g ρ))
instance{c:C}{s:List eG}{g:aE->R Fl}:CoeFun (Mh c s g) (λ_=>∀ ρ,Co c.X s (SR c.X.K c.cls c.E ρ (g ρ))):=⟨Mh.run⟩
theorem Fr.set(f:Fr K H0 Hs0 la ρ σ H Hs)(i:Nat)(r:RD K Hs v d):Fr K H0 Hs0 la (ρ.set i (.shr d)) (σ.set i (some v)) H Hs:=by
 have u:=f.len;have nx:∀{j:Nat}{s:Sl},(∀d,s≠.shr d)->(ρ.set i (.shr d))[j]?=some s->ρ[j]?=some s/\i≠j:=λ{j s} hs e=>by
  by_cases c:i=j
  ·subst c;by_cases l:i<ρ.length
   ·rw[aQ l] at e;exact absurd (bW e).symm (hs d)
   ·rw[cU (by simpa using l)] at e;cases e
  ·rw[ar c] at e;exact⟨e,c⟩
 refine⟨f.st,by simp[u],λj e h=>?_,λj e h=>?_,λj e h=>?_,λj k n o a g m q t=>?_,f.lh,λj e h=>?_,λj k n o g m=>?_⟩
 ·by_cases c:i=j
  ·subst c;by_cases l:i<ρ.length
   ·rw[aQ l] at h;cases h;exact⟨v,aQ ∅,r⟩
   ·rw[cU (by simpa using l)] at h;cases h
  ·rw[ar c] at h ⊢;exact f.sh j e h
 ·obtain⟨h,c⟩:=nx (λ_ z=>by cases z) h;rw[ar c];exact f.ow j e h
 ·obtain⟨h,c⟩:=nx (λ_ z=>by cases z) h;rw[ar c];exact f.lk j e h
 ·obtain⟨g,w⟩:=nx (λ_ z=>by cases z) g;obtain⟨m,x⟩:=nx (λ_ z=>by cases z) m;rw[ar w] at q;rw[ar x] at t;exact f.dj j k n o a g m q t
 ·obtain⟨h,c⟩:=nx (λ_ z=>by cases z) h;obtain⟨a,B,O⟩:=f.o2 j e h;refine⟨a,B,by rw[ar c];exact O.at_,O.ob,O.nd,O.out,λb y k A p=>?_,O.inn⟩;obtain⟨p,E⟩:=nx (λ_ z=>by cases z) p;rw[ar E];exact O.dj b y k A p
 ·exact f.u2 j k n o (nx (λ_ z=>by cases z) g).1 (nx (λ_ z=>by cases z) m).1
def Fr.setO(f:Fr K H0 Hs0 la ρ σ H Hs)(i:Nat)(n:H a=none)(r:pc K Hs o d):Fr K H0 Hs0 la (ρ.set i (.own d)) (σ.set i (some (.ref a))) (upd H a o) Hs:=by
 have y:=f.step (cQ.mine (o:=o) f.st.sub n);have G:=f.len;have L:H0 a=none:=f.st.all.free n;have ns:Hs a=none:=f.st.sub.free n;have nx:∀{j:Nat}{s:Sl},(∀d,s≠.own d)->(ρ.set i (.own d))[j]?=some s->ρ[j]?=some s/\i≠j:=λ{j s} hs e=>by
  by_cases g:i=j
  ·subst g;by_cases p:i<ρ.length
   ·rw[aQ p] at e;exact absurd (bW e).symm (hs d)
   ·rw[cU (by simpa using p)] at e;cases e
  ·rw[ar g] at e;exact⟨e,g⟩
 have ne:∀j e,ρ[j]?=some (Sl.own e)->σ[j]?≠some (some (V.ref a)):=λj e h z=>by
  obtain⟨b,o',m,l,_⟩:=f.ow j e h;rw[z] at m;cases m;rw[n] at l;cases l
 refine⟨y.st,by simp[G],λj e h=>?_,λj e h=>?_,λj e h=>?_,λj k v x b m l u t=>?_,f.lh,λj e h=>?_,λj k v x m l=>?_⟩
 ·obtain⟨h,g⟩:=nx (λ_ z=>by cases z) h;rw[ar g];exact y.sh j e h
 ·by_cases g:i=j
  ·subst g;by_cases p:i<ρ.length
   ·rw[aQ p] at h;cases h;exact⟨a,o,aQ ∅,aX,ns,L,r⟩
   ·rw[cU (by simpa using p)] at h;cases h
  ·rw[ar g] at h ⊢;exact y.ow j e h
 ·obtain⟨h,g⟩:=nx (λ_ z=>by cases z) h;rw[ar g];exact y.lk j e h
 ·by_cases g:i=j
  ·by_cases q:i=k
   ·exact g.symm.trans q
   ·rw[ar q] at l t;subst g;by_cases p:i<ρ.length
    ·rw[aQ ∅] at u;cases u;exact(ne k x l t).elim
    ·rw[cU (by simpa using p)] at m;cases m
  ·rw[ar g] at m u;by_cases q:i=k
   ·subst q;by_cases p:i<ρ.length
    ·rw[aQ ∅] at t;cases t;exact(ne j v m u).elim
    ·rw[cU (by simpa using p)] at l;cases l
   ·rw[ar q] at l t;exact f.dj j k v x b m l u t
 ·obtain⟨h,g⟩:=nx (λ_ z=>by cases z) h;obtain⟨b,B,O⟩:=f.o2 j e h;have A:∀c∈b::B,c≠a:=λc w z=>by
   subst z;rcases List.mem_cons.mp w with z|z
   ·have:=O.ob;rw[<- z,n] at this;cases this
   ·obtain⟨o,ho,_⟩:=O.inn.there z;rw[n] at ho;cases ho
  refine⟨b,B,by rw[ar g];exact O.at_,by rw[b9 (A b ap)];exact O.ob,O.nd,O.out,λc w k I q=>?_,O.inn.upd λz=>A a (ai _ z) rfl⟩;by_cases E:i=k
  ·subst E;intro z;by_cases p:i<ρ.length
   ·rw[aQ ∅] at z;cases z;exact A _ w rfl
   ·rw[cU (by simp;omega)] at q;cases q
  ·rw[ar E] at q ⊢;exact O.dj c w k I q
 ·exact f.u2 j k v x (nx (λ_ z=>by cases z) m).1 (nx (λ_ z=>by cases z) l).1
def Fr.write(f:Fr K H0 Hs0 la ρ σ H Hs)(i:Nat)(m:ρ[i]?=some (Sl.own d))(hs:σ[i]?=some (some (V.ref a)))(r:pc K Hs o d'):Fr K H0 Hs0 la (ρ.set i (.own d')) σ (upd H a o) Hs:=by
 obtain⟨S,o',l,n,v,q,T⟩:=f.ow i d m;rw[hs] at l;cases l;have M:=f.len;have p:i<ρ.length:=(List.getElem?_eq_some_iff.mp m).1;have nx:∀{j:Nat}{s:Sl},(∀d,s≠.own d)->(ρ.set i (.own d'))[j]?=some s->ρ[j]?=some s/\i≠j:=λ{j s} hs e=>by
  by_cases g:i=j
  ·subst g;rw[aQ p] at e;exact absurd (bW e).symm (hs d')
  ·rw[ar g] at e;exact⟨e,g⟩
 refine⟨⟨λb u e=>?_,f.st.sh,λb u e=>?_,f.st.out⟩,by simp[M],λj e h=>?_,λj e h=>?_,λj e h=>?_,λj k A E b l n v q=>?_,f.lh,λj e h=>?_,λj k A E l n=>?_⟩
 ·rw[b9 (bw e q)];exact f.st.all b u e
 ·rw[b9 (bw e v)];exact f.st.sub b u e
 ·obtain⟨h,g⟩:=nx (λ_ z=>by cases z) h;exact f.sh j e h
 ·by_cases g:i=j
  ·subst g;rw[aQ p] at h;cases h;exact⟨a,o,hs,aX,v,q,r⟩
  ·rw[ar g] at h;obtain⟨b,u,k1,k2,k3,x,k5⟩:=f.ow j e h;refine⟨b,u,k1,?_,k3,x,k5⟩;rw[b9 (λz=>g ?_)]
   ·exact k2
   ·subst z;exact f.dj i j d e b m h hs k1
 ·obtain⟨h,g⟩:=nx (λ_ z=>by cases z) h;obtain⟨b,u,k1,k2,k3,x,k5,N⟩:=f.lk j e h;refine⟨b,u,k1,k2,?_,x,k5,N⟩;rw[b9 (bw k5 q)];exact k3
 ·have t:∀{j:Nat}{e:D},(ρ.set i (.own d'))[j]?=some (Sl.own e)->∃y,ρ[j]?=some (Sl.own y):=λ{j e} h=>by
   by_cases g:i=j
   ·subst g;exact⟨d,m⟩
   ·rw[ar g] at h;exact⟨e,h⟩
  obtain⟨P,l⟩:=t l;obtain⟨Q,n⟩:=t n;exact f.dj j k P Q b l n v q
 ·obtain⟨h,g⟩:=nx (λ_ z=>by cases z) h;obtain⟨b,G,O⟩:=f.o2 j e h;have B:∀c∈b::G,c≠a:=λc w z=>by
   subst z;exact O.dj c w i d m hs
  refine⟨b,G,O.at_,by rw[b9 (B b ap)];exact O.ob,O.nd,O.out,λc w k y I=>?_,O.inn.upd λz=>B a (ai _ z) rfl⟩;by_cases L:i=k
  ·subst L;exact O.dj c w i d m
  ·rw[ar L] at I;exact O.dj c w k y I
 ·exact f.u2 j k A E (nx (λ_ z=>by cases z) l).1 (nx (λ_ z=>by cases z) n).1
def da(ρ:aE):aE:=ρ.map λs=>match s with
 |.own d=>.shr d
 |.ow2 a=>.shr (.list (a.map .list))
 |s=>s
open Classical in
theorem Fr.share(f:Fr K H0 Hs0 la ρ σ H Hs):∃c,Fr K H0 Hs0 la (da ρ) σ H c/\cQ H Hs H c\/Fr K H0 Hs0 la (da ρ) σ H c:=by
 let P:ak->Prop:=λb=>(∃(i:Nat) (d:D),ρ[i]?=some (Sl.own d)/\σ[i]?=some (some (V.ref b)))\/∃(i:Nat) (g:List (List D)) (a:ak) (B:List ak),ρ[i]?=some (Sl.ow2 g)/\O2 K H0 H Hs ρ σ i g a B/\b∈a::B
 let c:Hp:=λb=>if P b then H b else Hs b
 have y:∀b,P b->c b=H b:=λb h=>if_pos h;have w:∀b,¬ P b->c b=Hs b:=λb h=>if_neg h;have E:dS Hs c:=λb o e=>by
  by_cases h:P b
  ·rw[y b h];exact f.st.sub b o e
  ·rw[w b h];exact e
 have l:∀b o,H0 b=some o->¬ P b:=λb o e U=>by
  rcases U with⟨i,d,A,I⟩|⟨i,g,a,B,A,O,p⟩
  ·obtain⟨a,o',k1,_,_,G,_⟩:=f.ow i d A;rw[I] at k1;cases k1;rw[e] at G;cases G
  ·have:=(O.out b p).2;rw[e] at this;cases this
 have un:∀{j:Nat}{s:Sl},(da ρ)[j]?=some s->(∃d,s=.shr d/\ρ[j]?=some (Sl.own d))\/(∃g:List (List D),s=.shr (.list (g.map .list))/\ρ[j]?=some (Sl.ow2 g))\/((∀d,s≠.own d)/\(∀d,s≠.ow2 d)/\ρ[j]?=some s):=λ{j s} e=>by
  unfold da at e;rw[aI] at e;cases h:ρ[j]? with
  |none=>rw[h] at e;cases e
  |some t=>
   rw[h] at e;cases t with
   |own d=>cases e;exact .inl ⟨d,rfl,rfl⟩
   |no=>cases e;exact .inr (.inr ⟨λ_ z=>(by cases z),λ_ z=>(by cases z),rfl⟩)
   |shr d=>cases e;exact .inr (.inr ⟨λ_ z=>(by cases z),λ_ z=>(by cases z),rfl⟩)
   |lck d=>cases e;exact .inr (.inr ⟨λ_ z=>(by cases z),λ_ z=>(by cases z),rfl⟩)
   |ow2 d=>cases e;exact .inr (.inl ⟨d,rfl,rfl⟩)
 refine⟨c,.inr ⟨⟨f.st.all,f.st.sh.trans E,λb o e=>?_,λa o e t z=>?_⟩,by simp[da,f.len],λj d h=>?_,λj d h=>?_,λj d h=>?_,λj k M Q a A I _ _=>?_,f.lh,λj d h=>?_,λj k M Q A I=>?_⟩⟩
 ·by_cases h:P b
  ·rw[y b h] at e;exact e
  ·rw[w b h] at e;exact f.st.sub b o e
 ·rw[w a (l a o e)];exact f.st.out a o e t z
 ·rcases un h with⟨d',e,h'⟩|⟨g,e,h'⟩|⟨_,_,h'⟩
  ·cases e;obtain⟨a,o,k1,k2,k3,G,k5⟩:=f.ow j d h';refine⟨_,k1,?_⟩;have L:c a=some o:=by rw[y a (.inl ⟨j,d,h',k1⟩)];exact k2
   have e:dS (upd Hs a o) c:=λb u q=>by
    by_cases p:b=a
    ·subst p;rw[aX] at q;cases q;exact L
    ·rw[b9 p] at q;exact E b u q
   exact(k5.share k3).same e
  ·cases e;obtain⟨a,B,O⟩:=f.o2 j g h';refine⟨_,O.at_,?_⟩;have L:∀b∈a::B,∀o,H b=some o->c b=some o:=λb p o ho=>by rw[y b (.inr ⟨j,g,a,B,h',O,p⟩)];exact ho
   refine .list (.of (L a ap _ O.ob)) ?_;have X:∀{x:List ak}{m:List (List D)},(∀b∈x,b∈a::B)->Dt K H Hs x m->RDs K c (x.map V.ref) (m.map .list):=λ{x m} hs T=>by
    induction T with
    |nil=>exact .nil
    |cons A I _ N=>exact .cons (.list (.of (L _ (hs _ ap) _ A)) (I.same E)) (N λb p=>hs b (ai _ p))
   exact X (λb p=>ai _ p) O.inn
  ·obtain⟨v,k1,k2⟩:=f.sh j d h';exact⟨v,k1,k2.same E⟩
 ·rcases un h with⟨d',e,h'⟩|⟨d',e,h'⟩|⟨n,_,h'⟩
  ·cases e
  ·cases e
  ·exact(n d rfl).elim
 ·rcases un h with⟨d',e,h'⟩|⟨d',e,h'⟩|⟨_,_,h'⟩
  ·cases e
  ·cases e
  ·obtain⟨a,o,k1,k2,k3,G,k5,S⟩:=f.lk j d h';exact⟨a,o,k1,k2,k3,by rw[w a (l a o k5)];exact G,k5,S.same E⟩
 ·rcases un A with⟨d',e,h'⟩|⟨d',e,h'⟩|⟨n,_,h'⟩
  ·cases e
  ·cases e
  ·exact(n M rfl).elim
 ·rcases un h with⟨d',e,h'⟩|⟨d',e,h'⟩|⟨_,n,h'⟩
  ·cases e
  ·cases e
  ·exact(n d rfl).elim
 ·rcases un A with⟨d',e,h'⟩|⟨d',e,h'⟩|⟨_,n,h'⟩
  ·cases e
  ·cases e
  ·exact(n M rfl).elim
def Fr.shared(f:Fr K H0 Hs0 la ρ σ H Hs):∃a,Fr K H0 Hs0 la (da ρ) σ H a:=by
 obtain⟨a,h|h⟩:=f.share
 ·exact⟨a,h.1⟩
 ·exact⟨a,h⟩
section
variable{c:C}{e a b:bC}{g ga gb:aE->R D}{pos:Pos}{x:Str}{st:eG}{bA:List eG}{gs gr:aE->R Fl}
def a_(g h:aE->R Fl):aE->R Fl:=λρ=>(g ρ).bind λd=>match d with
 |.nx ρ'=>h ρ'
 |d=>.ok d
def dn:Mh c [] (λρ=>.ok (.nx ρ)):=.of λρ=>q1R L_ λD h H d=>by obtain⟨j,i,la,Hs,f,q⟩:=d;exact q h H Hs f
def aZ(h:JS c st gs):Mh c [st] gs:=.of λρ=>wG (h ρ)
theorem aJ(h:JS c st gs)(v:Mh c bA gr):Mh c (st::bA) (a_ gs gr):=.of λρ i s m H D I o=>by
 obtain⟨l,j,la,Hs,f,q⟩:=o;unfold a_ at q;cases k:gs ρ with
 |no=>rw[k] at q;exact q.elim
 |ex x n=>
  rw[k] at q;refine lA (h ρ) (qM (X:=c.X) (sts:=bA)) i s m H D I ⟨l,j,la,Hs,f,?_⟩;rw[k];exact q
 |ok u=>
  rw[k,bind_ok] at q;cases u with
  |nx ρ'=>
   refine lA (h ρ) (v ρ') i s m H D I ⟨l,j,la,Hs,f,?_⟩;rw[k];exact λσ' H' p t=>⟨l,j,la,p,t,q⟩
  |rt d=>
   refine lA (h ρ) (qM (X:=c.X) (sts:=bA)) i s m H D I ⟨l,j,la,Hs,f,?_⟩;rw[k];exact q
  |bk ρ'=>
   refine lA (h ρ) (qM (X:=c.X) (sts:=bA)) i s m H D I ⟨l,j,la,Hs,f,?_⟩;rw[k];exact q
  |ct ρ'=>
   refine lA (h ρ) (qM (X:=c.X) (sts:=bA)) i s m H D I ⟨l,j,la,Hs,f,?_⟩;rw[k];exact q
theorem sE(f:Fr K H0 Hs0 la ρ σ H Hs)
  (h:qV K cls E H0 Hs0 la D' (r.bind k)) (m:∀d v H' i,r=.ok d->cQ H Hs H' i->Fr K H0 Hs0 la ρ σ H' i->RD K i v d->Q v H'):TR K cls E ρ r σ H Q:=by
 refine⟨H0,Hs0,la,Hs,f,?_⟩;cases r with
 |ok d=>exact λv H' i s r=>m d v H' i rfl s (f.step s) r
 |ex c n=>exact λH' i s=>h H' i (f.st.trans s)
 |no=>exact h
theorem sT(f:Fr K H0 Hs0 la ρ σ H Hs)
  (h:qV K cls E H0 Hs0 la D' (r.bind k)) (m:∀d H' i,r=.ok d->cQ H Hs H' i->Fr K H0 Hs0 la ρ σ H' i->Q d H'):Hg K cls E ρ r σ H Q:=by
 refine⟨H0,Hs0,la,Hs,f,?_⟩;cases r with
 |ok d=>exact λH' i s=>m d H' i rfl s (f.step s)
 |ex c n=>exact λH' i s=>h H' i (f.st.trans s)
 |no=>exact h
def cZ(g:aE->R D):aE->R Fl:=λρ=>(g (da ρ)).bind λd=>.ok (.rt d)
theorem bZ(h:JE c e g):JS c (.Return (some e) pos) (cZ g):=.of λρ=>AQ (EF (h (da ρ))) λD t H i=>by
 obtain⟨u,s,la,Hs,f,q⟩:=i;obtain⟨l,o⟩:=f.shared;refine sE o q λd v k j n s1 m p=>?_;unfold cZ at q;rw[n,bind_ok] at q;exact q v k j m.st p
def eC(t:aE->R Bool)(g h:aE->R Fl):aE->R Fl:=λρ=>(t ρ).bind λb=>if b then g ρ else h ρ
def gS(n:JT c t gt)(m:Mh c A gA)(p:Mh c B gB):JS c (.If t A B pos) (eC gt gA gB):=.of λρ=>AQ (WG (n ρ) (m ρ) (p ρ)) λD u H j=>by
 obtain⟨k,i,la,Hs,f,q⟩:=j;refine sT f q λd s h o s1 l=>?_;unfold eC at q;rw[o,bind_ok] at q;cases d with
 |true=>exact zP ⟨k,i,la,h,l,q⟩
 |false=>exact wP ⟨k,i,la,h,l,q⟩
def iu(i:Nat)(g:aE->R D):aE->R Fl:=λρ=>(g ρ).bind λd=>.ok (.nx (ρ.set i (.shr d)))
def g9(i:Nat)(h:JE c e g)(l:c.X.N.Nodup)(o:c.X.N[i]?=some x:=by rfl)(u:WD c.X.env.scope x:=by first|exact io rfl|exact fk rfl)(hs:j6 e (some (.Name x pos')) pos.line c.X.env=pure false:=by rfl)
  (n:c.X.fn x=true\/c.X.env.scope.names.lookup x=some .local:=by first|exact .inl rfl|exact .inr rfl|assumption):JS c (.Assign [.Name x pos'] e pos) (iu i g):=.of λρ=>AQ (EG l o u (h ρ) hs n) λD y H j=>by
 obtain⟨z,w,la,Hs,f,q⟩:=j;refine sE f q λd v m k s s1 p t=>?_;unfold iu at q;rw[s,bind_ok] at q;exact q _ m k (p.set i t)
def qW(g:aE->R D):aE->R Fl:=λρ=>(g ρ).bind λ_=>.ok (.nx ρ)
def xb(h:JE c e g)(hs:j6 e none pos.line c.X.env=pure false:=by rfl):JS c (.Expr e pos) (qW g):=.of λρ=>AQ (wH (h ρ) hs) λD o H i=>by
 obtain⟨p,n,la,Hs,f,q⟩:=i;refine sE f q λd v k j m s1 l s=>?_;unfold qW at q;rw[m,bind_ok] at q;exact q _ k j l
def TGq(K:a8)(f d:Hp)(la:Nat->Option ak)(H Hs:Hp)(Q:St->Hp->Prop)(r:R aE):Prop:=match r with
 |.ok ρ'=>∀ σ',Fr K f d la ρ' σ' H Hs->Q σ' H
 |_=>False
inductive q0s (K:a8) (ρ:aE) (d:D) (r:R aE) (v:V) (σ:St) (H:Hp) (Q:St->Hp->Prop):Prop
 |mk (H0 Hs0:Hp) (la:Nat->Option ak) (Hs:Hp) (f:Fr K H0 Hs0 la ρ σ H Hs) (rd:RD K Hs v d) (q:TGq K H0 Hs0 la H Hs Q r):q0s K ρ d r v σ H Q
def YB(K:a8)(ρ:aE)(d:D)(r:R aE):TG:=q0s K ρ d r
inductive X7 (K:a8) (ρ:aE) (ds:List D) (r:R aE) (vs:List V) (σ:St) (H:Hp) (Q:St->Hp->Prop):Prop
 |mk (H0 Hs0:Hp) (la:Nat->Option ak) (Hs:Hp) (f:Fr K H0 Hs0 la ρ σ H Hs) (rd:RDs K Hs vs ds) (q:TGq K H0 Hs0 la H Hs Q r):X7 K ρ ds r vs σ H Q
def q0t(K:a8)(ρ:aE)(ds:List D)(r:R aE):Ut:=X7 K ρ ds r
structure JG (c:C) (t:bC) (k:D->aE->R aE):Prop where of ::
 run:∀ ρ d,PG c.X t (YB c.X.K ρ d (k d ρ))
instance{c:C}{t:bC}{k:D->aE->R aE}:CoeFun (JG c t k) (λ_=>∀ ρ d,PG c.X t (YB c.X.K ρ d (k d ρ))):=⟨JG.run⟩
structure ZJ (c:C) (t:List bC) (k:List D->aE->R aE):Prop where of ::
 run:∀ ρ d,WH c.X t (q0t c.X.K ρ d (k d ρ))
instance{c:C}{t:List bC}{k:List D->aE->R aE}:CoeFun (ZJ c t k) (λ_=>∀ ρ d,WH c.X t (q0t c.X.K ρ d (k d ρ))):=⟨ZJ.run⟩
def mPG(h:PG X e t)(m:∀v d H Q,t' v d H Q->t v d H Q):PG X e t':=λf s d H v u Q I r q=>h f s d H v u Q I r (m v d H Q q)
def q1V{X:Cx}{e:List bC}{t t':Ut}(h:WH X e t)(m:∀v d H Q,t' v d H Q->t v d H Q):WH X e t':=λf s d H v u Q I r q=>h f s d H v u Q I r (m v d H Q q)
def cr(i:Nat):D->aE->R aE:=λd ρ=>.ok (ρ.set i (.shr d))
def dC(i:Nat)(j:c.X.N.Nodup)(l:c.X.N[i]?=some x:=by rfl)(k:WD c.X.env.scope x:=by first|exact io rfl|exact fk rfl)(m:c.X.fn x=true\/c.X.env.scope.names.lookup x=some .local:=by first|exact .inl rfl|exact .inr rfl|assumption):
  JG c (.Name x pos) (cr i):=.of λρ d=>mPG (cj j l k m) λv o H Q h=>by obtain⟨p,n,la,Hs,f,r,q⟩:=h;exact q _ (f.set i r)
def qX:List D->aE->R aE:=λds ρ=>match ds with
 |[]=>.ok ρ
 |_=>.no
def cW(k:D->aE->R aE)(f:List D->aE->R aE):List D->aE->R aE:=λds ρ=>match ds with
 |d::r=>(k d ρ).bind λρ'=>f r ρ'
 |_=>.no
def pH:ZJ c [] qX:=.of λρ ds=>q1V uo λk h H Q d=>by
 obtain⟨j,i,la,Hs,f,r,q⟩:=d;cases r with
 |nil=>exact⟨rfl,q h f⟩
 |cons _ _=>exact q.elim
theorem dJ(h:JG c t kt)(u:ZJ c ts kts)(hs:(jq (t::ts) c.X.env).map (·.2)=vA t c.X.env::(jq ts c.X.env).map (·.2):=by rfl):ZJ c (t::ts) (cW kt kts):=.of λρ ds j s p H E A Q I z i=>by
 obtain⟨m,k,la,Hs,f,r,q⟩:=i;cases r with
 |nil=>exact q.elim
 | @cons v o d dr y B=>
  unfold cW at q;cases l:kt d ρ with
  |ok ρ'=>
   simp only[l,bind_ok] at q;refine js (h ρ d) (u ρ' dr) hs j s p H _ A Q I z ⟨v,o,rfl,m,k,la,Hs,f,y,?_⟩;rw[l];exact λσ' w=>⟨m,k,la,Hs,w,B,q⟩
  |ex x n=>simp only[l,bind_ex] at q;exact q.elim
  |no=>simp only[l,bind_no] at q;exact q.elim
def pd(n:Nat)(f:List D->aE->R aE):D->aE->R aE:=λd ρ=>match d with
 |.tuple ds=>if ds.length=n then f ds ρ else .no
 |_=>.no
theorem tR(A:c.X.calm=true)(h:ZJ c ts kts)(z:(jq ts c.X.env).length=n:=by rfl)(m:(jq ts c.X.env).findIdx? (·.1)=none:=by rfl):JG c (.Tuple ts k pos) (pd n kts):=.of λρ d=>by
 cases d with
 |tuple ds=>
  refine mPG (yi A (h ρ ds) z m) λv B H Q l=>?_;obtain⟨w,j,la,Hs,f,r,q⟩:=l;cases r with
  | @tuple p xs _ E t=>
   unfold pd at q;by_cases o:ds.length=n
   ·simp only[if_pos o] at q;exact⟨p,xs,rfl,(lY.of (f.st.sub _ _ E)),by rw[t.length];exact o,w,j,la,Hs,f,t,q⟩
   ·simp only[if_neg o] at q;exact q.elim
 |_=>exact λy s B H v u Q I G i=>by obtain⟨w,j,la,Hs,f,r,q⟩:=i;exact q.elim
def zV(g:aE->R D)(k:D->aE->R aE):aE->R Fl:=λρ=>(g ρ).bind λd=>match k d ρ with
 |.ok ρ'=>.ok (.nx ρ')
 |_=>.no
theorem AU(h:JE c e g)(M:JG c t kt)(hs:A1 [t] e pos.line c.X.env=pure false:=by rfl)(G:A2 [t] e c.X.env=pure none:=by rfl)(z:(jq [t] c.X.env).map (·.2)=[vA t c.X.env]:=by rfl):
  JS c (.Assign [t] e pos) (zV g kt):=.of λρ=>by
 cases o:g ρ with
 |ok d=>
  refine AQ (PQ (h ρ) (M ρ d) hs G z) λD B H m=>?_;obtain⟨w,j,la,Hs,f,q⟩:=m;refine sE (k:=λd=>match kt d ρ with | .ok ρ'=>.ok (.nx ρ')|_=>.no) f q λd' v A i u s1 K L=>?_;rw[o] at u;cases u;unfold zV at q;rw[o,bind_ok] at q;refine⟨w,j,la,i,K,L,?_⟩;cases y:kt d ρ with
  |ok ρ'=>rw[y] at q;exact λσ' N=>q σ' A i N
  |ex x n=>rw[y] at q;exact q.elim
  |no=>rw[y] at q;exact q.elim
 |ex x n=>
  refine AQ (PQ (h ρ) (M ρ .none) hs G z) λD B H l=>?_;obtain⟨w,j,la,Hs,f,q⟩:=l;refine sE (k:=λ_=>.no) (D':=D) f (by unfold zV at q;rw[o] at q ⊢;exact q) λd' v A i u s1 K L=>?_;rw[o] at u;cases u
 |no=>
  refine λE s B H D I p=>?_;obtain⟨w,j,la,Hs,f,q⟩:=p;unfold zV at q;rw[o] at q;exact q.elim
end
def QU(K:a8)(J:It)(ds:List D)(f Hs:Hp):Prop:=∀b a,dS f b->dS Hs a->dS a b ->
 (∀i,i<ds.length->J.go i b)/\(∀i,ds.length<=i->J.stop i b)/\∀i x e,i<ds.length->J.yld i b x e->∃d c,ds[i]?=some d/\cQ b a e c/\RD K c x d
def Fa(h:oZ K Hn a vs)(r:RDs K Hs vs ds):QU K (Itl K a) ds Hn Hs:=λl e f g j=>by
 have q:=f.seq h;refine⟨λi b=>?_,λi b=>⟨vs,q,by rw[r.length];exact b⟩,λi x k b y=>?_⟩
 ·have c:i<vs.length:=by rw[r.length];exact b
  exact⟨vs,vs[i],q,bt c⟩
 ·obtain⟨rfl,y⟩:=y;obtain⟨d,k1,k2⟩:=r.get (y vs q);exact⟨d,e,k1,.refl j,k2.same g⟩
def QV(h:lY K Hn a vs)(r:RDs K Hs vs ds):QU K (Itt K a) ds Hn Hs:=λl e f g j=>by
 have q:=f.tup h;refine⟨λi b=>?_,λi b=>⟨vs,q,by rw[r.length];exact b⟩,λi x k b y=>?_⟩
 ·have c:i<vs.length:=by rw[r.length];exact b
  exact⟨vs,vs[i],q,bt c⟩
 ·obtain⟨rfl,y⟩:=y;obtain⟨d,k1,k2⟩:=r.get (y vs q);exact⟨d,e,k1,.refl j,k2.same g⟩
def QW(x:Str):QU K (Its x) (qw x) Hn Hs:=λg b h j e=>by
 have d:(qw x).length=x.cps.size:=by simp[qw]
 refine⟨λi a=>by rw[d] at a;exact a,λi a=>by rw[d] at a;exact a,λi v f a y=>?_⟩;obtain⟨rfl,c,k1,rfl⟩:=y;refine⟨.str ⟨#[c]⟩,b,?_,.refl e,.str _⟩;unfold qw;rw[aI,bH,k1];rfl
def tS(lo:Int)(n:Nat):List D:=(bq n).map λ(k:Nat)=>iU (lo+k)
def QX(lo:Int)(n:Nat):QU K (Itr lo n) (tS lo n) Hn Hs:=λf b g h d=>by
 have c:(tS lo n).length=n:=by simp[tS]
 refine⟨λi a=>by rw[c] at a;exact a,λi a=>by rw[c] at a;exact a,λi v e a y=>?_⟩;obtain⟨rfl,rfl⟩:=y;refine⟨.int (lo+i),b,?_,.refl d,.int _⟩;rw[c] at a;unfold tS;rw[aI,Nv a];rfl
def kj(n:Nat):List D->List D
 |[]=>[]
 |d::r=>.tuple [.int n,d]::kj (n+1) r
theorem yw:∀(ds:List D) (n i:Nat),(kj n ds)[i]?=(ds[i]?).map λd=>fM [.int ((n+i:Nat):Int),d]
 |[],_,_=>by simp[kj]
 |d::r,n,0=>by simp[kj]
 |d::r,n,i+1=>by
  simp only[kj,lw];rw[yw r (n+1) i,show n+1+i=n+(i+1) by omega]
theorem yx:∀(ds:List D) (n:Nat),(kj n ds).length=ds.length
 |[],_=>rfl
 |d::r,n=>by simp[kj,yx r]
def V7(h:lY K Hn a vs)(r:RDs K Hs vs ds):QU K (Ite K a) (kj 0 ds) Hn Hs:=λn e f j k=>by
 have q:=f.tup h;have l:=yx ds 0;refine⟨λi c=>?_,λi c=>⟨vs,q,by rw[r.length];omega⟩,λi x m c y=>?_⟩
 ·have b:i<vs.length:=by rw[r.length];omega
  exact⟨vs,vs[i],q,bt b⟩
 ·obtain⟨p,g,rfl,y⟩:=y;obtain⟨x,k0,rfl⟩:=y vs q;obtain⟨d,k1,k2⟩:=r.get k0;have st:=cQ.new (o:=.tup [.int i,x]) k g;refine⟨.tuple [.int i,d],_,?_,st,.tuple aX (.cons (.int _) (.cons ((k2.same j).same st.sh) .nil))⟩;rw[yw,k1];simp
def zW:List D->List D->List D
 |x::xs,y::ys=>.tuple [x,y]::zW xs ys
 |_,_=>[]
theorem Hk:∀(xs ys:List D) (i:Nat) (x y:D),xs[i]?=some x->ys[i]?=some y->(zW xs ys)[i]?=some (.tuple [x,y])
 |x::xs,y::ys,0,_,_,a,b=>by simp at a b;subst a b;rfl
 |_::xs,_::ys,i+1,x,y,a,b=>by
  simp only[lw] at a b;simp only[zW,lw];exact Hk xs ys i x y a b
 |[],_,_,_,_,a,_=>by simp at a
 |_::_,[],_,_,_,_,b=>by simp at b
theorem Hl:∀(xs ys:List D),(zW xs ys).length=min xs.length ys.length
 |x::xs,y::ys=>by simp[zW,Hl xs ys]
 |[],_=>by simp[zW]
 |_::_,[]=>by simp[zW]
def YC(h:lY K Hn a vs)(r:RDs K Hs vs ds)(h':lY K Hn b ws)(f:RDs K Hs ws es):QU K (Itz K a b) (zW ds es) Hn Hs:=λA n k l u=>by
 have q:=k.tup h;have q':=k.tup h';have v:=Hl ds es;refine⟨λi j=>?_,λi j=>⟨vs,ws,q,q',by rw[r.length,f.length];omega⟩,λi x w j y=>?_⟩
 ·have m:i<vs.length:=by rw[r.length];omega
  have s:i<ws.length:=by rw[f.length];omega
  exact⟨vs,ws,vs[i],ws[i],q,q',bt m,bt s⟩
 ·obtain⟨p,t,rfl,y⟩:=y;obtain⟨x,z,k0,c,rfl⟩:=y vs ws q q';obtain⟨d,k1,k2⟩:=r.get k0;obtain⟨d',g,e⟩:=f.get c;have st:=cQ.new (o:=.tup [x,z]) u t;exact⟨.tuple [d,d'],_,Hk ds es i d d' k1 g,st,.tuple aX (.cons ((k2.same l).same st.sh) (.cons ((e.same l).same st.sh) .nil))⟩
inductive q0u (K:a8) (cls:Str->ak) (E:XK) (ρ:aE) (r:R (List D)) (σ:St) (H:Hp) (Q:It->Hp->Prop):Prop
 |mk (H0 Hs0:Hp) (la:Nat->Option ak) (Hs:Hp) (f:Fr K H0 Hs0 la ρ σ H Hs) (q:Fin K cls E H Hs r λds=>∀J H' Hs' Hn,cQ H Hs H' Hs'->dS Hn H'->QU K J ds Hn Hs'->Q J H'):q0u K cls E ρ r σ H Q
def YD(K:a8)(cls:Str->ak)(E:XK)(ρ:aE)(r:R (List D)):TI:=q0u K cls E ρ r
inductive q0v (K:a8) (cls:Str->ak) (E:XK) (ρ:aE) (r:R (List D)) (σ:St) (H:Hp) (Q:It->Hp->Prop):Prop
 |mk (H0 Hs0:Hp) (la:Nat->Option ak) (Hs:Hp) (f:Fr K H0 Hs0 la ρ σ H Hs) (q:Fin K cls E H Hs r λds=>∀J H' Hs',cQ H Hs H' Hs'->QU K J ds Hs' Hs'->Q J H'):q0v K cls E ρ r σ H Q
def TIs(K:a8)(cls:Str->ak)(E:XK)(ρ:aE)(r:R (List D)):TI:=q0v K cls E ρ r
structure JI (c:C) (tg it:bC) (g:aE->R (List D)):Prop where of ::
 run:∀ ρ,PI c.X tg it (YD c.X.K c.cls c.E ρ (g ρ))
instance{c:C}{tg it:bC}{g:aE->R (List D)}:CoeFun (JI c tg it g) (λ_=>∀ ρ,PI c.X tg it (YD c.X.K c.cls c.E ρ (g ρ))):=⟨JI.run⟩
structure KJ (c:C) (tg it:bC) (g:aE->R (List D)):Prop where of ::
 run:∀ ρ,PI c.X tg it (TIs c.X.K c.cls c.E ρ (g ρ))
instance{c:C}{tg it:bC}{g:aE->R (List D)}:CoeFun (KJ c tg it g) (λ_=>∀ ρ,PI c.X tg it (TIs c.X.K c.cls c.E ρ (g ρ))):=⟨KJ.run⟩
def O7(h:PI X tg e t)(m:∀a H Q,t' a H Q->t a H Q):PI X tg e t':=λb s a H Q I q=>h b s a H Q I (m a H Q q)
def tT:D->R (List D)
 |.list ds=>.ok ds
 |.tuple ds=>.ok ds
 |.str x=>.ok (qw x)
 |_=>.no
def gG(g:aE->R D):aE->R (List D):=λρ=>(g ρ).bind tT
def ed(h:JB c l g):JI c tg l (gG g):=.of λρ=>by
 cases j:g ρ with
 |no=>exact λe s o H Q I y=>by obtain⟨p,b,la,Hs,f,q⟩:=y;exact by unfold gG at q;rw[j] at q;exact q.elim
 |ex x n=>
  refine O7 (wI (h ρ)) λo H Q M=>?_;obtain⟨p,b,la,Hs,f,q⟩:=M;refine one f q λd v m i k s1 w t=>?_;rw[j] at k;cases k
 |ok d=>
  cases d with
  |list ds=>
   refine O7 (wI (h ρ)) λo H Q z=>?_;obtain⟨p,b,la,Hs,f,q⟩:=z;refine one f q λd v m i k s1 w t=>?_;rw[j] at k;cases k;unfold gG at q;rw[j,bind_ok] at q;obtain⟨a,O,rfl,u,N⟩:=t.list w.st.sub;exact⟨a,rfl,⟨O,u⟩,q _ m i m s1 (.refl _) (Fa u N)⟩
  |tuple ds=>
   refine O7 (PV (h ρ)) λo H Q A=>?_;obtain⟨p,b,la,Hs,f,q⟩:=A;refine one f q λd v m i k s1 w t=>?_;rw[j] at k;cases k;unfold gG at q;rw[j,bind_ok] at q;obtain⟨a,O,rfl,u,N,_⟩:=t.tuple w.st.sub;exact⟨a,rfl,⟨O,u⟩,q _ m i m s1 (.refl _) (QV u N)⟩
  |str x=>
   refine O7 (Qv (h ρ)) λo H Q L=>?_;obtain⟨p,b,la,Hs,f,q⟩:=L;refine one f q λd v m i k s1 w t=>?_;rw[j] at k;cases k;unfold gG at q;rw[j,bind_ok] at q;exact⟨x,t.str,q _ m i m s1 (.refl _) (QW x)⟩
  |none=>exact λe s o H Q I B=>by obtain⟨p,b,la,Hs,f,q⟩:=B;exact by unfold gG at q;rw[j] at q;exact q.elim
  |bool _=>exact λe s o H Q I E=>by obtain⟨p,b,la,Hs,f,q⟩:=E;exact by unfold gG at q;rw[j] at q;exact q.elim
  |int _=>exact λe s o H Q I G=>by obtain⟨p,b,la,Hs,f,q⟩:=G;exact by unfold gG at q;rw[j] at q;exact q.elim
  |dict _=>exact λe s o H Q I K=>by obtain⟨p,b,la,Hs,f,q⟩:=K;exact by unfold gG at q;rw[j] at q;exact q.elim
def Ab(h:JE c l g):KJ c tg l (gG g):=.of λρ=>by
 cases i:g ρ with
 |no=>exact λb s k H Q I L=>by obtain⟨m,a,la,Hs,f,q⟩:=L;exact by unfold gG at q;rw[i] at q;exact q.elim
 |ex x n=>
  refine O7 (wI (h ρ)) λk H Q E=>?_;obtain⟨m,a,la,Hs,f,q⟩:=E;refine F4 f q λd v o e j s1 B p=>?_;rw[i] at j;cases j
 |ok d=>
  cases d with
  |list ds=>
   refine O7 (wI (h ρ)) λk H Q K=>?_;obtain⟨m,a,la,Hs,f,q⟩:=K;refine F4 f q λd v o e j s1 B p=>?_;rw[i] at j;cases j;unfold gG at q;rw[i,bind_ok] at q;cases p with
   |list t M=>exact⟨_,rfl,⟨_,B.st.sub.seq t⟩,q _ o e s1 (Fa t M)⟩
  |tuple ds=>
   refine O7 (PV (h ρ)) λk H Q y=>?_;obtain⟨m,a,la,Hs,f,q⟩:=y;refine F4 f q λd v o e j s1 B p=>?_;rw[i] at j;cases j;unfold gG at q;rw[i,bind_ok] at q;cases p with
   |tuple t M=>exact⟨_,rfl,⟨_,(lY.of (B.st.sub _ _ t))⟩,q _ o e s1 (QV (.of t) M)⟩
  |str x=>
   refine O7 (Qv (h ρ)) λk H Q z=>?_;obtain⟨m,a,la,Hs,f,q⟩:=z;refine F4 f q λd v o e j s1 B p=>?_;rw[i] at j;cases j;unfold gG at q;rw[i,bind_ok] at q;cases p with
   |str _=>exact⟨x,rfl,q _ o e s1 (QW x)⟩
  |none=>exact λb s k H Q I G=>by obtain⟨m,a,la,Hs,f,q⟩:=G;exact by unfold gG at q;rw[i] at q;exact q.elim
  |bool _=>exact λb s k H Q I A=>by obtain⟨m,a,la,Hs,f,q⟩:=A;exact by unfold gG at q;rw[i] at q;exact q.elim
  |int _=>exact λb s k H Q I w=>by obtain⟨m,a,la,Hs,f,q⟩:=w;exact by unfold gG at q;rw[i] at q;exact q.elim
  |dict _=>exact λb s k H Q I u=>by obtain⟨m,a,la,Hs,f,q⟩:=u;exact by unfold gG at q;rw[i] at q;exact q.elim
theorem KJ.i(h:KJ c tg l gs):JI c tg l gs:=.of λρ=>O7 (h ρ) λg H Q ⟨e,d,la,Hs,f,q⟩=>⟨e,d,la,Hs,f,by
 cases b:gs ρ with
 |ok ds=>rw[b] at q;exact λJ H' a s i=>q J H' a a s s.sub i
 |ex x n=>rw[b] at q;exact q
 |no=>rw[b] at q;exact q⟩
def KL:List D->R (List D)
 |[.int j]=>if -(2 ^ 62)<=j/\j<2 ^ 62 then .ok (tS 0 j.toNat) else .no
 |_=>.no
def Dx(a:aE->R (List D)):aE->R (List D):=λρ=>(a ρ).bind KL
def vP(n:Gl c.X "range")(k:c.X.mg "range"=none)(i:W_ c [a] gs)(hs:aF [a] c.X.env=[(false,eu a c.X.env)]:=by rfl):KJ c tg (.Call (.Name "range" p) [a] [] pos) (Dx gs):=.of λρ=>O7 (NI n k (i ρ) hs) λs H Q b=>by
 obtain⟨t,o,la,Hs,f,q⟩:=b;refine QL f q λds v h e l s1 u m=>?_;unfold Dx at q;rw[l,bind_ok] at q;unfold KL at q;split at q
 ·rename_i j
  by_cases d:-(2 ^ 62)<=j/\j<2 ^ 62
  ·rw[if_pos d] at q;obtain⟨x,rfl,g⟩:=m.one;exact⟨j,by rw[g.int],d.1,d.2,q _ h e s1 (QX 0 _)⟩
  ·rw[if_neg d] at q;exact q.elim
 ·exact q.elim
def enm:List D->R (List D)
 |[.tuple ds]=>.ok (kj 0 ds)
 |_=>.no
def CF(a:aE->R (List D)):aE->R (List D):=λρ=>(a ρ).bind enm
def RDs.one(h:RDs K H xs [d]):∃x,xs=[x]/\RD K H x d:=by
 cases h with|cons a t=>cases t;exact⟨_,rfl,a⟩
def RDs.two{K:a8}{H:Hp}{xs:List V}{d e:D}(h:RDs K H xs [d,e]):∃x y,xs=[x,y]/\RD K H x d/\RD K H y e:=by
 cases h with|cons a t=>cases t with|cons b t=>cases t;exact⟨_,_,rfl,a,b⟩
def xc{x1}(o:Gl c.X "enumerate")(j:c.X.mg "enumerate"=none)(i:Gs c [a] gs)(hs:aF [a] c.X.env=[(false,eu a c.X.env)]:=by rfl):KJ c (.Tuple elts x1 tpos) (.Call (.Name "enumerate" p) [a] [] pos) (CF gs):=.of λρ=>O7 (UU o j (i ρ) hs) λt H Q b=>by
 obtain⟨u,s,la,Hs,f,q⟩:=b;refine CB f q λds v h d l s1 k m=>?_;unfold CF at q;rw[l,bind_ok] at q;unfold enm at q;split at q
 ·obtain⟨x,rfl,g⟩:=m.one;cases g with
  |tuple e n=>exact⟨_,_,rfl,(lY.of (k.st.sub _ _ e)),q _ h d s1 (V7 (.of e) n)⟩
 ·exact q.elim
def zp:List D->R (List D)
 |[.tuple ds,.tuple es]=>.ok (zW ds es)
 |_=>.no
def V8(a:aE->R (List D)):aE->R (List D):=λρ=>(a ρ).bind zp
def V9{x1}(w:Gl c.X "zip")(n:c.X.mg "zip"=none)(m:Gs c [a,b] gs)(hs:aF [a,b] c.X.env=[(false,eu a c.X.env),(false,eu b c.X.env)]:=by rfl)(e:aF [b] c.X.env=[(false,eu b c.X.env)]:=by rfl):
  KJ c (.Tuple elts x1 tpos) (.Call (.Name "zip" p) [a,b] [] pos) (V8 gs):=.of λρ=>O7 (Yt w n (m ρ) hs e) λA H Q d=>by
 obtain⟨B,z,la,Hs,f,q⟩:=d;refine CB f q λds E l g o s1 j t=>?_;unfold V8 at q;rw[o,bind_ok] at q;unfold zp at q;split at q
 ·obtain⟨x,y,rfl,k,s⟩:=t.two;cases k with
  |tuple h v=>
   cases s with
   |tuple i u=>exact⟨_,_,_,_,rfl,(lY.of (j.st.sub _ _ h)),(lY.of (j.st.sub _ _ i)),q _ l g s1 (YC (.of h) v (.of i) u)⟩
 ·exact q.elim
inductive TNI (K:a8) (cls:Str->ak) (E:XK) (ρ:aE) (r:R D) (σ:St) (H:Hp) (Q:VK):Prop
 |mk (H0 Hs0:Hp) (la:Nat->Option ak) (Hs:Hp) (f:Fr K H0 Hs0 la ρ σ H Hs) (q:Fin K cls E H Hs r λd=>∀a o H' Hs',cQ H Hs H' Hs'->H' a=none->pc K Hs' o d->Q (.ref a) (upd H' a o)):TNI K cls E ρ r σ H Q
def TN(K:a8)(cls:Str->ak)(E:XK)(ρ:aE)(r:R D):TE:=TNI K cls E ρ r
structure JN (c:C) (e:bC) (g:aE->R D):Prop where of ::
 run:∀ ρ,PE c.X e (TN c.X.K c.cls c.E ρ (g ρ))
instance{c:C}{e:bC}{g:aE->R D}:CoeFun (JN c e g) (λ_=>∀ ρ,PE c.X e (TN c.X.K c.cls c.E ρ (g ρ))):=⟨JN.run⟩
section
variable{c:C}{e a b l tg:bC}{g ga gb:aE->R D}{pos p:Pos}{gs:aE->R (List D)}{es:List bC}{x:Str}
theorem q1W(q:TR K cls E ρ r σ H Q):TN K cls E ρ r σ H Q:=by
 obtain⟨i,h,la,Hs,f,q⟩:=q;refine⟨i,h,la,Hs,f,?_⟩;cases r with
 |ok d=>exact λa o H' j s n r=>q _ _ _ (s.trans (.new s.sub n)) (r.share (s.sub.free n))
 |ex x n=>exact q
 |no=>exact q
def JN.je(h:JN c e g):JE c e g:=.of λρ=>sK (h ρ) λd H Q q=>q1W q
theorem AV(h:Gs c es gs):JN c (.List es pos) (de gs .list):=.of λρ=>sK (qq (h ρ)) λt H Q d=>by
 obtain⟨u,s,la,Hs,f,q⟩:=d;refine CB f q λds w m j n s1 v k=>?_;unfold de at q;rw[n,bind_ok] at q;by_cases i:ds.length<=1000
 ·rw[if_pos i] at q;exact⟨bL (cV (by rw[k.length];exact i)),λp o=>q p _ m j s1 o (.lst k)⟩
 ·rw[if_neg i] at q;exact q.elim
theorem Mi:JN c (.Dict [] [] pos) (λ_=>.ok (.dict [])):=.of λρ=>sK Qg λj H Q d=>by obtain⟨k,i,la,Hs,f,q⟩:=d;exact λp h=>q p _ H Hs (.refl f.st.sub) h (.dK .nil)
def fF(i:Nat)(g:aE->R D):aE->R Fl:=λρ=>(g ρ).bind λd=>.ok (.nx (ρ.set i (.own d)))
theorem sN(f:Fr K H0 Hs0 la ρ σ H Hs)
  (h:qV K cls E H0 Hs0 la D' (r.bind k)) (m:∀d a o H' i,r=.ok d->Fr K H0 Hs0 la ρ σ H' i->H' a=none->pc K i o d->Q (.ref a) (upd H' a o)):TN K cls E ρ r σ H Q:=by
 refine⟨H0,Hs0,la,Hs,f,?_⟩;cases r with
 |ok d=>exact λa o H' i s n r=>m d a o H' i rfl (f.step s) n r
 |ex c n=>exact λH' i s=>h H' i (f.st.trans s)
 |no=>exact h
theorem nu(i:Nat)(h:JN c e g)(m:c.X.N.Nodup)(t:c.X.N[i]?=some x:=by rfl)(y:WD c.X.env.scope x:=by first|exact io rfl|exact fk rfl)(hs:j6 e (some (.Name x pos')) pos.line c.X.env=pure false:=by rfl)
  (s:c.X.fn x=true\/c.X.env.scope.names.lookup x=some .local:=by first|exact .inl rfl|exact .inr rfl|assumption):JS c (.Assign [.Name x pos'] e pos) (fF i g):=.of λρ=>AQ (EG m t y (h ρ) hs s) λD B H j=>by
 obtain⟨E,z,la,Hs,f,q⟩:=j;refine sN f q λd a o A k v u n w=>?_;unfold fF at q;rw[v,bind_ok] at q;exact q _ _ k (u.setO i n w)
def Fb{α:Type}:R α->R α
 |.ex _ _=>.no
 |r=>r
def xg{α:Type}{r:R α}{a:α}(h:Fb r=.ok a):r=.ok a:=by
 cases r<;>first|exact h|cases h
def fY(f:D->R (Option D)):List D->R (List D)
 |[]=>.ok []
 |d::r=>(f d).bind λo=>(fY f r).bind λys=>.ok (match o with
  |some y=>y::ys
  |none=>ys)
theorem rN(h:fY f (d::r)=.ok ys):∃o i,f d=.ok o/\fY f r=.ok i/\ys=o.toList++i:=by
 unfold fY at h;cases j:f d with
 |ok o=>
  rw[j,bind_ok] at h;cases k:fY f r with
  |ok i=>
   rw[k,bind_ok] at h;cases h;cases o<;>exact⟨_,i,rfl,rfl,rfl⟩
  |ex x n=>rw[k] at h;cases h
  |no=>rw[k] at h;cases h
 |ex x n=>rw[j] at h;cases h
 |no=>rw[j] at h;cases h
def Va:Sl->Sl
 |.own d=>.lck d
 |.ow2 _=>.no
 |s=>s
def l9(nt:Nat)(ix:List Nat)(ρ:aE):aE:=pf nt Sl.no++ix.map λi=>Va ((ρ[i]?).getD .no)
def X8(nt:Nat):D->aE->R aE:=match nt with
 | 1=>cr 0
 | 2=>pd 2 (cW (cr 0) (cW (cr 1) qX))
 |_=>λ_ _=>.no
def iX(nt:Nat)(ρ:aE)(gt:aE->R Bool)(ge:aE->R D):D->R (Option D):=λd=>Fb ((X8 nt d ρ).bind λρ'=>(gt ρ').bind λb=>if b then(ge ρ').bind λy=>.ok (some y) else .ok none)
def cA(nt:Nat)(ix:List Nat)(d:aE->R (List D))(gt:aE->R Bool)(ge:aE->R D):aE->R D:=λρ=>(d ρ).bind λds=>if ds.length<=1000 then(fY (iX nt (l9 nt ix ρ) gt ge) ds).bind λys=>.ok (.list ys) else .no
structure YE (c:C) (ifs:List bC) (g:aE->R Bool):Prop where of ::
 run:∀ ρ,Kr c.X ifs (Hg c.X.K c.cls c.E ρ (g ρ))
instance{c:C}{ifs:List bC}{g:aE->R Bool}:CoeFun (YE c ifs g) (λ_=>∀ ρ,Kr c.X ifs (Hg c.X.K c.cls c.E ρ (g ρ))):=⟨YE.run⟩
def dW:YE c [] (λ_=>.ok true):=.of λρ d s i H Q I h=>by obtain⟨k,j,la,Hs,f,q⟩:=h;exact UN d s i H Q I (q H Hs (.refl f.st.sub))
def ml(h:JT c e gt):YE c [e] gt:=.of λρ=>UO (h ρ)
def Fc(K:a8)(nt:Nat):TG:=match nt with
 | 1=>pA 0
 |_=>Y1 K 2 (L2.aa (pA 0) (L2.aa (pA 1) L2.aC))
def xh{K:a8}{nt:Nat}(h:nt=1\/nt=2):UQ nt (Fc K nt):=by
 rcases h with rfl|rfl
 ·exact Qj ⋯
 ·exact UR ⋯ ⋯
theorem xi{K:a8}{nt:Nat}{o j H Hs:Hp}{la:Nat->Option ak}{ρ ρ':aE}{n:St}{v:V}{d:D}{Q:St->Hp->Prop}(k:nt=1\/nt=2)(f:Fr K o j la ρ n H Hs)(r:RD K Hs v d)(h:X8 nt d ρ=.ok ρ')
  (q:∀ σ',Fr K o j la ρ' σ' H Hs->Q σ' H):Fc K nt v n H Q:=by
 rcases k with rfl|rfl
 ·cases h;exact q _ (f.set 0 r)
 ·unfold X8 pd at h;simp only at h;cases r with
  | @tuple p xs ds s i=>
   simp only at h;split at h
   ·rename_i m
    cases i with
    |nil=>cases m
    |cons t i=>
     cases i with
     |nil=>cases m
     |cons u i=>
      cases i with
      |nil=>
       cases h;exact⟨p,_,rfl,(lY.of (f.st.sub _ _ s)),rfl,_,_,rfl,_,_,rfl,rfl,q _ ((f.set 0 t).set 1 u)⟩
      |cons _ _=>simp at m
   ·cases h
  |none=>cases h
  |bool _=>cases h
  |int _=>cases h
  |str _=>cases h
  |list _ _=>cases h
  |dictK _ _=>cases h
  |dictT _ _ _=>cases h
  |dictF _ _ _=>cases h
theorem Fr.block(f:Fr K H0 Hs0 la ρ σ H Hs)(nt:Nat)(ix:List Nat):∃z,Fr K H Hs z (l9 nt ix ρ) (L2.mH nt ix σ) H Hs:=by
 have B:∀(j:Nat) (d:D),(l9 nt ix ρ)[j]?=some (Sl.lck d)->∃a o,(L2.mH nt ix σ)[j]?=some (some (V.ref a))/\H a=some o/\Hs a=none/\pc K Hs o d:=λj d h=>by
  unfold l9 at h;by_cases m:j<nt
  ·rw[bx (by simpa using m),c8,if_pos m] at h;cases h
  ·have m:nt<=j:=by omega
   rw[aV (by simpa using m),dD,aI] at h;cases t:ix[j-nt]? with
   |none=>rw[t] at h;cases h
   |some i=>
    rw[t] at h;have w:∀v,σ[i]?=some (some v)->(L2.mH nt ix σ)[j]?=some (some v):=λv k1=>by
     unfold L2.mH;rw[aV (by simpa using m),dD,aI,t];simp[k1]
    cases n:ρ[i]? with
    |none=>simp only[dm,n,iz,Va] at h;cases h
    |some s=>
     simp only[dm,n,jR] at h;cases s with
     |own d'=>
      cases h;obtain⟨a,o,k1,k2,k3,y,k5⟩:=f.ow i d n;exact⟨a,o,w _ k1,k2,k3,k5⟩
     |lck d'=>
      cases h;obtain⟨a,o,k1,k2,k3,y,k5,I⟩:=f.lk i d n;exact⟨a,o,w _ k1,k3,y,I⟩
     |no=>cases h
     |shr _=>cases h
     |ow2 _=>cases h
 have u:∀(j:Nat) (d:List (List D)),¬ (l9 nt ix ρ)[j]?=some (Sl.ow2 d):=λj d h=>by
  unfold l9 at h;by_cases m:j<nt
  ·rw[bx (by simpa using m),c8,if_pos m] at h;cases h
  ·have m:nt<=j:=by omega
   rw[aV (by simpa using m),dD,aI] at h;cases t:ix[j-nt]? with
   |none=>rw[t] at h;cases h
   |some i=>
    rw[t] at h;cases n:ρ[i]? with
    |none=>simp only[dm,n,iz,Va] at h;cases h
    |some s=>
     simp only[dm,n,jR] at h;cases s<;>cases h
 refine⟨λj=>match (l9 nt ix ρ)[j]?,(L2.mH nt ix σ)[j]? with
  |some (Sl.lck _),some (some (V.ref a))=>some a
  |_,_=>none,.refl f.st.sub,by simp[l9,L2.mH],λj d h=>?_,λj d h=>?_,λj d h=>?_,λj k A G a q E _ _=>?_,λj a h=>?_,λj d h=>(u j d h).elim,λj k A G q _=>(u j A q).elim⟩
 case refine_3=>
  obtain⟨a,o,k1,k2,k3,y⟩:=B j d h;exact⟨a,o,k1,by rw[h,k1],k2,k3,k2,y⟩
 case refine_5=>
  split at h
  ·rename_i d L q E
   cases h;obtain⟨L,o,k1,k2,_⟩:=B j d q;rw[E] at k1;cases k1;exact⟨o,k2⟩
  ·cases h
 all_goals
  unfold l9 at *
 ·have h:=h;by_cases m:j<nt
  ·rw[bx (by simpa using m),c8,if_pos m] at h;cases h
  ·have m:nt<=j:=by omega
   rw[aV (by simpa using m),dD,aI] at h;cases t:ix[j-nt]? with
   |none=>rw[t] at h;cases h
   |some i=>
    rw[t] at h;cases n:ρ[i]? with
    |none=>simp only[dm,n,iz,Va] at h;cases h
    |some s=>
     simp only[dm,n,jR] at h;cases s with
     |shr d'=>
      cases h;obtain⟨v,k1,k2⟩:=f.sh i d n;refine⟨v,?_,k2⟩;unfold L2.mH;rw[aV (by simpa using m),dD,aI,t];simp[k1]
     |no=>cases h
     |own _=>cases h
     |lck _=>cases h
     |ow2 _=>cases h
 ·have h:=h;by_cases m:j<nt
  ·rw[bx (by simpa using m),c8,if_pos m] at h;cases h
  ·have m:nt<=j:=by omega
   rw[aV (by simpa using m),dD,aI] at h;cases t:ix[j-nt]? with
   |none=>rw[t] at h;cases h
   |some i=>
    rw[t] at h;cases n:ρ[i]? with
    |none=>simp only[dm,n,iz,Va] at h;cases h
    |some s=>
     simp only[dm,n,jR] at h;cases s<;>cases h
 ·have q:=q;by_cases m:j<nt
  ·rw[bx (by simpa using m),c8,if_pos m] at q;cases q
  ·have m:nt<=j:=by omega
   rw[aV (by simpa using m),dD,aI] at q;cases t:ix[j-nt]? with
   |none=>rw[t] at q;cases q
   |some i=>
    rw[t] at q;cases n:ρ[i]? with
    |none=>simp only[dm,n,iz,Va] at q;cases q
    |some s=>
     simp only[dm,n,jR] at q;cases s<;>cases q
theorem xj(h:∀d c n,f d≠.ex c n):∀(ds:List D) (c:Str) (n:Option D),fY f ds≠.ex c n
 |[],c,n=>λe=>by cases e
 |d::r,c,n=>λe=>by
  unfold fY at e;cases j:f d with
  |ok o=>
   rw[j,bind_ok] at e;cases i:fY f r with
   |ok m=>rw[i,bind_ok] at e;cases e
   |ex x k=>exact xj h r x k i
   |no=>rw[i] at e;cases e
  |ex x k=>exact h d x k j
  |no=>rw[j] at e;cases e
theorem AW(nt:Nat)(ρ:aE)(gt:aE->R Bool)(ge:aE->R D)(d:D)(c:Str)(n:Option D):iX nt ρ gt ge d≠.ex c n:=by
 unfold iX Fb;split<;>first|exact λe=>by cases e|skip
 rename_i h
 exact λe=>h c n e
inductive cnI (K:a8) (f:D->R (Option D)) (ds ys:List D) (H1 Hs1:Hp) (i m:Nat) (acc:List V) (H':Hp):Prop
 |mk (done bA zs ya Hs':_) (h0:ds=done++bA) (h1:done.length=i) (h2:bA.length=m) (h3:cQ H1 Hs1 H' Hs') (h4:RDs K Hs' acc ya) (h5:ya.length<=i) (h6:fY f bA=.ok zs) (h7:ys=ya++zs):cnI K f ds ys H1 Hs1 i m acc H'
theorem Mj{K:a8}{cls:Str->ak}{E:XK}{nt:Nat}{ix:List Nat}{X:aE->R (List D)}{gt:aE->R Bool}{ge:aE->R D}{ρ:aE}{t:St}{H:Hp}{Q:VK}(T:nt=1\/nt=2)
  (q:TN K cls E ρ (cA nt ix X gt ge ρ) t H Q):
  Qh nt ix (YD K cls E ρ (X ρ)) (Fc K nt) (λt H Q=>∃ ρ',Hg K cls E0 ρ' (gt ρ') t H Q) (λt H Q=>∃ ρ',TR K cls E0 ρ' (ge ρ') t H Q) t H Q:=by
 obtain⟨H0,a3,la,Hs,f,q⟩:=q;refine⟨H0,a3,la,Hs,f,?_⟩;unfold cA at q;cases hi:X ρ with
 |no=>rw[hi] at q;exact q
 |ex x n=>rw[hi] at q;exact q
 |ok ds=>
  rw[hi,bind_ok] at q;intro J H1 G Hn s1 sn it;by_cases hl:ds.length<=1000
  ·rw[if_pos hl] at q;cases S:fY (iX nt (l9 nt ix ρ) gt ge) ds with
   |no=>rw[S] at q;exact q.elim
   |ex x n=>exact(xj (AW _ _ _ _) _ _ _ S).elim
   |ok ys=>
    rw[S,bind_ok] at q;obtain⟨lb,fb⟩:=(f.step s1).block nt ix;refine⟨cnI K (iX nt (l9 nt ix ρ) gt ge) ds ys H1 G,
     ⟨ds.length,[],ds,ys,[],G,rfl,rfl,rfl,.refl s1.sub,.nil,cu _,S,rfl⟩,?_⟩
    rintro i m a5 H' ⟨done,bA,zs,ya,I,j,k,M,st,O,yl,hz,N⟩;obtain⟨a2,s,u⟩:=it H' I (sn.trans st.all) st.sh st.sub;cases bA with
    |nil=>
     left;cases hz;rw[ck] at j N;subst N j;exact⟨s i ∅,λp hp=>q p _ H' I (s1.trans st) hp (.lst O)⟩
    |cons d bA=>
     right;have A:i<ds.length:=by rw[j,aT,aU];omega
     refine⟨a2 i A,cV (by rw[O.length];omega),λx H2 a0=>?_⟩;obtain⟨d',Y,hd,L,r2⟩:=u i x H2 A a0;have a1:d'=d:=by
      rw[j,aV ∅] at hd;simp[k] at hd;exact hd.symm
     subst a1;obtain⟨o,w,h,B,rfl⟩:=rN hz;have h:=xg h;cases P:X8 nt d' (l9 nt ix ρ) with
     |no=>rw[P] at h;cases h
     |ex x n=>rw[P] at h;cases h
     |ok ρ'=>
      rw[P,bind_ok] at h;refine xi T ((fb.step st).step L) r2 P λa4 f2=>⟨ρ',?_⟩;refine⟨_,_,_,Y,f2,?_⟩;cases ht:gt ρ' with
      |no=>rw[ht] at h;cases h
      |ex x n=>rw[ht] at h;cases h
      |ok b=>
       rw[ht,bind_ok] at h;intro H3 z s3;cases b with
       |false=>
        rw[if_neg aG] at h;cases h;refine wP ⟨bA.length,by rw[<- M];simp,done++[d'],bA,w,ya,z,by rw[j];simp,by simp[k],rfl,(st.trans L).trans s3,O.same (L.trans s3).sh,by omega,B,by simpa using N⟩
       |true=>
        rw[if_pos rfl] at h;refine zP ⟨ρ',_,_,_,z,f2.step s3,?_⟩;cases he:ge ρ' with
        |no=>rw[he] at h;cases h
        |ex x n=>rw[he] at h;cases h
        |ok y=>
         rw[he,bind_ok] at h;cases h;intro v H4 U s4 r4;exact⟨bA.length,by rw[<- M];simp,done++[d'],bA,w,ya++[y],U,by rw[j];simp,by simp[k],rfl,((st.trans L).trans s3).trans s4,(O.same ((L.trans s3).trans s4).sh).append (.cons r4 .nil),by simp;omega,B,by rw[N];simp⟩
  ·rw[if_neg hl] at q;exact q.elim
def C.comp(c:C)(N':List Str)(scope:eP)(h:List (Str×ak))(A:ak)(d:aq)(f:Hp)(j:List ak)(i:List (ak×Obj)):C:=⟨bN c.X N' scope h A d f j i,c.cls,E0⟩
variable{elt iter:bC}{ifs:List bC}{scope:eP}{N':List Str}{nt:Nat}{ix:List Nat}{gi:aE->R (List D)}{gt:aE->R Bool}{ge:aE->R D}
def ut(c:C)(N':List Str)(scope:eP)(nt:Nat)(tg:bC)(ifs:List bC)(elt:bC)(gt:aE->R Bool)(ge:aE->R D):Prop:=
 ∀h A d f j i,PG (c.comp N' scope h A d f j i).X tg (Fc c.X.K nt)/\YE (c.comp N' scope h A d f j i) ifs gt/\JE (c.comp N' scope h A d f j i) elt ge
def ut.at(h:ut c N' scope nt tg ifs elt gt ge):∀k A f d n m,PG (bN c.X N' scope k A f d n m) tg (Fc c.X.K nt)/\Kr (bN c.X N' scope k A f d n m) ifs (λj H Q=>∃ ρ',Hg c.X.K c.cls E0 ρ' (gt ρ') j H Q) /\
  PE (bN c.X N' scope k A f d n m) elt (λj H Q=>∃ ρ',TR c.X.K c.cls E0 ρ' (ge ρ') j H Q):=λk A f d n m=>by
 obtain⟨u,w,v⟩:=h k A f d n m;exact⟨u,λi s j H Q I t=>by obtain⟨ρ',q⟩:=t;exact w ρ' i s j H Q I q,λi s j H Q I o=>by obtain⟨ρ',q⟩:=o;exact v ρ' i s j H Q I q⟩
def eO(nt:Nat)(d:nt=1\/nt=2)(f:c.X.calm=true)(S:lZ c.X scope N' nt ix)(h:JI c tg iter gi)(i:ut c N' scope nt tg ifs elt gt ge)(hs:∀x,bS iter c.X.env x=pure x:=by intro _;rfl):
  JN c (.ListComp elt [⟨tg,iter,ifs,0⟩] scope pos) (cA nt ix gi gt ge):=.of λρ=>sK (GV f S (xh d) (h ρ) i.at hs) λj H Q q=>Mj d q
theorem iL(i:Nat){h u:Pos}(nt:Nat)(j:nt=1\/nt=2)(v:c.X.N.Nodup)(y:c.X.calm=true)(S:lZ c.X scope N' nt ix)(B:JI c tg iter gi)(E:ut c N' scope nt tg ifs elt gt ge)
  (s:c.X.N[i]?=some x:=by rfl) (w:c.X.env.scope.names.lookup x=some .local:=by rfl)
  (n:j6 (.ListComp elt [⟨tg,iter,ifs,0⟩] scope pos) (some (.Name x u)) h.line c.X.env=pure true:=by rfl)
  (hs:∀x,bS iter c.X.env x=pure x:=by intro _;rfl):JS c (.Assign [.Name x u] (.ListComp elt [⟨tg,iter,ifs,0⟩] scope pos) h) (fF i (cA nt ix gi gt ge)):=.of λρ=>AQ (Ku v s w y S (xh j) (B ρ) E.at n hs) λD z H k=>by
 obtain⟨M,L,la,Hs,f,q⟩:=k;refine Mj (Q:=λx t=>D.nx (z.set i (some x)) t) j (sN f q λd a o t m I G A K=>?_);unfold fF at q;rw[I,bind_ok] at q;exact q _ _ m (G.setO i A K)
end
def QY(h:PS X.nox st t):PS X st t:=λa s b H D I c=>
 cn (h a s b H D (I.wish _) c) (λ_ _ q=>q.unwish) λ_ _ z=>fG z
def C.nox(c:C):C:=⟨c.X.nox,c.cls,E0⟩
def lP(k:D->aE->R aE)(b:aE->R Fl):List D->aE->R Fl
 |[],ρ=>.ok (.nx ρ)
 |d::r,ρ=>match k d ρ with
  |.ok ρ1=>match b ρ1 with
   |.ok (.nx ρ')=>lP k b r ρ'
   |.ok (.ct ρ')=>lP k b r ρ'
   |.ok (.bk ρ')=>.ok (.nx ρ')
   |.ok (.rt d)=>.ok (.rt d)
   |_=>.no
  |_=>.no
def Fd(i:Nat)(ρ:aE):aE:=match ρ[i]? with
 |some (Sl.own d)=>ρ.set i (.lck d)
 |_=>ρ
def AX(i:Nat)(a ρ:aE):aE:=match a[i]?,ρ[i]? with
 |some (Sl.own _),some (Sl.lck d)=>ρ.set i (.own d)
 |_,_=>ρ
def unl(i:Nat)(a:aE):R Fl->R Fl
 |.ok (.nx ρ)=>.ok (.nx (AX i a ρ))
 |.ok (.bk ρ)=>.no
 |.ok (.ct ρ)=>.no
 |r=>r
inductive fgI (K:a8) (cls:Str->ak) (E:XK) (H0 Hs0:Hp) (la:Nat->Option ak) (D':ED) (kt:D->aE->R aE) (gb:aE->R Fl) (ds:List D) (i m:Nat) (σ:St) (H:Hp):Prop
 |mk (done bA ρ Hs:_) (h0:ds=done++bA) (h1:done.length=i) (h2:bA.length=m) (h3:Fr K H0 Hs0 la ρ σ H Hs) (h4:qV K cls E H0 Hs0 la D' (lP kt gb bA ρ)):fgI K cls E H0 Hs0 la D' kt gb ds i m σ H
def QZ
  (it:QU K J ds Hn Hs0) (N:dS Hn H0) (f:Fr K H0 Hs0 la ρ e H Hs)
  (A:∀ ρ d v e H Q,YB K ρ d (kt d ρ) v e H Q->tg v e H Q) (p:∀ ρ D e H,SR K cls E0 ρ (gb ρ) D e H->tb D e H)
  (q:qV K cls E H0 Hs0 la D' (lP kt gb ds ρ)):
  TFI tg tb D' e J H:=by
 refine⟨fgI K cls E H0 Hs0 la D' kt gb ds,⟨ds.length,[],ds,ρ,Hs,rfl,rfl,rfl,f,q⟩,?_⟩;rintro i m e H ⟨done,bA,ρ,Hs,b,l,B,f,q⟩;obtain⟨t,g,j⟩:=it H Hs (N.trans f.st.all) f.st.sh f.st.sub;cases bA with
 |nil=>
  rw[ck] at b;subst b;exact .inl ⟨g i ∅,q e H Hs f⟩
 |cons d bA=>
  have k:i<ds.length:=by rw[b,aT,aU];omega
  refine .inr ⟨t i k,λσ' H'=>∃ ρ' a,Fr K H0 Hs0 la ρ' σ' H' a/\qV K cls E H0 Hs0 la D' (lP kt gb bA ρ'),λσ' H' ⟨ρ',a,h,q'⟩=>⟨bA.length,by rw[<- B];simp,done++[d],bA,ρ',a,by rw[b];simp,by simp[l],rfl,h,q'⟩,λx u y=>?_⟩;obtain⟨d',o,w,O,P⟩:=j i x u k y;have s:d'=d:=by
   rw[b,aV ∅] at w;simp[l] at w;exact w.symm
  subst s;unfold lP at q;refine A ρ d' x e u _ ⟨H0,Hs0,la,o,f.step O,P,?_⟩;cases z:kt d' ρ with
  |ex c n=>rw[z] at q;exact q
  |no=>rw[z] at q;exact q
  |ok ρ1=>
   rw[z] at q;intro G M;refine p ρ1 _ G u ⟨H0,Hs0,la,o,M,?_⟩;cases I:gb ρ1 with
   |no=>simp only[I] at q;exact q.elim
   |ex c n=>simp only[I] at q;exact q.elim
   |ok L=>
    simp only[I] at q;cases L with
    |nx ρ'=>exact λσ' H' a h=>⟨ρ',a,h,q⟩
    |ct ρ'=>exact λσ' H' a h=>⟨ρ',a,h,q⟩
    |bk ρ'=>exact λσ' H' a h=>q σ' H' a h
    |rt d=>exact q
def v5(A B:Hp):Hp:=λb=>match A b with
 |some o=>some o
 |none=>B b
def lE:dS A (v5 A B):=λb o e=>by unfold v5;rw[e]
def kR(h:A b=none):v5 A B b=B b:=by unfold v5;rw[h]
def Hm(a:dS A H)(c:dS B H):dS (v5 A B) H:=λb o e=>by
 cases h:A b with
 |some u=>unfold v5 at e;rw[h] at e;cases e;exact a b o h
 |none=>rw[kR h] at e;exact c b o e
def Q_(a:dS A H)(c:dS B H):dS B (v5 A B):=λb o e=>by
 cases h:A b with
 |some u=>
  unfold v5;rw[h];have:=a b u h;rw[c b o e] at this;exact this.symm
 |none=>rw[kR h];exact e
def Fr.into(f:Fr K H0 Hs0 la ρ σ H Hs):Fr K (v5 H0 Hs) Hs la ρ σ H Hs:=by
 have sub:=Hm f.st.all f.st.sub;refine⟨⟨sub,.refl _,f.st.sub,λa o e _ z=>z⟩,f.len,f.sh,λi d h=>?_,λi d h=>?_,f.dj,λi a e=>let ⟨o,k⟩:=f.lh i a e;⟨o,lE _ _ k⟩,λi d h=>?_,f.u2⟩
 ·obtain⟨a,o,g,n,c,j,m⟩:=f.ow i d h;exact⟨a,o,g,n,c,by rw[kR j];exact c,m⟩
 ·obtain⟨a,o,g,n,c,j,m,p⟩:=f.lk i d h;exact⟨a,o,g,n,c,j,lE _ _ m,p⟩
 ·obtain⟨a,q,O⟩:=f.o2 i d h;exact⟨a,q,O.at_,O.ob,O.nd,λb l=>⟨(O.out b l).1,by rw[kR (O.out b l).2];exact(O.out b l).1⟩,O.dj,O.inn⟩
def cQ.outof(s:cQ H0 Hs0 H1 Hs1)(t:cQ (v5 H0 Hs1) Hs1 H' Hs'):cQ H0 Hs0 H' Hs':=
 ⟨lE.trans t.all,s.sh.trans t.sh,t.sub,λa o e n z=>t.out a o (lE _ _ e) n (s.out a o e n z)⟩
theorem Fr.outof(j:Fr K H0 Hs0 la ρ1 σ1 H1 Hs1)(f:Fr K (v5 H0 Hs1) Hs1 la ρ σ H' Hs'):Fr K H0 Hs0 la ρ σ H' Hs':=by
 refine⟨j.st.outof f.st,f.len,f.sh,λi d h=>?_,λi d h=>?_,f.dj,j.lh,λi d h=>?_,f.u2⟩
 ·obtain⟨a,o,g,c,l,m,k⟩:=f.ow i d h;exact⟨a,o,g,c,l,lE.free m,k⟩
 ·obtain⟨a,o,g,c,l,m,k,q⟩:=f.lk i d h;obtain⟨o',e⟩:=j.lh i a c;have n:=lE (B:=Hs1) _ _ e;rw[k] at n;cases n;exact⟨a,o,g,c,l,m,e,q⟩
 ·obtain⟨a,s,O⟩:=f.o2 i d h;exact⟨a,s,O.at_,O.ob,O.nd,λb p=>⟨(O.out b p).1,lE.free (O.out b p).2⟩,O.dj,O.inn⟩
def qV.into(b:Fr K H0 Hs0 la ρ1 σ1 H1 Hs1)(q:qV K cls E H0 Hs0 la D' r):qV K cls E (v5 H0 Hs1) Hs1 la D' r:=by
 cases r with
 |no=>exact q
 |ex c n=>exact λH' a s=>q H' a (b.st.outof s)
 |ok e=>
  cases e with
  |nx ρ=>exact λσ' H' a f=>q σ' H' a (b.outof f)
  |bk ρ=>exact λσ' H' a f=>q σ' H' a (b.outof f)
  |ct ρ=>exact λσ' H' a f=>q σ' H' a (b.outof f)
  |rt d=>exact λv H' a s r=>q v H' a (b.st.outof s) r
def Fr.lock(f:Fr K H0 Hs0 la ρ σ H Hs)(A:ρ[i]?=some (Sl.own d))(k1:σ[i]?=some (some (V.ref a)))(k2:H a=some o)(k3:Hs a=none)(G:H0 a=none)(k5:pc K Hs o d):
  Fr K (v5 H0 (upd Hs a o)) Hs (λj=>if j=i then some a else la j) (ρ.set i (.lck d)) σ H Hs:=by
 have n:i<ρ.length:=(List.getElem?_eq_some_iff.mp A).1;have sub:dS (upd Hs a o) H:=λb u q=>by
  by_cases I:b=a
  ·subst I;rw[aX] at q;cases q;exact k2
  ·rw[b9 I] at q;exact f.st.sub b u q
 have nx:∀{j:Nat}{s:Sl},(∀d,s≠.lck d)->(ρ.set i (.lck d))[j]?=some s->ρ[j]?=some s/\i≠j:=λ{j s} hs e=>by
  by_cases g:i=j
  ·subst g;rw[aQ n] at e;exact absurd (bW e).symm (hs d)
  ·rw[ar g] at e;exact⟨e,g⟩
 refine⟨⟨Hm f.st.all sub,.refl _,f.st.sub,λa o e _ z=>z⟩,by simp[f.len],λj e h=>?_,λj e h=>?_,λj e h=>?_,λj k w x b m p L N=>?_,λj b h=>?_,λj e h=>?_,λj k w x m p=>?_⟩
 ·obtain⟨h,_⟩:=nx (λ_ z=>by cases z) h;exact f.sh j e h
 ·obtain⟨h,g⟩:=nx (λ_ z=>by cases z) h;obtain⟨b,u,t,B,v,y,E⟩:=f.ow j e h;refine⟨b,u,t,B,v,?_,E⟩;rw[kR y,b9 (λz=>g ?_)]
  ·exact v
  ·subst z;exact f.dj i j d e b A h k1 t
 ·by_cases g:i=j
  ·subst g;rw[aQ n] at h;cases h;exact⟨a,o,k1,if_pos rfl,k2,k3,by rw[kR G,aX],k5⟩
  ·rw[ar g] at h;obtain⟨b,u,t,B,v,y,E,M⟩:=f.lk j e h;exact⟨b,u,t,by rw[if_neg (dk g)];exact B,v,y,lE _ _ E,M⟩
 ·obtain⟨m,_⟩:=nx (λ_ z=>by cases z) m;obtain⟨p,_⟩:=nx (λ_ z=>by cases z) p;exact f.dj j k w x b m p L N
 ·by_cases g:j=i
  ·simp only[if_pos g] at h;cases h;exact⟨o,by rw[kR G,aX]⟩
  ·simp only[if_neg g] at h;obtain⟨u,e⟩:=f.lh j b h;exact⟨u,lE _ _ e⟩
 ·obtain⟨h,g⟩:=nx (λ_ z=>by cases z) h;obtain⟨b,Q,O⟩:=f.o2 j e h;refine⟨b,Q,O.at_,O.ob,O.nd,λc l=>⟨(O.out c l).1,?_⟩,λc l k P S=>O.dj c l k P (nx (λ_ z=>by cases z) S).1,O.inn⟩;rw[kR (O.out c l).2,b9 (λz=>?_)]
  ·exact(O.out c l).1
  ·subst z;exact O.dj c l i d A k1
 ·exact f.u2 j k w x (nx (λ_ z=>by cases z) m).1 (nx (λ_ z=>by cases z) p).1
def cQ.unlock(s:cQ H0 Hs0 H Hs)(t:cQ (v5 H0 (upd Hs a o)) Hs H' Hs'):cQ H0 Hs0 H' Hs':=
 ⟨lE.trans t.all,s.sh.trans t.sh,t.sub,λb u e n z=>t.out b u (lE _ _ e) n (s.out b u e n z)⟩
theorem Fr.unlock(f:Fr K H0 Hs0 la ρ σ H Hs)(E:ρ[i]?=some (Sl.own d))(k4:H0 a=none)
  (g:Fr K (v5 H0 (upd Hs a o)) Hs (λj=>if j=i then some a else la j) ρ' σ' H' Hs'):Fr K H0 Hs0 la (AX i ρ ρ') σ' H' Hs':=by
 have st:=f.st.unlock g.st;have own:∀(j:Nat) (e:D),ρ'[j]?=some (Sl.own e)->∃b u,σ'[j]?=some (some (V.ref b))/\H' b=some u/\Hs' b=none/\H0 b=none/\pc K Hs' u e/\(v5 H0 (upd Hs a o)) b=none:=λj e h=>by
  obtain⟨b,u,l,m,t,n,p⟩:=g.ow j e h;exact⟨b,u,l,m,t,lE.free n,p,n⟩
 have lck:∀(j:Nat) (e:D),j≠i->ρ'[j]?=some (Sl.lck e)->∃b u,σ'[j]?=some (some (V.ref b))/\la j=some b/\H' b=some u/\Hs' b=none/\H0 b=some u/\pc K Hs' u e:=λj e q h=>by
  obtain⟨b,u,l,m,t,n,p,Y⟩:=g.lk j e h;simp only[if_neg q] at m;obtain⟨u',T⟩:=f.lh j b m;have:=lE (B:=upd Hs a o) _ _ T;rw[p] at this;cases this;exact⟨b,u,l,m,t,n,T,Y⟩
 have two:∀(j:Nat) (e:List (List D)),ρ'[j]?=some (Sl.ow2 e)->∃b G,O2 K H0 H' Hs' ρ' σ' j e b G:=λj e h=>by
  obtain⟨b,G,O⟩:=g.o2 j e h;exact⟨b,G,O.at_,O.ob,O.nd,λc M=>⟨(O.out c M).1,lE.free (O.out c M).2⟩,O.dj,O.inn⟩
 unfold AX;cases A:ρ'[i]? with
 |none=>
  simp only[E];refine⟨st,g.len,g.sh,λj e h=>let ⟨b,u,l,m,t,n,p,_⟩:=own j e h;⟨b,u,l,m,t,n,p⟩,λj e h=>lck j e (λz=>by rw[z,A] at h;cases h) h,g.dj,f.lh,two,g.u2⟩
 |some s=>
  cases s with
  |no=>simp only[E];exact⟨st,g.len,g.sh,λj e h=>let ⟨b,u,l,m,t,n,p,_⟩:=own j e h;⟨b,u,l,m,t,n,p⟩,λj e h=>lck j e (λz=>by rw[z,A] at h;cases h) h,g.dj,f.lh,two,g.u2⟩
  |shr _=>simp only[E];exact⟨st,g.len,g.sh,λj e h=>let ⟨b,u,l,m,t,n,p,_⟩:=own j e h;⟨b,u,l,m,t,n,p⟩,λj e h=>lck j e (λz=>by rw[z,A] at h;cases h) h,g.dj,f.lh,two,g.u2⟩
  |own _=>simp only[E];exact⟨st,g.len,g.sh,λj e h=>let ⟨b,u,l,m,t,n,p,_⟩:=own j e h;⟨b,u,l,m,t,n,p⟩,λj e h=>lck j e (λz=>by rw[z,A] at h;cases h) h,g.dj,f.lh,two,g.u2⟩
  |ow2 _=>simp only[E];exact⟨st,g.len,g.sh,λj e h=>let ⟨b,u,l,m,t,n,p,_⟩:=own j e h;⟨b,u,l,m,t,n,p⟩,λj e h=>lck j e (λz=>by rw[z,A] at h;cases h) h,g.dj,f.lh,two,g.u2⟩
  |lck d'=>
   simp only[E];have L:i<ρ'.length:=(List.getElem?_eq_some_iff.mp A).1;have nx:∀{j:Nat}{s:Sl},(∀d,s≠.own d)->(ρ'.set i (.own d'))[j]?=some s->ρ'[j]?=some s/\i≠j:=λ{j s} hs e=>by
    by_cases q:i=j
    ·subst q;rw[aQ L] at e;exact absurd (bW e).symm (hs d')
    ·rw[ar q] at e;exact⟨e,q⟩
   obtain⟨b,u,l,m,t,n,p,Y⟩:=g.lk i d' A;simp only[if_pos rfl] at m;cases m;have ne:∀(j:Nat) (e:D),ρ'[j]?=some (Sl.own e)->σ'[j]?≠some (some (V.ref a)):=λj e h z=>by
    obtain⟨b,u,U,_,_,_,_,p6⟩:=own j e h;rw[z] at U;cases U;rw[p] at p6;cases p6
   refine⟨st,by simp[g.len],λj e h=>?_,λj e h=>?_,λj e h=>?_,λj k N Q c v I P S=>?_,f.lh,λj e h=>?_,λj k N Q v I=>?_⟩
   ·obtain⟨h,_⟩:=nx (λ_ z=>by cases z) h;exact g.sh j e h
   ·by_cases q:i=j
    ·subst q;rw[aQ L] at h;cases h;exact⟨a,u,l,t,n,k4,Y⟩
    ·rw[ar q] at h;obtain⟨b,u,U,p2,p3,p4,p5,_⟩:=own j e h;exact⟨b,u,U,p2,p3,p4,p5⟩
   ·obtain⟨h,q⟩:=nx (λ_ z=>by cases z) h;exact lck j e (dk q) h
   ·by_cases q:i=j
    ·by_cases w:i=k
     ·exact q.symm.trans w
     ·rw[ar w] at I;subst q;rw[l] at P;cases P;exact(ne k Q I S).elim
    ·rw[ar q] at v;by_cases w:i=k
     ·subst w;rw[l] at S;cases S;exact(ne j N v P).elim
     ·rw[ar w] at I;exact g.dj j k N Q c v I P S
   ·obtain⟨h,q⟩:=nx (λ_ z=>by cases z) h;obtain⟨b,G,O⟩:=two j e h;refine⟨b,G,O.at_,O.ob,O.nd,O.out,λc M k T w=>?_,O.inn⟩;by_cases nk:i=k
    ·subst nk;intro z;rw[l] at z;cases z;obtain⟨b',X,O'⟩:=g.o2 j e h;have hh:=O.at_;rw[O'.at_] at hh;cases hh;have hs:X=G:=by
      have v:=O.ob;rw[O'.ob] at v;injection v with v;injection v with v;exact Pe (λx y z=>by cases z;rfl) |>.mp v
     subst hs;have:=(O'.out _ M).2;rw[p] at this;cases this
    ·rw[ar nk] at w;exact O.dj c M k T w
   ·exact g.u2 j k N Q (nx (λ_ z=>by cases z) v).1 (nx (λ_ z=>by cases z) I).1
def qx(a:aE->R (List D))(kt:D->aE->R aE)(gb:aE->R Fl):aE->R Fl:=λρ=>match a ρ with
 |.ok ds=>lP kt gb ds ρ
 |_=>.no
def rO(m:c.X.calm=true)(p:KJ c.nox tg iter gi)(y:JG c.nox tg kt)(t:Mh c.nox body gbd)(hs:∀x,bS iter c.X.env x=pure x:=by intro _;rfl):JS c (.For tg iter body [] pos) (qx gi kt gbd):=.of λρ=>by
 refine QY (AQ (PY yg m (p ρ) (g:=λv a H Q=>∃ ρ d,YB c.X.K ρ d (kt d ρ) v a H Q) (tb:=λD a H=>∃ ρ,SR c.X.K c.cls E0 ρ (gbd ρ) D a H) ?_ ?_ hs) λD a H ⟨o,l,la,Hs,f,q⟩=>?_)
 ·exact λb s a H v u Q I r i=>by obtain⟨ρ,d,q⟩:=i;exact y ρ d b s a H v u Q I r q
 ·exact λb s a H D I k=>by obtain⟨ρ,q⟩:=k;exact t ρ b s a H D I q
 ·refine⟨o,l,la,Hs,f,?_⟩;unfold qx at q;cases j:gi ρ with
  |no=>rw[j] at q;exact q
  |ex x n=>rw[j] at q;exact q.elim
  |ok ds=>
   rw[j] at q;intro J z w s1 it;have e:=f.step s1;exact QZ (E:=c.E) (cls:=c.cls) (kt:=kt) (gb:=gbd) (tg:=λv a H Q=>∃ ρ d,YB c.X.K ρ d (kt d ρ) v a H Q) (tb:=λD a H=>∃ ρ,SR c.X.K c.cls E0 ρ (gbd ρ) D a H) it (Q_ e.st.all e.st.sub) e.into (λρ d v a H Q h=>⟨ρ,d,h⟩) (λρ D a H h=>⟨ρ,h⟩) (qV.into e q)
def xk(i:Nat)(kt:D->aE->R aE)(gb:aE->R Fl):aE->R Fl:=λρ=>match ρ[i]? with
 |some (Sl.own (.list ds))=>unl i ρ (lP kt gb ds (Fd i ρ))
 |_=>qx (gG λρ=>Jp ρ i) kt gb ρ
theorem AY{kt:D->aE->R aE}{gb:aE->R Fl}:∀(ds:List D) (ρ:aE) (a:Fl),lP kt gb ds ρ=.ok a->(∃ ρ',a=.nx ρ')\/∃d,a=.rt d
 |[],ρ,a,h=>by cases h;exact .inl ⟨_,rfl⟩
 |d::r,ρ,a,h=>by
  unfold lP at h;split at h
  ·split at h
   ·exact AY r _ _ h
   ·exact AY r _ _ h
   ·cases h;exact .inl ⟨_,rfl⟩
   ·cases h;exact .inr ⟨_,rfl⟩
   ·cases h
  ·cases h
theorem Fe{kt:D->aE->R aE}{gb:aE->R Fl}:∀(ds:List D) (ρ:aE) (c:Str) (n:Option D),lP kt gb ds ρ≠.ex c n
 |[],ρ,c,n,h=>by cases h
 |d::r,ρ,c,n,h=>by
  unfold lP at h;split at h
  ·split at h
   ·exact Fe r _ _ _ h
   ·exact Fe r _ _ _ h
   ·cases h
   ·cases h
   ·cases h
  ·cases h
def Vb(i:Nat)(M:c.X.calm=true)(U:JG c.nox tg kt)(t:Mh c.nox body gbd)(G:c.X.N[i]?=some x:=by rfl)(T:Pi c.X.env.scope x:=by first|exact io rfl|exact fk (io rfl)|exact fk (fk rfl))(S:(x==("__debug__" : Str))=false:=by decide)
  (m:(x==("__classdict__" : Str))=false:=by decide) (hs:∀y,bS (.Name x p) c.X.env y=pure y:=by intro _;rfl):JS c (.For tg (.Name x p) body [] pos) (xk i kt gbd):=.of λρ=>by
 by_cases ho:∃ds,ρ[i]?=some (Sl.own (.list ds))
 ·obtain⟨ds,ho⟩:=ho;refine QY (AQ (PY (tg:=tg) yg M (wI (X:=c.nox.X) (qp G T S m)) (g:=λv j H Q=>∃ ρ d,YB c.X.K ρ d (kt d ρ) v j H Q) (tb:=λD j H=>∃ ρ,SR c.X.K c.cls E0 ρ (gbd ρ) D j H) ?_ ?_ hs) λD j H ⟨H0,a0,la,Hs,f,q⟩=>?_)
  ·exact λk s j H v u Q I r z=>by obtain⟨ρ,d,q⟩:=z;exact U ρ d k s j H v u Q I r q
  ·exact λk s j H D I A=>by obtain⟨ρ,q⟩:=A;exact t ρ k s j H D I q
  ·obtain⟨a,o,k1,k2,k3,L,k5⟩:=f.ow i _ ho;cases k5 with
   | @lst B _ r=>
    refine⟨_,k1,a,rfl,⟨_,.of k2⟩,?_⟩;have Y:oZ c.X.K (upd Hs a (.lst B)) a B:=.of aX;unfold xk at q;simp only[ho] at q;have O:=f.lock ho k1 k2 k3 L (.lst r);have sub:dS (upd Hs a (.lst B)) H:=λb u q=>by
     by_cases t:b=a
     ·subst t;rw[aX] at q;cases q;exact k2
     ·rw[b9 t] at q;exact f.st.sub b u q
    refine QZ (E:=c.E) (cls:=c.cls) (kt:=kt) (gb:=gbd) (ρ:=Fd i ρ) (Hs:=Hs) (la:=λP=>if P=i then some a else la P) (tg:=λv j H Q=>∃ ρ d,YB c.X.K ρ d (kt d ρ) v j H Q) (tb:=λD j H=>∃ ρ,SR c.X.K c.cls E0 ρ (gbd ρ) D j H) (Fa Y r) (Q_ f.st.all sub) ?_ (λρ d v j H Q h=>⟨ρ,d,h⟩) (λρ D j H h=>⟨ρ,h⟩) ?_
    ·unfold Fd;rw[ho];exact O
    ·cases w:lP kt gbd ds (Fd i ρ) with
     |no=>rw[w] at q;exact q
     |ex c n=>exact(Fe _ _ _ _ w).elim
     |ok O=>
      rw[w] at q;rcases AY _ _ _ w with⟨ρ',rfl⟩|⟨d,rfl⟩
      ·exact λσ' H' l f'=>q σ' H' l (f.unlock ho L f')
      ·exact λv H' l s r=>q v H' l (f.st.unlock s) r
 ·have e:xk i kt gbd ρ=qx (gG λρ=>Jp ρ i) kt gbd ρ:=by
   unfold xk;split
   ·rename_i ds h;exact(ho ⟨ds,h⟩).elim
   ·rfl
  rw[e];exact rO M (Ab (c:=c.nox) (ao (c:=c.nox) i G T S m)) U t hs ρ
def iM(t:aE->R Bool)(b:aE->R Fl):Nat->aE->R Fl
 | 0,_=>.no
 |n+1,ρ=>match t ρ with
  |.ok true=>match b ρ with
   |.ok (.nx ρ')=>iM t b n ρ'
   |.ok (.ct ρ')=>iM t b n ρ'
   |.ok (.bk ρ')=>.ok (.nx ρ')
   |.ok (.rt d)=>.ok (.rt d)
   |_=>.no
  |.ok false=>.ok (.nx ρ)
  |_=>.no
def Ho(n:Nat)(y:JT c.nox t gt)(A:Mh c.nox body gbd):JS c (.While t body [] pos) (iM gt gbd n):=.of λρ=>by
 refine QY (AQ (PR yg (tc:=λg H Q=>∃ ρ,Hg c.X.K c.cls E0 ρ (gt ρ) g H Q) (tb:=λD g H=>∃ ρ,SR c.X.K c.cls E0 ρ (gbd ρ) D g H) ?_ ?_) λD g H ⟨k,e,la,Hs,f,q⟩=>?_)
 ·exact λi s g H Q I u=>by obtain⟨ρ,q⟩:=u;exact y ρ i s g H Q I q
 ·exact λi s g H D I p=>by obtain⟨ρ,q⟩:=p;exact A ρ i s g H D I q
 ·refine⟨λm g H=>∃ ρ Hs,Fr c.X.K k e la ρ g H Hs/\qV c.X.K c.cls c.E k e la D (iM gt gbd m ρ),⟨n,ρ,Hs,f,q⟩,?_⟩;rintro m g H ⟨ρ,Hs,f,q⟩;cases m with
  |zero=>exact q.elim
  |succ m=>
   unfold iM at q;refine⟨ρ,k,e,la,Hs,f,?_⟩;cases v:gt ρ with
   |no=>rw[v] at q;exact q
   |ex x n=>rw[v] at q;exact q.elim
   |ok b=>
    rw[v] at q;intro w l s1;cases b with
    |false=>exact wP (q g w l (f.step s1))
    |true=>
     refine zP ⟨λσ' H'=>∃ ρ' a,Fr c.X.K k e la ρ' σ' H' a/\qV c.X.K c.cls c.E k e la D (iM gt gbd m ρ'),λσ' H' h=>⟨m,gX _,h⟩,ρ,k,e,la,l,f.step s1,?_⟩;cases j:gbd ρ with
     |no=>simp only[j] at q;exact q
     |ex x n=>simp only[j] at q;exact q.elim
     |ok z=>
      simp only[j] at q;cases z with
      |nx ρ'=>exact λσ' H' a o=>⟨ρ',a,o,q⟩
      |ct ρ'=>exact λσ' H' a o=>⟨ρ',a,o,q⟩
      |bk ρ'=>exact λσ' H' a o=>q σ' H' a o
      |rt d=>exact q
def vQ(i:Nat)(g:aE->R D):aE->R Fl:=λρ=>match ρ[i]? with
 |some (Sl.own (.list ds))=>(g ρ).bind λd=>if ds.length<1000 then .ok (.nx (ρ.set i (.own (.list (ds++[d]))))) else .no
 |_=>.no
def uu(i:Nat)(h:JE c e g)(y:c.X.N[i]?=some x:=by rfl)(M:Pi c.X.env.scope x:=by first|exact io rfl|exact fk (io rfl)|exact fk (fk rfl))(I:(x==("__debug__" : Str))=false:=by decide)
  (s:(x==("__classdict__" : Str))=false:=by decide)
  (k:Np (.Name x p) "append" c.X.env (eu (.Name x p) c.X.env)=eu (.Name x p) c.X.env:=by rfl)
  (m:((hG cpos (aF [e] c.X.env)).all (λx=>!x.1)&&(backToKw cpos (U1 [] c.X.env)).all (λx=>x.1.isSome)
   && decide ([e].length+([]:List Jj).length+(if([]:List Jj).isEmpty then 0 else 1)<30))=true:=by rfl)
  (j:(apos.endLine==cpos.line)=true:=by rfl) (l:aF [e] c.X.env=(false,eu e c.X.env)::aF [] c.X.env:=by rfl) (b:(hG cpos (aF [] c.X.env)).any (·.1)=false:=by rfl)
  (hs:j6 (.Call (.Attribute (.Name x p) "append" apos) [e] [] cpos) none pos.line c.X.env=pure false:=by rfl):
  JS c (.Expr (.Call (.Attribute (.Name x p) "append" apos) [e] [] cpos) pos) (vQ i g):=.of λρ=>by
 refine AQ (wH (Dk fW Ce Cf Dl (qp y M I s) (cE (h ρ) f_ l) k m j l b) hs) λD S H n=>?_;obtain⟨z,u,la,Hs,f,q⟩:=n;replace q:qV c.X.K c.cls c.E z u la D (vQ i g ρ):=q;unfold vQ at q;split at q
 ·rename_i ds ho
  obtain⟨a,o,k1,k2,k3,Q,k5⟩:=f.ow i _ ho;cases k5 with
  | @lst O _ r=>
   refine⟨_,k1,.inl ⟨rfl,_,.of k2⟩,?_⟩;refine sE f q λd v P t B s1 A G=>?_;rw[B,bind_ok] at q;by_cases w:ds.length<1000
   ·rw[if_pos w] at q;have L:=r.same s1.sh;exact⟨a,O,v,rfl,rfl,s1.all _ _ k2,cV (by rw[r.length];omega),q _ _ t (A.write i ho k1 (.lst (L.append (.cons G .nil))))⟩
   ·rw[if_neg w] at q;exact q.elim
 ·exact q.elim
def tU:D->Option ip
 |.int i=>some (.inl i)
 |.str x=>some (.inr x)
 |_=>none
def AZ(h:tU d=some y):d=kD y:=by
 cases d<;>cases h<;>rfl
@[simp] theorem keyOf_of (y:ip):tU (kD y)=some y:=by cases y<;>rfl
def yy(a:List (D×D))(k d:D):List (D×D):=if a.any (λb=>bn b.1 k) then a.map (λb=>if bn b.1 k then(b.1,d) else b) else a++[(k,d)]
def Ff(a b:ip):bn (kD a) (kD b)=decide (a=b):=by
 cases a<;>cases b<;>simp[kD,bn,ul]
def RDk.any(y:ip):∀{ds:List (D×D)},RDk K H kvs ds->(ds.any λa=>bn a.1 (kD y))=kvs.any λa=>decide (a.1=y):=by
 induction kvs with
 |nil=>intro ds h;cases h;rfl
 |cons x r b=>intro ds h;cases h with|cons h t=>rw[dR,dR,b t,Ff]
theorem RDk.repl(y:ip)(c:RD K H v d):∀{b:List (ip×V)}{ds:List (D×D)},RDk K H b ds ->
  RDk K H (b.map λa=>if a.1=y then(a.1,v) else a) (ds.map λa=>if bn a.1 (kD y) then(a.1,d) else a)
 |_,_,.nil=>.nil
 |_,_,.cons (k:=k) h t=>by
  rw[ay,ay];have e:=Ff k y;by_cases f:k=y
  ·subst f;rw[show(if k=k then(k,v) else(k,_))=(k,v) from if_pos rfl,show(if bn (kD k) (kD k)=true then(kD k,d) else(kD k,_))=(kD k,d) from if_pos (by rw[e];simp)];exact .cons c (RDk.repl k c t)
  ·simp only[e,f,if_neg,decide_false,bg,not_false_eq_true];exact .cons h (RDk.repl y c t)
theorem RDk.snoc(y:ip)(b:RD K H v d):∀{a:List (ip×V)}{ds:List (D×D)},RDk K H a ds->RDk K H (a++[(y,v)]) (ds++[(kD y,d)])
 |_,_,.nil=>.cons b .nil
 |_,_,.cons h t=>.cons h (RDk.snoc y b t)
def RDk.put(r:RDk K H kvs ds)(y:ip)(a:RD K H v d):RDk K H (o_ kvs y v) (yy ds (kD y) d):=by
 unfold o_ yy;rw[r.any y];split
 ·exact r.repl y a
 ·exact r.snoc y a
def iY(a:List (D×D)):Bool:=a.all λb=>(tU b.1).isSome
def Fg(i:Nat)(b g:aE->R D):aE->R Fl:=λρ=>match ρ[i]? with
 |some (Sl.own (.dict a))=>(g ρ).bind λd=>(b ρ).bind λk=>match tU k with
  |some _=>if a.length<1000/\iY a=true then .ok (.nx (ρ.set i (.own (.dict (yy a k d))))) else .no
  |none=>.no
 |_=>.no
def KM(h:RD K H v (kD y)):v=kV y:=by
 cases y<;>cases h<;>rfl
def RDt.flat(h:RDt K H kvs ds)(f:iY ds=true):kvs=[]/\ds=[]:=by
 cases h with
 |nil=>exact⟨rfl,rfl⟩
 |cons h t=>simp[iY,tD,tU] at f
def Mk(i:Nat)(h:JE c e g)(hk:JE c k gk)(hu:c.X.A.units+1<eQ)(hN:c.X.N[i]?=some x:=by rfl)(hv:Pi c.X.env.scope x:=by first|exact io rfl|exact fk (io rfl)|exact fk (fk rfl))(hd:(x==("__debug__" : Str))=false:=by decide)
  (I:(x==("__classdict__" : Str))=false:=by decide) (hs:j6 e (some (.Subscript (.Name x p) k apos)) pos.line c.X.env=pure false:=by rfl):JS c (.Assign [.Subscript (.Name x p) k apos] e pos) (Fg i gk g):=.of λρ=>by
 refine AQ (M6 hu (qp hN hv hd I) (hk ρ) (h ρ) hs) λD U H M=>?_
 obtain⟨Y,B,la,Hs,f,q⟩:=M
 replace q:qV c.X.K c.cls c.E Y B la D (Fg i gk g ρ):=q
 unfold Fg at q
 split at q
 ·rename_i j ho
  obtain⟨a,o,k1,k2,k3,k4,k5⟩:=f.ow i _ ho
  have l:∀{H:Hp}{Q:List (ip×V)},Fr c.X.K Y B la ρ U H Hs->H a=some (.dK Q)->RDk c.X.K Hs Q j->WS (NG i) (TR c.X.K c.cls c.E ρ (gk ρ)) (TR c.X.K c.cls c.E ρ (g ρ)) D U H:=λ{H Q} f k2 r=>by
   refine sE f q λd v S m t s1 s O=>?_
   rw[t,bind_ok] at q
   refine⟨_,k1,sE s q λy w H2 b G u L P=>?_⟩
   rw[G,bind_ok] at q
   split at q
   ·rename_i ky hy
    obtain rfl:=AZ hy
    by_cases T:j.length<1000/\iY j=true
    ·rw[if_pos T] at q
     have ha:=u.all _ _ (s1.all _ _ k2)
     have r':=(r.same s1.sh).same u.sh
     rw[KM P]
     exact⟨a,_,rfl,GO.k ha (cV (by rw[r.length];omega)),q _ _ b (L.write i ho k1 (.dK (r'.put ky (O.same u.sh))))⟩
    ·rw[if_neg T] at q;exact q.elim
   ·exact q.elim
  cases k5 with
  |dK r=>exact l f k2 r
  |dT n r=>
   refine sE f q λd v S m t s1 s O=>?_
   rw[t,bind_ok] at q
   refine⟨_,k1,sE s q λy w H2 b G u L P=>?_⟩
   rw[G,bind_ok] at q
   split at q
   ·rw[if_neg (λz=>n (r.flat z.2).1)] at q;exact q.elim
   ·exact q.elim
  |dF n r=>
   refine sE f q λd v S m t s1 s O=>?_
   rw[t,bind_ok] at q
   refine⟨_,k1,sE s q λy w H2 b G u L P=>?_⟩
   rw[G,bind_ok] at q
   split at q
   ·rw[if_neg (λz=>by cases z.2)] at q;exact q.elim
   ·exact q.elim
 ·exact q.elim
def nj(a:List (D×D))(k:D):Option D:=(a.find? λb=>bn b.1 k).map (·.2)
theorem RDk.val:∀{a:List (ip×V)}{ds:List (D×D)},RDk K H a ds->∀(y:ip),(qP a y=none/\nj ds (kD y)=none)\/∃v d,qP a y=some v/\nj ds (kD y)=some d/\RD K H v d
 |_,_,.nil,y=>.inl ⟨rfl,rfl⟩
 |_,_,.cons (k:=k) h t,y=>by
  unfold qP nj;rw[cC,cC,Ff];by_cases b:k=y
  ·simp only[b,decide_true,dm];exact .inr ⟨_,_,rfl,rfl,h⟩
  ·simp only[b,decide_false];exact RDk.val t y
def bc:D->D->R D
 |.dict a,k=>match tU k with
  |some _=>if iY a=true then(match nj a k with
   |some d=>.ok d
   |none=>.no) else .no
  |none=>.no
 |x,k=>KI x k
def b_(M:c.X.A.units+1<eQ)(B:JB c a ga)(E:JB c b gb)(hs:wL b:=by exact λ_ _=>rfl):JE c (.Subscript a b pos) (g2 ga gb bc):=.of λρ=>by
 by_cases i:∃g,ga ρ=.ok (.dict g)
 ·obtain⟨g,i⟩:=i;refine sK (M5 M (B ρ) (E ρ) hs) λN H Q m=>?_;obtain⟨H0,a0,la,Hs,f,q⟩:=m;refine one f q λd v H1 T G s1 U r1=>?_;rw[i] at G;cases G;unfold g2 at q;rw[i,bind_ok] at q;refine one U (q.on s1 (q':=λ_=>True) λ_ _=>trivial) λy w Y t e2 I P z=>?_;rw[e2,bind_ok] at q;unfold bc at q;simp only at q;split at q
  ·rename_i x L
   obtain rfl:=AZ L;by_cases j:iY g=true
   ·rw[if_pos j] at q;obtain⟨p,rfl,h⟩:=(r1.step I).dict P.st.sub;have S:w=kV x:=by
     rcases z with z|⟨_,o,rfl,_,_,ow⟩
     ·exact KM z
     ·cases x<;>cases ow
    subst S;rcases h with⟨K,n,l⟩|⟨K,n,hn,l⟩|⟨o,K,es,rfl,n,hn,l⟩
    ·rcases l.val x with⟨_,s⟩|⟨u,d,s,h4,h5⟩
     ·rw[s] at q;exact q.elim
     ·rw[h4] at q;exact⟨p,u,rfl,by rw[<- s];exact zQ.k n,q _ Y t (s1.trans I) h5⟩
    ·exact(hn (l.flat j).1).elim
    ·cases j
   ·rw[if_neg j] at q;exact q.elim
  ·exact q.elim
 ·refine sK (q0o B E hs ρ) λN H Q q=>?_;have e:g2 ga gb bc ρ=g2 ga gb KI ρ:=by
   unfold g2;cases O:ga ρ with
   |ok d=>
    cases d with
    |dict g=>exact(i ⟨g,O⟩).elim
    |_=>rfl
   |_=>rfl
  rw[e] at q;exact q
def mn:D->R D
 |.dict a=>if iY a=true then .ok (.list (a.map (·.1))) else .no
 |x=>zj x
theorem Hq:∀{a:List (ip×V)}{ds:List (D×D)},RDk K H a ds->RDs K H (a.map λp=>kV p.1) (ds.map (·.1))
 |_,_,.nil=>.nil
 |_,_,.cons (k:=k) h t=>.cons (by cases k<;>constructor) (Hq t)
def A_(z:X.calm=true):O4 X (.type "list") (il mn):=by
 refine tQ (λd c n=>?_) λf s t H x u Q Hs d d' I w sub m g q=>?_
 ·unfold mn zj;split<;>(try split)<;>(try split)<;>exact λh=>by cases h
 ·by_cases y:∃b,d=.dict b
  ·obtain⟨b,rfl⟩:=y;unfold mn at g;simp only at g;split at g
   ·rename_i v
    cases g;obtain⟨a,rfl,⟨k,j,i⟩|⟨k,j,n,i⟩|⟨o,k,es,rfl,j,n,i⟩⟩:=m.dict sub
    ·exact AN z f s t H _ _ Q I (.cons w .nil) ⟨a,k,rfl,j,λl p=>q _ _ _ (.new sub p) (.list (.of aX) ((Hq i).same (cQ.new sub p).sh))⟩
    ·exact(n (i.flat v).1).elim
    ·cases v
   ·cases g
  ·have e:mn d=zj d:=by
    cases d with
    |dict b=>exact(y ⟨b,rfl⟩).elim
    |_=>rfl
   rw[e] at g;exact(V5 (X:=X)).1 f s t H [x] [u] Q I (.cons w .nil) ⟨Hs,[d],sub,.cons m .nil,d',g,q⟩
section
open PyProof.Rows (envOfC)
section
variable{c:C}{e a b d:bC}{g ga gb gc:aE->R D}{pos p cpos:Pos}{x:Str}
def R1(hx:∀x y c n,h x y≠.ex c n)(m:∀x y c n,h' x y≠.ex c n)(q:TR K cls E ρ (tO ga gb gc h h' ρ) σ H Q):
  Kh (rD K h) (rD K h') (TB K cls E ρ (ga ρ)) (TB K cls E ρ (gb ρ)) (TB K cls E ρ (gc ρ)) σ H Q:=by
 obtain⟨H0,a0,la,Hs,f,q⟩:=q;refine one f q λx v H1 P e1 s1 X r1=>?_;unfold tO at q;rw[e1,bind_ok] at q;refine one X (q.on s1 (q':=λ_=>True) λ_ _=>trivial) λy u H2 B e2 l I L=>?_;rw[e2,bind_ok] at q;cases j:h x y with
 |ex c n=>exact(hx x y c n j).elim
 |no=>rw[j] at q;exact q.elim
 |ok z=>
  rw[j,bind_ok] at q;refine⟨B,x,y,I.st.sub,r1.step l,L,z,j,λw U o s3 r3=>?_⟩;cases r3 with
  |bool k=>
   refine⟨k,rfl,?_⟩;have T:=I.step s3;cases k with
   |false=>exact wP (q _ U o (s1.trans (l.trans s3)) (.bool _))
   |true=>
    refine zP (one T (q.on (s1.trans (l.trans s3)) (q':=λ_=>True) λ_ _=>trivial) λt u' H4 A N G M S=>?_);simp only[N,bind_ok] at q;cases i:h' y t with
    |ex c n=>exact(m y t c n i).elim
    |no=>rw[i] at q;exact q.elim
    |ok Y=>
     rw[i] at q;exact⟨A,y,t,M.st.sub,(L.step s3).step G,S,Y,i,λw H5 s O r5=>q w H5 s (s1.trans (l.trans (s3.trans (G.trans O)))) r5⟩
  |none=>exact q.elim
  |int _=>exact q.elim
  |str _=>exact q.elim
  |list _ _=>exact q.elim
  |tuple _ _=>exact q.elim
  |dictK _ _=>exact q.elim
  |dictT _ _ _=>exact q.elim
  |dictF _ _ _=>exact q.elim
def Hr(ho:A9 c.X (cp op) h)(f:A9 c.X (cp op') h')(k:JB c a ga)(l:JB c b gb)(j:JB c d gc)(i:P8 [op,op'] [b,d]=false:=by with_unfolding_all rfl):JE c (.Compare a [op,op'] [b,d] pos) (tO ga gb gc h h'):=
 .of λρ=>sK (P_ ho.1 f.1 (k ρ) (l ρ) (j ρ) i) λm H Q q=>R1 ho.2 f.2 q
def R4(ho:A9 c.X (cp op) h)(f:A9 c.X (cp op') h')(k:JB c a ga)(l:JB c b gb)(j:JB c d gc)(i:P8 [op,op'] [b,d]=false:=by with_unfolding_all rfl):JT c (.Compare a [op,op'] [b,d] pos) (ej (tO ga gb gc h h')):=
 .of λρ=>mPT (Q0 ho.1 f.1 (k ρ) (l ρ) (j ρ) i) λm H Q q=>R1 ho.2 f.2 (ZI q)
inductive q0w (K:a8) (w:bz) (cls:Str->ak) (E:XK) (ρ:aE) (r:R (List Str)) (σ:St) (H:Hp) (Q:VK):Prop
 |mk (H0 Hs0:Hp) (la:Nat->Option ak) (Hs:Hp) (f:Fr K H0 Hs0 la ρ σ H Hs) (q:Fin K cls E H Hs r λss=>∀p H' Hs',cQ H Hs H' Hs'->H' p=none->Q (.ref p) (upd H' p (qS w p ss))):q0w K w cls E ρ r σ H Q
def TSt(K:a8)(w:bz)(cls:Str->ak)(E:XK)(ρ:aE)(r:R (List Str)):TE:=q0w K w cls E ρ r
structure Vc (c:C) (e:bC) (g:aE->R (List Str)):Prop where of ::
 run:∀ ρ,PE c.X e (TSt c.X.K c.X.w c.cls c.E ρ (g ρ))
instance{c:C}{e:bC}{g:aE->R (List Str)}:CoeFun (Vc c e g) (λ_=>∀ ρ,PE c.X e (TSt c.X.K c.X.w c.cls c.E ρ (g ρ))):=⟨Vc.run⟩
theorem Ml{K:a8}{w:bz}{cls:Str->ak}{E:XK}{ρ:aE}{r:R (List Str)}{t:Type}{k:List Str->R t}{l:St}{H:Hp}{o j Hs:Hp}{la:Nat->Option ak}{Q:V->Hp->Prop}{q:t->Prop}(f:Fr K o j la ρ l H Hs)
  (h:Fin K cls E H Hs (r.bind k) q) (m:∀ss p H' i,r=.ok ss->cQ H Hs H' i->Fr K o j la ρ l H' i->H' p=none->Q (.ref p) (upd H' p (qS w p ss))):TSt K w cls E ρ r l H Q:=by
 refine⟨o,j,la,Hs,f,?_⟩;cases r with
 |ok d=>exact λp H' i s n=>m d p H' i rfl s (f.step s) n
 |ex c n=>exact h
 |no=>exact h
variable{gset:aE->R (List Str)}
def vR:D->R (List Str)
 |.list ds=>match fc ds with
  |some ss=>if ss.length<60 then .ok (dY [] ss) else .no
  |none=>.no
 |.tuple ds=>match fc ds with
  |some ss=>if ss.length<60 then .ok (dY [] ss) else .no
  |none=>.no
 |_=>.no
def tV(g:aE->R D):aE->R (List Str):=λρ=>(g ρ).bind vR
theorem KN(y:c.X.calm=true)(h:JB c e g)(m:Gl c.X "set")(s:c.X.mg "set"=none)(he:aF [e] c.X.env=(false,eu e c.X.env)::aF [] c.X.env:=by rfl):
  Vc c (.Call (.Name "set" p) [e] [] cpos) (tV g):=.of λρ=>by
 refine sK (Dj (Ha y) m s PyProof.Rows.boot_set (cE (h ρ) f_ he) (he:=he)) λE H Q n=>?_;obtain⟨G,A,la,Hs,f,q⟩:=n;refine one f q λd v t k z s1 u w=>?_;unfold tV at q;rw[z,bind_ok] at q;unfold vR at q;split at q
 ·split at q
  ·rename_i ss hs
   by_cases i:ss.length<60
   ·rw[if_pos i] at q;obtain⟨a,B,rfl,j,l⟩:=w.list u.st.sub;rw[mI hs] at l;rw[jJ l] at j;exact⟨a,ss,rfl,.inl j,aK (Nw i 1) ⋯,λp o=>q p t k s1 o⟩
   ·rw[if_neg i] at q;exact q.elim
  ·exact q.elim
 ·split at q
  ·rename_i ss hs
   by_cases i:ss.length<60
   ·rw[if_pos i] at q;obtain⟨a,B,rfl,j,l,_⟩:=w.tuple u.st.sub;rw[mI hs] at l;rw[jJ l] at j;exact⟨a,ss,rfl,.inr j,aK (Nw i 1) ⋯,λp o=>q p t k s1 o⟩
   ·rw[if_neg i] at q;exact q.elim
  ·exact q.elim
 ·exact q.elim
def oo(g:aE->R (List Str)):aE->R D:=λρ=>(g ρ).bind λss=>if ss.length<64 then .ok (.list ((iW ss).map .str)) else .no
def B0(s:c.X.calm=true)(h:Vc c e gset)(z:Gl c.X "sorted")(u:c.X.mg "sorted"=none)(he:aF [e] c.X.env=(false,eu e c.X.env)::aF [] c.X.env:=by rfl):
  JE c (.Call (.Name "sorted" p) [e] [] cpos) (oo gset):=.of λρ=>by
 refine sK (o6 (zR s) z u g_ (cE (h ρ) f_ he) (he:=he)) λB H Q k=>?_;obtain⟨E,A,la,Hs,f,q⟩:=k;dsimp only[L2.ZE,L2.GD,L2.Q3];refine Ml (w:=c.X.w) f q λss p n i y s1 v t=>?_;unfold oo at q;rw[y,bind_ok] at q;by_cases m:ss.length<64
 ·rw[if_pos m] at q;have j:cQ n i (upd n p (qS c.X.w p ss)) i:=.mine v.st.sub t;exact⟨p,ss,rfl,aX,m,λl o=>q _ _ _ (s1.trans (j.trans (.new j.sub o))) (.list (.of aX) (tK _))⟩
 ·rw[if_neg m] at q;exact q.elim
def xl(g:aE->R (List Str)):aE->R D:=λρ=>(g ρ).bind λss=>.ok (.int ss.length)
def O8(h:Vc c e gset)(t:Gl c.X "len")(n:c.X.mg "len"=none)(he:aF [e] c.X.env=(false,eu e c.X.env)::aF [] c.X.env:=by rfl):
  JE c (.Call (.Name "len" p) [e] [] cpos) (xl gset):=.of λρ=>by
 refine sK (o6 Cz t n cz (cE (h ρ) f_ he) (he:=he)) λv H Q j=>?_;obtain⟨y,u,la,Hs,f,q⟩:=j;dsimp only[L2.ZE,L2.GD,L2.Q3];refine Ml (w:=c.X.w) f q λss p l i s s1 o m=>?_;unfold xl at q;rw[s,bind_ok] at q;have k:cQ l i (upd l p (qS c.X.w p ss)) i:=.mine o.st.sub m;exact⟨p,ss,rfl,aX,q _ _ _ (s1.trans k) (.int _)⟩
variable{elt iter tg:bC}{ifs:List bC}{scope:eP}{N':List Str}{nt:Nat}{ix:List Nat}{gi:aE->R (List D)}{gt:aE->R Bool}{ge:aE->R D}
def yz(nt:Nat)(ix:List Nat)(gi:aE->R (List D))(gt:aE->R Bool)(ge:aE->R D):aE->R (List Str):=λρ=>(gi ρ).bind λds=>if ds.length<=60 then(fY (iX nt (l9 nt ix ρ) gt ge) ds).bind λys=>match fc ys with
 |some ss=>.ok (dY [] ss)
 |none=>.no else .no
theorem CG:∀{ss:List Str},fc (xs++ys)=some ss->∃s1 f,fc xs=some s1/\fc ys=some f/\ss=s1++f:=by
 induction xs with
 |nil=>intro ss h;exact⟨[],ss,rfl,h,rfl⟩
 |cons d r j=>
  intro ss h;cases d with
  |str b=>
   have h:(fc (r++ys)).map (b::·)=some ss:=h;cases i:fc (r++ys) with
   |none=>rw[i] at h;cases h
   |some z=>
    rw[i] at h;cases h;obtain⟨s1,f,k,l,rfl⟩:=j i;exact⟨b::s1,f,by show(fc r).map (b::·)=_;rw[k];rfl,l,rfl⟩
  |_=>cases h
theorem B4(z:Str):∀(l f:List Str),dY f (l++[z])=if z∈dY f l then dY f l else dY f l++[z]
 |[],f=>rfl
 |x::l,f=>by
  show dY _ (l++[z])=_;rw[B4 z l];rfl
inductive scI (f:D->R (Option D)) (ds:List D) (ss:List Str) (H1 Hs1:Hp) (i m:Nat) (acc:List Str) (H':Hp):Prop
 |mk (done bA zs sa sz Hs':_) (h0:ds=done++bA) (h1:done.length=i) (h2:bA.length=m) (h3:cQ H1 Hs1 H' Hs') (h4:acc=dY [] sa) (h5:sa.length<=i) (h6:fY f bA=.ok zs) (h7:fc zs=some sz) (h8:ss=sa++sz):scI f ds ss H1 Hs1 i m acc H'
theorem Vd(Y:nt=1\/nt=2)
  (q:TSt K w cls E ρ (yz nt ix gi gt ge ρ) A H Q):
  QK w nt ix (YD K cls E ρ (gi ρ)) (Fc K nt) (λA H Q=>∃ ρ',Hg K cls E0 ρ' (gt ρ') A H Q) (λA H Q=>∃ ρ',TR K cls E0 ρ' (ge ρ') A H Q) A H Q:=by
 obtain⟨H0,a6,la,Hs,f,q⟩:=q;refine⟨H0,a6,la,Hs,f,?_⟩;unfold yz at q;cases hi:gi ρ with
 |no=>rw[hi] at q;exact q
 |ex x n=>rw[hi] at q;exact q
 |ok ds=>
  rw[hi,bind_ok] at q;intro J H1 O Hn s1 sn it;by_cases hl:ds.length<=60
  ·rw[if_pos hl] at q;cases X:fY (iX nt (l9 nt ix ρ) gt ge) ds with
   |no=>rw[X] at q;exact q.elim
   |ex x n=>exact(xj (AW _ _ _ _) _ _ _ X).elim
   |ok ys=>
    rw[X,bind_ok] at q;cases hs:fc ys with
    |none=>rw[hs] at q;exact q.elim
    |some ss=>
     rw[hs] at q;obtain⟨lb,fb⟩:=(f.step s1).block nt ix;refine⟨scI (iX nt (l9 nt ix ρ) gt ge) ds ss H1 O,
      ⟨ds.length,[],ds,ys,[],ss,O,rfl,rfl,rfl,.refl s1.sub,rfl,cu _,X,hs,rfl⟩,?_⟩
     rintro i m b7 H' ⟨done,bA,zs,t,sz,P,k,l,S,st,rfl,yl,hz,G,T⟩;obtain⟨a5,s,u⟩:=it H' P (sn.trans st.all) st.sh st.sub;cases bA with
     |nil=>
      left;cases hz;cases G;rw[ck] at k T;subst T k;exact⟨s i ∅,λp hp=>q p H' P (s1.trans st) hp⟩
     |cons d bA=>
      right;have M:i<ds.length:=by rw[k,aT,aU];omega
      have a3:=iK t [];simp at a3;refine⟨a5 i M,x_ (show(dY [] t).length+1<=61 by omega) ⋯,λx H2 a2=>?_⟩;obtain⟨d',a1,hd,s2,r2⟩:=u i x H2 M a2;have a4:d'=d:=by
       rw[k,aV ∅] at hd;simp[l] at hd;exact hd.symm
      subst a4;obtain⟨o,B,j,N,rfl⟩:=rN hz;have j:=xg j;obtain⟨so,I,h,hsz,rfl⟩:=CG G;cases U:X8 nt d' (l9 nt ix ρ) with
      |no=>rw[U] at j;cases j
      |ex x n=>rw[U] at j;cases j
      |ok ρ'=>
       rw[U,bind_ok] at j;refine xi Y ((fb.step st).step s2) r2 U λb0 f2=>⟨ρ',?_⟩;refine⟨_,_,_,a1,f2,?_⟩;cases ht:gt ρ' with
       |no=>rw[ht] at j;cases j
       |ex x n=>rw[ht] at j;cases j
       |ok b=>
        rw[ht,bind_ok] at j;intro H3 L s3;cases b with
        |false=>
         rw[if_neg aG] at j;cases j;cases h;refine wP ⟨bA.length,by rw[<- S];simp,done++[d'],bA,B,t,I,L,by rw[k];simp,by simp[l],rfl,(st.trans s2).trans s3,rfl,by omega,N,hsz,by simpa using T⟩
        |true=>
         rw[if_pos rfl] at j;refine zP ⟨ρ',_,_,_,L,f2.step s3,?_⟩;cases he:ge ρ' with
         |no=>rw[he] at j;cases j
         |ex x n=>rw[he] at j;cases j
         |ok y=>
          rw[he,bind_ok] at j;cases j;intro v H4 a0 s4 r4;cases r4 with
          |str z=>
           cases h;exact⟨z,bA.length,rfl,by rw[<- S];simp,done++[d'],bA,B,t++[z],I,a0,by rw[k];simp,by simp[l],rfl,((st.trans s2).trans s3).trans s4,(B4 z t []).symm,by simp;omega,N,hsz,by rw[T];simp⟩
          |none=>cases h
          |bool _=>cases h
          |int _=>cases h
          |list _ _=>cases h
          |tuple _ _=>cases h
          |dictK _ _=>cases h
          |dictT _ _ _=>cases h
          |dictF _ _ _=>cases h
  ·rw[if_neg hl] at q;exact q.elim
def R5(nt:Nat)(f:nt=1\/nt=2)(h:c.X.calm=true)(S:lZ c.X scope N' nt ix)(i:JI c tg iter gi)(j:ut c N' scope nt tg ifs elt gt ge)(hs:∀x,bS iter c.X.env x=pure x:=by intro _;rfl):
  Vc c (.SetComp elt [⟨tg,iter,ifs,0⟩] scope pos) (yz nt ix gi gt ge):=.of λρ=>sK (KB h S (xh f) (i ρ) j.at hs) λk H Q q=>Vd f q
end
def cf(n:Nat)(ds:List D):aE:=ds.map Sl.shr++pf (n-ds.length) Sl.no
def gK(n:Nat)(g:aE->R Fl):List D->R D:=λds=>match g (cf n ds) with
 |.ok (.nx _)=>.ok .none
 |.ok (.rt d)=>.ok d
 |.ex c m=>.ex c m
 |_=>.no
def B5{n:Nat}{ds:List D}{i:Nat}{s:Sl}(h:(cf n ds)[i]?=some s):(∃d,ds[i]?=some d/\s=.shr d)\/s=.no:=by
 unfold cf at h;by_cases b:i<ds.length
 ·rw[bx (by simpa using b),aI] at h;cases a:ds[i]? with
  |none=>rw[a] at h;cases h
  |some z=>rw[a] at h;cases h;exact .inl ⟨z,rfl,rfl⟩
 ·rw[aV (by simp;omega),c8] at h;split at h<;>cases h;exact .inr rfl
def O9{N:List Str}{a:List V}{i:Nat}{v:V}(h:a[i]?=some v):(L2.start N a)[i]?=some (some v):=by
 unfold L2.start;have b:i<a.length:=(List.getElem?_eq_some_iff.mp h).1;rw[bx (by simpa using b),aI,h];rfl
theorem Fr.start{K:a8}{H Hs:Hp}{N:List Str}{b:List V}{ds:List D}(sub:dS Hs H)(r:RDs K Hs b ds):Fr K H Hs (λ_=>none) (cf N.length ds) (L2.start N b) H Hs:= by
  have c:= r.length;refine⟨.refl sub,by simp[cf,L2.start,c],λi d h=>?_,λi d h=>?_,λi d h=>?_,λi j d e a h _ _ _=>?_,λi a h=>(nomatch h),λi d h=>?_,λi j d e h _=>?_⟩
  · rcases B5 h with⟨z,f,e⟩ | e
    · cases e;obtain⟨v,k1,k2⟩:= r.get' f;exact⟨v,O9 k1,k2⟩
    · cases e
  all_goals (rcases B5 h with⟨z,_,e⟩ | e <;> cases e)
def X9(F:GJ K x qual st f fd)(S:bM N ps (aB st))
  (h:∀(a:ag) (A:cg) (outer:List Env) (s:aq) (H:Hp) (E:XK),l8 k (A.deeper (kA qual (aB st) s.heap.objs.size f a))->Mh ⟨kC (oS P w) P w K mg base N qual (aB st) f a A outer s H E,cls,E⟩ (jG st) g):
  u_ P w K mg base (oS P w) (k+1) f fd ps (X6 K cls ps.length (gK N.length g)):=by
 obtain⟨I,L,kV,o,G,an,a,ct,u,rfl,y,e⟩:=F.ex;refine WL y e S (λB H Q E i=>by obtain⟨Hs,ds,sub,m,r,q⟩:=i;exact by rw[r.length];exact m) λA outer s H B Q E t j=>?_;obtain⟨Hs,ds,sub,m,r,q⟩:=j;refine⟨_,h a A outer s H E t (cf N.length ds),H,Hs,_,Hs,Fr.start sub r,?_⟩;unfold gK at q;cases l:g (cf N.length ds) with
 |no=>rw[l] at q;exact q
 |ex c n=>rw[l] at q;exact q
 |ok p=>
  rw[l] at q;cases p with
  |nx ρ'=>exact λσ' H' b z=>q .non H' b z.st .none
  |rt d=>exact λv H' b s r=>q v H' b s r
  |bk ρ'=>exact q.elim
  |ct ρ'=>exact q.elim
def q0x(F:GJ K x qual st f fd)(S:bM N ps (aB st))(b:mg x=some (.ref f))(c:lC K fd ps [])
  (h:∀(a:ag) (A:cg) (outer:List Env) (s:aq) (H:Hp) (E:XK),l8 k (A.deeper (kA qual (aB st) s.heap.objs.size f a))->Mh ⟨kC (oS P w) P w K mg base N qual (aB st) f a A outer s H E,cls,E⟩ (jG st) g):
  Fn P w K mg base cls x (k+1) ps.length (gK N.length g):=⟨f,fd,ps,X9 F S h,b,F.kp,c⟩
def eL:lD (oS X.prog X.w) X E0:=λ_ _ _ _ _ _ _ h=>by
 obtain⟨_,_,_,_,_,_,_,_,_,q⟩:=h;exact q.elim
end
def clear2(ρ:aE):aE:=ρ.map λs=>match s with
 |.ow2 _=>.no
 |s=>s
theorem Fr.clear2(f:Fr K H0 Hs0 la ρ σ H Hs):Fr K H0 Hs0 la (clear2 ρ) σ H Hs/\∀(j:Nat) (d:List (List D)),¬ (J.clear2 ρ)[j]?=some (Sl.ow2 d):=by
 have un:∀{j:Nat}{s:Sl},(J.clear2 ρ)[j]?=some s->(∀d,s≠.ow2 d)/\(ρ[j]?=some s\/s=.no):=λ{j s} e=>by
  unfold J.clear2 at e;rw[aI] at e;cases h:ρ[j]? with
  |none=>rw[h] at e;cases e
  |some t=>
   rw[h] at e;cases t with
   |ow2 d=>cases e;exact⟨λ_ z=>(by cases z),.inr rfl⟩
   |no=>cases e;exact⟨λ_ z=>(by cases z),.inl rfl⟩
   |shr d=>cases e;exact⟨λ_ z=>(by cases z),.inl rfl⟩
   |lck d=>cases e;exact⟨λ_ z=>(by cases z),.inl rfl⟩
   |own d=>cases e;exact⟨λ_ z=>(by cases z),.inl rfl⟩
 have c:∀{j:Nat}{s:Sl},s≠.no->(J.clear2 ρ)[j]?=some s->ρ[j]?=some s:=λ{j s} n e=>(un e).2.resolve_right n;have b:∀(j:Nat) (d:List (List D)),¬ (J.clear2 ρ)[j]?=some (Sl.ow2 d):=λj d e=>(un e).1 d rfl;exact⟨⟨f.st,by simp[J.clear2,f.len],λj d h=>f.sh j d (c (λz=>by cases z) h),λj d h=>f.ow j d (c (λz=>by cases z) h),λj d h=>f.lk j d (c (λz=>by cases z) h),λj k d e a g i=>f.dj j k d e a (c (λz=>by cases z) g) (c (λz=>by cases z) i),f.lh,λj d h=>(b j d h).elim,λj k d e h _=>(b j d h).elim⟩,b⟩
def tW:List ak->Hp->Hp
 |[],H=>H
 |a::b,H=>tW b (upd H a (.lst []))
theorem B6:∀(c:List ak) (H:Hp),(∀a∈c,H a=none)->c.Nodup->dS H (tW c H)
 |[],H,_,_=>.refl H
 |a::c,H,h,e=>by
  obtain⟨f,g⟩:=List.nodup_cons.mp e;refine(ki (h a ap)).trans (B6 c _ (λb d=>?_) g);rw[b9 (λ(z:b=a)=>f (z ▸ d))];exact h b (ai _ d)
theorem Ht:∀(d:List ak) (H:Hp),d.Nodup->∀a∈d,tW d H a=some (.lst [])
 |a::d,H,i,b,k=>by
  obtain⟨l,j⟩:=List.nodup_cons.mp i;show tW d (upd H a (.lst [])) b=_;by_cases f:b∈d
  ·exact Ht d _ j b f
  ·have e:b=a:=(List.mem_cons.mp k).resolve_right f;subst e;have:∀(d:List ak) (H:Hp),b∉d->tW d H b=H b:=by
    intro d;induction d with
    |nil=>intro H _;rfl
    |cons c d g=>
     intro H h;show tW d (upd H c (.lst [])) b=_;rw[g _ (λz=>h (ai _ z)),b9 (λ(z:b=c)=>h (by rw[z];exact ap))]
   rw[this d _ f,aX]
theorem oq:∀(d:List ak) (H:Hp) (b:ak),tW d H b=none->H b=none/\b∉d
 |[],H,b,h=>⟨h,by simp⟩
 |a::d,H,b,h=>by
  obtain⟨c,f⟩:=oq d (upd H a (.lst [])) b h;by_cases e:b=a
  ·subst e;rw[aX] at c;cases c
  ·rw[b9 e] at c;exact⟨c,λz=>(List.mem_cons.mp z).elim e f⟩
def Ve(i:Nat):aE->R Fl:=λρ=>.ok (.nx ((clear2 ρ).set i (.ow2 [[],[],[],[]])))
def YF(i:Nat)(hN:c.X.N.Nodup)(A:c.X.N[i]?=some x:=by rfl)(hx:WD c.X.env.scope x:=by first|exact io rfl|exact fk rfl)
  (hs:j6 (.List [.List [] p1,.List [] p2,.List [] p3,.List [] p4] p) (some (.Name x pos')) spos.line c.X.env=pure false:=by rfl)
  (hf:c.X.fn x=true\/c.X.env.scope.names.lookup x=some .local:=by first|exact .inl rfl|exact .inr rfl|assumption)
  (y:aF [.List [] p1,.List [] p2,.List [] p3,.List [] p4] c.X.env=(false,eu (.List [] p1) c.X.env)::aF [.List [] p2,.List [] p3,.List [] p4] c.X.env:=by rfl)
  (G:aF [.List [] p2,.List [] p3,.List [] p4] c.X.env=(false,eu (.List [] p2) c.X.env)::aF [.List [] p3,.List [] p4] c.X.env:=by rfl)
  (P:aF [.List [] p3,.List [] p4] c.X.env=(false,eu (.List [] p3) c.X.env)::aF [.List [] p4] c.X.env:=by rfl)
  (Q:aF [.List [] p4] c.X.env=(false,eu (.List [] p4) c.X.env)::aF [] c.X.env:=by rfl):
  JS c (.Assign [.Name x pos'] (.List [.List [] p1,.List [] p2,.List [] p3,.List [] p4] p) spos) (Ve i):=.of λρ=>by
 refine AQ (EG hN A hx (qq (cE (qq f_) (cE (qq f_) (cE (qq f_) (cE (qq f_) f_ Q) P) G) y)) hs hf) λD σ H U=>?_;obtain⟨H0,a5,la,Hs,f,q⟩:=U;replace q:qV c.X.K c.cls c.E H0 a5 la D (Ve i ρ):=q;obtain⟨f,L⟩:=f.clear2;refine⟨cu _,λg n1=>⟨cu _,λl n2=>⟨cu _,λm n3=>⟨cu _,λu n4=>⟨bL (cV (show 4<=1000 by decide)),λa n=>?_⟩⟩⟩⟩⟩;have N:=oq [g,l,m,u] H a n;have M:=oq [g,l,m] H u n4;have T:=oq [g,l] H m n3;have N2:=oq [g] H l n2;simp only[aW,br,or_false,not_or] at N M T N2;have Y:[g,l,m,u].Nodup:=by
  simp only[l7,aW,br,or_false,not_or,gY,and_true,not_false_eq_true];exact⟨⟨dk N2.2,dk T.2.1,dk M.2.1⟩,⟨dk T.2.2,dk M.2.2.1⟩,dk M.2.2.2⟩
 have free:∀b∈[g,l,m,u],H b=none:=λb w=>by
  simp only[aW,br,or_false] at w;rcases w with rfl|rfl|rfl|rfl
  ·exact n1
  ·exact N2.1
  ·exact T.1
  ·exact M.1
 have O:(a::[g,l,m,u]).Nodup:=List.nodup_cons.mpr ⟨by simp only[aW,br,or_false,not_or];exact N.2,Y⟩;have sm:dS H (tW [g,l,m,u] H):=B6 _ _ free Y;have all:dS H (upd (tW [g,l,m,u] H) a (.lst [.ref g,.ref l,.ref m,.ref u])):=sm.trans (ki n);have v:∀b∈a::[g,l,m,u],H b=none:=λb w=>(List.mem_cons.mp w).elim (λz=>z ▸ N.1) (free b);have st:cQ H Hs (upd (tW [g,l,m,u] H) a (.lst [.ref g,.ref l,.ref m,.ref u])) Hs:=⟨all,.refl _,f.st.sub.trans all,λ_ _ _ _ z=>z⟩;have B:=f.step st;have hl:i<σ.length\/¬ i<σ.length:=Decidable.em _;have nx:∀{j:Nat}{s:Sl},(∀d,s≠.ow2 d)->((clear2 ρ).set i (.ow2 [[],[],[],[]]))[j]?=some s->(clear2 ρ)[j]?=some s/\i≠j:=λ{j s} hs e=>by
  by_cases t:i=j
  ·subst t;by_cases A:i<(clear2 ρ).length
   ·rw[aQ A] at e;exact absurd (bW e).symm (hs _)
   ·rw[cU (by simpa using A)] at e;cases e
  ·rw[ar t] at e;exact⟨e,t⟩
 refine q _ _ Hs ⟨B.st,by simp[B.len],λj d h=>?_,λj d h=>?_,λj d h=>?_,λj k d d' b y G P Q=>?_,B.lh,λj d h=>?_,λj k d d' y G=>?_⟩
 ·obtain⟨h,t⟩:=nx (λ_ z=>by cases z) h;rw[ar t];exact B.sh j d h
 ·obtain⟨h,t⟩:=nx (λ_ z=>by cases z) h;rw[ar t];exact B.ow j d h
 ·obtain⟨h,t⟩:=nx (λ_ z=>by cases z) h;rw[ar t];exact B.lk j d h
 ·obtain⟨y,t⟩:=nx (λ_ z=>by cases z) y;obtain⟨G,I⟩:=nx (λ_ z=>by cases z) G;rw[ar t] at P;rw[ar I] at Q;exact B.dj j k d d' b y G P Q
 ·by_cases t:i=j
  ·subst t;by_cases A:i<(clear2 ρ).length
   ·rw[aQ A] at h;cases h;have a0:=Ht [g,l,m,u] H Y;have ne:∀b∈[g,l,m,u],b≠a:=λb w z=>(List.nodup_cons.mp O).1 (z ▸ w);have S:∀b∈[g,l,m,u],upd (tW [g,l,m,u] H) a (.lst [.ref g,.ref l,.ref m,.ref u]) b=some (.lst []):=λb w=>by rw[b9 (ne b w)];exact a0 b w
    refine⟨a,[g,l,m,u],aQ (by rw[<- B.len];exact A),aX,O,λb w=>⟨f.st.sub.free (v b w),f.st.all.free (v b w)⟩,λb w k e I=>?_,.cons (S _ (by simp)) .nil (.cons (S _ (by simp)) .nil (.cons (S _ (by simp)) .nil (.cons (S _ (by simp)) .nil .nil)))⟩;obtain⟨I,nk⟩:=nx (λ_ z=>by cases z) I;rw[ar nk];intro z;obtain⟨b',o,k1,k2,_⟩:=f.ow k e I;rw[z] at k1;cases k1;rw[v b w] at k2;cases k2
   ·rw[cU (by simpa using A)] at h;cases h
  ·rw[ar t] at h;exact(L j d h).elim
 ·by_cases t:i=j
  ·by_cases I:i=k
   ·exact t.symm.trans I
   ·rw[ar I] at G;exact(L k d' G).elim
  ·rw[ar t] at y;exact(L j d y).elim
def R6(h:JS c st gs):JS c st (λρ=>gs (da ρ)):=.of λρ=>AQ (h (da ρ)) λD i H a=>by
 obtain⟨e,d,la,Hs,f,q⟩:=a;obtain⟨b,g⟩:=f.shared;exact⟨e,d,la,b,g,q⟩
def shareAt(i:Nat)(ρ:aE):aE:=match ρ[i]? with
 |some (Sl.own d)=>ρ.set i (.shr d)
 |_=>ρ
theorem Fr.shareAt(f:Fr K H0 Hs0 la ρ σ H Hs)(i:Nat):∃G,Fr K H0 Hs0 la (J.shareAt i ρ) σ H G:=by
 unfold J.shareAt;split
 ·rename_i d ho
  obtain⟨a,o,k1,k2,k3,M,k5⟩:=f.ow i d ho;have n:i<ρ.length:=(List.getElem?_eq_some_iff.mp ho).1;have m:dS Hs (upd Hs a o):=ki k3;have nx:∀{j:Nat}{s:Sl},(∀d,s≠.shr d)->(ρ.set i (.shr d))[j]?=some s->ρ[j]?=some s/\i≠j:=λ{j s} hs e=>by
   by_cases g:i=j
   ·subst g;rw[aQ n] at e;exact absurd (bW e).symm (hs d)
   ·rw[ar g] at e;exact⟨e,g⟩
  have ne:∀(j:Nat) (e:D) (b:ak),i≠j->ρ[j]?=some (Sl.own e)->σ[j]?=some (some (V.ref b))->b≠a:=λj e b g h w z=>by
   subst z;exact g (f.dj i j d e b ho h k1 w)
  refine⟨upd Hs a o,⟨f.st.all,f.st.sh.trans m,λb u e=>?_,λb u e t z=>?_⟩,by simp[f.len],λj e h=>?_,λj e h=>?_,λj e h=>?_,λj k A B b y I N Q=>?_,f.lh,λj e h=>?_,λj k A B y I=>?_⟩
  ·by_cases w:b=a
   ·subst w;rw[aX] at e;cases e;exact k2
   ·rw[b9 w] at e;exact f.st.sub b u e
  ·rw[b9 (bw e M)];exact f.st.out b u e t z
  ·by_cases g:i=j
   ·subst g;rw[aQ n] at h;cases h;exact⟨_,k1,k5.share k3⟩
   ·rw[ar g] at h;obtain⟨v,l,q⟩:=f.sh j e h;exact⟨v,l,q.same m⟩
  ·obtain⟨h,g⟩:=nx (λ_ z=>by cases z) h;obtain⟨b,u,l,q,L,E,x⟩:=f.ow j e h;exact⟨b,u,l,q,by rw[b9 (ne j e b g h l)];exact L,E,x.same m⟩
  ·obtain⟨h,g⟩:=nx (λ_ z=>by cases z) h;obtain⟨b,u,l,q,L,E,x,P⟩:=f.lk j e h;exact⟨b,u,l,q,L,by rw[b9 (bw x M)];exact E,x,P.same m⟩
  ·exact f.dj j k A B b (nx (λ_ z=>by cases z) y).1 (nx (λ_ z=>by cases z) I).1 N Q
  ·obtain⟨h,g⟩:=nx (λ_ z=>by cases z) h;obtain⟨b,T,O⟩:=f.o2 j e h;refine⟨b,T,O.at_,O.ob,O.nd,λc p=>⟨?_,(O.out c p).2⟩,λc p k S U=>O.dj c p k S (nx (λ_ z=>by cases z) U).1,O.inn.step (.refl _) m⟩;rw[b9 (λz=>O.dj c p i d ho (by rw[z];exact k1))];exact(O.out c p).1
  ·exact f.u2 j k A B (nx (λ_ z=>by cases z) y).1 (nx (λ_ z=>by cases z) I).1
 ·exact⟨Hs,f⟩
def KO(i:Nat)(h:JS c st gs):JS c st (λρ=>gs (shareAt i ρ)):=.of λρ=>AQ (h (shareAt i ρ)) λD j H a=>by
 obtain⟨e,d,la,Hs,f,q⟩:=a;obtain⟨b,g⟩:=f.shareAt i;exact⟨e,d,la,b,g,q⟩
def Dt.get(h:Dt K H Hs as dss):∀{j:Nat}{ds:List D},dss[j]?=some ds->∃b a,as[j]?=some b/\H b=some (.lst a)/\RDs K Hs a ds:=by
 induction h with
 |nil=>intro j ds e;cases e
 |cons h r t c=>
  intro j ds e;cases j with
  |zero=>cases e;exact⟨_,_,rfl,h,r⟩
  |succ j=>have q:=c (j:=j) e;exact q
theorem Dt.set(i:RDs K Hs vs' ds'):∀{d:List ak}{c:List (List D)}{j:Nat}{b:ak},Dt K H Hs d c->d[j]?=some b->d.Nodup->Dt K (L2.upd H b (.lst vs')) Hs d (c.set j ds')
 |_,_,_,_,.nil,h,_=>by simp at h
 |_,_,0,b,.cons h r t,e,g=>by
  simp at e;subst e;exact .cons aX i (t.upd (List.nodup_cons.mp g).1)
 |_,_,j+1,b,.cons (a:=a) h r t,e,g=>by
  have f:_:=e;simp only[lw] at f;obtain⟨k,l⟩:=List.nodup_cons.mp g;have m:b∈_:=bR f;exact .cons (by rw[b9 (λz=>k (by rw[z];exact m))];exact h) r (Dt.set i t f l)
def qY(i:Nat)(b g:aE->R D):aE->R Fl:=λρ=>match ρ[i]? with
 |some (Sl.ow2 a)=>(b ρ).bind λk=>match k with
  |.int j=>if 0<=j then(match a[j.toNat]? with
   |some ds=>(g ρ).bind λd=>if ds.length<1000 then .ok (.nx (ρ.set i (.ow2 (a.set j.toNat (ds++[d]))))) else .no
   |none=>.no) else .no
  |_=>.no
 |_=>.no
def B7(i:Nat)(a3:JE c ie gi)(h:JE c e g)(hN:c.X.N[i]?=some x:=by rfl)(hv:Pi c.X.env.scope x:=by first|exact io rfl|exact fk (io rfl)|exact fk (fk rfl))(hd:(x==("__debug__" : Str))=false:=by decide)
  (a0:(x==("__classdict__" : Str))=false:=by decide) (b7:wL ie:=by exact λ_ _=>rfl)
  (P:Np (.Subscript (.Name x p) ie p3) "append" c.X.env (eu (.Subscript (.Name x p) ie p3) c.X.env)=eu (.Subscript (.Name x p) ie p3) c.X.env:=by rfl)
  (T:((hG cpos (aF [e] c.X.env)).all (λx=>!x.1)&&(backToKw cpos (U1 [] c.X.env)).all (λx=>x.1.isSome)
   && decide ([e].length+([]:List Jj).length+(if([]:List Jj).isEmpty then 0 else 1)<30))=true:=by rfl)
  (G:(apos.endLine==cpos.line)=true:=by rfl) (S:aF [e] c.X.env=(false,eu e c.X.env)::aF [] c.X.env:=by rfl) (A:(hG cpos (aF [] c.X.env)).any (·.1)=false:=by rfl)
  (hs:j6 (.Call (.Attribute (.Subscript (.Name x p) ie p3) "append" apos) [e] [] cpos) none pos.line c.X.env=pure false:=by rfl):
  JS c (.Expr (.Call (.Attribute (.Subscript (.Name x p) ie p3) "append" apos) [e] [] cpos) pos) (qY i gi g):=.of λρ=>by
 refine AQ (wH (Dk fW Ce Cf Dl (WM EI (qp hN hv hd a0) (a3 ρ) b7) (cE (h ρ) f_ S) P T G S A) hs) λD σ H a2=>?_;obtain⟨H0,a5,la,Hs,f,q⟩:=a2;replace q:qV c.X.K c.cls c.E H0 a5 la D (qY i gi g ρ):=q;unfold qY at q;split at q
 ·rename_i B ho
  obtain⟨a,as,O⟩:=f.o2 i B ho;refine⟨_,O.at_,?_⟩;refine sE f q λk v H1 c0 e1 s1 f1 r1=>?_;rw[e1,bind_ok] at q;cases r1 with
  |int j=>
   simp only at q;by_cases M:0<=j
   ·rw[if_pos M] at q;split at q
    ·rename_i ds a6
     obtain⟨b,vs,hb,hH,rv⟩:=O.inn.get a6;have b8:Kn (as.map V.ref) j=some (.ref b):=by
      have:=wK (xs:=as.map V.ref) (j:=j.toNat) (v:=V.ref b) (by rw[aI,hb];rfl)
      rwa[gJ M] at this
     refine⟨a,_,j,_,rfl,rfl,.of (s1.all _ _ O.ob),b8,.inl ⟨rfl,_,.of (s1.all _ _ hH)⟩,?_⟩;refine sE f1 q λd w H2 a4 e2 s2 o r2=>?_;rw[e2,bind_ok] at q;by_cases hl:ds.length<1000
     ·rw[if_pos hl] at q;have st:=s1.trans s2;refine⟨b,vs,w,rfl,rfl,st.all _ _ hH,cV (by rw[rv.length];omega),?_⟩;have U:i<ρ.length:=(List.getElem?_eq_some_iff.mp ho).1;obtain⟨a',L,l⟩:=o.o2 i B ho;have ea:a'=a:=by
       have:=l.at_;rw[O.at_] at this;cases this;rfl
      subst ea;have a1:L=as:=by
       have t:=l.ob;rw[st.all _ _ O.ob] at t;injection t with t;injection t with t;exact(Pe (λx y z=>by cases z;rfl) |>.mp t).symm
      subst a1;have Q:b∈a'::L:=ai _ (bR hb);have nb:b≠a':=λz=>(List.nodup_cons.mp O.nd).1 (z ▸ bR hb);obtain⟨bs,b0⟩:=l.out b Q;have nx:∀{m:Nat}{s:Sl},(∀d,s≠.ow2 d)->(ρ.set i (.ow2 (B.set j.toNat (ds++[d]))))[m]?=some s->ρ[m]?=some s/\i≠m:=λ{m s} hs e=>by
       by_cases M:i=m
       ·subst M;rw[aQ U] at e;exact absurd (bW e).symm (hs _)
       ·rw[ar M] at e;exact⟨e,M⟩
      refine q _ _ a4 ⟨⟨λc u e=>?_,o.st.sh,λc u e=>?_,o.st.out⟩,by simp[o.len],λm d' h=>o.sh m d' (nx (λ_ z=>by cases z) h).1,λm d' h=>?_,λm d' h=>?_,λm k' d' e' a t Y=>o.dj m k' d' e' a (nx (λ_ z=>by cases z) t).1 (nx (λ_ z=>by cases z) Y).1,o.lh,λm d' h=>?_,λm k' d' e' t Y=>?_⟩
      ·rw[b9 (bw e b0)];exact o.st.all c u e
      ·rw[b9 (bw e bs)];exact o.st.sub c u e
      ·obtain⟨h,_⟩:=nx (λ_ z=>by cases z) h;obtain⟨c',u,k1,k2,k3,k4,k5⟩:=o.ow m d' h;refine⟨c',u,k1,?_,k3,k4,k5⟩;rw[b9 (λz=>l.dj b Q m d' h (by rw[<- z];exact k1))];exact k2
      ·obtain⟨h,_⟩:=nx (λ_ z=>by cases z) h;obtain⟨c',u,k1,k2,k3,k4,k5,k6⟩:=o.lk m d' h;refine⟨c',u,k1,k2,?_,k4,k5,k6⟩;rw[b9 (bw k5 b0)];exact k3
      ·by_cases n:i=m
       ·subst n;rw[aQ U] at h;cases h;refine⟨a',L,l.at_,by rw[b9 (dk nb)];exact l.ob,l.nd,l.out,λc hc k e' hk=>l.dj c hc k e' (nx (λ_ z=>by cases z) hk).1,?_⟩;exact Dt.set ((rv.same st.sh).append (.cons r2 .nil)) l.inn hb (List.nodup_cons.mp l.nd).2
       ·rw[ar n] at h;exact(n (o.u2 i m _ _ ho h)).elim
      ·by_cases n:i=m
       ·by_cases I:i=k'
        ·exact n.symm.trans I
        ·rw[ar I] at Y;exact(I (o.u2 i k' _ _ ho Y)).elim
       ·rw[ar n] at t;exact(n (o.u2 i m _ _ ho t)).elim
     ·rw[if_neg hl] at q;exact q.elim
    ·exact q.elim
   ·rw[if_neg M] at q;exact q.elim
  |none=>exact q.elim
  |bool _=>exact q.elim
  |str _=>exact q.elim
  |list _ _=>exact q.elim
  |tuple _ _=>exact q.elim
  |dictK _ _=>exact q.elim
  |dictT _ _ _=>exact q.elim
  |dictF _ _ _=>exact q.elim
 ·exact q.elim
section
open PyProof.Rows (OwnCls)
structure Er (mg:Str->Option ag) (base:bP) (cls:Str->ak) (x:Str):Prop where
 ex:∃bmB newId initId Bn,OwnCls x (cls x) bmB newId mg base/\ExcBaseFacts Bn newId initId bmB
def B8(x:Str)(a:aE->R (List D)):aE->R Fl:=λρ=>(a ρ).bind λds=>if ds.length<=1000 then .ex x none else .no
def R7{x:Str}{u a p:Pos}{d:bC}{bA:List bC}{c:aE->R (List D)}(v:Er mg base cls x)
  (Q:Gl (kC (oS P w) P w K mg base N qual scope f cd A outer s H E) x) (z:Gs ⟨kC (oS P w) P w K mg base N qual scope f cd A outer s H E,cls,E⟩ (d::bA) c)
  (he:aF (d::bA) (kC (oS P w) P w K mg base N qual scope f cd A outer s H E).env=(false,eu d (kC (oS P w) P w K mg base N qual scope f cd A outer s H E).env)::aF bA (kC (oS P w) P w K mg base N qual scope f cd A outer s H E).env:=by rfl)
  (j:(x==("__debug__" : Str))=false:=by decide) (o:(hG a (aF bA (kC (oS P w) P w K mg base N qual scope f cd A outer s H E).env)).any (·.1)=false:=by rfl):
  JS ⟨kC (oS P w) P w K mg base N qual scope f cd A outer s H E,cls,E⟩ (.Raise (some (.Call (.Name x u) (d::bA) [] a)) none p) (B8 x c):=.of λρ=>by
 obtain⟨L,g,e,U,O,I⟩:=v.ex;refine AQ (QB O I Q (z ρ) he j o) λD T S l=>?_;obtain⟨t,b,la,Hs,f,q⟩:=l;replace q:qV K cls E t b la D (B8 x c ρ):=q;refine⟨t,b,la,Hs,f,?_⟩;unfold B8 at q;cases i:c ρ with
 |no=>rw[i] at q;exact q
 |ex y n=>rw[i] at q;exact λH' k s=>q H' k (f.st.trans s)
 |ok ds=>
  rw[i,bind_ok] at q;intro X B m G M;by_cases h:ds.length<=1000
  ·rw[if_pos h] at q;exact⟨bL (cV (by rw[M.length];exact h)),q B m (f.st.trans G)⟩
  ·rw[if_neg h] at q;exact q.elim
end
structure Bi (mg:Str->Option ag):Prop where
 len:mg "len"=none
 isinstance:mg "isinstance"=none
 all:mg "all"=none
 any:mg "any"=none
 zip:mg "zip"=none
 tuple:mg "tuple"=none
 list:mg "list"=none
 sorted:mg "sorted"=none
 set:mg "set"=none
 range:mg "range"=none
 enumerate:mg "enumerate"=none
 dict:mg "dict"=none
 sum:mg "sum"=none
 max:mg "max"=none
 min:mg "min"=none
 reversed:mg "reversed"=none
 str:mg "str"=none
 int:mg "int"=none
 bool:mg "bool"=none
structure Xf (K:a8) (base:bP) (cls:Str->ak) (names:List Str) (C:ak) (j:Nat):Prop where
 ek:QD K C
 is:∀i n,names[i]?=some n->e8 K (.ref C) (.ref (cls n))=some (decide (i=j))
 ve:e8 K (.ref C) (.type "ValueError")=some true
 ox:∃bm,Hc base C bm/\bm.contains (.ref (cls "PlanError"))=true
 lt:j<11
inductive Xa (K:a8) (base:bP) (cls:Str->ak) (names:List Str) (vs:List V) (H:Hp) (Q:VK) (z_3:XK):Prop
 |mk (ea C j:_) (h0:vs=[.ref ea]) (h1:H ea=some (AK ea C)) (h2:Xf K base cls names C j) (h3:∀t H',dS H H'->H t=none->H' t=some (.tup [.str "refused",.int (j:Nat)])->Q (.ref t) H'):Xa K base cls names vs H Q z_3
def YG(K:a8)(base:bP)(cls:Str->ak)(names:List Str):Sp:=Xa K base cls names
def bits(j:Nat):List Bool:=[decide (0=j),decide (1=j),decide (2=j),decide (3=j),decide (4=j),decide (5=j),decide (6=j),decide (7=j),decide (8=j),decide (9=j),decide (10=j)]
def KP:∀j,j<11->(bits j).countP id=1:=by
 intro j h;have:∀k:_root_.Fin 11,(bits k.val).countP id=1:=by decide
 exact this ⟨j,h⟩
def Vf:∀j,j<11->(bits j)[j]?=some true/\∀m,m<j->(bits j)[m]?=some false:=by
 intro j h;have:∀k:_root_.Fin 11,(bits k.val)[k.val]?=some true/\∀m:_root_.Fin 11,m.val<k.val->(bits k.val)[m.val]?=some false:=by decide
 exact⟨(this ⟨j,h⟩).1,λm a=>(this ⟨j,h⟩).2 ⟨m,by omega⟩ a⟩
def ou(o:PE X e0 (NG 0))(m:Gl X "isinstance")(h:X.mg "isinstance"=none)(b:Gl X n)(d:X.mg n=some (.ref (cls n)))(e:(n==("__debug__" : Str))=false:=by decide)
  (he:aF [e0,.Name n p2] X.env=(false,eu e0 X.env)::aF [.Name n p2] X.env:=by rfl) (c:(hG pos (aF [.Name n p2] X.env)).any (·.1)=false:=by rfl):
  PE X (.Call (.Name "isinstance" p) [e0,.Name n p2] [] pos) (λf H Q=>∃a C j i,f[0]?=some (some (V.ref a))/\H a=some (AK a C)/\Xf X.K base cls names C j/\names[i]?=some n/\Q (.bl (decide (i=j))) H):=
 sK (o6 zh m h lQ (cE o (cE (EE b d (v:=.ref (cls n)) rfl e) f_) he) ⋯ ⋯ he c) λf H Q ⟨a,C,j,i,g,k,x,l,q⟩=>
  ⟨_,g,.ref a,.ref (cls n),.ref (cls n),_,rfl,.inr ⟨_,rfl,rfl⟩,.inr ⟨a,C,rfl,k,x.ek,x.is i n l⟩,q⟩
def Vg(i:PE X e0 (NG 0))(h:Gl X "isinstance")(g:X.mg "isinstance"=none)(b:Gl X "ValueError")(d:X.mg "ValueError"=none)
  (he:aF [e0,.Name "ValueError" p2] X.env=(false,eu e0 X.env)::aF [.Name "ValueError" p2] X.env:=by rfl) (c:(hG pos (aF [.Name "ValueError" p2] X.env)).any (·.1)=false:=by rfl):
  PE X (.Call (.Name "isinstance" p) [e0,.Name "ValueError" p2] [] pos) (λe H Q=>∃a C j,e[0]?=some (some (V.ref a))/\H a=some (AK a C)/\Xf X.K base cls names C j/\Q (.bl true) H):=
 sK (o6 zh h g lQ (cE i (cE (LY b d (u:=.type "ValueError") (v:=.ty "ValueError") rfl rfl) f_) he) ⋯ ⋯ he c) λe H Q ⟨a,C,j,f,k,x,q⟩=>
  ⟨_,f,.ref a,.ty "ValueError",.type "ValueError",_,rfl,.inl ⟨_,rfl,rfl⟩,.inr ⟨a,C,rfl,k,x.ek,x.ve⟩,q⟩
end J
namespace J
open PySem L2
def Oa(b:Str->Option Nat)(gb:aE->R Fl):aE->R Fl:=λρ=>match gb ρ with
 |.ok a=>.ok a
 |.ex y none=>match b y with
  |some j=>.ok (.rt (.tuple [.str "refused",.int (j:Nat)]))
  |none=>.no
 |_=>.no
structure Wh (P:bd) (w:bz) (K:a8) (mg:Str->Option ag) (base:bP) (cls:Str->ak) (x:Str) (names:List Str) (wh:Str->Option Nat):Prop where
 fn:∃f fd ps,Hd P w K mg base 1 f fd ps (YG K base cls names)/\mg x=some (.ref f)/\f6 K (.ref f)=true/\lC K fd ps []
 pe:mg "PlanError"=some (.ref (cls "PlanError"))
 ox:∃bp,Hc base (cls "PlanError") bp
 xf:∀y j,wh y=some j->Xf K base cls names (cls y) j
end J
namespace L2
open PySem
def o9.mono1(r:o9 k A)(h:1<=k:=by decide):o9 1 A:=⟨by have:=r.dp;omega,by have:=r.un;omega⟩
end L2
namespace J
open PySem L2
section
open PyProof.Rows (OwnCls)
abbrev Vh:List ag:=[.type "ValueError",.type "Exception",.type "BaseException",.type "object"]
def KQ{K:a8}{h:bP}{w:Str->Option ag}{x:Str}{C:ak}{o:List ag}{c:String}(X:K.In h)(G:h.Ns bX w)(e:iI K bX x=some (some (.ref C)))(q:Cg K C o c=true)(H:e7 K C (.type "BaseException")=some true):
  OwnCls x C o c w h/\∃bm,Hc h C bm/\∀v,(v==bh C)=false->e7 K C v=some true->bm.contains v=true:=by
 have p:=mj X G e;unfold Cg at q;split at q
 ·rename_i dd t z look
  split at q
  ·rename_i s bm k0 k1 k2 k3 n k5 g a
   simp only[aR,beq_iff_eq,lR] at q;obtain⟨⟨⟨⟨⟨rfl,rfl⟩,f⟩,tl⟩,d⟩,b⟩:=q;have j:z=#[k0,k1,k2,k3,some (.builtin n),k5]:=by
    cases z with|mk l=>simp only at a;rw[a]
   have k:∀v,e7 K s v=some true->t.mro.contains v=true:=λv i=>by
    unfold e7 j3 at i;rw[look] at i;simp only[rz] at i;split at i
    ·cases i
    ·exact bW i
   have bA:∀v,(v==bh s)=false->e7 K s v=some true->bm.contains v=true:=λv B i=>by
    have:=k v i;rw[g,xT,B,rm] at this;exact this
   obtain⟨nm,bs,E,ns,u,y,sn,sub,ab,col,A⟩:=t;dsimp only at g f d b;subst g f j;have m:=X _ _ look;exact⟨⟨p,bm,ns,nm,u,bs,y,sn,sub,ab,col,dd,k0,k1,k2,k3,k5,_,m,.of_isNs (PySem.W.isNs_of_in X d),PySem.W.nsMap_none_of_in X d b,PySem.W.tail_of_in X tl⟩,
    bm,⟨⟨nm,u,ns,bs,y,sn,sub,ab,col,dd,k0,k1,k2,k3,k5,n,m⟩,bA _ rfl H⟩,bA⟩
  ·cases q
 ·cases q
structure TopC (K:a8) (x:Str) (C:ak):Prop where
 ns:iI K bX x=some (some (.ref C))
 ex:Cg K C Vh "ValueError.__new__"=true
 mb:e7 K C (.type "BaseException")=some true
def TopC.er{K:a8}{h:bP}{a:Str->Option ag}{cls:Str->ak}{x:Str}{C:ak}(T:TopC K x C)(X:K.In h)(G:h.Ns bX a)(b:cls x=C):Er a h cls x:=by
 subst b;exact⟨_,_,_,_,(KQ X G T.ns T.ex T.mb).1,PySem.F.excBase_ValueError⟩
def Vi{K:a8}{t C:ak}{f:ClassData}{b:Bool}(a:j3 K C=some f)(g:Av K (.ref C)=some (.type "type"))(c:qo K (.ref t) (.ref C)=some b)(d:b=false->t≠C):e8 K (.ref t) (.ref C)=some b:=by
 unfold e8;split
 ·rename_i he
  have e:t=C:=by have:=eq_of_beq he;cases this;rfl
  cases b with
  |true=>rfl
  |false=>exact(d rfl e).elim
 ·unfold Pw;simp only[a,g,wx,beq_self_eq_true,mX,if_true];exact c
def YH(a:qo K (.ref t) (.type "ValueError")=some true):e8 K (.ref t) (.type "ValueError")=some true:=by
 unfold e8;split
 ·rename_i he
  cases(eq_of_beq he)
 ·unfold Pw;show(if PySem.W.kitMeta "ValueError"=true then _ else none)=some true;rw[if_pos ∎];exact a
inductive q0y (K:a8) (F:List D->R D) (vs:List V) (H:Hp) (Q:VK) (z_3:XK):Prop
 |mk (Hs ds d:_) (h0:dS Hs H) (h1:ds.length=1) (h2:RDs K Hs vs ds) (h3:F ds=.ok d) (h4:∀v H' Hs',cQ H Hs H' Hs'->RD K Hs' v d->Q v H'):q0y K F vs H Q z_3
def spO(K:a8)(F:List D->R D):Sp:=q0y K F
def YI:∀a H Q E,spO K F a H Q E->X6 K cls 1 F a H Q E:=λa H Q E ⟨Hs,ds,d,s,l,r,e,q⟩=>⟨Hs,ds,s,l,r,by rw[e];exact q⟩
def q0z(l:List (Str×ak)):Str->ak:=λx=>(l.lookup x).getD 0
def YJ{K:a8}{F:List D->R D}{H:Hp}{a:ak}{ns:List Int}(c:F [.list (ns.map .int)]=.ok (.bool true))(h:oZ K H a (ns.map V.int)):spO K F [.ref a] H (λv _=>v=.bl true) λ_ _ _=>False:=by
 have d:∀ns:List Int,RDs K H (ns.map V.int) (ns.map .int):=λns=>by
  induction ns with
  |nil=>exact .nil
  |cons x r b=>exact .cons (.int x) b
 refine⟨H,[.list (ns.map .int)],.bool true,.refl H,rfl,.cons (.list h (d ns)) .nil,c,?_⟩;intro v H' e _ r;cases r;rfl
def YK(h:oS P w [] H s (λ_ _ _=>False) e s'):False:=by
 obtain⟨_,_,_,_,_,_,_,_,_,q⟩:=h;exact q
def walkF{l:zI}{k:Nat}{q:bd}{b:List Str}{z:(Str->Option ag)->bP->Prop}{g:bz->bP->Prop}{d:DefRec}{K:Params->a8}{x:Str}{F0:List D->R D}
  (v:l.most=some 63) (e:d.params.defaults=[]) (t:l8 k z3) (m:∀(w:bz) (h:bP),g w h->(K w.params).In h)
  (F:∀(w:bz) (c:Str->Option ag) (j:ak) (h:bP),(K w.params).In h->h.Ns bX c->c d.name=some (.ref j) ->
   ∃i:gW,(∀(s:aq) (u:ag),C7 s i ⟨[u],[]⟩ [(x,u)])/\∀base:bP,(K w.params).In base->base.Ns bX c->u_ l.prog w (K w.params) c base (oS l.prog w) k j i [x] (spO (K w.params) F0))
  (o:∀ns:List Int,ns.length<=63->F0 [.list (ns.map .int)]=.ok (.bool true)):
  TH q b z g l.row.toRowW d [] (λf A=>Nq f A):=
 L2.UK (n:=63) (k:=k) (x:=x) (CX:=λw=>oS l.prog w) (sp:=λw=>spO (K w.params) F0) v ⋯ e t m F (λw H a ns p _ y=>YJ (o ns p) y) λ_ _ _ _ _ h=>YK h
def Fh(i:Nat)(g:aE->R Fl):aE->R Fl:=λρ=>g (shareAt i ρ)
def rP(i:Nat)(h:JS c st gs):JS c st (Fh i gs):=KO i h
end
def B9{α b:Type}(a:α)(f:α->R b):(R.ok a).bind f=f a:=id rfl
def Vj(h:aE->R Fl):Fl->R Fl:=λa=>match a with
 |.nx ρ'=>h ρ'
 |a=>.ok a
def Hu(g h:aE->R Fl):a_ g h (s::ρ)=(g (s::ρ)).bind (Vj h):=id rfl
def xm(h:aE->R Fl)(ρ:aE):Vj h (.nx ρ)=h ρ:=id rfl
def Hv(h:aE->R Fl)(d:D):Vj h (.rt d)=.ok (.rt d):=id rfl
def ifK(g h:aE->R Fl)(ρ:aE):Bool->R Fl:=λb=>bif b then g ρ else h ρ
def q0A(t:aE->R Bool)(g h:aE->R Fl):eC t g h (s::ρ)=(t (s::ρ)).bind (ifK g h (s::ρ)):=by
 show(t (s::ρ)).bind _=_;congr 1;funext b;cases b<;>rfl
def R8(g h:aE->R Fl)(ρ:aE):ifK g h ρ false=h ρ:=id rfl
def R9(g h:aE->R Fl)(ρ:aE)(b:Bool):ifK g h ρ b=bif b then g ρ else h ρ:=id rfl
def rtK:D->R Fl:=λd=>.ok (.rt d)
def Xb(g:aE->R D):cZ g (s::ρ)=(g (da (s::ρ))).bind rtK:=id rfl
def q0B(d:D):rtK d=.ok (.rt d):=id rfl
def Ba:Sl->Sl
 |.own d=>.shr d
 |.ow2 a=>.shr (.list (a.map .list))
 |s=>s
def Mm:da (s::ρ)=Ba s::da ρ:=by cases s<;>rfl
def Hw:da []=[]:=id rfl
def Mn:Ba .no=.no:=id rfl
def Hx(d:D):Ba (.shr d)=.shr d:=id rfl
def Hy(d:D):Ba (.own d)=.shr d:=id rfl
def Hz(d:List (List D)):Ba (.ow2 d)=.shr (.list (d.map .list)):=id rfl
def q0C(i:Nat)(ρ:aE):D->R Fl:=λd=>.ok (.nx (ρ.set i (.shr d)))
def Ra(i:Nat)(g:aE->R D):iu i g (s::ρ)=(g (s::ρ)).bind (q0C i (s::ρ)):=id rfl
def Rb(i:Nat)(ρ:aE)(d:D):q0C i ρ d=.ok (.nx (ρ.set i (.shr d))):=id rfl
def Xc(i:Nat)(ρ:aE):D->R Fl:=λd=>.ok (.nx (ρ.set i (.own d)))
def Rc(i:Nat)(g:aE->R D):fF i g (s::ρ)=(g (s::ρ)).bind (Xc i (s::ρ)):=id rfl
def Mo(i:Nat)(ρ:aE)(d:D):Xc i ρ d=.ok (.nx (ρ.set i (.own d))):=id rfl
def Qd(ρ:aE):D->R Fl:=λ_=>.ok (.nx ρ)
def Re(g:aE->R D):qW g (s::ρ)=(g (s::ρ)).bind (J.Qd (s::ρ)):=id rfl
def Mp(ρ:aE)(d:D):J.Qd ρ d=.ok (.nx ρ):=id rfl
def g2K(gb:aE->R D)(h:D->D->R D)(ρ:aE):D->R D:=λx=>(gb ρ).bind (h x)
def q0D(a gb:aE->R D)(h:D->D->R D):g2 a gb h (s::ρ)=(a (s::ρ)).bind (g2K gb h (s::ρ)):=id rfl
def Xd(gb:aE->R D)(h:D->D->R D)(ρ:aE)(x:D):g2K gb h ρ x=(gb ρ).bind (h x):=id rfl
def Rf:D->R Bool:=λd=>match d with
 |.bool b=>.ok b
 |_=>.no
def Xe(g:aE->R D):ej g (s::ρ)=(g (s::ρ)).bind Rf:=id rfl
def Rg(b:Bool):Rf (.bool b)=.ok b:=id rfl
def q0E:Bool->R Bool:=λb=>.ok (!b)
def Xg(g:aE->R Bool):i5 g (s::ρ)=(g (s::ρ)).bind q0E:=id rfl
def Rh(b:Bool):q0E b=.ok (!b):=id rfl
def q0F(h:aE->R Bool)(ρ:aE):Bool->R Bool:=λb=>bif b then h ρ else .ok false
def orK(h:aE->R Bool)(ρ:aE):Bool->R Bool:=λb=>bif b then .ok true else h ρ
def Xh(g h:aE->R Bool):AR g h (s::ρ)=(g (s::ρ)).bind (q0F h (s::ρ)):=by
 show(g (s::ρ)).bind _=_;congr 1;funext b;cases b<;>rfl
def q0G(g h:aE->R Bool):zT g h (s::ρ)=(g (s::ρ)).bind (orK h (s::ρ)):=by
 show(g (s::ρ)).bind _=_;congr 1;funext b;cases b<;>rfl
def Ri(h:aE->R Bool)(ρ:aE)(b:Bool):q0F h ρ b=bif b then h ρ else .ok false:=id rfl
def Xi(h:aE->R Bool)(ρ:aE)(b:Bool):orK h ρ b=bif b then .ok true else h ρ:=id rfl
def Xj:Bool->R D:=λb=>.ok (.bool (!b))
def Rj(g:aE->R D):w_ g (s::ρ)=((g (s::ρ)).bind Rf).bind Xj:=id rfl
def Mq(b:Bool):Xj b=.ok (.bool (!b)):=id rfl
def Xk(h:aE->R D)(ρ:aE):Bool->R D:=λb=>bif b then h ρ else .ok (.bool false)
def q0H(h:aE->R D)(ρ:aE):Bool->R D:=λb=>bif b then .ok (.bool true) else h ρ
def Rk(g h:aE->R D):pC g h (s::ρ)=((g (s::ρ)).bind Rf).bind (Xk h (s::ρ)):=by
 show(ej g (s::ρ)).bind _=(ej g (s::ρ)).bind _;congr 1;funext b;cases b<;>rfl
def Xl(g h:aE->R D):CC g h (s::ρ)=((g (s::ρ)).bind Rf).bind (q0H h (s::ρ)):=by
 show(ej g (s::ρ)).bind _=(ej g (s::ρ)).bind _;congr 1;funext b;cases b<;>rfl
def Mr(h:aE->R D)(ρ:aE)(b:Bool):Xk h ρ b=bif b then h ρ else .ok (.bool false):=id rfl
def Rl(h:aE->R D)(ρ:aE)(b:Bool):q0H h ρ b=bif b then .ok (.bool true) else h ρ:=id rfl
def q0I(gb a:aE->R D)(h h':D->D->R D)(ρ:aE):D->R D:=λx=>(gb ρ).bind λy=>(h x y).bind λz=>match z with
 |.bool true=>(a ρ).bind λw=>h' y w
 |.bool false=>.ok (.bool false)
 |_=>.no
def q0J(a:aE->R D)(h h':D->D->R D)(ρ:aE)(x:D):D->R D:=λy=>(h x y).bind λz=>match z with
 |.bool true=>(a ρ).bind λw=>h' y w
 |.bool false=>.ok (.bool false)
 |_=>.no
def q0K(a:aE->R D)(h':D->D->R D)(ρ:aE)(y:D):D->R D:=λz=>match z with
 |.bool true=>(a ρ).bind (h' y)
 |.bool false=>.ok (.bool false)
 |_=>.no
def Ms(b gb a:aE->R D)(h h':D->D->R D):tO b gb a h h' (s::ρ)=(b (s::ρ)).bind (q0I gb a h h' (s::ρ)):=id rfl
def Rm(gb a:aE->R D)(h h':D->D->R D)(ρ:aE)(x:D):q0I gb a h h' ρ x=(gb ρ).bind (q0J a h h' ρ x):=id rfl
def Rn(a:aE->R D)(h h':D->D->R D)(ρ:aE)(x y:D):q0J a h h' ρ x y=(h x y).bind (q0K a h' ρ y):=id rfl
def Ro(a:aE->R D)(h':D->D->R D)(ρ:aE)(y:D)(b:Bool):q0K a h' ρ y (.bool b)=bif b then(a ρ).bind (h' y) else .ok (.bool false):=by cases b<;>rfl
def Rp(a:aE->R (List D))(ρ:aE):D->R (List D):=λd=>(a ρ).bind λds=>.ok (d::ds)
def Rq(d:D):List D->R (List D):=λds=>.ok (d::ds)
def Rr(g:aE->R D)(a:aE->R (List D)):J.aa g a (s::ρ)=(g (s::ρ)).bind (Rp a (s::ρ)):=id rfl
def HA(a:aE->R (List D))(ρ:aE)(d:D):Rp a ρ d=(a ρ).bind (Rq d):=id rfl
def HB(d:D)(ds:List D):Rq d ds=.ok (d::ds):=id rfl
def Xm(ρ:aE):J.aC ρ=.ok []:=id rfl
def Xn(k:List D->D):List D->R D:=λds=>if ds.length<=1000 then .ok (k ds) else .no
def Rs(a:aE->R (List D))(k:List D->D):de a k (s::ρ)=(a (s::ρ)).bind (Xn k):=id rfl
def Mt(k:List D->D)(ds:List D):Xn k ds=if ds.length<=1000 then .ok (k ds) else .no:=id rfl
def Rt(a:aE->R (List D))(h:List D->R D):c7 a h (s::ρ)=(a (s::ρ)).bind h:=id rfl
def fnK(n:Nat)(F:List D->R D):List D->R D:=λds=>if ds.length=n then F ds else .no
def q0L(n:Nat)(F:List D->R D)(a:aE->R (List D)):dN n F a (s::ρ)=(a (s::ρ)).bind (fnK n F):=id rfl
def Xo(n:Nat)(F:List D->R D)(ds:List D):fnK n F ds=if ds.length=n then F ds else .no:=id rfl
def Xp(h:D->R D)(d:D):il h [d]=h d:=id rfl
def Ru(d:D)(ρ:aE):Jp (.shr d::ρ) 0=.ok d:=id rfl
def Xq(s:Sl)(ρ:aE)(n:Nat):Jp (s::ρ) (n+1)=Jp ρ n:=by simp[Jp]
def Rv(d:D)(ρ:aE):Jq (.shr d::ρ) 0=.ok d:=id rfl
def Rw(d:D)(ρ:aE):Jq (.own d::ρ) 0=.ok d:=id rfl
def Xr(s:Sl)(ρ:aE)(n:Nat):Jq (s::ρ) (n+1)=Jq ρ n:=by simp[Jq]
def q0M(T:String):D->R D:=λd=>if qT d then .ok (.bool (CD T d)) else .no
def Xs(g:aE->R D)(T:String):oh g T (s::ρ)=(g (s::ρ)).bind (q0M T):=id rfl
def Rx(T:String)(d:D):q0M T d=if qT d then .ok (.bool (CD T d)) else .no:=id rfl
def q0N(a b:aE->R (Option Int))(ρ:aE):D->R D:=λx=>(a ρ).bind λl=>(b ρ).bind λh=>Mf x l h
def q0O(a:aE->R (Option Int))(ρ:aE)(x:D):Option Int->R D:=λl=>(a ρ).bind λh=>Mf x l h
def q0P(g:aE->R D)(b a:aE->R (Option Int)):Gu g b a (s::ρ)=(g (s::ρ)).bind (q0N b a (s::ρ)):=id rfl
def Ry(b a:aE->R (Option Int))(ρ:aE)(x:D):q0N b a ρ x=(b ρ).bind (q0O a ρ x):=id rfl
def Rz(a:aE->R (Option Int))(ρ:aE)(x:D)(l:Option Int):q0O a ρ x l=(a ρ).bind (Mf x l):=id rfl
def Xt(ρ:aE):Jr ρ=.ok none:=id rfl
def q0Q:D->R (Option Int):=λd=>match d with
 |.int i=>.ok (some i)
 |_=>.no
def Xu(g:aE->R D):F8 g (s::ρ)=(g (s::ρ)).bind q0Q:=id rfl
def RA(i:Int):q0Q (.int i)=.ok (some i):=id rfl
def YL(g:aE->R D):gG g (s::ρ)=(g (s::ρ)).bind tT:=id rfl
def RC(a:aE->R (List D)):Dx a (s::ρ)=(a (s::ρ)).bind KL:=id rfl
def Xv(a:aE->R (List D)):CF a (s::ρ)=(a (s::ρ)).bind enm:=id rfl
def Xw(a:aE->R (List D)):V8 a (s::ρ)=(a (s::ρ)).bind zp:=id rfl
def Xx(nt:Nat)(ix:List Nat)(gt:aE->R Bool)(ge:aE->R D)(ρ:aE):List D->R D:=λds=>if ds.length<=1000 then(fY (iX nt (l9 nt ix ρ) gt ge) ds).bind λys=>.ok (.list ys) else .no
def Xy:List D->R D:=λys=>.ok (.list ys)
def RE(nt:Nat)(ix:List Nat)(a:aE->R (List D))(gt:aE->R Bool)(ge:aE->R D):cA nt ix a gt ge (s::ρ)=(a (s::ρ)).bind (Xx nt ix gt ge (s::ρ)):=id rfl
def Mu(nt:Nat)(ix:List Nat)(gt:aE->R Bool)(ge:aE->R D)(ρ:aE)(ds:List D):Xx nt ix gt ge ρ ds=if ds.length<=1000 then(fY (iX nt (l9 nt ix ρ) gt ge) ds).bind Xy else .no:=id rfl
def Mv(ys:List D):Xy ys=.ok (.list ys):=id rfl
def Bb(a:aE->R (List D))(kt:D->aE->R aE)(gb:aE->R Fl)(ds:List D)(h:a (s::ρ)=.ok ds):qx a kt gb (s::ρ)=lP kt gb ds (s::ρ):=by unfold qx;rw[h]
def RF(k:D->aE->R aE)(ρ:aE):D->R Fl:=λd=>match k d ρ with
 |.ok ρ'=>.ok (.nx ρ')
 |_=>.no
def Xz(g:aE->R D)(k:D->aE->R aE):zV g k (s::ρ)=(g (s::ρ)).bind (RF k (s::ρ)):=id rfl
def Dy(ds:List D):tT (.list ds)=.ok ds:=id rfl
def Dz(ds:List D):tT (.tuple ds)=.ok ds:=id rfl
def DA(x:Str):tT (.str x)=.ok (qw x):=id rfl
def RG(ds:List D):enm [.tuple ds]=.ok (kj 0 ds):=id rfl
def q0R(ds es:List D):zp [.tuple ds,.tuple es]=.ok (zW ds es):=id rfl
def DB(ρ:aE)(i:Nat):Sl:=Va ((ρ[i]?).getD .no)
def RH(ix:List Nat)(ρ:aE):aE:=ix.map (DB ρ)
def RI(ix:List Nat)(ρ:aE):l9 1 ix ρ=.no::RH ix ρ:=id rfl
def RJ(ix:List Nat)(ρ:aE):l9 2 ix ρ=.no::.no::RH ix ρ:=id rfl
def RK(ρ:aE):RH [] ρ=[]:=id rfl
def RL(i:Nat)(ix:List Nat)(ρ:aE):RH (i::ix) ρ=DB ρ i::RH ix ρ:=id rfl
def RM(s:Sl)(ρ:aE):DB (s::ρ) 0=Va s:=id rfl
def RN(s:Sl)(ρ:aE)(n:Nat):DB (s::ρ) (n+1)=DB ρ n:=by simp[DB]
def DC(d:D):Va (.shr d)=.shr d:=id rfl
def Fi(h:ρ[i]?=some (Sl.own d)):shareAt i ρ=ρ.set i (.shr d):=by unfold shareAt;rw[h]
theorem cK{α:Type}(f:D->R (Option D))(c:α->D)(h:α->D):∀(xs:List α),(∀x∈xs,f (c x)=.ok (some (h x)))->fY f (xs.map c)=.ok (xs.map h)
 |[],_=>rfl
 |x::r,e=>by
  rw[ay,ay];unfold fY;rw[e x ap,bind_ok,cK f c h r λy a=>e y (ai _ a),bind_ok]
theorem i7{α:Type}(f:D->R (Option D))(c:α->D)(h:α->D)(p:α->Bool):∀(xs:List α),(∀x∈xs,f (c x)=.ok (if p x then some (h x) else none))->fY f (xs.map c)=.ok ((xs.filter p).map h)
 |[],_=>rfl
 |x::r,e=>by
  rw[ay];unfold fY;rw[e x ap,bind_ok,i7 f c h p r λy b=>e y (ai _ b),bind_ok];cases a:p x<;>simp[a]
def XA:iX 1 ρ gt ge d=Fb (((gt (ρ.set 0 (.shr d)))).bind λb=>if b then(ge (ρ.set 0 (.shr d))).bind λy=>.ok (some y) else .ok none):=id rfl
def eD(a:gt (ρ.set 0 (.shr d))=.ok true)(b:ge (ρ.set 0 (.shr d))=.ok y):iX 1 ρ gt ge d=.ok (some y):=by
 rw[XA,a,bind_ok,if_pos rfl,b];rfl
def uv(a:gt (ρ.set 0 (.shr d))=.ok b)(c:b=true->ge (ρ.set 0 (.shr d))=.ok y):iX 1 ρ gt ge d=.ok (if b then some y else none):=by
 rw[XA,a,bind_ok];cases b with
 |true=>rw[if_pos rfl,c rfl];rfl
 |false=>rfl
def Vk(b:-(2 ^ 62)<=j)(f:j<2 ^ 62):KL [.int j]=.ok (tS 0 j.toNat):=by
 have h:-(2 ^ 62)<=j/\j<2 ^ 62:=⟨b,f⟩;unfold KL;split
 ·rename_i c e
  have a:j=c:=by injection e with e;injection e
  subst a;rw[if_pos h]
 ·rename_i d
  exact(d j rfl).elim
end J
namespace L2
open PySem PySem.Spec PyProof.Rows
def RO{X:Cx}{CX:Pj}{k i:Nat}{f:ak}{m:gW}{ps:List Str}{sp:Sp}{x:Str}{p b:Pos}{e:bC}{es:List bC}{t:TA}{E:XK}{ds:List ag}{c:List V}
  (F:u_ X.prog X.w X.K X.mg X.base CX k f m ps sp) (M:l8 k X.A) (z:X.N[i]?=some x) (hv:Pi X.env.scope x) (Y:f6 X.K (.ref f)=true) (P:lC X.K m ps ds) (S:dI c ds) (hx:lD CX X E)
  (G:PA X (e::es) t) (j:(x==("__debug__" : Str))=false:=by decide) (g:(x==("__classdict__" : Str))=false:=by decide) (he:aF (e::es) X.env=(false,eu e X.env)::aF es X.env:=by rfl) (l:(hG b (aF es X.env)).any (·.1)=false:=by rfl):
  PE X (.Call (.Name x p) (e::es) [] b) (λd H Q=>d[i]?=some (some (V.ref f))/\M1 sp c E t d H Q):=by
 intro a s d H Q I ⟨O,h⟩;refine lV (fS (qp z hv j g a s d H (λv H'=>v=V.ref f/\H'=H) I ⟨.ref f,O,rfl,rfl⟩) λu U ⟨v,L,n,y,B,T⟩=>?_);subst B T;cases y;refine vB (h₀:=X.base) n.ok.mod.kin Y (fS (G b a U d L _ n h) λus s1 ⟨vs,H1,o,r,q⟩=>⟨o.kIn,?_⟩) he l;exact Q5 F M P S hx o r q
end L2
namespace J
open PySem L2
open PyProof.Rows (envOfC)
def DD(a:Str->Option Nat):R D->R D
 |.ok d=>.ok d
 |.ex y none=>match a y with
  |some j=>.ok (.tuple [.str "refused",.int (j:Nat)])
  |none=>.no
 |_=>.no
def vn(a:Str->Option Nat)(F:List D->R D):List D->R D:=λds=>DD a (F ds)
def spT(K:a8)(cls:Str->ak)(n:Nat)(a:ak)(F:List D->R D):Sp:=λc H Q E=>∃b,c=V.ref a::b/\X6 K cls n F b H Q E
structure FnT (P:bd) (w:bz) (K:a8) (mg:Str->Option ag) (base:bP) (cls:Str->ak) (x y:Str) (k n:Nat) (F:List D->R D):Prop where
 ex:∃f fd ps a,u_ P w K mg base (oS P w) k f fd ps (spT K cls n a F)/\mg x=some (.ref f)/\f6 K (.ref f)=true/\lC K fd ps []/\mg y=some (.ref a)
def Vl(G:FnT c.X.prog c.X.w c.X.K c.X.mg c.X.base c.cls x y k n F)(z:l8 k c.X.A)(hg:Gl c.X x)(e:Gl c.X y)(Y:lD (oS c.X.prog c.X.w) c.X c.E)(t:Gs c es gs)
  (h:(x==("__debug__" : Str))=false:=by decide) (g:(y==("__debug__" : Str))=false:=by decide) (he:aF (.Name y q::es) c.X.env=(false,eu (.Name y q) c.X.env)::aF es c.X.env:=by rfl) (o:(hG pos (aF es c.X.env)).any (·.1)=false:=by rfl):
  JE c (.Call (.Name x p) (.Name y q::es) [] pos) (dN n F gs):=.of λρ=>by
 obtain⟨f,fd,ps,a,B,L,T,I,s⟩:=G.ex;refine sK (M2 (E:=c.E) B z hg L T I .nil Y (cE (EE (v:=.ref a) e s rfl g) (t ρ) he) h he o) λu H Q b=>?_;obtain⟨H0,a0,la,Hs,S,q⟩:=b;show TAs c.X.K c.cls c.E ρ (gs ρ) u H λxs j=>spT c.X.K c.cls n a F (V.ref a::xs++[]) j Q c.E;refine CB S q λds vs H1 i N s1 M O=>?_;unfold dN at q;rw[N,bind_ok] at q;by_cases l:ds.length=n
 ·rw[if_pos l] at q;rw[ck];exact⟨vs,rfl,i,ds,M.st.sub,l,O,q.on s1 λd k v j m P U=>k v j m (s1.trans P) U⟩
 ·rw[if_neg l] at q;exact q.elim
def YM{i k n:Nat}{F:List D->R D}{f:ak}{I:gW}{ps:List Str}(S:u_ c.X.prog c.X.w c.X.K c.X.mg c.X.base (oS c.X.prog c.X.w) k f I ps (X6 c.X.K c.cls n F))(hk:f6 c.X.K (.ref f)=true)(U:lC c.X.K I ps [])(Q:l8 k c.X.A)(hx:lD (oS c.X.prog c.X.w) c.X c.E)(O:Gs c (e::es) gs)
  (M:c.X.N[i]?=some x:=by rfl) (hv:Pi c.X.env.scope x:=by first|exact io rfl|exact fk (io rfl)|exact fk (fk rfl)) (j:(x==("__debug__" : Str))=false:=by decide) (h:(x==("__classdict__" : Str))=false:=by decide) (he:aF (e::es) c.X.env=(false,eu e c.X.env)::aF es c.X.env:=by rfl) (z:(hG pos (aF es c.X.env)).any (·.1)=false:=by rfl) (ρ:aE):
  PS c.X (.Return (some (.Call (.Name x p) (e::es) [] pos)) rpos) (λD b H=>b[i]?=some (some (V.ref f))/\SR c.X.K c.cls c.E ρ (cZ (dN n F gs) ρ) D b H):=by
 refine AQ (EF (RO (E:=c.E) S Q M hv hk U .nil hx (O (da ρ)) j h he z)) λD b H ⟨T,P,B,la,Hs,g,q⟩=>⟨T,?_⟩;obtain⟨Y,L⟩:=g.shared;have t:TR c.X.K c.cls c.E (da ρ) (dN n F gs (da ρ)) b H D.rt:=sE L q λd v G a u s1 l y=>by
  unfold cZ at q;rw[u,bind_ok] at q;exact q v G a l.st y
 clear q L g;obtain⟨P,B,la,Hs,g,q⟩:=t;show TAs c.X.K c.cls c.E (da ρ) (gs (da ρ)) b H λxs m=>X6 c.X.K c.cls n F (xs++[]) m D.rt c.E;refine CB g q λds vs G a u s1 l y=>?_;unfold dN at q;rw[u,bind_ok] at q;by_cases o:ds.length=n
 ·rw[if_pos o] at q;rw[ck];exact⟨a,ds,l.st.sub,o,y,q.on s1 λd k v m s s2 r2=>k v m s (s1.trans s2) r2⟩
 ·rw[if_neg o] at q;exact q.elim
section
variable{c:C}{body:List eG}{x n:Str}{np np2 np3 hpos cpos rpos pos:Pos}{gb:aE->R Fl}{names:List Str}{wh:Str->Option Nat}
def YN(i j:Nat)(W:Wh c.X.prog c.X.w c.X.K c.X.mg c.X.base c.cls x names wh)(hb:∀(E:XK) (G:ag->aq->Prop) (B:List (ak×Obj)),lD (oS c.X.prog c.X.w) (WX c.X G B) E->Co (WX c.X G B) body (λD g H=>g[j]?=some (some (V.ref a))/\SR c.X.K c.cls E ρ (gb ρ) D g H))
  (hr:o9 1 c.X.A) (M:Gl c.X x) (hg:Gl c.X "PlanError") (hN:c.X.N.Nodup) (P:c.X.N[i]?=some n:=by rfl) (hn:c.X.env.scope.names.lookup n=some .local:=by rfl)
  (I:∃l,c.X.stack=c.X.env::l/\c.X.env.frame=some c.X.env.locals:=by exact⟨_,rfl,rfl⟩) (Q:c.X.ex=[]:=by rfl) (S:(x==("__debug__" : Str))=false:=by decide) (hd:(n==("__debug__" : Str))=false:=by decide) (L:(n==("__classdict__" : Str))=false:=by decide):
  PS c.X (.Try body [.ExceptHandler (some (.Name "PlanError" np)) (some n) [.Return (some (.Call (.Name x np2) [.Name n np3] [] cpos)) rpos] hpos] [] [] pos) (λD g H=>g[j]?=some (some (V.ref a))/\SR c.X.K c.cls c.E ρ (Oa wh gb ρ) D g H):=by
 obtain⟨f,fd,ps,F,hm,hk,Y⟩:=W.fn;obtain⟨bp,y⟩:=W.ox;have hs:∀h,Co (ZH c.X h) [.Return (some (.Call (.Name x np2) [.Name n np3] [] cpos)) rpos] (ZU (M1 (YG c.X.K c.X.base c.cls names) [] E0 (GD (NG i) Q3))):=λh=>
  wG (EF (QF (X:=ZH c.X h) F (hr.mark _) M hm hk Y (cE (qp P (.inl hn) hd L) f_) S))
 refine AQ (Yx hg W.pe y hN P hn I Q (tb:=λE D g H=>g[j]?=some (some (V.ref a))/\SR c.X.K c.cls E ρ (gb ρ) D g H) (λE G B hp=>hb E G B hp) hs) λD g H U=>?_;obtain⟨hj,H0,v,la,Hs,fr,q⟩:=U;replace q:qV c.X.K c.cls c.E H0 v la D (Oa wh gb ρ):=q;refine⟨hj,H0,v,la,Hs,fr,?_⟩;unfold Oa at q;cases k:gb ρ with
 |no=>rw[k] at q;exact q
 |ok fl=>
  rw[k] at q;cases fl<;>exact q
 |ex z m=>
  rw[k] at q;cases m with
  |some d=>exact q.elim
  |none=>
   simp only at q;cases O:wh z with
   |none=>rw[O] at q;exact q.elim
   |some j=>
    rw[O] at q;have X0:=W.xf z j O;intro H' T st;obtain⟨bm,o1,o2⟩:=X0.ox;refine⟨c.cls z,bm,rfl,o1,o2,λh a0=>?_⟩;have hl:i<c.X.N.length:=(List.getElem?_eq_some_iff.mp P).1;refine⟨.ref h,aQ (by simpa[AL] using hl),h,c.cls z,j,rfl,aX,X0,λt H2 sm ht hT=>?_⟩;have s1:dS H' (upd H' h (AK h (c.cls z))):=ki a0;have s:H' t=none:=s1.free ht;refine q (.ref t) H2 (upd T t (.tup [.str "refused",.int (j:Nat)])) ?_ (.tuple aX (.cons (.str _) (.cons (.int _) .nil)));refine st.trans ⟨s1.trans sm,ki (st.sub.free s),λb u e=>?_,λa o e _ z=>by rw[b9 (bw e s)];exact z⟩;by_cases p:b=t
    ·subst p;rw[aX] at e;cases e;exact hT
    ·rw[b9 p] at e;exact sm b u (s1 b u (st.sub b u e))
end
def Fr.consNo(f:Fr K H0 Hs0 (λ_=>none) ρ σ H Hs):Fr K H0 Hs0 (λ_=>none) (.no::ρ) (some v::σ) H Hs:=by
 refine⟨f.st,congrArg (· + 1) f.len,λi d h=>?_,λi d h=>?_,λi d h=>?_,λi j d e a c g k m=>?_,λi a h=>(nomatch h),λi d h=>?_,λi j d e c g=>?_⟩
 ·cases i with
  |zero=>cases h
  |succ i=>exact f.sh i d h
 ·cases i with
  |zero=>cases h
  |succ i=>exact f.ow i d h
 ·cases i with
  |zero=>cases h
  |succ i=>exact f.lk i d h
 ·cases i with
  |zero=>cases c
  |succ i=>
   cases j with
   |zero=>cases g
   |succ j=>exact congrArg (· + 1) (f.dj i j d e a c g k m)
 ·cases i with
  |zero=>cases h
  |succ i=>
   obtain⟨a,l,o⟩:=f.o2 i d h;refine⟨a,l,o.at_,o.ob,o.nd,o.out,λb n j e c=>?_,o.inn⟩;cases j with
   |zero=>cases c
   |succ j=>exact o.dj b n j e c
 ·cases i with
  |zero=>cases c
  |succ i=>
   cases j with
   |zero=>cases g
   |succ j=>exact congrArg (· + 1) (f.u2 i j d e c g)
def Vm(n:Nat)(g:aE->R Fl):List D->R D:=λds=>match g (.no::cf n ds) with
 |.ok (.nx _)=>.ok .none
 |.ok (.rt d)=>.ok d
 |.ex c m=>.ex c m
 |_=>.no
def Vn(B:GJ K x qual st f fd)(S:bM (x0::N) ps (aB st))(Y:mg x=some (.ref f))(T:lC K fd ps [])(G:mg y=some (.ref a))(l:ps.length=n+1)
  (h:∀(i:ag) (A:cg) (outer:List Env) (s:aq) (H:Hp) (E:XK),l8 k (A.deeper (kA qual (aB st) s.heap.objs.size f i))->∀ ρ,Co (kC (oS P w) P w K mg base (x0::N) qual (aB st) f i A outer s H E) (jG st) (λD z H=>z[0]?=some (some (V.ref a))/\SR K cls E ρ (g ρ) D z H))
  (I:∀ds,ds.length=n->Vm N.length g ds=F ds):FnT P w K mg base cls x y (k+1) n F:=by
 refine⟨f,fd,ps,a,?_,Y,B.kp,T,G⟩;obtain⟨oc,od,kV,L,pm,an,i,ct,U,rfl,X,o⟩:=B.ex;refine WL X o S (λvs H Q E m=>by obtain⟨b,e,Hs,ds,sub,p,r,q⟩:=m;exact by rw[e,aU,r.length,p,l]) λA outer s H vs Q E O t=>?_;obtain⟨b,rfl,Hs,ds,sub,p,r,q⟩:=t;have fs:Fr K H Hs (λ_=>none) (.no::cf N.length ds) (L2.start (x0::N) (V.ref a::b)) H Hs:=by
  have:=(Fr.start (N:=N) sub r).consNo (v:=V.ref a);have e:L2.start (x0::N) (V.ref a::b)=some (V.ref a)::L2.start N b:=by
   unfold L2.start;rw[ay,aU,aU,Nat.add_sub_add_right];rfl
  rw[e];exact this
 refine⟨_,h i A outer s H E O (.no::cf N.length ds),rfl,H,Hs,_,Hs,fs,?_⟩;rw[<- I ds p] at q;unfold Vm at q;cases u:g (.no::cf N.length ds) with
 |no=>rw[u] at q;exact q
 |ex c n=>rw[u] at q;exact q
 |ok M=>
  rw[u] at q;cases M with
  |nx ρ'=>exact λσ' H' j f'=>q .non H' j f'.st .none
  |rt d=>exact λv H' j s r=>q v H' j s r
  |bk ρ'=>exact q.elim
  |ct ρ'=>exact q.elim
def RP(h:gs (da (.no::cf m ds))=.ok ds)(b:ds.length=n):Vm m (Oa wh (cZ (dN n F gs))) ds=vn wh F ds:=by
 unfold Vm Oa cZ dN vn DD;rw[h,bind_ok,if_pos b];cases F ds with
 |ok d=>rfl
 |no=>rfl
 |ex z o=>
  cases o with
  |some d=>rfl
  |none=>
   show(match (match wh z with
    |some j=>R.ok (Fl.rt (.tuple [.str "refused",.int (j:Nat)]))
    |none=>R.no:R Fl) with
    |.ok (.nx _)=>R.ok PyData.none
    |.ok (.rt d)=>.ok d
    |.ex c m=>.ex c m
    |_=>.no)=_
   cases a:wh z<;>simp only[a]
def ln1{α:Type}{b:List α}(h:b.length=1):∃a,b=[a]:=by
 rcases b with _|⟨a0,_|⟨z,r⟩⟩
 ·simp at h
 ·exact⟨_,rfl⟩
 ·simp at h
def ln2{α:Type}{c:List α}(h:c.length=2):∃a b,c=[a,b]:=by
 rcases c with _|⟨a0,_|⟨a0,_|⟨z,r⟩⟩⟩
 ·simp at h
 ·simp at h
 ·exact⟨_,_,rfl⟩
 ·simp at h
def ln3{α:Type}{d:List α}(h:d.length=3):∃a b c,d=[a,b,c]:=by
 rcases d with _|⟨a0,_|⟨a0,_|⟨a0,_|⟨z,r⟩⟩⟩⟩
 ·simp at h
 ·simp at h
 ·simp at h
 ·exact⟨_,_,_,rfl⟩
 ·simp at h
def ln4{α:Type}{e:List α}(h:e.length=4):∃a b c d,e=[a,b,c,d]:=by
 rcases e with _|⟨a0,_|⟨a0,_|⟨a0,_|⟨a0,_|⟨z,r⟩⟩⟩⟩⟩
 ·simp at h
 ·simp at h
 ·simp at h
 ·simp at h
 ·exact⟨_,_,_,_,rfl⟩
 ·simp at h
def ln5{α:Type}{f:List α}(h:f.length=5):∃a b c d e,f=[a,b,c,d,e]:=by
 rcases f with _|⟨a0,_|⟨a0,_|⟨a0,_|⟨a0,_|⟨a0,_|⟨z,r⟩⟩⟩⟩⟩⟩
 ·simp at h
 ·simp at h
 ·simp at h
 ·simp at h
 ·simp at h
 ·exact⟨_,_,_,_,_,rfl⟩
 ·simp at h
end J
namespace HT
open PySem PyProof.Rows
section
open PySem.SeqAt
open PySem.AutoSeq1 (wpAny_loadPart')
open PySem.MeetsSeq PySem.MeetsSeq2 PySem.MeetsSeq3
def yA{c:ak}{t:Tok}{n:Nat}{Q:Int×Int×Nat->aq->Prop}(hs:s.heap.IsSliceOf c .none .none (.int (-1) t))
  (h:Q ((n:Int)-1,-1,n) s):au (az prog w) A (iV (.ref c) (pure (n:Int))) Q E s:=by
 obtain⟨f,a,d,b⟩:=id hs;unfold iV xR;refine a7 (a7 (dq a b (x:=.none) rfl (a7 (dq a b (x:=.none) rfl (a7 (dq a b (x:=.int (-1) t) rfl (a9 ?_)))))));refine a7 (slicePart_int ?_);show au _ _ (if((-1:Int)==0)=true then _ else _) _ _ s;rw[if_neg ⋯];refine a7 (xZ (a7 (xZ (a7 (a9 ?_)))));show au _ _ (pure ((n:Int)-1,(-1:Int),dH ((n:Int)-1) (-1) (-1))) _ _ s;have e:dH ((n:Int)-1) (-1) (-1)=n:=by
  unfold dH;rw[if_neg ∅];simp only[Int.neg_neg,Int.ediv_one];split<;>omega
 rw[e];exact a9 h
theorem HC{α b:Type}{f g:α->Option b}:∀{l:List α},(∀x∈l,f x=g x)->l.filterMap f=l.filterMap g
 |[],_=>rfl
 |x::r,h=>by
  rw[fv,fv,h x ap,HC λy a=>h y (ai _ a)]
def RQ(xs:Array ag):((bq xs.size).filterMap λ(m:Nat)=>xs[((xs.size:Int)-1+(m:Int)*(-1)).toNat]?).toArray=xs.toList.reverse.toArray:=by
 congr 1;have e:(bq xs.size).filterMap (λ(m:Nat)=>xs[((xs.size:Int)-1+(m:Int)*(-1)).toNat]?)=(bq xs.size).filterMap (λm=>some (xs.getD (xs.size-1-m) .none)):=by
  refine HC λm b=>?_;have b:=List.mem_range.mp b;have:((xs.size:Int)-1+(m:Int)*(-1)).toNat=xs.size-1-m:=by omega
  rw[this];have a:xs.size-1-m<xs.size:=by omega
  rw[bf a];simp[Ch,a]
 rw[e];have f:(λm=>some (xs.getD (xs.size-1-m) dO))=some∘λm=>xs.getD (xs.size-1-m) dO:=rfl;rw[f,List.filterMap_eq_map];refine mP (by simp) λi c a=>?_;simp only[ah,dG] at c;have d:xs.size-1-i<xs.size:=by omega
 rw[k8,pq,List.getElem_reverse];simp[Ch,d]
def xn(b:U0 s.heap t items)(hs:s.heap.IsSliceOf sl .none .none (.int (-1) tk))
  (h:Q (.ref s.heap.objs.size) {s with heap:=s.heap.push {cls:=.type "tuple",data:=.seq items.toList.reverse.toArray}})
  (hsz:items.size<=sizeLine):au (az prog w) A (oP (.ref t) (.ref sl)) Q E s:=by
 have a:sizeOk (.seq items.toList.reverse.toArray):=by
  show items.toList.reverse.toArray.size<=sizeLine;rw[aM,Nx,ax];exact hsz
 obtain⟨i,c,e,g⟩:=id hs;have f:s.TypeIs (.ref sl) "slice":=⟨i,c,e⟩;unfold oP;try with_reducible refine bY ?_
 first|refine a7 (a9 ?_)|skip
 refine a7 (C9 b.typeIs ⋯ ?_);refine a7 (cy (name:=gO "__getitem__") b.typeIs dB
  (bE dB b.typeIs zH ?_ (Ar _ _)))
 show au _ _ (mE (.ref t)>>=_) _ _ s;refine a7 (Nl b ?_);refine a7 (mT f ?_);rw[if_pos ⋯];refine a7 (yA hs ?_);have d:¬ ((((items.size:Int)-1)==0&&(-1:Int)==1&&items.size==items.size)=true):=by
  intro q;rw[aR,aR] at q;exact absurd q.1.2 ⋯
 show au _ _ (if((((items.size:Int)-1)==0&&(-1:Int)==1&&items.size==items.size)=true) then _ else _) _ _ s;rw[if_neg d,RQ];first
  |exact a7 (m:=db _) (bu (a9 ⟨_,rfl,a9 h⟩) a)
  |exact a7 (m:=db _) (bu (a7 (a9 (a9 ⟨_,rfl,a9 h⟩))) a)
  |exact a7 (a7 (m:=db _) (bu (a9 (a9 ⟨_,rfl,a9 h⟩)) a))
  |exact a7 (a7 (m:=db _) (bu (a9 ⟨_,rfl,a9 h⟩) a))
end
end HT
namespace L2
open PySem PySem.Spec PyProof.Rows
section
variable{X:Cx}{e st:bC}{te ts:TE}{pos p2:Pos}
def dI.rev(h:dI xs us):dI xs.reverse us.reverse:=by
 induction h with
 |nil=>exact .nil
 |cons r t a=>rw[qL,qL];exact a.append (.cons r .nil)
def YO(he:PE X e te)(hs:PE X st ts):PE X (.Subscript e (.Slice none none (some st) p2) pos) (λd H Q=>te d H λx g=>ts d g λy j=>y=.int (-1)/\∃a xs,x=.ref a/\lY X.K j a xs/\∀p,j p=none->Q (.ref p) (upd j p (.tup xs.reverse))):=by
 intro c s d H Q I h;refine JJ (fS (he c s d H _ I h) λv s1 t=>?_);obtain⟨x,g,P,N,G⟩:=t;have L:evalPart none X.env=pure .none:=Nm ..;refine wpAny_Slice ?_;rw[L];refine a9 ?_;refine a9 ?_;rw[evalPart_some];refine fS (hs c s1 d g _ P G) λu s3 E=>?_;obtain⟨y,M,B,O,z,a,xs,S,sq,q⟩:=E;subst z;subst S;obtain⟨l,rfl⟩:=O;cases N;have k:bQ X c d M {s3 with heap:=s3.heap.push {cls:=.type "slice",data:=.fields #[.none,.none,.int (-1) l]}}:=B.kept (t':=s3.toks) λb ob q=>af _ q;obtain⟨i,r,m,n⟩:=k.tuple sq;have f:i.toArray.size=xs.length:=by rw[aM];exact r.length.symm
 show au (az X.prog X.w) X.A (A3 e (.Slice none none (some st) p2) (.ref a) (.ref s3.heap.objs.size)) (EP X c d Q) X.xe {s3 with heap:=s3.heap.push {cls:=.type "slice",data:=.fields #[.none,.none,.int (-1) l]}};refine tail_any (ops:=[.ref a,.ref s3.heap.objs.size]) m.typeIs PyProof.Rows.slot_tuple_getitem.lookup ?_ (by with_unfolding_all rfl);refine HT.xn m (C6 ..) ?_ (by rw[f];exact n);refine⟨.ref _,_,k.laid (t':=s3.toks) (o:=.tup xs.reverse) (λb ob q=>af _ q) (aw _) ?_,rfl,q _ (k.hok.fresh (aw _))⟩;exact⟨by rw[Nx];exact n,_,r.rev,v9 _ _⟩
end
end L2
namespace J
open PySem L2
section
variable{c:C}{e:bC}{g:aE->R D}{pos p2 p3 p4:Pos}
def q1X:D->R D
 |.tuple xs=>.ok (.tuple xs.reverse)
 |_=>.no
def HD(g:aE->R D):aE->R D:=λρ=>(g ρ).bind q1X
def RS(h:JB c e g):JE c (.Subscript e (.Slice none none (some (.UnaryOp .USub (.Constant (.int 1) j p3) p4)) p2) pos) (HD g):=.of λρ=>sK (YO (h ρ) (Z_ Yb Kc)) λw H Q b=>by
 obtain⟨x,s,la,Hs,f,q⟩:=b;refine one f q λd v u l m s1 y n=>?_;unfold HD at q;rw[m,bind_ok] at q;refine⟨1,rfl,rfl,?_⟩;cases d with
 |tuple ds=>
  obtain⟨a,t,rfl,k,o,_⟩:=n.tuple s1.sub;exact⟨a,t,rfl,k,λp i=>q _ _ _ (s1.trans (.new s1.sub i)) (.tuple aX (o.reverse.same (cQ.new s1.sub i).sh))⟩
 |_=>exact q.elim
end
end J
namespace L2
open PySem
def Mw(a:Nat):Nat->Nat×Nat->Nat×Nat
 | 0,x=>x
 |n+1,x=>Mw a n (gq a x.1 x.2)
theorem Mx(a:Nat):∀(n m:Nat) (x:Nat×Nat),Mw a (n+m) x=Mw a m (Mw a n x)
 | 0,m,x=>by rw[zK];rfl
 |n+1,m,x=>by
  rw[Nat.succ_add];exact Mx a n m _
theorem My(a:Nat):∀(n:Nat) (x:Nat×Nat),(Mw a n x).2=x.2 / 32 ^ n
 | 0,x=>by simp[Mw]
 |n+1,x=>by
  show(Mw a n _).2=_;rw[My a n];show x.2 / 32 / 32 ^ n=_;rw[K1,K2,K3]
theorem Mz(a:Nat):∀(n:Nat) (x:Nat×Nat),x.1<=a->(Mw a n x).1<=a
 | 0,x,h=>h
 |n+1,x,h=>Mz a n _ (by
  show(x.1*5+1+x.2 / 32) % (a+1)<=a;exact zL (mU _ (oW _)))
theorem DE:∀(fuel i p:Nat),cw mask owner fuel i p=none->∀n,n<fuel->(owner.getD (Mw mask n (i,p)).1 (some 0)).isSome=true
 | 0,_,_,_,n,h=>absurd h (gx n)
 |fuel+1,i,p,e,n,h=>by
  unfold cw at e;split at e
  ·cases e
  ·rename_i b
   cases n with
   |zero=>
    have a:=List.find?_eq_none.mp b 0 (List.mem_range.mpr (by unfold bI;split<;>omega));simp only[oX] at a;show(owner.getD i (some 0)).isSome=true;cases q:owner.getD i (some 0) with
    |none=>rw[q] at a;exact absurd rfl a
    |some _=>rfl
   |succ n=>exact DE fuel _ _ e n (K4 h)
theorem DF:∀(fuel i p k:Nat),cw mask owner fuel i p=some k->owner.getD k (some 0)=none
 | 0,_,_,_,e=>nomatch e
 |fuel+1,i,p,k,e=>by
  unfold cw at e;split at e
  ·rename_i a b
   cases e;have:=List.find?_some b;cases q:owner.getD (i+a) (some 0) with
   |none=>rfl
   |some _=>rw[q] at this;cases this
  ·exact DF fuel _ _ k e
def Pk(a:Nat):Prop:=a=7\/a=15\/a=31
def q0S(a:Nat):Bool:=(bq (a+1)).all λi=>(bq (a+1)).all λj=>(bq (a+1)).any λn=>decide ((Mw a n (i,0)).1=j)
def Vo(h:Pk mask):q0S mask=true:=by
 rcases h with h|h|h<;>subst h<;>decide +kernel
def getD_none{owner:Array (Option Nat)}{k:Nat}(h:owner.getD k (some 0)=none):owner.toList[k]?=some none:=by
 by_cases a:k<owner.size
 ·rw[dE,bf a] at h;rw[bH,bf a];simpa using h
 ·rw[dE,sQ ∅] at h;cases h
def Ob{a:Nat}(h:Pk a){owner:Array (Option Nat)}{j:Nat}(o:j<=a)(d:owner.toList[j]?=some none){i p:Nat}(s:i<=a)(m:p<2 ^ 64):
  ∃k,cw a owner (eZ a) i p=some k/\owner.toList[k]?=some none:=by
 cases e:cw a owner (eZ a) i p with
 |some k=>exact⟨k,rfl,getD_none (DF _ _ _ _ e)⟩
 |none=>
  exfalso;have l:(Mw a 13 (i,p)).2=0:=by
   rw[My];exact Ue (aK m ⋯)
  have f:=Mz a 13 (i,p) s;have g:=Vo h;unfold q0S at g;rw[cx] at g;have g:=g _ (List.mem_range.mpr (rn f));rw[cx] at g;have g:=g j (List.mem_range.mpr (rn o));rw[eU] at g;obtain⟨n,c,b⟩:=g;have c:=List.mem_range.mp c;have b:=of_decide_eq_true b;have hs:(Mw a (13+n) (i,p)).1=j:=by
   rw[Mx,<- b,<- l]
  have:=DE _ _ _ e (13+n) (by unfold eZ;omega);rw[hs] at this;have q:owner.getD j (some 0)=none:=by
   rw[bH] at d;rw[dE,d];rfl
  rw[q] at this;cases this
def Vp(h:Int):bT h<2 ^ 64:=by
 unfold bT;have:=lz h (show(0:Int)<2 ^ 64 by decide);have:=n_ h (show(2 ^ 64:Int)≠0 by decide);omega
theorem HE:∀{l:List (Option Nat)}{j:Nat},l[j]?=some none->((l.set j (some k)).filterMap id).Perm (k::l.filterMap id)
 |[],_,h=>nomatch h
 |x::r,0,h=>by
  cases h;exact .refl _
 |x::r,j+1,h=>by
  have a:=HE (k:=k) (l:=r) (j:=j) h;cases x with
  |none=>exact a
  |some y=>exact(a.cons y).trans (.swap k y _)
theorem HF:∀{l:List (Option Nat)},(l.filterMap id).length<l.length->∃j,j<l.length/\l[j]?=some none
 |[],h=>absurd h (cB 0)
 |none::r,_=>⟨0,oW _,rfl⟩
 |some y::r,h=>by
  obtain⟨j,a,b⟩:=HF (l:=r) (K4 h);exact⟨j+1,Uf a,b⟩
def MA(a:Nat)(b:Option (Array (Option Nat)×Nat))(h:Int):Option (Array (Option Nat)×Nat):=b.bind λx=>(cw a x.1 (eZ a) (bT h % (a+1)) (bT h)).bind λj=>some (x.1.setIfInBounds j (some x.2),x.2+1)
def HG(a:Nat)(hs:Array Int):lf a hs=(hs.toList.foldl (MA a) (some (kM (a+1) none,0))).map (·.1):=by
 rw[Ny];rfl
theorem MB(g:Pk mask):∀(l:List Int) (owner:Array (Option Nat)) (k:Nat),owner.size=mask+1->(owner.toList.filterMap id).Perm (bq k)->k+l.length<=mask ->
  ∃o',l.foldl (MA mask) (some (owner,k))=some (o',k+l.length)/\o'.size=mask+1/\(o'.toList.filterMap id).Perm (bq (k+l.length))
 |[],owner,k,a,b,_=>⟨owner,rfl,a,b⟩
 |h::r,owner,k,a,b,n=>by
  simp only[aU] at n ⊢;obtain⟨j,f,p⟩:=HF (l:=owner.toList) (by rw[b.length_eq,dG,ax,a];omega);rw[ax,a] at f;obtain⟨m,s,o⟩:=Ob g (zL f) p (i:=bT h % (mask+1)) (zL (mU _ (oW _))) (Vp h);have e:MA mask (some (owner,k)) h=some (owner.setIfInBounds m (some k),k+1):=by
   unfold MA;simp only[rz,s]
  rw[ik,e];obtain⟨o',d,q,c⟩:=MB g r (owner.setIfInBounds m (some k)) (k+1) (by rw[Ey];exact a) (by
   rw[Array.toList_setIfInBounds];refine(HE o).trans ?_;rw[List.range_succ];exact((b.cons k).trans (Db k _).symm)) ∅
  rw[show k+1+r.length=k+(r.length+1) by omega] at d c;exact⟨o',d,q,c⟩
def MC{n:Nat}{o:Array (Option Nat)}(h:o.size=n):(bq n).filterMap (λj=>o.getD j none)=o.toList.filterMap id:=by
 have e:(bq n).map (λj=>o.getD j none)=o.toList:=by
  refine mP (by simp[h]) λi a b=>?_;simp only[ah,dG] at a;rw[k8,pq,dE,bf ∅];simp
 rw[<- e,iZ];rfl
def MD{mask finger moves:Nat}{led plain:Bool}{hs:Array Int}(f:Pk mask)(i:hs.size<=mask):∃place a,pj mask finger moves led plain hs=some ({mask,place,dummies:=#[],finger,led,moves,plain},a)/\place.size=hs.size/\a.toList.Perm (bq hs.size):=by
 obtain⟨o,d,c,b⟩:=MB f hs.toList (kM (mask+1) none) 0 (by simp) (by
  have:(kM (mask+1) (none:Option Nat)).toList.filterMap id=[]:=by
   rw[Array.toList_replicate,List.filterMap_eq_nil_iff];intro x h;rw[(List.mem_replicate.mp h).2];rfl
  rw[this];exact .refl _) (by rw[ax];omega)
 have g:lf mask hs=some o:=by
  rw[HG,d];rfl
 rw[zK,ax] at b;refine⟨_,_,by unfold pj;rw[g];rfl,?_,?_⟩
 ·have e:=congrArg lm (MC c);rw[b.length_eq,dG] at e;rw[aM,ah,<- e];rw[zM,zM];congr 1;funext j;cases o.getD j none<;>rfl
 ·rw[Pf];refine .trans (.of_eq ?_) b;rw[<- MC c];show List.filterMap _ _=List.filterMap _ _;congr 1;funext j;cases o.getD j none<;>rfl
end L2
namespace L2
open PySem
def RT:∀n:_root_.Fin 31,n.val<bK n.val/\(bK n.val=8\/bK n.val=16\/bK n.val=32):=by decide +kernel
def RU(h:n<=30):n<=bK n-1/\Pk (bK n-1)/\bK n<=32:=by
 obtain⟨a,b⟩:=RT ⟨n,by omega⟩;simp only at a b;unfold Pk;omega
def Bc{es:Array (Int×ag)}{a:Array Nat}(h:a.toList.Perm (bq es.size)):(a.filterMap (es[·]?)).toList.Perm es.toList:=by
 rw[Gy];refine(h.filterMap _).trans (.of_eq ?_);have e:(bq es.size).map (λi=>es[i]?)=es.toList.map some:=by
  refine mP (by simp) λi b d=>?_;simp only[ah,dG] at b;rw[k8,pq,k8,Array.getElem_toList];exact bf b
 have c:(bq es.size).filterMap (λi=>es[i]?)=((bq es.size).map (λi=>es[i]?)).filterMap id:=by rw[iZ];rfl
 rw[c,e,iZ];simp
def fu.of(I:fu w h a es ep t)(p:es'.toList.Perm es.toList)(f:t'.fits es'.size=true)(l:t'.led=t.led)(pl:t'.plain=t.plain):fu w (h.update a (jW es' t')) a es' (ep+1) t':=by
 have sz:es'.size=es.size:=by rw[<- ax,p.length_eq,ax]
 refine⟨uq I,λe he=>I.txt e (p.mem_iff.mp he),(p.map lO).nodup_iff.mpr I.nd,by rw[sz];exact I.few,f,l.trans I.led,?_⟩;rw[sz,pl];exact I.pl
def Be{t:eR}{n:Nat}(h:t.fits n=true):t.place.size=n/\t.fill<=t.mask:=by
 unfold k7 at h;rw[aR] at h;exact⟨eq_of_beq h.1,of_decide_eq_true h.2⟩
def ME{mask finger moves:Nat}{led plain:Bool}{place:Array Nat}{n:Nat}(h:place.size=n)(a:n<=mask):k7 {mask,place,dummies:=#[],finger,led,moves,plain} n=true:=by
 unfold k7 pw;subst h;simp only[beq_self_eq_true,wE,decide_eq_true_eq];exact a
def KR{a:ak}{es:Array (Int×ag)}{l:Nat}{t:eR}{b:Nat}{Q:Unit->aq->Prop}(I:fu w s.heap a es l t)(m:b<=30)(o:es.size<=b)
  (h:∀h' es' d t',bG a s.heap h'->fu w h' a es' d t'->es'.toList.Perm es.toList->Pk t'.mask->b<=t'.mask->Q () {s with heap:=h'}):au (az P w) A (K5 a b) Q E s:=by
 obtain⟨k,i,p⟩:=RU m;obtain⟨place,c,e,j,ho⟩:=MD (finger:=t.finger) (moves:=t.movedTo (bK b-1)) (led:=t.led) (plain:=t.plain) (hs:=es.map (·.1)) i (by rw[lN];omega);rw[lN] at j ho;have f:=Bc ho;have sz:(c.filterMap (es[·]?)).size=es.size:=by rw[<- ax,f.length_eq,ax]
 unfold K5;refine a7 (bj I.at_ rfl I.fits ?_);show au _ _ (if bK b > sizeLine then _ else _) _ _ s;have n:(32:Nat)<=sizeLine:=by decide
 rw[if_neg ∅];refine a7 ?_;unfold zb;rw[e];show au _ _ (if((c.filterMap (es[·]?)).size != es.size)=true then _ else pure (c.filterMap (es[·]?),_)) _ _ s;rw[if_neg (by rw[sz];simp)];refine a9 ?_;have g:k7 {mask:=bK b-1,place,dummies:=#[],finger:=t.finger,led:=t.led,moves:=t.movedTo (bK b-1),plain:=t.plain} (c.filterMap (es[·]?)).size=true:=ME (by rw[sz];exact j) (by rw[sz];omega);refine gM I.at_ rfl ?_ (by rw[sz];exact gN I.few);exact h _ _ _ _ (bB s.heap a _) (I.of f g rfl rfl) f i k
def Fj{a:ak}{es:Array (Int×ag)}{e:Nat}{t:eR}{more:Nat}{Q:Unit->aq->Prop}(I:fu w s.heap a es e t)(m:es.size+more<=15)(g:es.size≠0\/Pk t.mask)
  (h:∀h' es' b t',bG a s.heap h'->fu w h' a es' b t'->es'.toList.Perm es.toList->(es.size≠0\/Pk t'.mask)->more<=t'.mask->Q () {s with heap:=h'}):au (az P w) A (setRoomFor a more) Q E s:=by
 obtain⟨c,n⟩:=Be I.fits;unfold setRoomFor;refine a7 (bj I.at_ rfl I.fits ?_);dsimp only;unfold SetTable.roomFor;by_cases d:(t.fill+more)*5 ≥ t.mask*3
 ·rw[if_pos d];refine KR I (by rw[c];omega) (by rw[c];omega) λh' es' b t' i k f l j=>?_;exact h h' es' b t' i k f (.inr l) (by rw[c] at j;omega)
 ·rw[if_neg d];exact a9 (h s.heap es e t (.refl ..) I (.refl _) g ∅)
end L2
namespace L2
open PySem
theorem Ac{α a:Type}{M:Model}{A:cg}{E:ag->aq->Prop}{Q:a->aq->Prop}{f:α->a->Sem (ForInStep a)}{b:a}(I:List α->aq->Prop)
  (step:∀x r s,I (x::r) s->au M A (f x b) (λst s'=>st=.yield b/\I r s') E s) (fin:∀s,I [] s->Q b s):∀(l:List α) (s:aq),I l s->au M A (forIn l b f) Q E s
 |[],s,h=>by rw[pi];exact a9 (fin s h)
 |x::r,s,h=>by
  rw[jh];refine a7 (cn (step x r s h) (λst s' q=>?_) λ_ _ e=>e);obtain⟨rfl,q⟩:=q;exact Ac I step fin r s' q
def HH(h:∀a∈l,∃es f t,fu w s.heap a es f t)(q:Q true s):au (az P w) A (setsQuiet l) Q E s:=by
 unfold setsQuiet;refine a7 (Ac (λr s'=>s'=s/\∀a∈r,∃es f t,fu w s.heap a es f t) (λa r s' c=>?_) (λs' c=>?_) l s ⟨rfl,h⟩)
 ·obtain⟨rfl,c⟩:=c;obtain⟨es,f,t,I⟩:=c a ap;unfold setEntries;refine a7 (a7 (bj I.at_ rfl I.fits (a9 ?_)));dsimp only;rw[<- oY];refine a7 (Ac (λi g=>g=s'/\∀e∈i,vM w e) (λe i g d=>?_) (λg d=>?_) es.toList s' ⟨rfl,I.txt⟩)
  ·obtain⟨rfl,d⟩:=d;obtain⟨x,k,rfl⟩:=d e ap;exact a9 ⟨rfl,rfl,λe he=>d e (ai _ he)⟩
  ·obtain⟨rfl,_⟩:=d;exact a9 ⟨rfl,rfl,λb j=>c b (ai _ j)⟩
 ·obtain⟨rfl,_⟩:=c;exact a9 q
def Oc(I:fu w s.heap o es ep t)(b:w.params.followText "set-order"=true\/t.plain=true\/es.size<=1)
  (q:∀es',es'.toList.Perm es.toList->Q es' s):au (az P w) A (setWalk o) Q E s:=by
 unfold setWalk;refine a7 (bj I.at_ rfl I.fits (a7 (gF ?_)));cases a:w.params.followText "set-order" with
 |true=>
  simp only[if_true];exact a7 (h_ (a9 (q _ (yp _ _))))
 |false=>
  simp only[bg,if_false];have d:(!t.plain&&decide (es.size > 1))=false:=by
   rcases b with h|h|h
   ·rw[a] at h;cases h
   ·rw[h];rfl
   ·rw[decide_eq_false ∅,ph]
  have c:t.led=true:=by rw[I.led,a];rfl
  show au _ _ (if(!t.plain&&decide (es.size > 1))=true then _ else _) _ _ s;rw[d,if_neg aG];refine a7 ?_;show au _ _ (if(!t.led&&decide (es.size > 1))=true then _ else pure ()) _ _ s;rw[c,if_neg (by simp)];exact a9 (a9 (q _ (.refl _)))
def zX(I:fu w s.heap o eo epo to)(J:fu w s.heap a es ep t)
  (q:∀h' es' e t',bG a s.heap h'->fu w h' a es e t'->es'.toList.Perm eo.toList->Q es' {s with heap:=h'}):au (az P w) A (setWalkUnseen o [a] (some a)) Q E s:=by
 unfold setWalkUnseen;refine a7 (bj I.at_ rfl I.fits (a7 (gF ?_)));cases d:(w.params.followText "set-order" || to.led&&to.plain||decide (eo.size<=1)) with
 |true=>
  rw[if_pos rfl];refine Oc I ?_ λes' p=>q s.heap es' ep t (.refl ..) J p;rw[ij,ij,aR,decide_eq_true_eq] at d;rcases d with (h|h)|h
  ·exact .inl h
  ·exact .inr (.inl h.2)
  ·exact .inr (.inr h)
 |false=>
  rw[if_neg aG];rw[LU,LU,decide_eq_false_iff_not] at d;obtain⟨⟨i,_⟩,j⟩:=d;refine a7 (HH (λb g=>?_) ?_)
  ·rcases List.mem_cons.mp g with h|h
   ·rw[h];exact⟨_,_,_,I⟩
   ·rw[List.mem_singleton.mp h];exact⟨_,_,_,J⟩
  rw[if_neg (by simp)];refine a7 (eI ?_);dsimp only;refine a7 (bj J.at_ rfl J.fits ?_);dsimp only;have f:to.plain=false:=I.pl.resolve_left ∅;have c:(t.led&&to.led)=t.led:=by rw[I.led,J.led,mX]
  split
  ·refine a7 (gM J.at_ rfl ?_ (gN J.few));refine a9 (q _ _ _ _ (bB s.heap a _) (⟨uq J,J.txt,J.nd,J.few,?_,?_,?_⟩:fu w _ a es (ep+1) _) (.refl _))
   ·exact J.fits
   ·exact c.trans J.led
   ·exact .inr (by show(t.plain&&to.plain)=false;rw[f,ph])
  ·exact a9 (q s.heap eo ep t (.refl ..) J (.refl _))
end L2
namespace L2
open PySem
def fu.but(I:fu w h o eo epo to)(ne:a≠o)(b:bG a h h'):fu w h' o eo epo to:=I.keep λ_ e=>(b.2 o (dk ne)).trans e
def Bf{a o:ak}{es c:Array (Int×ag)}{ep S:Nat}{t to:eR}{k:Sem Unit}{Q:Unit->aq->Prop}(ne:a≠o)(J:fu w s.heap a es ep t)(I:fu w s.heap o c S to)
  (hz:es.size+c.size<=15) (hm:es.size≠0\/Pk t.mask) (he:∀(s':aq) (Q':Unit->aq->Prop),fu w s'.heap o c S to->Q' () s'->au (az P w) A k Q' E s')
  (q:∀h' d es' a5 t',bG a s.heap h'->fu w h' a es' a5 t'->(∀x,x∈es'.toList.map lO↔x∈es.toList.map lO\/x∈c.toList.map lO)->(es'.size≠0\/Pk t'.mask)->Q () {s with heap:=h',toks:=d}):
  au (az P w) A (setMerge a o k) Q E s:=by
 unfold setMerge;rw[if_neg (by simpa using ne)];refine a7 (bj I.at_ rfl I.fits ?_);dsimp only;by_cases n:c.size=0
 ·rw[if_pos (by simpa[Array.isEmpty] using n)];have e0:c=#[]:=mF n;exact a9 (q s.heap s.toks es ep t (.refl ..) J (λx=>by rw[e0];simp) hm)
 rw[if_neg (by simpa[Array.isEmpty] using n)];refine a7 (Fj J hz hm λB z L i j g p1 m1 r1=>?_);have I1:=I.but ne j;have b8:z.size=es.size:=by rw[<- ax,p1.length_eq,ax]
 refine a7 (bj (s:={s with heap:=B}) g.at_ rfl g.fits ?_);dsimp only;obtain⟨f1,f2⟩:=Be g.fits;have M:to.plain=false:=I.pl.resolve_left n;have p:(i.led&&to.led)=i.led:=by rw[I.led,g.led,mX]
 have kp:∀x,x∈z.toList.map lO↔x∈es.toList.map lO:=λx=>(p1.map lO).mem_iff;by_cases hf:i.fill=0
 ·have e1:es.size=0:=by
   unfold pw at hf;omega
  have mk:Pk i.mask:=m1.resolve_left ∅;have ee:es=#[]:=mF e1;unfold Px;rw[if_neg (by rw[hf];decide)];split
  ·refine gM (s:={s with heap:=B}) g.at_ rfl ?_ (gN I.few);refine q _ s.toks _ _ _ (j.trans (bB B a _)) (⟨uq g,I.txt,I.nd,I.few,?_,?_,?_⟩:fu w _ a c (L+1) _) (λx=>by rw[ee];simp) (.inl n)
   ·exact I.fits
   ·exact p.trans g.led
   ·exact .inr (by show(i.plain&&to.plain)=false;rw[M,ph])
  ·obtain⟨b7,b,e,hp,ho⟩:=MD (finger:=i.finger) (moves:=i.moves) (led:=i.led&&to.led) (plain:=i.plain&&to.plain) (hs:=c.map (·.1)) mk (by rw[lN];exact r1);rw[lN] at hp ho;have T:=Bc ho;have sz:(b.filterMap (c[·]?)).size=c.size:=by rw[<- ax,T.length_eq,ax]
   refine a7 ?_;rw[e];show au _ _ (if((b.filterMap (c[·]?)).size != c.size)=true then _ else pure (b.filterMap (c[·]?),_)) _ _ _;rw[if_neg (by rw[sz];simp)];refine a9 ?_;refine gM (s:={s with heap:=B}) g.at_ rfl ?_ (by rw[sz];exact gN I.few);refine q _ s.toks _ _ _ (j.trans (bB B a _)) (⟨uq g,λx hx=>I.txt x (T.mem_iff.mp hx),(T.map lO).nodup_iff.mpr I.nd,by rw[sz];exact I.few,ME (by rw[sz];exact hp) (by rw[sz];exact r1),p.trans g.led,.inr ?_⟩:fu w _ a (b.filterMap (c[·]?)) (L+1) _) (λx=>?_) (.inl (by rw[sz];exact n))
   ·show(i.plain&&to.plain)=false;rw[M,ph]
   ·rw[(T.map lO).mem_iff,ee];simp
  ·rename_i U
   split at U<;>cases U
 ·unfold Px;rw[if_pos (by simpa using hf)];dsimp only;refine a7 (zX (s:={s with heap:=B}) I1 g λh2 N b0 t2 a0 J2 Y=>?_);rw[<- oY];have hl:N.toList.length=c.size:=by rw[Y.length_eq,ax]
  refine a7 (Ac (λr s'=>∃h' d f K t',s'={s with heap:=h',toks:=d}/\bG a s.heap h'/\fu w h' a f K t'/\f.size+r.length<=15/\(∀e∈r,vM w e)/\∀x,(x∈f.toList.map lO\/x∈r.map lO)↔x∈es.toList.map lO\/x∈c.toList.map lO) ?_ ?_ N.toList _ ⟨h2,s.toks,z,b0,t2,rfl,j.trans a0,J2,by omega,λe he=>I.txt e (Y.mem_iff.mp he),λx=>by rw[kp,(Y.map lO).mem_iff]⟩)
  ·rintro e r s' ⟨h',d,f,K,t',rfl,u,J',z',v,X⟩;obtain⟨x,tk,rfl⟩:=v e ap;simp only[aU] at z';dsimp only;refine a7 (bY (Dq (s:={s with heap:=h',toks:=d}) (⟨f,K,t',J',.refl _⟩:nq w h' a (f.toList.map lO)) (by rw[ah,ax];exact aK (show f.size+1<100 by omega) ⋯) λO m G a1=>?_));obtain⟨a6,a3,a4,a2,l⟩:=a1;have H:=u.trans G;have I3:=I.but ne H;refine a7 (he _ _ I3 ?_);refine a7 (bj (s:={s with heap:=O,toks:=m}) I3.at_ rfl I3.fits ?_);dsimp only;rw[if_neg (by simp)];refine a9 ⟨rfl,O,m,a6,a3,a4,rfl,H,a2,?_,λe he=>v e (ai _ he),λy=>?_⟩
   ·have:=l.length_eq;rw[ah,ax] at this;have l2:(if x∈f.toList.map lO then f.toList.map lO else f.toList.map lO++[x]).length<=f.size+1:=by
     split<;>simp
    omega
   ·rw[<- X y,l.mem_iff];have ek:lO (hashStr w x,lc x tk)=x:=rfl;rw[ay,aW,ek];split
    ·rename_i hx
     constructor
     ·rintro (h|h)
      ·exact .inl h
      ·exact .inr (.inr h)
     ·rintro (h|h|h)
      ·exact .inl h
      ·rw[h];exact .inl hx
      ·exact .inr h
    ·rw[dz,df];constructor
     ·rintro ((h|h)|h)
      ·exact .inl h
      ·exact .inr (.inl h)
      ·exact .inr (.inr h)
     ·rintro (h|h|h)
      ·exact .inl (.inl h)
      ·exact .inl (.inr h)
      ·exact .inr h
  ·rintro s' ⟨h',d,f,K,t',rfl,u,J',z',v,X⟩;refine a9 (q h' d f K t' u J' (λx=>?_) (.inl ?_))
   ·rw[<- X x];simp
   ·intro e0;obtain⟨e,hh⟩:∃e,e∈c.toList:=by
     cases U:c.toList with
     |nil=>rw[<- ax,U] at n;exact absurd rfl n
     |cons e r=>exact⟨e,ap⟩
    have:=(X (lO e)).mpr (.inr (bi hh));rw[mF e0] at this;simp at this
end L2
namespace L2
open PySem PyProof.Rows
def Fk:U7 table "set.__or__"=some iB.«frozenset.__or__»:=JV (id':="frozenset.__or__") (by kernel_rfl) rfl ∎ (by kernel_rfl)
section
variable{P:bd}{w:bz}{A:cg}{E:ag->aq->Prop}{s:aq}
def fu.ty(I:fu w s.heap a es ep t):s.TypeIs (.ref a) "set":=⟨_,I.at_,rfl⟩
def vS(I:fu w s.heap a es ep t)(q:Q true s):au (az P w) A (uX (.ref a)) Q E s:=by
 unfold uX;refine a7 (i0 I.ty Pp ?_);exact a9 q
def RV(e:h.get? a=some (gV w)):fu w h a #[] 0 (.fresh 0 0 (!w.params.followText "set-order")):=
 ⟨e,(λ_ h=>nomatch h),gY,by decide,rfl,rfl,.inl rfl⟩
def Vq(O:nq w s.heap a xs)(T:nq w s.heap b ys)(ne:a≠b)(hz:xs.length+ys.length<=15)
  (q:∀h' j,bG s.heap.objs.size (s.heap.push (gV w)) h'->nq w h' s.heap.objs.size (dY xs ys)->Q (.ref s.heap.objs.size) {s with heap:=h',toks:=j}):
  au (az P w) A (ig .BitOr (.ref a) (.ref b)) Q E s:=by
 obtain⟨h,pa,ta,d,p⟩:=O;obtain⟨H,U,tb,i,y⟩:=T;have sa:h.size=xs.length:=by rw[<- p.length_eq,ah,ax]
 have sb:H.size=ys.length:=by rw[<- y.length_eq,ah,ax]
 refine wpAny_binaryOp_same d.ty i.ty F.fills_set_or F.slot_set_or (bE F.slot_set_or d.ty Fk ?_ (F.args_set_or_2 _ _));have n:a<s.heap.objs.size:=av d.at_;have t:b<s.heap.objs.size:=av i.at_;show au _ _ (Ug "__or__" ⟨[.ref a,.ref b],[]⟩>>=_) _ _ s;refine a7 (a7 (a9 (a9 ?_)));dsimp only;refine a7 (a7 (vS d (vS i ?_)));rw[if_neg (by simp)];refine a7 (a9 (a7 ?_));show au _ _ (vI a>>=_) _ _ s;refine a7 ?_;unfold vI Uh;refine a7 (a7 (i0 d.ty Pp (a9 ?_)));rw[if_pos rfl];refine a7 (qt ?_);have M:(s.heap.push (gV w)).get? s.heap.objs.size=some (gV w):=aD _ rfl;have K:=RV M;have m:fu w (s.heap.push (gV w)) a h pa ta:=d.keep λ_ e=>af _ e;have u:fu w (s.heap.push (gV w)) b H U tb:=i.keep λ_ e=>af _ e;have X:s.heap.objs.size≠a:=dk (aO n);have v:s.heap.objs.size≠b:=dk (aO t);refine a7 (a9 (a7 (Bf (s:={s with heap:=s.heap.push (gV w)}) X K m (by show 0+h.size<=15;omega) (.inr (.inl rfl)) (λ_ _ _ q=>a9 q) λk f Y p1 t1 g I k1 m1=>a9 ?_)));have c:=u.but v g;have S:(Y.toList.map lO).length<=h.size:=by
  have:=(jS I.nd d.nd).mpr λx=>by rw[k1];simp
  rw[this.length_eq,ah,ax];exact aw _
 rw[ah,ax] at S;show au _ _ (if(bh b != bh a)=true then _ else _) _ _ _;rw[if_pos (by simp;exact dk ne)];refine a7 (a9 (a7 (bY ?_)));show au _ _ (l5 _ s.heap.objs.size (bh b)) _ _ _;unfold l5;refine a7 (vS (s:={s with heap:=k,toks:=f}) c ?_);rw[if_pos rfl];refine a7 (a9 ?_);unfold Ui setEpoch;refine a7 (a7 (bj (s:={s with heap:=k,toks:=f}) c.at_ rfl c.fits (a9 ?_)));refine Bf (s:={s with heap:=k,toks:=f}) v I c ∅ m1 (λs' Q' B q'=>?_) λh2 o e2 L N l G k2 m2=>?_
 ·unfold Uj setEpoch;refine a7 (a7 (bj B.at_ rfl B.fits (a9 ?_)));dsimp only;rw[if_neg (by simp)];exact a9 q'
 ·refine a9 (a9 ⟨_,rfl,(λz=>nomatch z),q h2 o (g.trans l) ⟨e2,L,N,G,?_⟩⟩);refine(jS G.nd (jv _ _ (p.nodup_iff.mp d.nd))).mpr λx=>?_;rw[k2,jH,k1,p.mem_iff,y.mem_iff];simp
end
end L2
namespace L2
open PySem PyProof.Rows
def YQ:tF X (ig .BitOr) (λx y H Q=>∃a b xs ys,x=.ref a/\y=.ref b/\a≠b/\H a=some (qS X.w a xs)/\H b=some (qS X.w b ys)/\xs.length+ys.length<=15/\∀p,H p=none->Q (.ref p) (upd H p (qS X.w p (dY xs ys)))):=by
 intro d s n H x y v u Q I f l h;obtain⟨a,b,xs,ys,rfl,rfl,ne,i,j,g,q⟩:=h;cases f;cases l;have k:=(show c_ X.prog X.w H s.heap a (qS X.w a xs) from I.hok a _ i).1;have Sb:=(show c_ X.prog X.w H s.heap b (qS X.w b ys) from I.hok b _ j).1;refine Vq k Sb ne g λh' c m S=>?_;refine⟨.ref s.heap.objs.size,_,I.laid (t':=c) (λb o e=>?_) (aw _) (EX S),rfl,q _ (I.hok.fresh (aw _))⟩;exact(m.2 b (aO (av e))).trans (af _ e)
end L2
namespace J
open PySem L2
def YR(xs ys:List Str):R (List Str):=if xs.length+ys.length<=15 then .ok (dY xs ys) else .no
def RW(a gb:aE->R (List Str)):aE->R (List Str):=λρ=>(a ρ).bind λxs=>(gb ρ).bind (J.YR xs)
def YS(u:Vc c a ga)(y:Vc c b gb):Vc c (.BinOp a .BitOr b pos) (RW ga gb):=.of λρ=>sK (WJ YQ (u ρ) (y ρ)) λG H Q h=>by
 obtain⟨I,B,la,Hs,f,q⟩:=h;refine Ml (w:=c.X.w) f q λxs p m d A s1 o v=>?_;unfold RW at q;rw[A,bind_ok] at q;have k:cQ m d (upd m p (qS c.X.w p xs)) d:=.mine o.st.sub v;refine Ml (w:=c.X.w) (o.step k) (q.on (s1.trans k) (q':=λ_=>True) λ_ _=>trivial) λys g j e E s3 x n=>?_;rw[E,bind_ok] at q;unfold J.YR at q;by_cases i:xs.length+ys.length<=15
 ·rw[if_pos i] at q;have k1:j p=some (qS c.X.w p xs):=s3.all p _ aX;have ne:p≠g:=λz=>by rw[z,n] at k1;cases k1
  have s:cQ j e (upd j g (qS c.X.w g ys)) e:=.mine x.st.sub n;exact⟨p,g,xs,ys,rfl,rfl,ne,by rw[b9 ne];exact k1,aX,i,λl t=>q l _ _ (s1.trans (k.trans (s3.trans s))) t⟩
 ·rw[if_neg i] at q;exact q.elim
def q1Y(i j:Nat)(ρ:aE):List D->R Fl
 |[d,e]=>.ok (.nx ((ρ.set i (.shr d)).set j (.shr e)))
 |_=>.no
def RX(i j:Nat)(a:aE->R (List D)):aE->R Fl:=λρ=>(a ρ).bind (q1Y i j ρ)
def YT(i j:Nat)(u:c.X.calm=true)(o:c.X.N.Nodup)(t:Gs c [a,b] gs)(A:c.X.N[i]?=some x:=by rfl)(E:c.X.N[j]?=some y:=by rfl)(k:i≠j:=by decide)
  (I:c.X.env.scope.names.lookup x=some .local:=by rfl) (p:c.X.env.scope.names.lookup y=some .local:=by rfl) (w:A2 [.Tuple [.Name x px,.Name y py] kt pt] (.Tuple [a,b] k2 pt2) c.X.env=pure (some [x,y]):=by rfl)
  (hs:A1 [.Tuple [.Name x px,.Name y py] kt pt] (.Tuple [a,b] k2 pt2) pos.line c.X.env=pure false:=by rfl):JS c (.Assign [.Tuple [.Name x px,.Name y py] kt pt] (.Tuple [a,b] k2 pt2) pos) (RX i j gs):=.of λρ=>AQ (Y2 u o A E k I p (t ρ) w hs) λD K H h=>by
 obtain⟨v,m,la,Hs,f,q⟩:=h;refine⟨v,m,la,Hs,f,?_⟩;unfold RX at q;cases l:gs ρ with
 |ok ds=>
  rw[l,bind_ok] at q;intro L H' g s r
  match ds,r,q with
  |[],_,q=>exact q.elim
  |[_],_,q=>exact q.elim
  |[d,e],.cons B (.cons G .nil),q=>exact⟨_,_,rfl,q _ _ g (((f.step s).set i B).set j G)⟩
  |_::_::_::_,_,q=>exact q.elim
 |ex z n=>
  rw[l] at q;exact λH' g s=>q H' g (f.st.trans s)
 |no=>rw[l] at q;exact q.elim
end J
namespace L2
open PySem PySem.Spec PyProof.Rows
end L2
namespace L2
open PySem PySem.Spec PyProof.Rows
end L2
namespace L2
open PySem PySem.Spec PyProof.Rows
end L2
namespace J
open PySem L2
def MF:List D->Option (List (ip×D))
 |[]=>some []
 |.tuple [k,v]::r=>(tU k).bind λy=>(MF r).map ((y,v)::·)
 |_::_=>none
def q1n:D->R D
 |.list ds=>if ds.length<=1000 then(match MF ds with
  |some ps=>.ok (.dict (ps.foldl (λa p=>yy a (kD p.1) p.2) []))
  |none=>.no) else .no
 |_=>.no
end J
namespace L2
open PySem PySem.Spec PyProof.Rows
def YU(K:a8)(a:ak):It:=
 ⟨λi H=>∃xs x,oZ K H a xs/\xs[i]?=some x,λi H v H'=>∃p,H p=none/\v=.ref p/\∀xs,oZ K H a xs->∃x,xs[i]?=some x/\H'=upd H p (.tup [.int i,x]),λi H=>∃xs,oZ K H a xs/\xs.length<=i⟩
def KS{P:bd}{w:bz}{K:a8}{y:List bC}{x1}{S:Pos}(a e it:ak)(A:e≠it):Cq P w K (.Tuple y x1 S) (YU K a) [e,it] e (λi h=>(∃f,IsEnum h e it i f)/\h.IsListIter it a i) where
 mem:=by simp
 obj:=λi h st b c=>by
  simp only[aW,br,or_false] at c;rcases c with rfl|rfl
  ·obtain⟨⟨f,q⟩,_⟩:=st;exact⟨_,q,λv z=>by cases z⟩
  ·obtain⟨_,o,q,_,d⟩:=st;exact⟨o,q,λv z=>by rw[d] at z;cases z⟩
 keep:=λi h h' st k=>⟨let ⟨f,q⟩:=st.1;⟨f,k e (by simp) _ q⟩,let ⟨o,q,r⟩:=st.2;⟨o,k it (by simp) o q,r⟩⟩
 item:=by
  intro X O M L hc i j s σ H E I G st U;subst O M L;obtain⟨xs,x,B,Y⟩:=U;obtain⟨N,T,p,hz⟩:=I.list B;obtain⟨u,hu,ru⟩:=T.get Y;obtain⟨⟨f,he⟩,g⟩:=st;have m:=g;obtain⟨oi,ei,_⟩:=m;have t:=av he;refine wpAny_pyNext_enum_item he g p.isList (by simpa using hu) A ?_;intro h1 eo a0 tup sz k1;refine⟨_,rfl,J_ eo λh2 e2 l=>?_⟩;have Q:s.heap.objs.size≠e:=dZ t;have I2:bQ X j σ H {s with heap:=h2,toks:=s.toks+1}:=I.turnedL (ch:=[e,it]) (λb o c q=>by
   simp only[aW,br,or_false,not_or] at c;exact(l.2 b c.1).trans (k1 b o c.1 c.2 q)) G
  have fT:=I.fpOk (H':=H) (aw _) (I.hok.fresh (aw _));have n:h2.get? s.heap.objs.size=some {cls:=.type "tuple",data:=.seq #[.int i s.toks,u]}:=(l.2 _ Q).trans tup;have I3:=I2.track (ho:=.tup [.int i,x]) fT ⟨by show 2<=sizeLine;decide,[.int i s.toks,u],.cons ⟨s.toks,rfl⟩ (.cons ru .nil),⟨_,n,rfl,0,rfl⟩⟩;refine⟨.ref s.heap.objs.size,_,I3,rfl,⟨_,fT.1,rfl,λys hy=>?_⟩,⟨⟨u,?_⟩,?_⟩,λb c=>?_⟩
  ·rw[I.list_inj hy B];exact⟨x,Y,rfl⟩
  ·have:(((i+1:Nat):Int))=(i:Int)+1:=by omega
   rw[this];exact e2
  ·obtain⟨o,q,r⟩:=a0;exact⟨o,(l.2 it (dk A)).trans q,r⟩
  ·rw[b9]
   ·exact(G b c).1
   ·simp only[aW,br,or_false] at c;rcases c with z|z
    ·rw[z];exact aO t
    ·rw[z];exact aO (av ei)
 done:=by
  intro X O M L hc i j s σ H E I G st U;subst O M L;obtain⟨xs,B,Y⟩:=U;obtain⟨N,T,p,hz⟩:=I.list B;obtain⟨⟨f,he⟩,g⟩:=st;have hl:=T.length;refine wpAny_pyNext_enum_end (by simpa using I.ok.hd hc) he g p.isList (by simp;omega) λh' eb=>?_;exact⟨rfl,I.turnedL (t':=s.toks) (ch:=[e,it]) (λb o c q=>eb b o (by
   simp only[aW,br,or_false,not_or] at c;exact c.2) q) G⟩
 self:=λ_ _ _ _ _ st h=>let ⟨⟨_,q⟩,_⟩:=st;sY q h
def YV(K:a8)(d:TA):TI:=λc H R=>d c H λe b=>∃a xs,e=[.ref a]/\oZ K b a xs/\R (YU K a) b
def RY{X:Cx}{f:List bC}{x1}{e p g:Pos}{a:bC}{m:TA}(M:Gl X "enumerate")(B:X.mg "enumerate"=none)(v:PA X [a] m)(hs:aF [a] X.env=[(false,eu a X.env)]:=by rfl):
  PI X (.Tuple f x1 e) (.Call (.Name "enumerate" p) [a] [] g) (YV X.K m):=by
 intro c s j H R I h;refine Call_ (vK I M B boot_enumerate (fV (fS (v g c s j H _ I h) λP s1 n=>?_) hs rfl));obtain⟨Q,i,d,G,x⟩:=n;obtain⟨A,xs,rfl,w,q⟩:=x;obtain⟨u,rfl,o⟩:=lB G;cases o;obtain⟨y,O,t,N⟩:=d.list w;refine call_enumerate_list t.isList λh' l L sz kp=>?_;refine sY l ?_;have E:bQ X c j i {s1 with heap:=h'}:=d.kept (t':=s1.toks) kp;refine⟨s1.heap.objs.size+1,[s1.heap.objs.size+1,s1.heap.objs.size],_,_,i,rfl,E,KS A _ _ (dZ (gX _)),⟨⟨.none,l⟩,L⟩,λb k=>?_,q⟩;simp only[aW,br,or_false] at k;rcases k with z|z
 ·rw[z];exact d.fpOk (ir _) (d.hok.fresh (ir _))
 ·rw[z];exact d.fpOk (aw _) (d.hok.fresh (aw _))
end L2
namespace J
open PySem L2
def RZ(h:oZ K Hn a vs)(r:RDs K Hs vs ds):QU K (YU K a) (kj 0 ds) Hn Hs:=λn e f j k=>by
 have q:=f.seq h;have l:=yx ds 0;refine⟨λi c=>?_,λi c=>⟨vs,q,by rw[r.length];omega⟩,λi x m c y=>?_⟩
 ·have b:i<vs.length:=by rw[r.length];omega
  exact⟨vs,vs[i],q,bt b⟩
 ·obtain⟨p,g,rfl,y⟩:=y;obtain⟨x,k0,rfl⟩:=y vs q;obtain⟨d,k1,k2⟩:=r.get k0;have st:=cQ.new (o:=.tup [.int i,x]) k g;refine⟨.tuple [.int i,d],_,?_,st,.tuple aX (.cons (.int _) (.cons ((k2.same j).same st.sh) .nil))⟩;rw[yw,k1];simp
def q0T:List D->R (List D)
 |[.list ds]=>.ok (kj 0 ds)
 |_=>.no
def vo(a:aE->R (List D)):aE->R (List D):=λρ=>(a ρ).bind q0T
def DG{x1}(o:Gl c.X "enumerate")(j:c.X.mg "enumerate"=none)(i:Gs c [a] gs)(hs:aF [a] c.X.env=[(false,eu a c.X.env)]:=by rfl):KJ c (.Tuple elts x1 tpos) (.Call (.Name "enumerate" p) [a] [] pos) (vo gs):=.of λρ=>O7 (RY o j (i ρ) hs) λt H Q b=>by
 obtain⟨u,s,la,Hs,f,q⟩:=b;refine CB f q λds v h d l s1 k m=>?_;unfold vo at q;rw[l,bind_ok] at q;unfold q0T at q;split at q
 ·obtain⟨x,rfl,g⟩:=m.one;cases g with
  |list e n=>exact⟨_,_,rfl,dS.seq k.st.sub e,q _ h d s1 (RZ e n)⟩
 ·exact q.elim
end J
namespace L2
open PySem PySem.Spec PyProof.Rows
end L2
namespace J
open PySem L2
def HI:JS c s (λ_=>.no):=.of λρ a s d H D I h=>by
 obtain⟨e,b,la,Hs,f,q⟩:=h;exact q.elim
end J
namespace J
open PySem L2 PyProof.Rows
structure En where
 P:bd
 w:bz
 K:a8
 mg:Str->Option ag
 base:bP
 cls:Str->ak
abbrev FN(e:En):=Fn e.P e.w e.K e.mg e.base e.cls
abbrev FT(e:En):=FnT e.P e.w e.K e.mg e.base e.cls
abbrev ER(e:En):=Er e.mg e.base e.cls
abbrev Cn(a:Str->Option ag)(x:Str)(n:Int):Prop:=∃t,a x=some (.int n t)
structure iN (K:a8) (mg:Str->Option ag) (x:Str) (st:eG):Prop where
 ex:∃f fd,GJ K x x st f fd/\mg x=some (.ref f)
section
variable{K:a8}{h:bP}{mg:Str->Option ag}{x:Str}
def d_in{st:eG}{A:ak}{j an:Option ak}{d:Array (Option ag)}{e kV f i b g:ag}(X:K.In h)(G:h.Ns bX mg)(a:iI K bX x=some (some (.ref A)))
  (l:K.lookup A=some ⟨e,j,.func (fH x x (pB st) (jG st) (aB st) .none kV f i an b g),d⟩) (c:lv K b x=true) (k:f6 K (.ref A)=true):iN K mg x st:=
 ⟨_,_,Qc l c k,mj X G a⟩
def cn_in(X:K.In h)(G:h.Ns bX mg)(t:iI K bX x=some (some (.int n tk))):Cn mg x n:=⟨_,mj X G t⟩
inductive Zs (K:a8):List Str->Prop
 |nil:Zs K []
 |cons {x:Str}{r:List Str}:iI K bX x=some none->Zs K r->Zs K (x::r)
theorem Zs.get(z:Zs K r):∀x∈r,iI K bX x=some none:=by
 induction z with
 |nil=>exact λ_ h=>nomatch h
 |cons a _ b=>
  intro y c;rcases List.mem_cons.mp c with e|e
  ·rw[e];exact a
  ·exact b y e
abbrev zn:List Str:=["len","isinstance","all","any","zip","tuple","list","sorted","set","range","enumerate","dict","sum","max","min","reversed","str","int","bool","ValueError"]
theorem q0U(X:K.In h)(G:h.Ns bX mg)(z:Zs K zn):Bi mg:=by
 have q:∀x∈zn,mg x=none:=λx a=>K6 X G (z.get x a);exact⟨q _ ⋯,q _ ⋯,q _ ⋯,q _ ⋯,q _ ⋯,q _ ⋯,q _ ⋯,q _ ⋯,q _ ⋯,q _ ⋯,q _ ⋯,q _ ⋯,q _ ⋯,q _ ⋯,q _ ⋯,q _ ⋯,q _ ⋯,q _ ⋯,q _ ⋯⟩
def q0V(X:K.In h)(G:h.Ns bX mg)(z:Zs K zn):mg "ValueError"=none:=K6 X G (z.get _ ⋯)
end
section
variable{P:bd}{w:bz}{K:a8}{mg:Str->Option ag}{base:bP}{N:List Str}{qual:Str}{scope:eP}{f:ak}{cd:ag}{A:cg}{outer:List Env}{s:aq}{H:Hp}{E:XK}
def px:lD (oS P w) (kC (oS P w) P w K mg base N qual scope f cd A outer s H E) E:=Hb λ_ _ h=>h
end
def jc(G:Fn c.X.prog c.X.w c.X.K c.X.mg c.X.base c.cls x k n F)(g:l8 j c.X.A)(h:lD (oS c.X.prog c.X.w) c.X c.E)(d:Gs c (e::es) gs)
  (f:k<=j:=by decide) (i:Gl c.X x:=by exact rfl) (a:(x==("__debug__" : Str))=false:=by decide) (he:aF (e::es) c.X.env=(false,eu e c.X.env)::aF es c.X.env:=by rfl) (b:(hG pos (aF es c.X.env)).any (·.1)=false:=by rfl):
  JE c (.Call (.Name x p) (e::es) [] pos) (dN n F gs):=V6 G (g.mono f) i h d a he b
def jd(G:FnT c.X.prog c.X.w c.X.K c.X.mg c.X.base c.cls x y k n F)(h:l8 j c.X.A)(i:lD (oS c.X.prog c.X.w) c.X c.E)(f:Gs c es gs)
  (g:k<=j:=by decide) (l:Gl c.X x:=by exact rfl) (a:Gl c.X y:=by exact rfl) (d:(x==("__debug__" : Str))=false:=by decide) (b:(y==("__debug__" : Str))=false:=by decide) (he:aF (.Name y q::es) c.X.env=(false,eu (.Name y q) c.X.env)::aF es c.X.env:=by rfl) (e:(hG pos (aF es c.X.env)).any (·.1)=false:=by rfl):
  JE c (.Call (.Name x p) (.Name y q::es) [] pos) (dN n F gs):=Vl G (h.mono g) l a i f d b he e
abbrev Bq(x:Str)(st:eG)(c:List ag)(r:List (Str×ag)):Prop:=∀(kV a e:ag) (an:Option ak) (b d:ag),bindArgs (fH x x (pB st) (jG st) (aB st) .none kV a e an b d) ⟨c,[]⟩=pure r
section
variable{K:a8}{x:Str}{st:eG}{f:ak}{fd:gW}
def b1(F:GJ K x x st f fd)(h:∀u,Bq x st [u] [(a,u)]:=by exact λ_ _ _ _ _ _ _=>rfl):lC K fd [a] []:=F.binds λ_ _ _ _ _ _ c b=>by obtain⟨_,rfl⟩:=ln1 b;exact h ..
def b2(F:GJ K x x st f fd)(h:∀u v,Bq x st [u,v] [(a,u),(b,v)]:=by exact λ_ _ _ _ _ _ _ _=>rfl):lC K fd [a,b] []:=F.binds λ_ _ _ _ _ _ d c=>by obtain⟨_,_,rfl⟩:=ln2 c;exact h ..
def b3(F:GJ K x x st f fd)(h:∀u v w,Bq x st [u,v,w] [(a,u),(b,v),(c,w)]:=by exact λ_ _ _ _ _ _ _ _ _=>rfl):lC K fd [a,b,c] []:=F.binds λ_ _ _ _ _ _ e d=>by obtain⟨_,_,_,rfl⟩:=ln3 d;exact h ..
def b4(F:GJ K x x st f fd)(h:∀u v w z,Bq x st [u,v,w,z] [(a,u),(b,v),(c,w),(d,z)]:=by exact λ_ _ _ _ _ _ _ _ _ _=>rfl):lC K fd [a,b,c,d] []:=F.binds λ_ _ _ _ _ _ g e=>by obtain⟨_,_,_,_,rfl⟩:=ln4 e;exact h ..
def b5(F:GJ K x x st f fd)(h:∀u v w z y,Bq x st [u,v,w,z,y] [(a,u),(b,v),(c,w),(d,z),(e,y)]:=by exact λ_ _ _ _ _ _ _ _ _ _ _=>rfl):lC K fd [a,b,c,d,e] []:=F.binds λ_ _ _ _ _ _ i g=>by obtain⟨_,_,_,_,_,rfl⟩:=ln5 g;exact h ..
end
def sU{e:En}{x:Str}{st:eG}{N ps:List Str}{k:Nat}{g:aE->R Fl}(D:iN e.K e.mg x st)(S:bM N ps (aB st))(b:∀{f:ak}{c:gW},GJ e.K x x st f c->lC e.K c ps [])
  (h:∀(f:ak) (a:ag) (A:cg) (outer:List Env) (s:aq) (H:Hp) (E:XK),l8 k (A.deeper (kA x (aB st) s.heap.objs.size f a))->Mh ⟨kC (oS e.P e.w) e.P e.w e.K e.mg e.base N x (aB st) f a A outer s H E,e.cls,E⟩ (jG st) g):
  FN e x (k+1) ps.length (gK N.length g):=by
 obtain⟨f,c,F,d⟩:=D.ex;exact q0x F S d (b F) (h f)
def scB(N P:List Str)(a:eP):Bool:=decide (a.kind=.function) && !a.isCoroutine && !a.isGenerator&&decide N.Nodup&&decide (N.take P.length=P)&&P.all (λx=>decide (a.names.lookup x=some .local)||decide (a.names.lookup x=some .cell))&&a.names.all λy=>decide (y.2≠.free)
def eV(h:scB N P sc=true):bM N P sc:=by
 unfold scB at h;simp only[aR,decide_eq_true_eq,lR,cx,ij] at h;obtain⟨⟨⟨⟨⟨⟨a,b⟩,c⟩,d⟩,e⟩,f⟩,g⟩:=h;exact⟨a,b,c,d,e,f,g⟩
structure Cw (K:a8) (x:Str) (C:ak):Prop where
 ns:iI K bX x=some (some (.ref C))
 cl:∃cd,j3 K C=some cd
 ty:Av K (.ref C)=some (.type "type")
def cw_in{K:a8}{x:Str}{C:ak}{b:ClassData}(a:iI K bX x=some (some (.ref C)))(i:j3 K C=some b)(y:Av K (.ref C)=some (.type "type")):Cw K x C:=⟨a,⟨_,i⟩,y⟩
inductive Vr (K:a8):List Str->List ak->Prop
 |nil:Vr K [] []
 |cons {x:Str}{C:ak}{ns:List Str}{Cs:List ak}:Cw K x C->Vr K ns Cs->Vr K (x::ns) (C::Cs)
inductive Sb (K:a8) (C:ak):List (ak×Bool)->Prop
 |nil:Sb K C []
 |cons {D:ak}{b:Bool}{l:List (ak×Bool)}:qo K (.ref C) (.ref D)=some b->(b=false->C≠D)->Sb K C l->Sb K C ((D,b)::l)
structure Wy (K:a8) (C CP:ak) (l:List (ak×Bool)):Prop where
 x1:iw K (.ref C) "__getattribute__"=some (some (.builtin "BaseException.__getattribute__"))
 x2:iw K (.ref C) "__getattr__"=some none
 x3:iw K (.ref C) "__class__"=some (some (.builtin "object.__class__"))
 x4:wB K (.builtin "object.__class__") "__get__"=some (some (.builtin "getset_descriptor.__get__"))
 x5:zG K (.builtin "object.__class__")=some true
 x6:e7 K C (.type "object")=some true
 x7:e7 K C (.ref CP)=some true
 x8:qo K (.ref C) (.type "ValueError")=some true
 x9:(bh CP==bh C)=false
 sb:Sb K C l
theorem Vr.at{K:a8}{ns:List Str}{b:List ak}(N:Vr K ns b):∀(i:Nat) (n:Str),ns[i]?=some n->∃C,b[i]?=some C/\Cw K n C:=by
 induction N with
 |nil=>intro i n h;simp at h
 |cons a _ c=>
  intro i n h;cases i with
  |zero=>cases h;exact⟨_,rfl,a⟩
  |succ i=>exact c i n h
theorem Sb.at{K:a8}{C:ak}{l:List (ak×Bool)}(N:Sb K C l):∀(i:Nat) (D:ak) (b:Bool),l[i]?=some (D,b)->qo K (.ref C) (.ref D)=some b/\(b=false->C≠D):=by
 induction N with
 |nil=>intro i D b h;simp at h
 |cons a c _ d=>
  intro i D b h;cases i with
  |zero=>cases h;exact⟨a,c⟩
  |succ i=>exact d i D b h
def q0W{K:a8}{h:bP}{d:Str->Option ag}{cls:Str->ak}{ns:List Str}{a:List ak}(X:K.In h)(G:h.Ns bX d)(N:Vr K ns a)(g:ns.map cls=a):∀n∈ns,d n=some (.ref (cls n)):=by
 intro n f;obtain⟨i,k,e⟩:=nZ f;have c:ns[i]?=some n:=by rw[bt k,e]
 obtain⟨C,b,j⟩:=N.at i n c;rw[<- g,aI,c] at b;cases b;exact mj X G j.ns
def Vs{K:a8}{base:bP}{cls:Str->ak}{x:Str}{C t:ak}{ns:List Str}{f:List ak}{l:List (ak×Bool)}{j:Nat}(y:e7 K C (.type "BaseException")=some true)(Q:∃bm,Hc base C bm/\∀v,(v==bh C)=false->e7 K C v=some true->bm.contains v=true)(W:Wy K C t l)(N:Vr K ns f)
  (A:cls x=C) (I:cls "PlanError"=t) (s:ns.map cls=f) (p:l.map (·.1)=f) (G:l.map (·.2)=bits j) (L:j<11) (M:x∈ns):Xf K base cls ns (cls x) j:=by
 obtain⟨bm,o,B⟩:=Q;subst A I;have m:(j3 K (cls x)).isSome=true:=by
  obtain⟨i,k,e⟩:=nZ M;have g:ns[i]?=some x:=by rw[bt k,e]
  obtain⟨C,a,h⟩:=N.at i x g;rw[<- s,aI,g] at a;cases a;obtain⟨w,c⟩:=h.cl;rw[c];rfl
 refine⟨⟨W.x1,W.x2,W.x3,W.x4,W.x5,W.x6,y,m⟩,λi n e=>?_,YH W.x8,⟨bm,o,B _ W.x9 W.x7⟩,L⟩;obtain⟨D,a,h⟩:=N.at i n e;have c:f[i]?=some (cls n):=by rw[<- s,aI,e];rfl
 rw[a] at c;cases c;obtain⟨w,E⟩:=h.cl;have k:l[i]?≠none:=λz=>by
  rw[<- p,aI,z] at a;cases a
 cases d:l[i]? with
 |none=>exact(k d).elim
 |some q=>
  obtain⟨D,b⟩:=q;have g:D=cls n:=by rw[<- p,aI,d] at a;cases a;rfl
  have u:(bits j)[i]?=some b:=by rw[<- G,aI,d];rfl
  subst g;obtain⟨s1,H⟩:=W.sb.at i _ b d;have O:b=decide (i=j):=by
   unfold bits at u
   match i,u with
   | 0,e|1,e|2,e|3,e|4,e|5,e|6,e|7,e|8,e|9,e|10,e=>simpa using e.symm
   |(i+11),e=>simp at e
  rw[<- O];exact Vi E h.ty s1 H
def q0X{K:a8}{base:bP}{d:Str->Option ag}{cls:Str->ak}{x:Str}{C b:ak}{ns:List Str}{a:List ak}{l:List (ak×Bool)}{j:Nat}(X:K.In base)(G:base.Ns bX d)(T:TopC K x C)(W:Wy K C b l)(N:Vr K ns a)
  (h:cls x=C) (f:cls "PlanError"=b) (c:ns.map cls=a) (e:l.map (·.1)=a) (k:l.map (·.2)=bits j) (g:j<11) (i:x∈ns):Xf K base cls ns (cls x) j:=Vs T.mb (KQ X G T.ns T.ex T.mb).2 W N h f c e k g i
end J
namespace L2
open PySem PySem.Spec PyProof.Rows
def Vt(b:s.heap.IsKeyIter it d i es.size c)(l:s.heap.get? d=some o)(ho:o.data=.dict es c)(he:es[i]?=some e)
  (h:∀h':bP,h'.IsKeyIter it d (i+1) es.size c->bG it s.heap h'->Q (some e.key) {s with heap:=h'}):
  au (az prog w) A (nY (.ref it)) Q E s:=by
 obtain⟨⟨v,z,u,y⟩,g,j,m⟩:=id b;simp only at j m;subst j m;unfold nY;refine a7 (iG ?_);refine cy (name:=gO "__next__") b.typeIs gP ?_;refine bE gP b.typeIs vd ?_ (uY _);refine a7 (eM (a:=.ref it) rfl ?_);refine a7 (a7 (a7 (jk b.typeIs (a9 ?_))));refine a7 (JY g rfl ?_);show au _ _ (if(bh d==dO)=true then _ else _) _ _ s;rw[if_neg (by simp)];refine a7 (eM (a:=d) rfl ?_);refine a7 (Ci l ho ?_);show au _ _ (if((es.size:Int) != (es.size:Int))=true then _ else _) _ _ s;rw[if_neg (by simp)];refine a7 (eM (a:=d) rfl ?_);refine a7 (Gz l ho ?_);show au _ _ (if((c:Int) != (c:Int))=true then _ else _) _ _ s;rw[if_neg (by simp)];refine a9 ?_;have n:(if(i:Int)<0 then none else es[(i:Int).toNat]?)=some e:=by
  rw[if_neg ∅];simpa using he
 simp only[n];refine a7 (a7 (jk b.typeIs (a9 ?_)));refine a7 (TV b.typeIs ?_);refine a7 (ii g rfl (by simp[nO]) ?_);have st:∀k x,k=1->x=cJ ((i:Int)+1)->(s.heap.update it (ft (·.setIfInBounds k x))).IsKeyIter it d (i+1) es.size c:=λk x p t=>by
  subst p t;have q:=eB (ft (·.setIfInBounds 1 (cJ ((i:Int)+1)))) g rfl;refine⟨_,q,rfl,?_⟩;show Data.fields ((#[.ref d,.int i 0,.int es.size 0,.int c 0]:Array ag).setIfInBounds 1 (cJ ((i:Int)+1)))=_;simp[cJ]
 have f:=st _ _ rfl rfl;refine a7 (bY (a7 (TV f.typeIs ?_)));refine a9 ?_;exact a9 ⟨_,rfl,a9 (h _ f (bB ..))⟩
def YW(l:A.handled=none)(c:s.heap.IsKeyIter it d i es.size e)(g:s.heap.get? d=some o)(ho:o.data=.dict es e)(he:es.size<=i)
  (h:∀h':bP,LR it s.heap h'->Q none {s with heap:=h'}):
  au (az prog w) A (nY (.ref it)) Q E s:=by
 obtain⟨⟨q,u,t,p⟩,f,j,k⟩:=id c;simp only at j k;subst j k;unfold nY;refine a7 (iG ?_);refine cy (name:=gO "__next__") c.typeIs gP ?_;refine bE gP c.typeIs vd ?_ (uY _);refine a7 (eM (a:=.ref it) rfl ?_);refine a7 (a7 (a7 (jk c.typeIs (a9 ?_))));refine a7 (JY f rfl ?_);show au _ _ (if(bh d==dO)=true then _ else _) _ _ s;rw[if_neg (by simp)];refine a7 (eM (a:=d) rfl ?_);refine a7 (Ci g ho ?_);show au _ _ (if((es.size:Int) != (es.size:Int))=true then _ else _) _ _ s;rw[if_neg (by simp)];refine a7 (eM (a:=d) rfl ?_);refine a7 (Gz g ho ?_);show au _ _ (if((e:Int) != (e:Int))=true then _ else _) _ _ s;rw[if_neg (by simp)];refine a9 ?_;have n:(if(i:Int)<0 then none else es[(i:Int).toNat]?)=none:=by
  rw[if_neg ∅];simpa using he
 simp only[n];refine a7 (a7 (jk c.typeIs (a9 ?_)));refine a7 (ii f rfl (by simp[nO]) ?_);show au _ _ (vC (.type "StopIteration") []>>=_) _ _ _;refine a7 ?_;simp only[vC,U8];refine a7 (bu ?_ (by size_fits));refine a7 (m:=mV _ _) (eM (a:=dO) ?_ ?_)
 ·first
   |rfl
   |(simp only[mV];rfl)
 refine bu ?_ (by size_fits);simp only[uV];refine a7 (Nt ?_);rw[show A.in1.handled=none from l];refine a7 (a9 (U9 ?_));refine a7 (i0 (T:="StopIteration") (b:=true) ⟨_,aD _ rfl,rfl⟩ yc ?_);exact a9 (h _ (((bB ..).extBut.push _).push _))
def YX(hs:(d==e_)=false)(b:s.heap.get? d=some o)(c:o.ExactDict)(ho:o.data=.dict es ep)
  (h:Q (.ref s.heap.objs.size) {s with heap:=s.heap.push {cls:=.type "dict_keyiterator",data:=.fields #[.ref d,.int 0 0,.int es.size 0,.int ep 0]}}):
  au (az prog w) A (rG (.ref d)) Q E s:=by
 have ty:s.TypeIs (.ref d) "dict":=⟨o,b,c.1⟩;refine Cd ty Ez (bE Ez ty PySem.F.entry_dict_iter ?_ (PySem.F.args_dict_iter_1 _));refine a7 (a7 (wpAny_notOrdered_dict ty (a7 (eM (a:=(bh d,[])) rfl (a9 ?_)))));refine a7 (eM (a:=d) rfl ?_);refine a7 (eM (a:=()) (by unfold Builtin.Dict.showsAll;rw[hs];rfl) ?_);refine a7 (Ci b ho ?_);refine a7 (Gz b ho ?_);refine a7 (bu ?_ (by size_fits));exact a9 ⟨_,rfl,"dict_keyiterator",_,⟨_,aD _ rfl,rfl⟩,PySem.F.slot_dict_keyiterator_next.lookup,h⟩
def Od{α b:Type}{F:α->b->Prop}{l:List α}{m:List b}(h:Jt F l m):∀{i:Nat}{x:α},l[i]?=some x->∃y,m[i]?=some y/\F x y:=by
 induction h with
 |nil=>intro i x e;simp at e
 |cons a _ c=>
  intro i x e;cases i with
  |zero=>cases e;exact⟨_,rfl,a⟩
  |succ i=>exact c e
def R_(ok:sR P w H h)(e:H a=some (.frz o (.dT kvs))):(a==e_)=false/\h.get? a=some o/\o.ExactDict/\∃es c,o.data=.dict es c/\es.size=kvs.length /\
  ∀(i:Nat) (k:List ip) (v:V),kvs[i]?=some (k,v)->∃(g:Es) (b:ak),es[i]?=some g/\g.key=bh b/\H b=some (.tup (k.map kV)):=by
 obtain⟨j,z,y,xs,r,o',es,c,d,p,l,f,t⟩:=(show c_ P w H h a (.frz o (.dT kvs)) from ok a _ e);rw[j] at d;cases d;refine⟨y,j,p,es,c,l,?_,λi k v s=>?_⟩
 ·rw[<- ax,f,ah];exact(kr r).symm
 ·obtain⟨q,m,n⟩:=Od r s;refine⟨entryOfKey (uU (i3 P w)) q,q.2.1,?_,?_,n.2.1⟩
  ·rw[<- bH,f,aI,m];rfl
  ·rfl
def tD1(e g:TE):TE:=λd H Q=>∀p,H p=none->e d (upd H p (.dT [])) λy f=>g d f λv c=>∃a k b,c p=some (.dT a)/\y=.ref b/\c b=some (.tup (k.map kV))/\a.length<sizeLine/\Q (.ref p) (upd c p (.dT (o_ a k v)))
def S0(hu:X.A.units+1<eQ)(hk:PE X k tk)(hv:PE X v tv):PE X (.Dict [some k] [v] pos) (tD1 tk tv):=by
 intro d s i H Q I h;refine wpAny_Dict_any rfl rfl (by simp) (by simp) ?_;have N:bQ X d i (upd H s.heap.objs.size (.dT [])) {s with heap:=s.heap.push {cls:=.type "dict",data:=.dict #[]}}:=I.laid (a:=s.heap.objs.size) (o:=.dT []) (t':=s.toks) (λ_ _ q=>af _ q) (aw _) (Qf s.heap I.big);have h0:=h s.heap.objs.size (I.hok.fresh (aw _));simp only[pairTrees,evalPairs];refine a7 (fS (hk d _ i _ _ N h0) λu1 s1 u=>?_);obtain⟨y,x,I1,P,L⟩:=u;refine a7 (bY (a7 (fS (hv d s1 i x _ I1 L) λu2 S Y=>?_)));obtain⟨z,H2,l,r2,T⟩:=Y;obtain⟨e,f,b,m,e2,t,e4,q⟩:=T;refine a7 (hV (a9 ?_));refine a7 (bY (a9 (a9 ?_)));subst e2;cases P;unfold storeAll;simp only[jh,pi,bind_assoc];obtain⟨O,U,xs,g,dd⟩:=WR l.hok m;have K:xs.length<=sizeLine:=by rw[<- kr g];exact O
 have E:(o_ e f z).length<=sizeLine:=by have:=tJ e f z;omega
 refine a7 (wpAny_dictSet_heap (by show X.A.units<eQ;omega) (yn l.hok t) dd (λh' j hs=>?_) K);obtain⟨o',es,M,n,g2,B,g4,_,g5⟩:=j;have G:=EM (t':=S.toks+(uU (i3 X.prog X.w)).draws f) l (by rw[m];exact jP) hs ⟨o',n⟩ (ob:=.dT (o_ e f z)) ⟨E,U,_,(g.put f t r2).keeps λc ys p=>(by rw[b9 (PF p m (λz=>nomatch z))];exact p),o',es,M,n,g2,B,g4,g5⟩;exact a9 ⟨.ref s.heap.objs.size,_,G,rfl,q⟩
end L2
namespace J
open PySem L2
def keysOf:List D->Option (List ip)
 |[]=>some []
 |d::r=>(tU d).bind λk=>(keysOf r).map (k::·)
def sL:D->Option (List ip)
 |.tuple ds=>keysOf ds
 |_=>none
theorem DH:∀{ds:List D}{a:List ip},keysOf ds=some a->ds=a.map kD
 |[],a,h=>by cases h;rfl
 |d::r,a,h=>by
  unfold keysOf at h;cases b:tU d with
  |none=>rw[b] at h;cases h
  |some y=>
   rw[b,rz] at h;cases c:keysOf r with
   |none=>rw[c] at h;cases h
   |some l=>
    rw[c] at h;cases h;rw[ay,<- AZ b,<- DH c]
def xo(h:sL d=some ks):d=tD ks:=by
 cases d<;>first|(cases h;done)|skip
 rename_i ds
 unfold tD;rw[<- DH (show keysOf ds=some ks from h)]
theorem DI:∀a:List ip,keysOf (a.map kD)=some a
 |[]=>rfl
 |k::r=>by rw[ay,keysOf,keyOf_of,DI r];rfl
def S1(a:List ip):sL (tD a)=some a:=DI a
theorem MG:∀a b:List ip,dQ (a.map kD) (b.map kD)=decide (a=b)
 |[],[]=>by simp[dQ]
 |[],_::_=>by simp[dQ]
 |_::_,[]=>by simp[dQ]
 |x::a,y::b=>by
  rw[ay,ay];simp only[dQ];rw[Ff,MG a b];by_cases h:x=y<;>by_cases c:a=b<;>simp[h,c]
def Fm(a b:List ip):bn (tD a) (tD b)=decide (a=b):=by
 unfold tD;simp only[bn];exact MG a b
def RDt.any(y:List ip):∀{ds:List (D×D)},RDt K H kvs ds->(ds.any λa=>bn a.1 (tD y))=kvs.any λa=>decide (a.1=y):=by
 induction kvs with
 |nil=>intro ds h;cases h;rfl
 |cons x r b=>intro ds h;cases h with|cons h t=>rw[dR,dR,b t,Fm]
def RDt.repl(y:List ip)(f:RD K H v d):∀{ds:List (D×D)},RDt K H kvs ds ->
  RDt K H (kvs.map λa=>if a.1=y then(a.1,v) else a) (ds.map λa=>if bn a.1 (tD y) then(a.1,d) else a):=by
 induction kvs with
 |nil=>intro ds h;cases h;exact .nil
 |cons x r b=>
  intro ds h;cases h with
  | @cons k _ _ _ _ h t=>
   rw[ay,ay];have e:=Fm k y;by_cases c:k=y
   ·subst c;rw[show(if k=k then(k,v) else(k,_))=(k,v) from if_pos rfl,show(if bn (tD k) (tD k)=true then(tD k,d) else(tD k,_))=(tD k,d) from if_pos (by rw[e];simp)];exact .cons f (b t)
   ·simp only[e,c,if_neg,decide_false,bg,not_false_eq_true];exact .cons h (b t)
def RDt.snoc(y:List ip)(b:RD K H v d):∀{ds:List (D×D)},RDt K H kvs ds->RDt K H (kvs++[(y,v)]) (ds++[(tD y,d)]):=by
 induction kvs with
 |nil=>intro ds h;cases h;exact .cons b .nil
 |cons x r a=>intro ds h;cases h with|cons h t=>exact .cons h (a t)
def RDt.put(r:RDt K H kvs ds)(y:List ip)(a:RD K H v d):RDt K H (o_ kvs y v) (yy ds (tD y) d):=by
 unfold o_ yy;rw[r.any y];split
 ·exact r.repl y a
 ·exact r.snoc y a
def YY{b:Type}[DecidableEq b]{a:List (b×V)}{y:b}{v:V}:o_ a y v≠[]:=by
 unfold o_;split
 ·rename_i h
  intro z;have:=List.map_eq_nil_iff.mp z;subst this;cases h
 ·simp
def RDt.val(y:List ip):∀{ds:List (D×D)},RDt K H kvs ds->(qP kvs y=none/\nj ds (tD y)=none)\/∃v d,qP kvs y=some v/\nj ds (tD y)=some d/\RD K H v d:=by
 induction kvs with
 |nil=>intro ds h;cases h;exact .inl ⟨rfl,rfl⟩
 |cons x r b=>
  intro ds h;cases h with
  | @cons k _ _ _ _ h t=>
   unfold qP nj;rw[cC,cC,Fm];by_cases a:k=y
   ·simp only[a,decide_true,dm];exact .inr ⟨_,_,rfl,rfl,h⟩
   ·simp only[a,decide_false];exact b t
def MH:List (D×D)->List (D×D)
 |(.none,_)::r=>r
 |l=>l
def lF(ds:List (D×D)):Bool:=!ds.isEmpty&&ds.all λa=>(sL a.1).isSome
def RDk.notT(h:RDk K H kvs ds)(e:lF (MH ds)=true):False:=by
 cases h with
 |nil=>cases e
 | @cons k _ _ _ _ h t=>
  cases k<;>simp[MH,lF,kD,sL] at e
def RDt.un(h:RDt K H kvs ds):MH ds=ds:=by
 cases h<;>rfl
def Ad(sub:dS Hs H)(h:RB K H Hs v (tD ks)):∃b,v=.ref b/\H b=some (.tup (ks.map kV)):=by
 rcases h with h|⟨_,o,rfl,_,_,ow⟩
 ·cases h with
  |tuple q r=>
   have:=E_ (c:=kD) (k:=kV) (λh=>KM h) r;subst this;exact⟨_,rfl,sub _ _ q⟩
 ·cases ow
def MI(sub:dS Hs H)(h:RB K H Hs v (.dict ds))(e:lF (MH ds)=true):∃a c,v=.ref a/\RDt K Hs c (MH ds)/\∀(b:ak) (k:List ip),H b=some (.tup (k.map kV))->zQ H a (.ref b) (qP c k):=by
 obtain⟨a,j,i⟩:=h.dict sub;clear h;subst j;rcases i with⟨c,f,d⟩|⟨c,f,hn,d⟩|⟨o,c,es,rfl,f,hn,d⟩
 ·exact(d.notT e).elim
 ·exact⟨a,c,rfl,by rw[d.un];exact d,λb k g=>zQ.t f g⟩
 ·exact⟨a,c,rfl,d,λb k g=>.inr ⟨c,k,b,.inr ⟨o,f⟩,rfl,g,rfl⟩⟩
def XB:D->D->R D
 |.dict ds,k=>match sL k with
  |some _=>if lF (MH ds)=true then(match nj (MH ds) k with
   |some d=>.ok d
   |none=>.no) else .no
  |none=>.no
 |_,_=>.no
section
variable{c:C}{a b e k:bC}{ga gb g gk:aE->R D}{pos p apos:Pos}{x:Str}
theorem YZ(z:c.X.A.units+1<eQ)(E:JB c a ga)(l:JB c b gb)(hs:wL b:=by exact λ_ _=>rfl):JE c (.Subscript a b pos) (g2 ga gb XB):=.of λρ=>by
 refine sK (M5 z (E ρ) (l ρ) hs) λY H Q h=>?_;obtain⟨H0,S,la,Hs,f,q⟩:=h;refine one f q λd v U G L s1 I M=>?_;unfold g2 at q;rw[L,bind_ok] at q;refine one I (q.on s1 (q':=λ_=>True) λ_ _=>trivial) λy w K m T o n O=>?_;rw[T,bind_ok] at q;unfold XB at q;split at q
 ·rename_i ds
  split at q
  ·rename_i s t
   obtain rfl:=xo t;by_cases i:lF (MH ds)=true
   ·rw[if_pos i] at q;obtain⟨p,P,rfl,N,B⟩:=MI n.st.sub (M.step o) i;obtain⟨b,rfl,l⟩:=Ad n.st.sub O;rcases N.val s with⟨_,j⟩|⟨u,d,j,h5,h6⟩
    ·rw[j] at q;exact q.elim
    ·rw[h5] at q;exact⟨p,u,rfl,by rw[<- j];exact B b s l,q _ K m (s1.trans o) h6⟩
   ·rw[if_neg i] at q;exact q.elim
  ·exact q.elim
 ·exact q.elim
def inT(d:Bool):D->D->R D
 |k,.dict ds=>match sL k with
  |some _=>if lF (MH ds)=true then .ok (.bool (if d then !(nj (MH ds) k).isSome else(nj (MH ds) k).isSome)) else .no
  |none=>.no
 |_,_=>.no
theorem Oe(z:c.X.A.units+1<eQ):A9 c.X (cp .NotIn) (inT true):=by
 refine⟨λl s S H x y v u Q I M N h=>?_,λx y c n=>?_⟩
 ·obtain⟨Hs,T,P,sub,w,L,d,f,q⟩:=h;unfold inT at f;split at f
  ·rename_i ds
   split at f
   ·rename_i i t
    obtain rfl:=xo t;split at f
    ·rename_i E
     cases f;obtain⟨p,j,rfl,O,B⟩:=MI sub L E;obtain⟨b,rfl,G⟩:=Ad sub w;cases N;refine L2.UL z I (B b i G) M λs' K=>⟨.bl _,H,K,rfl,?_⟩;have e:(qP j i).isSome=(nj (MH ds) (tD i)).isSome:=by
      rcases O.val i with⟨m,o⟩|⟨u,d,m,o,h6⟩<;>rw[m,o]<;>rfl
     rw[e];exact q _ H Hs (.refl sub) (.bool _)
    ·cases f
   ·cases f
  ·cases f
 ·unfold inT;split<;>(try split)<;>(try split)<;>exact λh=>by cases h
def zk(i:Nat)(gk g:aE->R D):aE->R Fl:=λρ=>match ρ[i]? with
 |some (Sl.own (.dict f))=>(g ρ).bind λd=>(gk ρ).bind λk=>match sL k with
  |some _=>if f.length<1000/\lF f=true then .ok (.nx (ρ.set i (.own (.dict (yy f k d))))) else .no
  |none=>.no
 |_=>.no
theorem S2(i:Nat)(h:JE c e g)(hk:JE c k gk)(M:c.X.A.units+1<eQ)(I:c.X.N[i]?=some x:=by rfl)(hv:Pi c.X.env.scope x:=by first|exact io rfl|exact fk (io rfl)|exact fk (fk rfl))(hd:(x==("__debug__" : Str))=false:=by decide)
  (m:(x==("__classdict__" : Str))=false:=by decide) (hs:j6 e (some (.Subscript (.Name x p) k apos)) pos.line c.X.env=pure false:=by rfl):JS c (.Assign [.Subscript (.Name x p) k apos] e pos) (zk i gk g):=.of λρ=>by
 refine AQ (M6 M (qp I hv hd m) (hk ρ) (h ρ) hs) λD σ H s=>?_;obtain⟨P,B,la,Hs,f,q⟩:=s;replace q:qV c.X.K c.cls c.E P B la D (zk i gk g ρ):=q;unfold zk at q;split at q
 ·rename_i l ho
  obtain⟨a,o,k1,k2,k3,k4,k5⟩:=f.ow i _ ho;refine sE f q λd v H1 S U s1 T Y=>?_;rw[U,bind_ok] at q;refine⟨_,k1,sE T q λy w H2 u e2 z G r2=>?_⟩;rw[e2,bind_ok] at q;split at q
  ·rename_i ky L
   obtain rfl:=xo L;by_cases j:l.length<1000/\lF l=true
   ·rw[if_pos j] at q;cases k5 with
    |dK r=>exact(r.notT (by cases r with|nil=>exact j.2 | @cons k _ _ _ _ _ _=>cases k<;>exact j.2)).elim
    |dF n r=>cases j.2
    |dT n r=>
     have O:=z.all _ _ (s1.all _ _ k2);have r':=(r.same s1.sh).same z.sh;obtain⟨b,rfl,Q⟩:=Ad G.st.sub (.inl r2);exact⟨a,_,rfl,GO.t O Q (cV (by rw[r.length];omega)),q _ _ u (G.write i ho k1 (.dT YY (r'.put ky (Y.same z.sh))))⟩
   ·rw[if_neg j] at q;exact q.elim
  ·exact q.elim
 ·exact q.elim
end
def mJ(i:Nat)(ρ:aE):aE:=match ρ[i]? with
 |some (Sl.own (.dict ((.tuple a,v)::r)))=>ρ.set i (.own (.dict ((.none,.none)::(.tuple a,v)::r)))
 |_=>ρ
def Vu(I:bQ X pins σ H s)(h:H a=some (.dT kvs)):∃o,bQ X pins σ (upd H a (.frz o (.dT kvs))) s:=by
 obtain⟨z,y,xs,i,o,es,f,c,j,k,d,g⟩:=(show c_ X.prog X.w H s.heap a (.dT kvs) from I.hok a _ h);have new:c_ X.prog X.w (upd H a (.frz o (.dT kvs))) s.heap a (.frz o (.dT kvs)):=
  ⟨c,z,y,xs,Paired.mapP i λp q w=>⟨w.1,by rw[b9 (PF w.2.1 h (λz=>nomatch z))];exact w.2.1,w.2.2⟩,o,es,f,c,j,k,d,g⟩
 have:=I.write (x:=a) (e:=a) (h':=s.heap) (t':=s.toks) (by rw[h];trivial) (.inl rfl) (λb u _ q=>q) ⟨o,c⟩ new;exact⟨o,this⟩
def q0Y(h:PS X st t):PS X st (λD d H=>t D d H\/∃a c,H a=some (.dT c)/\∀o,t D d (upd H a (.frz o (.dT c)))):=λb s d H D I q=>by
 rcases q with q|⟨a,c,ha,q⟩
 ·exact h b s d H D I q
 ·obtain⟨o,e⟩:=Vu I ha;exact h b s d _ D e (q o)
def Y_(i:Nat)(h:JS c st gs):JS c st (λρ=>gs (mJ i ρ)):=.of λρ=>AQ (q0Y (h (mJ i ρ))) λD' t H p=>by
 obtain⟨j,g,la,Hs,f,q⟩:=p;by_cases m:∃b v r,ρ[i]?=some (Sl.own (.dict ((.tuple b,v)::r)))
 ·obtain⟨b,v,r,ho⟩:=m;have e:mJ i ρ=ρ.set i (.own (.dict ((.none,.none)::(.tuple b,v)::r))):=by unfold mJ;rw[ho]
  obtain⟨a,o,k1,k2,k3,s,k5⟩:=f.ow i _ ho;generalize d:Jo ((.tuple b,v)::r)=d0 at k5;cases k5 with
  |lst r=>cases d
  |dK l=>
   cases d;generalize d:((.tuple b,v)::r:List (D×D))=d1 at l;cases l with
   |nil=>cases d
   | @cons k _ _ _ _ _ _=>cases k<;>cases d
  |dF n r=>cases d
  |dT n r=>
   cases d;exact .inr ⟨a,_,k2,λo=>⟨j,g,la,Hs,by rw[e];exact f.write i ho k1 (.dF n r),q⟩⟩
 ·have e:mJ i ρ=ρ:=by
   unfold mJ;split
   ·rename_i b v r ho;exact(m ⟨b,v,r,ho⟩).elim
   ·rfl
  refine .inl ⟨j,g,la,Hs,by rw[e];exact f,q⟩
def ZK(b a:aE->R D):aE->R D:=λρ=>(b ρ).bind λk=>(a ρ).bind λv=>match sL k with
 |some _=>.ok (.dict [(k,v)])
 |none=>.no
def S3(N:c.X.A.units+1<eQ)(hk:JE c k gk)(hv:JE c v gv):JN c (.Dict [some k] [v] pos) (ZK gk gv):=.of λρ=>by
 refine sK (S0 N (hk ρ) (hv ρ)) λσ H Q U=>?_;obtain⟨H0,a0,la,Hs,f,q⟩:=U;intro p l;have s:cQ H Hs (upd H p (.dT [])) Hs:=.mine f.st.sub l;have L:Hs p=none:=f.st.sub.free l;unfold ZK at q;refine F4 (f.step s) (q.on s (q':=λ_=>True) λ_ _=>trivial) λy w H1 S T s1 G Y=>?_;rw[T,bind_ok] at q;refine F4 G (q.on (s.trans s1) (q':=λ_=>True) λ_ _=>trivial) λz u i g e2 I O r2=>?_;rw[e2,bind_ok] at q;split at q
 ·rename_i j K
  obtain rfl:=xo K;obtain⟨b,rfl,P⟩:=Ad G.st.sub (.inl Y);have d:=s1.trans I;have E:i p=some (.dT []):=d.all _ _ aX;have B:g p=none:=d.out _ _ aX rfl L;let h:Hp:=λx=>if x=p then none else i x
  have m:∀x,x≠p->h x=i x:=λx a=>if_neg a;have st:cQ H Hs h g:=by
   refine⟨λx o e=>?_,d.sh,λx o e=>?_,λx o e t n=>?_⟩
   ·have a:=bw e l;rw[m x a];exact d.all _ _ (by rw[b9 a];exact e)
   ·have a:x≠p:=λz=>by rw[z,B] at e;cases e
    rw[m x a];exact O.st.sub _ _ e
   ·have a:=bw e l;exact d.out _ _ (by rw[b9 a];exact e) t n
  have:=q p (.dT [(j,u)]) h g st (if_pos rfl) (.dT (by simp) (.cons r2 .nil));have M:upd h p (.dT [(j,u)])=upd i p (.dT (o_ [] j u)):=by
   funext x;by_cases a:x=p
   ·subst a;rw[aX,aX];rfl
   ·rw[b9 a,b9 a,m x a]
  rw[M] at this;exact⟨[],j,b,E,rfl,I.all _ _ P,by rw[hW];decide,this⟩
 ·exact q.elim
def Fo(g:aE->R D):aE->R Bool:=λρ=>(g ρ).bind λd=>match d with
 |.list ds=>.ok (!ds.isEmpty)
 |_=>.no
def Z0(h:JB c e g)(he:∀b,Am e c.X.env b=(do let v <- b;qJ e.pos;Ji [v] (truthy v)):=by intro _;rfl):JT c e (Fo g):=.of λρ=>mPT (Q1 (h ρ) he) λu H Q n=>by
 obtain⟨w,s,la,Hs,f,q⟩:=n;refine one f q λd v j i m s1 l o=>?_;unfold Fo at q;rw[m,bind_ok] at q;split at q
 ·obtain⟨a,t,rfl,k,p⟩:=o.list l.st.sub;refine⟨_,.inl ⟨t,k,rfl⟩,?_⟩;cases p with
  |nil=>exact q j i s1
  |cons _ _=>exact q j i s1
 ·exact q.elim
end J
namespace L2
open PySem PySem.Spec PyProof.Rows
end L2
namespace J
open PySem L2
def gFz(i:Nat)(g:aE->R Fl):aE->R Fl:=λρ=>g (mJ i ρ)
def Z1(i:Nat)(h:JS c st gs):JS c st (gFz i gs):=Y_ i h
def rS(i:Nat)(ρ:aE):R D:=Jp ρ i
def rB(i:Nat)(ρ:aE):R D:=Jq ρ i
def kI(n:Int)(_:aE):R D:=.ok (.int n)
def kB(b:Bool)(_:aE):R D:=.ok (.bool b)
def kN(_:aE):R D:=.ok .none
def kT(_:aE):R Bool:=.ok true
def q0Z(i:Nat)(ρ:aE):rS i ρ=Jp ρ i:=id rfl
def Z2(i:Nat)(ρ:aE):rB i ρ=Jq ρ i:=id rfl
def q10(n:Int)(ρ:aE):kI n ρ=.ok (.int n):=id rfl
def q11(b:Bool)(ρ:aE):kB b ρ=.ok (.bool b):=id rfl
end J
namespace L2
open PySem PySem.Spec PyProof.Rows
end L2
namespace L2
open PySem PySem.Spec PyProof.Rows
end L2
namespace L2
open PySem PySem.Spec PyProof.Rows
end L2
namespace L2
open PySem PySem.Spec PyProof.Rows
end L2
namespace L2
open PySem PySem.Spec PyProof.Rows
def Tks(H H':Hp):Prop:=∀b ys,H b=some (.tup ys)->H' b=some (.tup ys)
end L2
namespace L2
open PySem PySem.Spec PyProof.Rows
end L2
namespace J
open PySem L2
def q1Z(p:HO->Bool)(H Hs:Hp):Hp:=λb=>match Hs b,H b with
 |some o,_=>some o
 |none,some o=>if p o then some o else none
 |none,none=>none
def back(p:HO->Bool)(H Hs a:Hp):Hp:=λb=>match Hs b,H b with
 |none,some o=>if p o then none else a b
 |_,_=>a b
inductive q12 (p:HO->Bool) (K:a8) (cls:Str->ak) (E:XK) (ρ:aE) (r:R (List D)) (σ:St) (H:Hp) (Q:List V->Hp->Prop):Prop
 |mk (H0 Hs0:Hp) (la:Nat->Option ak) (Hs:Hp) (f:Fr K H0 Hs0 la ρ σ H Hs) (q:Fin K cls E H Hs r λd=>∀v H' Hs',cQ H Hs H' Hs'->RDs K (q1Z p H' Hs') v d->Q v H'):q12 p K cls E ρ r σ H Q
structure JL (p:HO->Bool) (c:C) (es:List bC) (g:aE->R (List D)):Prop where of ::
 run:∀ ρ,PA c.X es (q12 p c.X.K c.cls c.E ρ (g ρ))
end J
namespace L2
open PySem PySem.Spec PyProof.Rows
end L2
namespace L2
open PySem PySem.Spec PyProof.Rows
end L2
namespace TS
open PySem PyProof.Rows
section
variable{prog:bd}{w:bz}{A:cg}{E:ag->aq->Prop}{s:aq}{kd:mY}{rk:ag->Nat}{L:List gy}
def Cp(prog:bd)(w:bz)(A:cg)(s:aq)(kd:mY)(rk:ag->Nat)(L:List gy):Prop:=
 ∀x∈L,∀y∈L,∀(Q:Bool->aq->Prop) (E:ag->aq->Prop),Q (decide (rk x.1<rk y.1)) s->au (az prog w) A (keyLt' kd x.1 y.1) Q E s
def q20{x y:gy}{Q:Option Bool->jY->Prop}{st:jY}(a:Cp prog w A s kd rk L)(c:kindOf st=kd)(d:x∈L)(b:y∈L)
  (h:Q (some (decide (rk x.1<rk y.1))) st):wpS (az prog w) A E s (lt' x y) Q st:=by
 rw[lt'_eq];refine du (Py ?_);rw[c];exact du (wpS_lift (iG (a x d y b _ _ ⟨rfl,fU h⟩)))
def S4{a:Array gy}{i:Nat}{p:gy}{Q:gy->jY->Prop}{st:jY}(b:a[i]?=some p)(h:Q p st):wpS (az prog w) A E s (elem' a i) Q st:=by
 rw[elem'_eq,b];exact fU h
variable{l:Bool}{k:gy}{a:Array gy}{b n h i:Nat}{g:Nat->Nat}{st:jY}
end
structure Mg {α:Type} (lt:α->α->Prop) (T out ra rb:List α):Prop where
 perm:(out++ra++rb).Perm T
 so:out.Pairwise lt
 sa:ra.Pairwise lt
 sb:rb.Pairwise lt
 oa:∀x∈out,∀y∈ra,lt x y
 ob:∀x∈out,∀y∈rb,lt x y
section
variable{a:Array gy}{i k:Nat}{x:gy}
def Z3(h:a[i]?=some x):x∈a.toList:=by
 rw[<- bH] at h;exact bR h
def Z4(h:i<a.size):∃p,a[i]?=some p:=⟨a[i],bf h⟩
end
def gf(b:ag->Nat)(a:Array gy)(i:Nat):Nat:=(a[i]?.map λp=>b p.1).getD 0
section
variable{rk:ag->Nat}{a:Array gy}{L:List gy}
def uw(h:a[i]?=some p):gf rk a i=rk p.1:=by unfold gf;rw[h];rfl
end
section
variable{prog:bd}{w:bz}{A:cg}{E:ag->aq->Prop}{s:aq}{kd:mY}{rk:ag->Nat}{L:List gy}{st st':jY}
def Ltk(rk:ag->Nat)(x y:gy):Prop:=rk x.1<rk y.1
def V(rk:ag->Nat)(a b out:Array gy)(d c:Nat):Prop:=Mg (Ltk rk) (a.toList++b.toList) out.toList (a.toList.drop d) (b.toList.drop c)
variable{a b out:Array gy}{ia ib k:Nat}{p q:gy}
def kS{d:Type}{c:Prop}[Decidable c]{f e:StateT jY Sem d}{Q:d->jY->Prop}(g:c->wpS (az prog w) A E s f Q st)(i:¬ c->wpS (az prog w) A E s e Q st):wpS (az prog w) A E s (if c then f else e) Q st:=by
 by_cases h:c
 ·rw[if_pos h];exact g h
 ·rw[if_neg h];exact i h
def q13{c:Type}{m n:Nat}{f d:StateT jY Sem c}{Q:c->jY->Prop}(g:m=n->wpS (az prog w) A E s f Q st)(i:m≠n->wpS (az prog w) A E s d Q st):wpS (az prog w) A E s (if(m==n)=true then f else d) Q st:=
 kS (λh=>g (beq_iff_eq.1 h)) λh=>i λe=>h (beq_iff_eq.2 e)
end
section
variable{prog:bd}{w:bz}{A:cg}{E:ag->aq->Prop}{s:aq}{kd:mY}{rk:ag->Nat}{L:List gy}{st st':jY}
def W(rk:ag->Nat)(a b out:Array gy)(c d:Nat):Prop:=Mg (λx y=>Ltk rk y x) (a.toList++b.toList) out.toList (a.toList.take c).reverse (b.toList.take d).reverse
variable{a b out:Array gy}{n m k:Nat}{p q:gy}
end
def Z5:Nat->Nat->StateT jY Sem (Option Nat):=sortPriv% PySem.Builtin.countRun
def q21:Nat->Nat->Nat->StateT jY Sem Bool:=sortPriv% PySem.Builtin.binarySort
structure Bs (kd:mY) (L:List gy) (st:jY):Prop where
 kind:kindOf st=kd
 perm:(bU st).toList.Perm L
 ok:failedOf st=none
def Up(b:ag->Nat)(a:Array gy)(lo n:Nat):Prop:=∀i j,lo<=i->i<j->j<lo+n->gf b a i<gf b a j
def Dn(b:ag->Nat)(a:Array gy)(lo n:Nat):Prop:=∀i j,lo<=i->i<j->j<lo+n->gf b a j<gf b a i
section
variable{prog:bd}{w:bz}{A:cg}{E:ag->aq->Prop}{s:aq}{kd:mY}{rk:ag->Nat}{L:List gy}{st:jY}{a:Array gy}
def Bs.size(B:Bs kd L st):(bU st).size=L.length:=by rw[<- B.perm.length_eq];simp
theorem Bs.get(B:Bs kd L st)(c:i<L.length):∃p,(bU st)[i]?=some p/\p∈L:=by
 obtain⟨p,b⟩:=Z4 (a:=bU st) (i:=i) (by rw[B.size];exact c);exact⟨p,b,B.perm.mem_iff.1 (Z3 b)⟩
def Bs.ne(B:Bs kd L st)(l:(L.map λp=>rk p.1).Nodup)(m:i<L.length)(k:j<L.length)(h:i≠j):gf rk (bU st) i≠gf rk (bU st) j:=by
 have c:=(B.perm.map λp=>rk p.1).nodup_iff.2 l;obtain⟨p,f,_⟩:=B.get m;obtain⟨q,g,_⟩:=B.get k;rw[uw f,uw g];intro e;have b:((bU st).toList.map λp=>rk p.1)[i]?=some (rk p.1):=by rw[aI,bH,f];rfl
 have d:((bU st).toList.map λp=>rk p.1)[j]?=some (rk p.1):=by rw[aI,bH,g,e];rfl
 obtain⟨o,b⟩:=EA.1 b;obtain⟨n,d⟩:=EA.1 d;exact h ((TD c).1 (b.trans d.symm))
def Bs.put(B:Bs kd L st)(h:xs.Perm (bU st)):Bs kd L (setArr st xs):=⟨B.kind,(Array.perm_iff_toList_perm.1 h).trans B.perm,B.ok⟩
def yB(d:Cp prog w A s kd rk L)(B:Bs kd L st)(k:i<L.length)(e:j<L.length)
  (h:Q (some (decide (gf rk (bU st) i<gf rk (bU st) j))) st):wpS (az prog w) A E s (ltAt' i j) Q st:=by
 obtain⟨p,b,f⟩:=B.get k;obtain⟨q,c,g⟩:=B.get e;rw[uw b,uw c] at h;rw[ltAt'_eq];exact du (Py (du (S4 b (du (S4 c (q20 d B.kind f g h))))))
def oy(h:a[i]?=b[j]?):gf rk a i=gf rk b j:=by unfold gf;rw[h]
def zm(b:j<=a.size)(k:Nat):gf rk (K7 a i j ((j-i) / 2)) k=if i<=k/\k<j then gf rk a (i+j-1-k) else gf rk a k:=by
 have e:=getElem?_mirror_all (i:=i) b k;by_cases h:i<=k/\k<j
 ·rw[if_pos h] at e ⊢;exact oy e
 ·rw[if_neg h] at e ⊢;exact oy e
def zo(hs:src<a.size)(c:d<=src)(k:Nat):
  gf rk (bubble a src d) k=if k=src-d then gf rk a src else if src-d<k/\k<=src then gf rk a (k-1) else gf rk a k:=by
 have e:=getElem?_bubble hs d c k;by_cases h:k=src-d
 ·rw[if_pos h] at e ⊢;exact oy e
 ·rw[if_neg h] at e ⊢;by_cases b:src-d<k/\k<=src
  ·rw[if_pos b] at e ⊢;exact oy e
  ·rw[if_neg b] at e ⊢;exact oy e
def Up.more{lo n:Nat}(u:Up rk a lo n)(h:1<=n->gf rk a (lo+n-1)<gf rk a (lo+n)):Up rk a lo (n+1):=by
 intro i j b c d;rcases kg j (lo+n) with h4|h4
 ·exact u i j b c h4
 ·obtain rfl:j=lo+n:=by omega
  rcases kg i (lo+n-1) with h5|h5
  ·exact iq (u i (lo+n-1) b h5 ∅) (h ∅)
  ·rw[show i=lo+n-1 by omega];exact h ∅
def Dn.more{lo n:Nat}(u:Dn rk a lo n)(h:1<=n->gf rk a (lo+n)<gf rk a (lo+n-1)):Dn rk a lo (n+1):=by
 intro i j b c d;rcases kg j (lo+n) with h4|h4
 ·exact u i j b c h4
 ·obtain rfl:j=lo+n:=by omega
  rcases kg i (lo+n-1) with h5|h5
  ·exact iq (h ∅) (u i (lo+n-1) b h5 ∅)
  ·rw[show i=lo+n-1 by omega];exact h ∅
def Kp(lo:Nat)(a b:Array gy):Prop:=∀i,i<lo->b[i]?=a[i]?
def Vv{lo r:Nat}{Q:Option Nat->jY->Prop}(y:Cp prog w A s kd rk L)(O:(L.map λp=>rk p.1).Nodup)(B:Bs kd L st)(o:1<=r)(X:lo+r<=L.length)
  (h:∀n b,Bs kd L b->eN b=eN st->Kp lo (bU st) (bU b)->1<=n->n<=r->Up rk (bU b) lo n->Q (some n) b):
  wpS (az prog w) A E s (Z5 lo r) Q st:=by
 refine du (uZ (mZ (I:=λx c b=>b=st/\c=(none,x)/\Up rk (bU st) lo x)
  (Q:=λc b=>b=st/\∃n,c=(none,n)/\1<=n/\n<=r/\Up rk (bU st) lo n/\(n=r\/gf rk (bU st) (lo+n)<gf rk (bU st) (lo+n-1))) ?_ ?_ ⟨rfl,rfl,λi j o T S=>by omega⟩) ?_)
 ·rintro x c b l z ⟨rfl,rfl,u⟩;refine du (yB (i:=lo+x) (j:=lo+x-1) y B ∅ ∅ ?_);by_cases k:gf rk (bU b) (lo+x)<gf rk (bU b) (lo+x-1)
  ·exact kS (λ_=>fU ⟨rfl,x,rfl,l,by omega,u,.inr k⟩) λh=>absurd (by simpa using k) h
  ·refine kS (λh=>absurd (by simpa using h) k) λ_=>fU ⟨rfl,rfl,u.more λ_=>?_⟩;have:=B.ne O (i:=lo+x) (j:=lo+x-1) ∅ ∅ ∅;omega
 ·rintro c b ⟨rfl,rfl,u⟩;rw[show max 1 r=r by omega] at u ⊢;exact⟨rfl,r,rfl,o,aw _,u,.inl rfl⟩
 rintro c b ⟨rfl,n,rfl,t,v,u,e⟩;refine q13 (m:=n) (n:=r) (λe=>fU (h n b B rfl (λ_ _=>rfl) t v u)) λne=>?_;have e:=e.resolve_left ne;extract_lets U;refine kS (λH=>?_) λH=>?_
 ·refine du (yB (i:=lo) (j:=lo+n-1) y B ∅ ∅ ?_);have k:gf rk (bU b) lo<gf rk (bU b) (lo+n-1):=u lo (lo+n-1) (aw _) (by have:n > 1:=H;omega) (by have:n > 1:=H;omega);exact kS (λ_=>fU (h n b B rfl (λ_ _=>rfl) t v u)) λh=>absurd (by simpa using k) h
 obtain rfl:n=1:=by have:¬ n > 1:=H;omega
 refine du (wpS_lift (eI ⟨rfl,?_⟩));refine du (uZ (mZ (I:=λx c g=>g=b/\c=(none,x,0)/\Dn rk (bU b) lo x)
  (Q:=λc g=>g=b/\∃n,c=(none,n,0)/\1<=n/\n<=r/\Dn rk (bU b) lo n) ?_ ?_ ⟨rfl,rfl,Dn.more (n:=1) (λi j o T S=>by omega) λ_=>e⟩) ?_)
 ·rintro x c g l z ⟨rfl,rfl,u⟩;refine du (yB (i:=lo+x) (j:=lo+x-1) y B ∅ ∅ ?_);by_cases k:gf rk (bU g) (lo+x)<gf rk (bU g) (lo+x-1)
  ·refine kS (λ_=>?_) λh=>absurd (by simpa using k) h;exact kS (λh=>absurd h (cB 0)) λ_=>fU ⟨rfl,rfl,u.more λ_=>k⟩
  ·refine kS (λh=>absurd (by simpa using h) k) λ_=>?_;refine du (yB (i:=lo+x-1) (j:=lo+x) y B ∅ ∅ ?_);have:=B.ne O (i:=lo+x) (j:=lo+x-1) ∅ ∅ ∅;have N:gf rk (bU g) (lo+x-1)<gf rk (bU g) (lo+x):=by omega
   exact kS (λ_=>fU ⟨rfl,x,rfl,by omega,by omega,u⟩) λh=>absurd (by simpa using N) h
 ·rintro c g ⟨rfl,rfl,u⟩;rw[show max (1+1) r=r by omega] at u ⊢;exact⟨rfl,r,rfl,o,aw _,u⟩
 rintro c g ⟨rfl,n,rfl,t,v,d⟩;refine kS (λh=>absurd h (cB 0)) λ_=>?_;refine du (wpS_modify (f:=λs=>setArr s (K7 (bU s) lo (lo+n) ((lo+n-lo) / 2))) ?_);have hsz:lo+n<=(bU g).size:=by rw[B.size];omega
 have G:Bs kd L (setArr g (K7 (bU g) lo (lo+n) ((lo+n-lo) / 2))):=B.put (mirror_perm _ _ _ _);have kp:Kp lo (bU g) (K7 (bU g) lo (lo+n) ((lo+n-lo) / 2)):=λi Y=>by
  rw[getElem?_mirror_all hsz,if_neg ∅]
 have P:Up rk (K7 (bU g) lo (lo+n) ((lo+n-lo) / 2)) lo n:=by
  intro i j o T S;rw[zm hsz,zm hsz,if_pos ∅,if_pos ∅];exact d _ _ ∅ ∅ ∅
 generalize q:setArr g (K7 (bU g) lo (lo+n) ((lo+n-lo) / 2))=st3 at G;have M:bU st3=K7 (bU g) lo (lo+n) ((lo+n-lo) / 2):=by rw[<- q]
 have K:eN st3=eN g:=by rw[<- q]
 rw[<- M] at kp P;refine du (uZ (mZ (I:=λx c b=>b=st3/\c=(none,x)/\Up rk (bU st3) lo x)
  (Q:=λc b=>b=st3/\∃n,c=(none,n)/\1<=n/\n<=r/\Up rk (bU st3) lo n) ?_ ?_ ⟨rfl,rfl,P⟩) ?_)
 ·rintro x c b l z ⟨rfl,rfl,u⟩;have l:n<=x:=l;refine du (yB (i:=lo+x) (j:=lo+x-1) y G ∅ ∅ ?_);by_cases k:gf rk (bU b) (lo+x)<gf rk (bU b) (lo+x-1)
  ·exact kS (λ_=>fU ⟨rfl,x,rfl,by omega,by omega,u⟩) λh=>absurd (by simpa using k) h
  ·refine kS (λh=>absurd (by simpa using h) k) λ_=>fU ⟨rfl,rfl,u.more λ_=>?_⟩;have:=G.ne O (i:=lo+x) (j:=lo+x-1) ∅ ∅ ∅;omega
 ·rintro c b ⟨rfl,rfl,u⟩;rw[show max n r=r by omega] at u ⊢;exact⟨rfl,r,rfl,o,aw _,u⟩
 rintro c b ⟨rfl,n,rfl,t,v,u⟩;exact fU (h n b G K kp t v u)
def q14{lo n k0:Nat}{Q:Bool->jY->Prop}(T:Cp prog w A s kd rk L)(S:(L.map λp=>rk p.1).Nodup)(B:Bs kd L st)(X:lo+n<=L.length)(Y:1<=k0)(O:k0<=n)(u:Up rk (bU st) lo k0)
  (h:∀b,Bs kd L b->eN b=eN st->Kp lo (bU st) (bU b)->Up rk (bU b) lo n->Q true b):
  wpS (az prog w) A E s (q21 lo n k0) Q st:=by
 refine du (uZ (mZ (I:=λk c b=>c=(none,())/\Bs kd L b/\eN b=eN st/\Kp lo (bU st) (bU b)/\Up rk (bU b) lo k)
  (Q:=λc b=>c=(none,())/\Bs kd L b/\eN b=eN st/\Kp lo (bU st) (bU b)/\Up rk (bU b) lo n) ?step ?fin ⟨rfl,B,rfl,λ_ _=>rfl,by rw[show max k0 1=k0 by omega];exact u⟩) ?post)
 case post=>
  rintro c b ⟨rfl,g,q,kp,u⟩;exact fU (h b g q kp u)
 case fin=>
  rintro c b ⟨rfl,g,q,kp,u⟩;rw[show max (max k0 1) n=n by omega] at u;exact⟨rfl,g,q,kp,u⟩
 case step=>
  rintro k c d U P ⟨rfl,g,q,kp,u⟩;refine du (uZ (mZ (I:=λx c e=>e=d/\∃l r,c=(none,l,r)/\l<=r/\r<=k/\r-l<=k-x /\
    (∀i,i<l->gf rk (bU d) (lo+i)<gf rk (bU d) (lo+k))/\(∀i,r<=i->i<k->gf rk (bU d) (lo+k)<gf rk (bU d) (lo+i)))
   (Q:=λc e=>e=d/\∃l r,c=(none,l,r)/\l<=k /\
    (∀i,i<l->gf rk (bU d) (lo+i)<gf rk (bU d) (lo+k))/\(∀i,l<=i->i<k->gf rk (bU d) (lo+k)<gf rk (bU d) (lo+i))) ?_ ?_ ⟨rfl,0,k,rfl,by omega,by omega,by omega,λi H=>by omega,λi G K=>by omega⟩) ?_)
  ·rintro x c b - hx ⟨rfl,l,r,rfl,N,z,M,o,m⟩;refine kS (λv=>?_) λv=>?_
   ·have v:l ≥ r:=v;obtain rfl:l=r:=by omega
    exact fU ⟨rfl,l,l,rfl,z,o,m⟩
   have v:¬ l ≥ r:=v;refine du (yB (i:=lo+k) (j:=lo+(l+r) / 2) T g ∅ ∅ ?_);by_cases y:gf rk (bU b) (lo+k)<gf rk (bU b) (lo+(l+r) / 2)
   ·refine kS (λ_=>fU ⟨rfl,l,(l+r) / 2,rfl,by omega,by omega,by omega,o,λi G K=>?_⟩) λh=>absurd (by simpa using y) h;rcases kg ((l+r) / 2) i with h3|h3
    ·exact iq y (u _ _ ∅ ∅ ∅)
    ·rw[show i=(l+r) / 2 by omega];exact y
   ·refine kS (λh=>absurd (by simpa using h) y) λ_=>fU ⟨rfl,(l+r) / 2+1,r,rfl,by omega,by omega,by omega,λi G=>?_,m⟩;have ne:=g.ne S (i:=lo+k) (j:=lo+(l+r) / 2) ∅ ∅ ∅;have t:gf rk (bU b) (lo+(l+r) / 2)<gf rk (bU b) (lo+k):=by omega
    rcases kg i ((l+r) / 2) with h3|h3
    ·exact iq (u _ _ ∅ ∅ ∅) t
    ·rw[show i=(l+r) / 2 by omega];exact t
  ·rintro c b ⟨rfl,l,r,rfl,N,z,M,o,m⟩;obtain rfl:l=r:=by omega
   exact⟨rfl,l,l,rfl,z,o,m⟩
  ·rintro c b ⟨rfl,l,r,rfl,z,o,m⟩;refine du (wpS_modify (f:=λs=>setArr s (bubble (bU s) (lo+k) (lo+k-(lo+l)))) (fU ⟨rfl,g.put (bubble_perm _ _ _),q,?_,?_⟩))
   ·intro i H;rw[<- kp i H];show(bubble (bU b) (lo+k) (lo+k-(lo+l)))[i]?=_;rw[getElem?_bubble (by rw[g.size];omega) _ ∅,if_neg ∅,if_neg ∅]
   ·intro i j G K h3;show gf rk (bubble (bU b) (lo+k) (lo+k-(lo+l))) i<gf rk (bubble (bU b) (lo+k) (lo+k-(lo+l))) j;have hs:lo+k<(bU b).size:=by rw[g.size];omega
    rw[zo hs ∅,zo hs ∅,show lo+k-(lo+k-(lo+l))=lo+l by omega]
    repeat' split
    all_goals first
     |(exfalso;omega)
     |exact u _ _ ∅ ∅ ∅
     |(have:=m (j-1-lo) ∅ ∅;rwa[show lo+(j-1-lo)=j-1 by omega] at this)
     |(have:=o (i-lo) ∅;rwa[show lo+(i-lo)=i by omega] at this)
end
section
variable{prog:bd}{w:bz}{A:cg}{E:ag->aq->Prop}{s:aq}{kd:mY}{rk:ag->Nat}{L:List gy}{st:jY}{a:Array gy}
def Z6(N:Cp prog w A s kd rk L)(K:(L.map λp=>rk p.1).Nodup)(B:Bs kd L st)(S:eN st=#[])(h2:2<=L.length)(a0:L.length<64)
  (h:∀b,Bs kd L b->Up rk (bU b) 0 L.length->Q () b):wpS (az prog w) A E s sortRuns' Q st:=by
 refine du (Py ?_);extract_lets size d lo;have hsz:size=L.length:=B.size;have t:d=minRun' L.length L.length 0:=by rw[<- hsz];rfl
 have m3:d=L.length:=by
  rw[t];obtain⟨f,l⟩:∃f,L.length=f+1:=⟨L.length-1,by omega⟩
  have:minRun' (f+1) L.length 0=L.length:=by rw[minRun'_succ,if_pos ∅];rfl
  rw[<- l] at this;exact this
 clear_value size d;subst hsz;refine du (uZ (mZ
  (I:=λx c b=>Bs kd L b/\((x=0/\c=(none,0)/\eN b=#[])\/(x=1/\∃n,c=(none,n)/\eN b=#[(0,n,0)]/\d<=n/\n<=L.length/\Up rk (bU b) 0 n)))
  (Q:=λc b=>Bs kd L b/\∃n,c=(none,n)/\(eN b).size=1/\Up rk (bU b) 0 L.length) ?step ?fin ⟨B,.inl ⟨rfl,rfl,S⟩⟩) ?post)
 case fin=>
  rintro c b ⟨g,⟨e,_⟩|⟨e,_⟩⟩
  ·omega
  ·omega
 case step=>
  rintro x c v-hx ⟨m,⟨rfl,rfl,j⟩|⟨rfl,n,rfl,j,G,Y,u⟩⟩
  ·refine kS (λi=>?_) λ_=>?_
   ·have i:0 ≥ L.length:=i;omega
   refine du (Vv (lo:=0) (r:=L.length-0) N K m ∅ ∅ λn st2 M z k2 G Y H=>?_);dsimp (config:={zeta:=false}) only;extract_lets nn P;have J:∀n b,Bs kd L b->eN b=#[]->d<=n->n<=L.length->Up rk (bU b) 0 n->wpS (az prog w) A E s (P () n) (λr b=>∃c,r=.yield c/\Bs kd L b/\∃n,c=(none,n)/\eN b=#[(0,n,0)]/\d<=n/\n<=L.length/\Up rk (bU b) 0 n) b:=by
    intro n b g o y q u;refine du (Py ?_);extract_lets U;rw[show(sortPriv% PySem.Builtin.SortState.pending) b=#[] from o];refine du (wpS_modify (fU ⟨_,rfl,⟨g.kind,g.perm,g.ok⟩,n,?_,?_,y,q,u⟩))
    ·show((none,0+n):Option Unit×Nat)=(none,n);rw[zK]
    ·show(eN b).push _=_;rw[o];rfl
   refine uZ (Q:=λr b=>∃c,r=.yield c/\Bs kd L b/\∃n,c=(none,n)/\eN b=#[(0,n,0)]/\d<=n/\n<=L.length/\Up rk (bU b) 0 n) (kS (λk=>?_) λk=>?_) ?_
   ·have k:n<d:=k;refine du (wpS_lift (eI ⟨rfl,?_⟩));have l:min (L.length-0) d=d:=by omega
    refine du (q14 (lo:=0) (n:=min (L.length-0) d) N K M ∅ G ∅ H λst3 X T k3 O=>?_);refine kS (λh=>by cases h) λ_=>?_;rw[l] at O;exact J (min (L.length-0) d) st3 X (T.trans (z.trans j)) ∅ ∅ (by rw[l];exact O)
   ·have k:¬ n<d:=k;exact J n st2 M (z.trans j) ∅ ∅ H
   ·rintro r b ⟨c,rfl,g,n,rfl,o,y,q,u⟩;exact⟨g,.inr ⟨rfl,n,rfl,o,y,q,u⟩⟩
  ·refine kS (λi=>fU ⟨m,n,rfl,by rw[j];rfl,?_⟩) λi=>absurd (show n ≥ L.length by omega) i
   have i:n ≥ L.length:=i;rw[show L.length=n by omega];exact u
 case post=>
  rintro c v ⟨m,lo,rfl,j,u1⟩
  refine du (uZ (mZ (I:=λx c b=>c=(none,())/\Bs kd L b/\(eN b).size=1/\Up rk (bU b) 0 L.length) (Q:=λc b=>c=(none,())/\Bs kd L b/\Up rk (bU b) 0 L.length) ?_ ?_ ⟨rfl,m,j,u1⟩) ?_)
  ·rintro x c b - hx ⟨rfl,g,j,u⟩;refine du (Py (kS (λ_=>fU ⟨rfl,g,u⟩) λi=>absurd ?_ i));show(eN b).size<=1;omega
  ·rintro c b ⟨rfl,g,j,u⟩;exact⟨rfl,g,u⟩
  ·rintro c b ⟨rfl,g,u⟩;exact fU (h b g u)
end
end TS
namespace TS
open PySem PyProof.Rows PySem.W
def Ss:List ag->List Str->Prop
 |[],[]=>True
 |v::a,x::xs=>(∃t,v=.str x t)/\Ss a xs
 |_,_=>False
def tl:List Str->List Str->Bool
 |[],[]=>false
 |[],_::_=>true
 |_::_,[]=>false
 |x::xs,y::ys=>if x=y then tl xs ys else decide (x.cps.toList<y.cps.toList)
def Tk(h:bP)(v:ag)(x:List Str):Prop:=∃a o b n,v=.ref a/\h.get? a=some o/\o.cls=.type "tuple"/\o.data=.seq b n/\Ss b.toList x
section
variable{prog:bd}{w:bz}{A:cg}{E:ag->aq->Prop}{s:aq}
def xp:tl (x::xs) (y::ys)=if x=y then tl xs ys else decide (x.cps.toList<y.cps.toList):=rfl
theorem MJ:∀{c b:List ag}{x y:List Str}{i:Nat},Ss c x->Ss b y->fin=decide (c.length<b.length)->Q (tl x y) s->KatLex prog w A true fin Q (c.zip b) i s
 |[],[],[],[],_,_,_,e,q=>by subst e;exact q
 |[],_::_,[],_::_,_,_,_,e,q=>by subst e;rw[List.zip_nil_left];refine kat_nil ?_;simpa[tl] using q
 |_::_,[],_::_,[],_,_,_,e,q=>by subst e;rw[List.zip_nil_right];refine kat_nil ?_;simpa[tl] using q
 |v::c,u::b,x::xs,y::ys,i,f,g,e,q=>by
  obtain⟨⟨t,rfl⟩,f⟩:=f;obtain⟨⟨t',rfl⟩,g⟩:=g;rw[xU];refine kat_cons (Em ?_);rw[xp] at q;by_cases a:x=y
  ·rw[if_pos a] at q;have d:(x==y)=true:=by simp[a]
   first|rw[d]|(rw[show decide (x=y)=true by simp[a]])
   exact kat_yes (MJ f g (by rw[e];simp) q)
  ·rw[if_neg a] at q;have d:(x==y)=false:=by simp[a]
   first|rw[d]|(rw[show decide (x=y)=false by simp[a]])
   refine kat_no ?_;cases(true&&i==0) with
   |true=>exact oneLt_str q
   |false=>exact kat_one _ _ (lt_str q)
 |[],_,_::_,_,_,h,_,_,_=>h.elim
 |_::_,_,[],_,_,h,_,_,_=>h.elim
 |_,[],_,_::_,_,_,h,_,_=>h.elim
 |_,_::_,_,[],_,_,h,_,_=>h.elim
def Vw(c:Tk s.heap v x)(f:Tk s.heap u y)(q:Q (tl x y) s):au (az prog w) A (keyLt' (tuples' true) v u) Q E s:=by
 obtain⟨a,o,k,n,rfl,e,_,h,i⟩:=c;obtain⟨b,o',l,m,rfl,d,_,g,j⟩:=f;exact kat_lt e h d g (MJ i j (by simp) q)
def vp(X:Tk s.heap (.ref a) x)(L:Tk s.heap (.ref b) y)(h:P (.done (.ret (.bool (tl x y)))) s):
  au (az prog w) A (iB.«tuple.__lt__» ⟨[.ref a,.ref b],[]⟩) P E s:=by
 obtain⟨_,oa,xs,na,M,I,S,K,H⟩:=X;obtain⟨_,ob,ys,nb,U,n,B,z,p⟩:=L;cases M;cases U;show au _ _ (At (.ref b) (.type "tuple")>>=_) _ _ s;refine a7 (i0 (T:="tuple") ⟨_,n,B⟩ isSubtype_tuple_tuple ?_);simp only[gQ,bg,if_false];refine a7 (wpAny_tupleItemsOf I K ?_);refine a7 (wpAny_tupleItemsOf n z ?_);refine a7 ?_;refine EB _
  (λbA r s'=>r.1=none/\s'=s/\∃k l e d,bA=List.zip e d/\Ss e k/\Ss d l/\tl k l=tl x y/\(decide (e.length<d.length))=(decide (xs.size<ys.size)))
  _ ?_ ?_ _ _ ⟨rfl,rfl,x,y,xs.toList,ys.toList,rfl,H,p,rfl,by simp⟩
 ·rintro⟨u,v⟩ bA r s' ⟨q,rfl,k,l,e,d,g,i,j,c,f⟩
  match k,l,e,d,g,i,j,c,f with
  |k1::k,k2::l,N::e,O::d,g,⟨⟨t,Q⟩,i⟩,⟨⟨t',Y⟩,j⟩,c,f=>
   rw[xU] at g;obtain⟨e3,rfl⟩:=um g;obtain⟨rfl,rfl⟩:=Prod.mk.inj e3;subst Q;subst Y;refine a7 (Em ?_);rw[xp] at c;by_cases m:k1=k2
   ·rw[if_pos m] at c;have G:(k1==k2)=true:=by simp[m]
    first|rw[G]|(rw[show decide (k1=k2)=true by simp[m]])
    simp only[gQ,bg,if_false];refine a9 ⟨rfl,rfl,k,l,e,d,rfl,i,j,c,by simpa using f⟩
   ·rw[if_neg m] at c;have G:(k1==k2)=false:=by simp[m]
    first|rw[G]|(rw[show decide (k1=k2)=false by simp[m]])
    simp only[jT,if_true];rw[<- c] at h;refine a7 (eI (a7 (lt_str ?_)));exact a7 (a9 (a9 (a9 h)))
  |[],_,N::e,_,_,h,_,_,_=>exact h.elim
  |_::_,_,[],_,g,h,_,_,_=>exact h.elim
  |[],_,[],_,g,_,_,_,_=>simp at g
  |_::_,[],_::_,O::d,g,_,h,_,_=>exact h.elim
  |_::_,_::_,_::_,[],g,_,h,_,_=>exact h.elim
  |_::_,[],_::_,[],g,_,_,_,_=>simp at g
 ·rintro⟨r1,r2⟩ s' ⟨q,rfl,k,l,e,d,g,i,j,c,f⟩;simp only at q;subst q;refine a9 ?_;have o:decide (xs.size<ys.size)=tl x y:=by
   rw[<- c,<- f]
   match k,l,e,d,g,i,j with
   |[],[],[],[],_,_,_=>simp[tl]
   |[],_::_,[],_::_,_,_,_=>simp[tl]
   |_::_,[],_::_,[],_,_,_=>simp[tl]
   |_::_,_::_,_::_,_::_,g,_,_=>simp at g
   |[],_,_::_,_,_,h,_=>exact h.elim
   |_::_,_,[],_,_,h,_=>exact h.elim
   |_,[],_,_::_,_,_,h=>exact h.elim
   |_,_::_,_,[],_,_,h=>exact h.elim
  show P (.done (.ret (.bool (decide (xs.size<ys.size))))) s';rw[o];exact h
def Tk.typeIs(h:Tk s.heap v x):s.TypeIs v "tuple":=by
 obtain⟨a,o,d,n,rfl,b,c,_⟩:=h;exact⟨_,b,c⟩
def Z7(h:A.units<eQ)(c:Tk s.heap v x)(g:Tk s.heap u y)(q:Q (tl x y) s):au (az prog w) A (keyLt' general' v u) Q E s:=by
 have f:=c;have d:=g;obtain⟨a,_,_,_,rfl,_⟩:=f;obtain⟨b,_,_,_,rfl,_⟩:=d;refine kat_one _ _ (wpAny_richCompare_same_room (op:=.Lt) c.typeIs g.typeIs vf
  (bE vf c.typeIs F.entry_tuple_lt (vp c g ⟨_,rfl,(λe=>nomatch e),q⟩) (F.args_tuple_lt_2 _ _)) h)
def Z8(g:A.units<eQ)(c:Tk s.heap v x)(f:Tk s.heap u y)(q:Q (tl x y) s):au (az prog w) A (keyLt' oneType' v u) Q E s:=by
 have e:=c;have d:=f;obtain⟨a,_,_,_,rfl,_⟩:=e;obtain⟨b,_,_,_,rfl,_⟩:=d;rw[keyLt'_oneType,oneLt'_eq];simp only[if_true];refine a7 (wpAny_cRoomFor_or (.inr g) ?_);refine a7 (wpAny_callSpecialIfBound?_slot c.typeIs vf (bE vf c.typeIs F.entry_tuple_lt (vp c f ⟨_,rfl,?_⟩) (F.args_tuple_lt_2 _ _)));exact dP q
end
def Z9{x y:Str}(h:x.cps.toList=y.cps.toList):x=y:=by
 cases x;cases y;exact congrArg _ (zN.1 h)
theorem tl_irrefl:∀x:List Str,tl x x=false
 |[]=>rfl
 |x::xs=>by rw[xp,if_pos rfl];exact tl_irrefl xs
theorem tl_total:∀x y:List Str,tl x y=false->tl y x=false->x=y
 |[],[],_,_=>rfl
 |[],_::_,h,_=>by cases h
 |_::_,[],_,h=>by cases h
 |x::xs,y::ys,a,b=>by
  rw[xp] at a b;by_cases e:x=y
  ·subst e;rw[if_pos rfl] at a b;rw[tl_total xs ys a b]
  ·rw[if_neg e] at a;rw[if_neg (dk e)] at b;exact absurd (Z9 (PyProof.Rows.strKind.total x.cps.toList y.cps.toList a b)) e
theorem tl_trans:∀x y z:List Str,tl x y=true->tl y z=true->tl x z=true
 |[],_,[],b,a=>by
  rename_i y
  cases y with
  |nil=>cases b
  |cons=>cases a
 |[],_,_::_,_,_=>rfl
 |_::_,[],_,h,_=>by cases h
 |_::_,_::_,[],_,h=>by cases h
 |x::xs,y::ys,z::f,b,a=>by
  rw[xp] at b a ⊢;by_cases e:x=y
  ·subst e;rw[if_pos rfl] at b;by_cases c:x=z
   ·subst c;rw[if_pos rfl] at a ⊢;exact tl_trans xs ys f b a
   ·rw[if_neg c] at a ⊢;exact a
  ·rw[if_neg e] at b;by_cases c:y=z
   ·subst c;rw[if_neg e];exact b
   ·rw[if_neg c] at a;have d:=PyProof.Rows.strKind.trans x.cps.toList y.cps.toList z.cps.toList b a;rw[if_neg λg=>by subst g;rw[PyProof.Rows.strKind.irrefl] at d;cases d];exact d
theorem DJ{α:Type}{p q:α->Bool}:∀{l:List α}{a:α},(∀z∈l,p z=true->q z=true)->a∈l->p a=false->q a=true->l.countP p<l.countP q
 |b::l,a,h,ha,f,e=>by
  rw[TW,TW];have mono:l.countP p<=l.countP q:=List.countP_mono_left λz d=>h z (ai _ d);rcases aW.1 ha with rfl|ha
  ·rw[if_neg (by simp[f]),if_pos e];omega
  ·have:=DJ (λz d=>h z (ai _ d)) ha f e;have g:=h b (ap ..);cases c:p b with
   |false=>simp;split<;>omega
   |true=>rw[g c];simp;omega
def HJ(xs:List (List Str))(x:List Str):Nat:=xs.countP λy=>tl y x
def MK(a:x∈xs)(h:tl x y=true):HJ xs x<HJ xs y:=
 DJ (λz _ b=>tl_trans z x y b h) a (tl_irrefl x) h
def xq(c:x∈xs)(b:y∈xs):decide (HJ xs x<HJ xs y)=tl x y:=by
 cases h:tl x y with
 |true=>exact decide_eq_true (MK c h)
 |false=>
  refine decide_eq_false λd=>?_;cases a:tl y x with
  |true=>have:=MK b a;omega
  |false=>rw[tl_total x y h a] at d;omega
def S5(a:x∈xs)(b:y∈xs)(h:HJ xs x=HJ xs y):x=y:=by
 refine tl_total x y ?_ ?_
 ·rw[<- xq a b];simp[h]
 ·rw[<- xq b a];simp[h]
theorem Ss.inj:∀{c:List ag}{x y:List Str},Ss c x->Ss c y->x=y
 |[],[],[],_,_=>rfl
 |v::c,x::xs,y::ys,a,b=>by
  obtain⟨⟨t,rfl⟩,a⟩:=a;obtain⟨⟨t',e⟩,b⟩:=b;cases e;rw[Ss.inj a b]
 |[],_::_,_,h,_=>h.elim
 |[],[],_::_,_,h=>h.elim
 |_::_,[],_,h,_=>h.elim
 |_::_,_::_,[],_,h=>h.elim
theorem Tk.inj(d:Tk h v x)(g:Tk h v y):x=y:=by
 obtain⟨a,o,l,n,rfl,e,_,i,j⟩:=d;obtain⟨_,o',p,m,f,b,_,c,k⟩:=g;cases f;rw[e] at b;cases b;rw[i] at c;cases c;exact j.inj k
def Tks(h:bP):List ag->List (List Str)->Prop
 |[],[]=>True
 |v::a,x::xs=>Tk h v x/\Tks h a xs
 |_,_=>False
theorem Tks.len:∀{a:List ag}{xs:List (List Str)},Tks h a xs->a.length=xs.length
 |[],[],_=>rfl
 |_::_,_::_,t=>congrArg (· + 1) t.2.len
 |[],_::_,t=>t.elim
 |_::_,[],t=>t.elim
theorem Tks.mem:∀{a:List ag}{xs:List (List Str)},Tks h a xs->v∈a->∃x∈xs,Tk h v x
 |c::a,x::xs,t,hm=>by
  rcases aW.1 hm with rfl|hm
  ·exact⟨x,ap ..,t.1⟩
  ·obtain⟨y,b,e⟩:=Tks.mem t.2 hm;exact⟨y,ai _ b,e⟩
 |[],_,_,hm=>by cases hm
 |_::_,[],t,_=>t.elim
theorem Tks.keep(k:∀v x,Tk h v x->Tk h' v x):∀{a:List ag}{xs:List (List Str)},Tks h a xs->Tks h' a xs
 |[],[],_=>trivial
 |_::_,_::_,t=>⟨k _ _ t.1,Tks.keep k t.2⟩
 |[],_::_,t=>t.elim
 |_::_,[],t=>t.elim
def Tks.perm:∀{d a:List ag}{xs:List (List Str)},d.Perm a->Tks h a xs->∃ys,Tks h d ys/\ys.Perm xs:=by
 intro d a xs p;induction p generalizing xs with
 |nil=>exact λt=>⟨xs,t,.refl _⟩
 |cons v p e=>
  intro t;cases xs with
  |nil=>exact t.elim
  |cons x xs=>
   obtain⟨ys,c,b⟩:=e t.2;exact⟨x::ys,⟨t.1,c⟩,b.cons x⟩
 |swap v u l=>
  intro t
  match xs,t with
  |x::y::xs,t=>exact⟨y::x::xs,⟨t.2.1,t.1,t.2.2⟩,.swap x y xs⟩
  |[_],t=>exact t.2.elim
  |[],t=>exact t.elim
 |trans p q ih1 ih2=>
  intro t;obtain⟨ys,c,b⟩:=ih2 t;obtain⟨f,i,g⟩:=ih1 c;exact⟨f,i,g.trans b⟩
open Classical in
noncomputable def Of (h:bP) (xs:List (List Str)) (v:ag):Nat:=if e:∃x,Tk h v x then HJ xs e.choose else 0
def ux(t:Tk h v x):Of h xs v=HJ xs x:=by
 have e:∃x,Tk h v x:=⟨x,t⟩;unfold Of;rw[dif_pos e,e.choose_spec.inj t]
def Kd(kd:mY):Prop:=kd=tuples' true\/kd=general'\/kd=oneType'
def q15(d:A.units<eQ)(k:Kd kd)(t:Tks s.heap vs xs):Cp prog w A s kd (Of s.heap xs) (vs.zip vs):=by
 intro x i y e Q E q;obtain⟨l,j⟩:=Cj i;obtain⟨m,g⟩:=Cj e;obtain⟨a,f,c⟩:=t.mem j;obtain⟨b,h,tb⟩:=t.mem g;rw[ux c,ux tb,xq f h] at q;rcases k with rfl|rfl|rfl
 ·exact Vw c tb q
 ·exact Z7 d c tb q
 ·exact Z8 d c tb q
theorem HK:∀{a:List ag}{xs ys:List (List Str)}{h:bP},Tks h a xs->(∀x∈xs,x∈ys)->xs.Nodup->((a.zip a).map λp=>Of h ys p.1).Nodup
 |[],[],_,_,_,_,_=>gY
 |v::a,x::xs,ys,h,t,s,n=>by
  rw[xU,ay,l7];refine⟨λc=>?_,HK t.2 (λx f=>s x (ai _ f)) (l7.1 n).2⟩;obtain⟨p,d,e⟩:=i_.1 c;obtain⟨y,b,ty⟩:=t.2.mem (Cj d).2;rw[ux ty,ux t.1] at e;rw[S5 (s y (ai _ b)) (s x (ap ..)) e] at b;exact(l7.1 n).1 b
 |[],_::_,_,_,t,_,_=>t.elim
 |_::_,[],_,_,t,_,_=>t.elim
def S6(t:Tk s.heap v x)(q:∀o,(o=none\/∃b u,o=some (.str b u))->Q o s):au (az prog w) A (firstOfTuple' v) Q E s:=by
 obtain⟨a,o,d,n,rfl,c,f,g,e⟩:=t;rw[kas_first_eq];refine a7 (Looks.here (show Looks (az prog w) s.heap (typeOf (.ref a)) o.cls from(Looks.ld c).andThen .now) ?_);rw[f,if_neg (by first|decide|simp)];refine a7 (listItems_at c g (a9 (q _ ?_)));rw[<- bH]
 match d.toList,x,e with
 |[],[],_=>exact .inl rfl
 |v::d,x::xs,h=>obtain⟨⟨t,rfl⟩,_⟩:=h;exact .inr ⟨x,t,rfl⟩
theorem DK:∀{c:List ag}{xs:List (List Str)}{Q:List (Option ag)->aq->Prop},Tks s.heap c xs->(∀d:List (Option ag),d.length=c.length->(∀o∈d,o=none\/∃b u,o=some (.str b u))->Q d s)->au (az prog w) A (c.mapM firstOfTuple') Q E s
 |[],[],_,_,q=>by rw[List.mapM_nil];exact a9 (q [] rfl (by simp))
 |v::c,x::xs,Q,t,q=>by
  rw[List.mapM_cons];refine a7 (S6 t.1 λo ho=>a7 (DK t.2 λd e f=>a9 (q _ (by simp[e]) ?_)));intro o' a;rcases aW.1 a with rfl|a
  ·exact ho
  ·exact f _ a
 |[],_::_,_,t,_=>t.elim
 |_::_,[],_,t,_=>t.elim
def S7{b:List ag}{T:ag}{Q:Option ag->aq->Prop}(e:0<b.length)(hT:∀v∈b,Looks (az prog w) s.heap (typeOf v) T)(c:(T==T)=true)(q:Q (some T) s):au (az prog w) A (oneTypeOnly' b.toArray) Q E s:=by
 match b,e with
 |v::b,_=>
  rw[oneTypeOnly'_eq,Pz,map_eq_pure_bind];refine a7 (a7 (kas_mapM (r:=T) _ (λv f Q' d=>(hT v f).here d) (a9 ?_)));have a:((pz (λ_=>T) (v::b)).toArray.all λx=>x==T)=true:=by
   simp only[List.all_toArray,lS,cx];intro _ _;exact c
  have g:(pz (λ_=>T) (v::b)).toArray[0]?=some T:=by simp
  rw[g];simp only[a,if_true];exact a9 q
def Vx{i:List ag}{xs:List (List Str)}{Q:mY->aq->Prop}(z:2<=i.length)(t:Tks s.heap i xs)(q:∀kd,Kd kd->Q kd s):au (az prog w) A (keyKind' i.toArray) Q E s:=by
 rw[kat_kind_eq,Pz,map_eq_pure_bind];refine a7 (a7 (DK t λc B p=>a9 ?_));by_cases d:(c.toArray.all λx=>x.isSome)=true
 ·rw[if_pos d];refine a7 (eI ?_);have hs:∀o∈c,∃b u,o=some (.str b u):=λo ho=>by
   rcases p o ho with rfl|h
   ·simp at d;have:=d _ ho;cases this
   ·exact h
  have f:c.toArray.filterMap id=(c.filterMap id).toArray:=by simp
  rw[f];have y:(c.filterMap id).length=c.length:=by
   have:∀c:List (Option ag),(∀o∈c,∃b u,o=some (.str b u))->(c.filterMap id).length=c.length:=by
    intro c;induction c with
    |nil=>intro _;rfl
    |cons o c k=>
     intro hs;obtain⟨b,u,rfl⟩:=hs o (ap ..);rw[fv];simp only[id];rw[aU,k λo ho=>hs o (ai _ ho)];rfl
   exact this c hs
  refine a7 (S7 (T:=.type "str") ∅ (λv g=>?_) (by rfl) (a9 (q _ (.inl rfl))));obtain⟨o,ho,e⟩:=Ph.1 g;obtain⟨b,u,rfl⟩:=hs o ho;cases e;exact .now
 ·rw[if_neg d];by_cases j:(c.toArray[0]?.bind id).isSome=true
  ·rw[if_pos j];exact a9 (q _ (.inr (.inl rfl)))
  ·rw[if_neg j];refine a7 (S7 (T:=.type "tuple") ∅ (λv g=>?_) (by rfl) (a9 (q _ (.inr (.inr rfl)))));obtain⟨x,_,a,o,G,n,rfl,l,m,_⟩:=t.mem g;rw[<- m];exact(Looks.ld l).andThen .now
theorem Tks.inj:∀{c:List ag}{xs ys:List (List Str)},Tks h c xs->Tks h c ys->xs=ys
 |[],[],[],_,_=>rfl
 |_::_,_::_,_::_,b,a=>by rw[b.1.inj a.1,Tks.inj b.2 a.2]
 |[],_::_,_,t,_=>t.elim
 |[],[],_::_,_,t=>t.elim
 |_::_,[],_,t,_=>t.elim
 |_::_,_::_,[],_,t=>t.elim
def Tk.keepNe(g:h.get? a=some (jX "list" vs n))(k:∀b o,b≠a->h.get? b=some o->h'.get? b=some o)(v:ag)(x:List Str)(t:Tk h v x):Tk h' v x:=by
 obtain⟨b,o,f,m,rfl,c,d,i⟩:=t;refine⟨b,o,f,m,rfl,k b o (λe=>?_) c,d,i⟩;subst e;rw[g] at c;cases c;simp at d
def Vy{a:List ag}{xs:List gy}(p:xs.Perm (a.zip a)):(xs.map (·.2)).Perm a/\xs.map (·.1)=xs.map (·.2):=by
 refine⟨?_,gD λc b=>(Cj (p.mem_iff.1 b)).1⟩;have:=p.map (·.2)
 rwa[TX (aw _)] at this
theorem Bg:∀{xs:List gy}{f:List (List Str)},Tks h (xs.map (·.1)) f->(∀z∈f,z∈ys)->xs.Pairwise (Ltk (Of h ys))->f.Pairwise (λa b=>tl a b=true)
 |[],[],_,_,_=>t5
 |x::xs,z::f,t,g,p=>by
  have i:=li.1 p;refine li.2 ⟨λb c=>?_,Bg t.2 (λz n=>g z (ai _ n)) i.2⟩;have:∀{e:List gy}{d:List (List Str)},Tks h (e.map (·.1)) d->b∈d->∃u∈e,Tk h u.1 b:=by
   intro e;induction e with
   |nil=>intro d t c;cases d with
    |nil=>cases c
    |cons=>exact t.elim
   |cons u e j=>intro d t c;cases d with
    |nil=>cases c
    |cons w d=>
     rcases aW.1 c with rfl|c
     ·exact⟨u,ap ..,t.1⟩
     ·obtain⟨s,k,o⟩:=j t.2 c;exact⟨s,ai _ k,o⟩
  obtain⟨u,q,m⟩:=this t.2 c;have l:=i.1 u q;unfold Ltk at l;rw[ux t.1,ux m] at l;rw[<- xq (g z (ap ..)) (g b (ai _ c))];exact decide_eq_true l
 |[],_::_,t,_,_=>t.elim
 |_::_,[],t,_,_=>t.elim
def q16(u:Up rk a 0 a.size):a.toList.Pairwise (Ltk rk):=by
 rw[List.pairwise_iff_getElem];intro i j f e c;have b:i<a.size:=by simpa using f
 have d:j<a.size:=by simpa using e
 have:=u i j (cu _) c ∅;rw[uw (bf b),uw (bf d)] at this;exact this
def HL{a:ak}{c:List ag}{xs:List (List Str)}{n:Nat}{P:Fin->aq->Prop}(O:A.units<eQ)(ho:s.heap.get? a=some (jX "list" c.toArray n))
  (t:Tks s.heap c xs) (hx:xs.Nodup) (X:c.length<64)
  (h:∀(g:List ag) (i:List (List Str)),g.Perm c->Tks s.heap g i->i.Perm xs->i.Pairwise (λa b=>tl a b=true)->P (.done (.ret .none)) {s with heap:=sortedHeap s.heap a c g.toArray}):
  au (az prog w) A (iB.«list.sort» ⟨[.ref a],[]⟩) P E s:=by
 rw[list_sort_plain];have I:a<s.heap.objs.size:=av ho;have B:c.length<=sizeLine:=by rw[hW];omega
 refine a7 (listItems_at ho rfl ?_);refine a7 (Nz ho rfl ?_ (by simpa using B) (cu _));obtain⟨G,k⟩:∃G,(s.heap.update a (fN λ_=>#[])).get? a=some (jX "list" #[] G):=⟨_,get?_update_seq ho (λ_=>#[])⟩;refine a7 (Uk k rfl ?_);refine a7 (wpAny_newTuple ?_ (by simpa using B));refine a7 (Nu ?_ (cu _));refine bY ?_;have f:(((s.heap.update a (fN λ_=>#[])).push (jX "tuple" c.toArray 0)).push (jX "list" #[] 0)).get? a=some (jX "list" #[] G):=by
  rw[PB _ _ _ (by rw[size_push',sI];exact aO (gj I)),PB _ _ _ (by rw[sI];exact aO I)];exact k
 have p:Tks (((s.heap.update a (fN λ_=>#[])).push (jX "tuple" c.toArray 0)).push (jX "list" #[] 0)) c xs:=
  t.keep (Tk.keepNe ho λb o x e=>af _ (af _ ((fo _ _ (dk x)).trans e)))
 show au (az prog w) A _ P E {s with heap:=((s.heap.update a (fN λ_=>#[])).push (jX "tuple" c.toArray 0)).push (jX "list" #[] 0)};dsimp only;have hsz:c.toArray.size=c.length:=by simp
 by_cases v:c.toArray.size<2
 ·rw[if_pos v,if_pos v];refine a7 (a9 ?_);rw[StateT.run_pure];refine a7 (a9 ?_);dsimp only;refine a7 (Uk f rfl ?_);refine a7 (Nz f rfl ?_ (hsz2:=by rw[lN,Array.size_zip,aM,K8];exact Nat.le_succ_of_le B));simp only[bne_self_eq_false,bg,if_false];have e:(c.toArray.zip c.toArray).map (·.2)=c.toArray:=by
   apply zN.1;rw[Array.toList_map,PC,TX (aw _)]
  refine a9 ?_;have:=h c xs (.refl _) t (.refl _) (by
   have:=t.len
   match xs,this with
   |[],_=>exact .nil
   |[_],_=>exact sJ ..
   |_::_::_,e=>simp at e;omega)
  rw[<- e] at this;exact this
 ·rw[if_neg v,if_neg v];refine a7 (Vx ∅ p λkd Y=>?_);refine a7 (cn (Z6 (kd:=kd) (L:=c.zip c) (st:=SortSt.mk' kd (c.toArray.zip c.toArray) #[] 7 none)
   (Q:=λ_ d=>(bU d).toList.Perm (c.zip c)/\failedOf d=none/\Up (Of _ xs) (bU d) 0 (c.zip c).length)
   (q15 O Y p) (HK p (λ_ h=>h) hx) ⟨rfl,by rw[PC],rfl⟩ rfl (by rw[tm];omega) (by rw[tm];omega) λd b u=>⟨b.perm,b.ok,u⟩) ?_ λ_ _ e=>e)
  rintro⟨⟨⟩,d⟩ s' ⟨rfl,M,U,hs⟩;dsimp only;have l:(bU d).size=c.length:=by
   have:=M.length_eq;rw[ax,tm,K8] at this;exact this
  refine a7 (Uk f rfl ?_);refine a7 (Nz f rfl ?_ (hsz2:=by rw[lN];show(bU d).size<=_;rw[l,hW];omega));rw[U];simp only[bne_self_eq_false,bg,if_false];refine a9 ?_;obtain⟨y,K⟩:=Vy M;obtain⟨ys,q,N⟩:=p.perm y;obtain⟨j,H,S⟩:=t.perm y;rw[<- K] at q;have m:(c.zip c).length=(bU d).size:=by rw[tm,l,K8]
  rw[m] at hs;have so:=Bg (ys:=xs) q (λz T=>N.mem_iff.1 T) (q16 hs);have:j=ys:=by
   rw[K] at q;exact Tks.inj (H.keep (Tk.keepNe ho λb o x e=>af _ (af _ ((fo _ _ (dk x)).trans e)))) q
  subst this;have:=h _ j y H S so;have e:(bU d).map (·.2)=((bU d).toList.map (·.2)).toArray:=by apply zN.1;simp
  rw[<- e] at this;exact this
def sorted_T(N:A.units+2<eQ)(u:au (az prog w) A.in1 (vE x) (λf s1=>∃xs,Tks s1.heap f xs/\xs.Nodup/\f.length<64 /\
   ∀(h':bP) (c:List ag) (d:List (List Str)) (e:Nat),(∀b o,s1.heap.get? b=some o->h'.get? b=some o)->h'.get? s1.heap.objs.size=some (jX "list" c.toArray e)->c.Perm f->Tks s1.heap c d->d.Perm xs->d.Pairwise (λa b=>tl a b=true) ->
    Q (.ref s1.heap.objs.size) {s1 with heap:=h'}) E s):au (az prog w) A (call (.builtin "sorted") [x]) Q E s:=by
 refine qm kind_sorted plain_sorted entry_sorted (args_sorted1 _) ?_;unfold iB.«sorted»;refine a7 (m:=checkCount "sorted" 1 1 _) (a9 ?_);refine a7 (cn u (λf s1 z=>?_) λ_ _ z=>z);obtain⟨xs,t,L,h,y⟩:=z;refine a7 (Nu ?_ (by rw[hW];omega));have g:(s1.heap.push (jX "list" f.toArray 0)).get? s1.heap.objs.size=some (jX "list" f.toArray 0):=aD _ rfl;show au _ _ _ _ _ {s1 with heap:=s1.heap.push (jX "list" f.toArray 0)};have k:∀v x,Tk s1.heap v x->Tk (s1.heap.push (jX "list" f.toArray 0)) v x:=λv x ⟨b,o,I,m,B,G,M⟩=>⟨b,o,I,m,B,af _ G,M⟩;refine a7 (bY (bE slot_list_sort ⟨_,g,rfl⟩ entry_list_sort (HL (by show A.units+1+1<eQ;omega) g (t.keep k) L h λc d j H p K=>⟨_,rfl,?_⟩) (args_list_sort _)));obtain⟨e,i⟩:=sortedHeap_at (out:=c.toArray) g;obtain⟨ys,n,O⟩:=t.perm j;obtain rfl:ys=d:=(n.keep k).inj H;refine a9 ⟨_,rfl,y _ _ ys e (λb o q=>?_) i j n p K⟩;have l:=av q;rw[sortedHeap_old (aO l) (by rw[size_push'];exact gj l)];exact af _ q
end TS
namespace L2
open PySem PySem.Spec PyProof.Rows PySem.W
def Og(x:List Str):List (List Str)->List (List Str)
 |[]=>[x]
 |y::l=>if TS.tl x y=true then x::y::l else y::Og x l
def kn:List (List Str)->List (List Str)
 |[]=>[]
 |x::l=>Og x (kn l)
theorem yC(x:List Str):∀l,(Og x l).Perm (x::l)
 |[]=>.refl _
 |y::l=>by
  unfold Og;split
  ·exact .refl _
  ·exact((yC x l).cons y).trans (.swap x y l)
theorem oz:∀l,(kn l).Perm l
 |[]=>.refl _
 |x::l=>(yC x _).trans ((oz l).cons x)
abbrev ZL(l:List (List Str)):Prop:=l.Pairwise λa b=>TS.tl a b=true
theorem ML:∀{l:List (List Str)},ZL l->x∉l->ZL (Og x l)
 |[],_,_=>sJ ..
 |y::l,h,b=>by
  have h':=li.1 h;unfold Og;split
  ·rename_i e
   refine li.2 ⟨λz a=>?_,h⟩;rcases aW.1 a with rfl|a
   ·exact e
   ·exact TS.tl_trans x y z e (h'.1 z a)
  ·rename_i e
   refine li.2 ⟨λz a=>?_,ML h'.2 λq=>b (ai _ q)⟩;rcases aW.1 ((yC x l).mem_iff.1 a) with rfl|a
   ·cases q:TS.tl y z with
    |true=>rfl
    |false=>exact absurd (aW.2 (.inl (TS.tl_total z y (by simpa using e) q))) b
   ·exact h'.1 z a
theorem HM:∀{l:List (List Str)},l.Nodup->ZL (kn l)
 |[],_=>.nil
 |x::l,h=>ML (HM (l7.1 h).2) λq=>(l7.1 h).1 ((oz l).mem_iff.1 q)
def Za(e:ZL l)(d:ZL m)(p:l.Perm m):l=m:=
 List.Perm.eq_of_pairwise (le:=λa b=>TS.tl a b=true) (λa b _ _ c f=>by
  have:=TS.tl_trans a b a c f;rw[TS.tl_irrefl] at this;cases this) e d p
def HN(n:l.Nodup)(p:l'.Perm l)(h:ZL l'):l'=kn l:=Za h (HM n) (p.trans (oz l).symm)
def xX(H:Hp):List ak->List (List Str)->Prop
 |[],[]=>True
 |a::b,x::xs=>H a=some (.tup (x.map V.str))/\xX H b xs
 |_,_=>False
def S8{pins σ H s}(I:bQ X pins σ H s)(h:H a=some (.tup (x.map V.str))):TS.Tk s.heap (.ref a) x:=by
 obtain⟨b,r,⟨o,d,g,n,f⟩,_⟩:=I.tuple (.inl (.of h));refine⟨a,o,b.toArray,n,rfl,d,g,f,?_⟩;have:∀{c:List ag}{x:List Str},sX c x->TS.Ss c x:=by
  intro c x q;induction q with
  |nil=>trivial
  |cons x t _ e=>exact⟨⟨t,rfl⟩,e⟩
 exact this (jI r)
theorem Bh{pins σ H s}(I:bQ X pins σ H s):∀{a:List ak}{xs:List (List Str)},xX H a xs->TS.Tks s.heap (a.map bh) xs
 |[],[],_=>trivial
 |_::_,_::_,t=>⟨S8 I t.1,Bh I t.2⟩
 |[],_::_,t=>t.elim
 |_::_,[],t=>t.elim
theorem xX.mem:∀{c:List ak}{xs:List (List Str)},xX H c xs->a∈c->∃x:List Str,H a=some (.tup (x.map V.str))
 |b::c,x::xs,t,h=>by
  rcases aW.1 h with rfl|h
  ·exact⟨x,t.1⟩
  ·exact xX.mem t.2 h
 |[],_,_,h=>by cases h
 |_::_,[],t,_=>t.elim
theorem S9{pins σ H s}(I:bQ X pins σ H s)(t:xX H as xs):∀{bs:List ak}{ys:List (List Str)},(∀b∈bs,b∈as)->TS.Tks s.heap (bs.map bh) ys->xX H bs ys
 |[],[],_,_=>trivial
 |b::bs,y::ys,h,q=>by
  obtain⟨x,e⟩:=t.mem (h b (ap ..));rw[(S8 I e).inj q.1] at e;exact⟨e,S9 I t (λb a=>h b (ai _ a)) q.2⟩
 |[],_::_,_,q=>q.elim
 |_::_,[],_,q=>q.elim
theorem MM:∀{a:List ak}{b:List ag},dI (a.map V.ref) b->b=a.map bh
 |[],_,.nil=>rfl
 |_::_,_,.cons r t=>by cases r;rw[MM t];rfl
theorem yD:∀b:List ak,dI (b.map V.ref) (b.map bh)
 |[]=>.nil
 |a::b=>.cons rfl (yD b)
def yE(p:us.Perm (as.map bh)):∃bs:List ak,us=bs.map bh/\bs.Perm as:=by
 refine⟨us.map λv=>match v with | .ref a=>a|_=>0,?_,?_⟩
 ·rw[cb];refine(LV us).symm.trans (gD λv b=>?_);obtain⟨a,_,rfl⟩:=i_.1 (p.mem_iff.1 b);rfl
 ·have:=p.map λv=>match v with | .ref a=>a|_=>(0:ak)
  rw[cb] at this;refine this.trans (List.Perm.of_eq ?_);exact(gD λa _=>rfl).trans (LV as)
def Bj{pins σ H s}(G:X.A.units+2<eQ)(I:bQ X pins σ H s)(t:xX H as xs)(y:xs.Nodup)(L:as.length<64)
  (N:∀(P:List ag->aq->Prop),(∀(h':bP) (j:Nat),(∀b o,s.heap.get? b=some o->h'.get? b=some o)->s.heap.objs.size<=h'.objs.size->P (as.map bh) {s with heap:=h',toks:=j})->au (az X.prog X.w) X.A.in1 (vE v) P X.xe s)
  (q:∀l bs,H l=none->bs.Perm as->xX H bs (kn xs)->Q (.ref l) (upd H l (.lst (bs.map V.ref)))):
  au (az X.prog X.w) X.A (call (.builtin "sorted") [v]) (EP X pins σ Q) X.xe s:=by
 refine TS.sorted_T G (N _ λh' j kp sz=>⟨xs,(Bh I t).keep ?_,y,by rw[ah];exact L,λz K ys e a g n E B u=>?_⟩)
 ·exact λv x ⟨b,o,h,m,d,f,k⟩=>⟨b,o,h,m,d,kp b o f,k⟩
 ·obtain⟨bs,rfl,c⟩:=yE n;obtain rfl:=HN y B u;obtain⟨ys,p,_⟩:=(Bh I t).perm n;have:=(p.keep λv x ⟨b,o,h,m,d,f,k⟩=>(⟨b,o,h,m,d,kp b o f,k⟩:TS.Tk h' v x)).inj E;subst this;have M:∀b o,s.heap.get? b=some o->z.get? b=some o:=λb o e=>a b o (kp b o e);have i:c_ X.prog X.w (upd H h'.objs.size (.lst (bs.map V.ref))) z h'.objs.size (.lst (bs.map V.ref)):=
   ⟨by rw[ah,c.length_eq];rw[hW];omega,bs.map bh,e,yD bs,g⟩
  exact⟨.ref h'.objs.size,_,I.laid (t':=j) M sz i,rfl,q _ bs (I.hok.fresh sz) c (S9 I t (λb O=>c.mem_iff.1 O) p)⟩
def Vz(hs:(d==e_)=false)(f:o.ExactDict)(ho:o.data=.dict es ep):
  KdlSrc prog w "dict" d d es.size (λi v=>∃e,es[i]?=some e/\v=e.key) (λh=>h.get? d=some o) where
 type:=λs e=>⟨o,e,f.1⟩
 there:=λh e=>⟨av e,av e⟩
 keep:=λh h' e k=>k d (.inl rfl) o e
 notList:=by decide
 notTuple:=by decide
 hint:=λA E s Q e q=>kdl_hint_dict ⟨o,e,f.1⟩ q
 iter:=λA s l e=>by
  refine⟨{cls:=.type "dict_keyiterator",data:=.fields #[.ref d,.int 0 0,.int es.size 0,.int ep 0]},λi h=>h.IsKeyIter s.heap.objs.size d i es.size ep/\h.get? d=some o,λE Q q=>YX hs e f ho q,?_,⟨_,aD _ rfl,rfl,rfl⟩,af _ e⟩;have ne:d≠s.heap.objs.size:=aO (av e);refine⟨by simp,λi h h' st k=>⟨st.1.at λo q=>k _ (by simp) o q,k _ (by simp) o st.2⟩,λi s' Q E g st q=>?_,λs' Q E st q=>?_,λi s' Q E st q=>wpAny_pyIter_keyiter st.1 q⟩
  ·refine Vt st.1 st.2 ho (bf g) λh' c j=>q _ h' s'.toks ⟨_,bf g,rfl⟩ ⟨c,(j.2 d ne).trans st.2⟩ λb o a e=>(j.2 b (by simpa using a)).trans e
  ·exact YW l st.1 st.2 ho (aw _) λh' m=>q h' s'.toks λb o a e=>m b o (by simpa using a) e
def Fp(x:A.handled=none)(hs:(d==e_)=false)(B:o.ExactDict)(ho:o.data=.dict es ep)(p:s.heap.get? d=some o)(z:es.size<=sizeLine)
  (h:∀(t:List ag) (h':bP) (m:Nat),t=es.toList.map (·.key)->(∀b o,s.heap.get? b=some o->h'.get? b=some o)->s.heap.objs.size<=h'.objs.size->Q t {s with heap:=h',toks:=m}):
  au (az prog w) A (vE (.ref d)) Q E s:=by
 have i:=av p;unfold vE;refine a7 (y9 (eX vF ?_));rw[dM vG _];show au _ A.in1 (Jk []>>=λl=>again (.builtin "list.__iadd__" ⟨[l,.ref d],[]⟩)) _ _ s;refine a7 (bu ?_);refine a9 ⟨oQ jQ _,eX Au ?_⟩;rw[dM jQ _];have k:(s.heap.push {cls:=.type "list",data:=.seq ([]:List ag).toArray}).get? s.heap.objs.size=some {cls:=.type "list",data:=.seq ([]:List ag).toArray}:=aD _ rfl;show au _ A.in1 (iH (.ref s.heap.objs.size) (.ref d) (.ref s.heap.objs.size)) _ _ {s with heap:=s.heap.push {cls:=.type "list",data:=.seq ([]:List ag).toArray}};refine kdl_extend (R:=λr s'=>match r with | .ok (.ret v)=>au (az prog w) A (match v with | .ref a=>(do let o <- load a;match o.data with | .seq xs _=>pure xs.toList|_=>oV "internal:collect")|_=>oV "internal:collect") Q E s' | .ok _=>False | .error e=>E e s') (s:={s with heap:=s.heap.push {cls:=.type "list",data:=.seq ([]:List ag).toArray}}) (Vz hs B ho) (by simpa using x) (af _ p) s.heap.objs.size (dZ i) (dZ i) _ 0 k (λh' m f c kp g n=>?_) z;show au _ A (load s.heap.objs.size>>=_) _ _ _;refine a7 (Jx g (a9 ?_));refine h _ h' m ?_ (λb o e=>kp b o (aO (av e)) (af _ e)) (bL (av g));apply Pr;intro j;rw[bH,aI,bH];by_cases q:j<f.size
 ·obtain⟨e,u,y⟩:=n.2 j f[j] (bf q);rw[u,bf q,y];rfl
 ·rw[sQ ∅,sQ (by rw[<- n.1];omega)];rfl
theorem HP{P:bd}{w:bz}{H:Hp}{es:Array Es}:∀{a:List (List ip×V)}{xs:List (List Str)}{l:List Es},l.length=a.length->a.map (·.1)=xs.map (λx=>x.map jB) ->
  (∀(i:Nat) (k:List ip) (v:V),a[i]?=some (k,v)->∃(f:Es) (b:ak),l[i]?=some f/\f.key=bh b/\H b=some (.tup (k.map kV)))->∃e:List ak,l.map (·.key)=e.map bh/\xX H e xs
 |[],[],[],_,_,_=>⟨[],rfl,trivial⟩
 |(k,v)::a,x::xs,f::l,d,c,h=>by
  obtain⟨o,b,n,s,t⟩:=h 0 k v rfl;cases n;rw[ay,ay] at c;obtain⟨j,g⟩:=um c;have j:k=x.map jB:=j;subst j;obtain⟨e,m,p⟩:=HP (P:=P) (w:=w) (H:=H) (es:=es) (l:=l) (by simpa using d) g λi k v q=>h (i+1) k v q;refine⟨b::e,by rw[ay,ay,s,m],?_,p⟩;rw[t,cb];rfl
 |[],_::_,_,_,c,_=>by cases c
 |_::_,[],_,_,c,_=>by cases c
 |[],[],_::_,d,_,_=>by cases d
 |_::_,_::_,[],d,_,_=>by cases d
def Bk(j:X.A.units+2<eQ):jU X (.builtin "sorted") (λxs H Q=>∃p a c,xs=[.ref p]/\oZ X.K H p (a.map V.ref)/\xX H a c/\c.Nodup/\a.length<64/\∀l bs,H l=none->bs.Perm a->xX H bs (kn c)->Q (.ref l) (upd H l (.lst (bs.map V.ref)))):=by
 intro f s y H xs z Q I r h;obtain⟨p,a,c,rfl,k,t,v,i,q⟩:=h;obtain⟨u,rfl,g⟩:=lB r;cases g;obtain⟨m,x,pl,d⟩:=I.list k;obtain rfl:=MM x;refine Bj j I t v i (λP w=>collect_list pl.isList ?_ (by rw[ah] at d ⊢;exact d)) q;refine w _ s.toks (λb o e=>?_) ?_
 ·have n:=av e;exact(fo _ _ (dZ n)).trans (af _ e)
 ·rw[sI,cF];exact ir _
def Bl(G:X.calm=true)(B:X.A.units+2<eQ):jU X (.builtin "sorted") (λxs H Q=>∃p o a c,xs=[.ref p]/\H p=some (.frz o (.dT a))/\a.map (·.1)=c.map (λx=>x.map jB)/\c.Nodup/\c.length<64/\∀l bs,H l=none->xX H bs (kn c)->Q (.ref l) (upd H l (.lst (bs.map V.ref)))):=by
 intro f s σ H xs us Q I r h;obtain⟨p,o,a,c,rfl,K,j,O,hz,q⟩:=h;obtain⟨u,rfl,t⟩:=lB r;cases t;obtain⟨y,Y,z,es,ep,g2,d,g4⟩:=R_ I.hok K;have g:a.length=c.length:=by simpa using congrArg lm j
 obtain⟨U,e,T⟩:=HP (P:=X.prog) (w:=X.w) (es:=es) (H:=H) (l:=es.toList) (by rw[ax];exact d) j λi k v M=>by
  obtain⟨N,b,S,e2⟩:=g4 i k v M;exact⟨N,b,by rw[bH];exact S,e2⟩
 have la:U.length=c.length:=by
  have:=congrArg lm e;rw[ah,ah,ax,d,g] at this;exact this.symm
 refine Bj B I T O ∅ (λP hp=>Fp (by simpa using I.ok.hd G) y z g2 Y (by rw[d,g,hW];omega) λvs h' n E kp sz=>?_) λl bs m _ L=>q l bs m L;subst E;rw[e];exact hp h' n kp sz
end L2
namespace J
open PySem L2
def jy:List D->Option (List (List Str))
 |[]=>some []
 |.tuple ds::r=>(fc ds).bind λx=>(jy r).map (x::·)
 |_::_=>none
def tX(x:List Str):D:=.tuple (x.map .str)
theorem vT:∀xs:List (List Str),jy (xs.map tX)=some xs
 |[]=>rfl
 |x::xs=>by
  show(fc (x.map aS)).bind (λy=>(jy (xs.map tX)).map (y::·))=_;rw[strsOf_map,vT xs];rfl
theorem pI:∀{ds:List D}{xs:List (List Str)},jy ds=some xs->ds=xs.map tX
 |[],xs,h=>by cases h;rfl
 |d::ds,xs,h=>by
  cases d with
  |tuple c=>
   have h:(fc c).bind (λy=>(jy ds).map (y::·))=some xs:=h;cases a:fc c with
   |none=>rw[a] at h;cases h
   |some x=>
    cases b:jy ds with
    |none=>rw[a,b] at h;cases h
    |some ys=>
     rw[a,b] at h;cases h;rw[ay,<- pI b,mI a];rfl
  |_=>cases h
def qZ(a:List (List Str)):R D:=if a.Nodup/\a.length<64 then .ok (.list ((kn a).map tX)) else .no
def uy:D->R D
 |.list ds=>match jy ds with
  |some a=>qZ a
  |none=>.no
 |.dict ((.none,.none)::ds)=>match jy (ds.map (·.1)) with
  |some a=>qZ a
  |none=>.no
 |_=>.no
theorem HQ:∀{c:List V}{xs:List (List Str)},RDs K H c (xs.map tX)->∃b:List ak,c=b.map V.ref/\xX H b xs
 |_,[],.nil=>⟨[],rfl,trivial⟩
 |_,x::xs,.cons h t=>by
  obtain⟨b,e,d⟩:=HQ t;subst e;unfold tX at h;cases h with
  | @tuple a ys _ q r=>
   rw[jJ r] at q;exact⟨a::b,rfl,q,d⟩
theorem vU:∀{bs:List ak}{ys:List (List Str)}{Hs:Hp},xX H bs ys->dS Hs H->∃f,cQ H Hs H f/\RDs K f (bs.map V.ref) (ys.map tX)
 |[],[],Hs,_,s=>⟨Hs,.refl s,.nil⟩
 |b::bs,y::ys,Hs,t,s=>by
  obtain⟨d,st,r⟩:=vU (K:=K) t.2 s;have sub:=st.sub;have same:dS d (upd d b (.tup (y.map V.str))):=λc u e=>by
   by_cases a:c=b
   ·subst a;have:=sub _ _ e;rw[t.1] at this;cases this;exact aX
   ·rw[b9 a];exact e
  refine⟨upd d b (.tup (y.map V.str)),st.trans ⟨.refl _,same,λc u e=>?_,λc u e n z=>?_⟩,.cons (.tuple aX (tK y)) (r.same same)⟩
  ·by_cases a:c=b
   ·subst a;rw[aX] at e;cases e;exact t.1
   ·rw[b9 a] at e;exact sub _ _ e
  ·by_cases a:c=b
   ·subst a;rw[t.1] at e;cases e;cases n
   ·rw[b9 a];exact z
 |[],_::_,_,t,_=>t.elim
 |_::_,[],_,t,_=>t.elim
theorem pJ(s:dS Hs H):∀{a:List ak}{xs:List (List Str)},xX Hs a xs->xX H a xs
 |[],[],_=>trivial
 |_::_,_::_,t=>⟨s _ _ t.1,pJ s t.2⟩
 |[],_::_,t=>t.elim
 |_::_,[],t=>t.elim
theorem MN:∀{a:List ak}{xs:List (List Str)},xX H a xs->a.length=xs.length
 |[],[],_=>rfl
 |_::_,_::_,t=>congrArg (· + 1) (MN t.2)
 |[],_::_,t=>t.elim
 |_::_,[],t=>t.elim
theorem HR:∀{k:List ip}{x:List Str},k.map kD=x.map aS->k=x.map jB
 |[],[],_=>rfl
 |.inr a::k,x::xs,h=>by
  simp only[ay,yh] at h;obtain⟨b,c⟩:=h;cases b;rw[HR c];rfl
 |.inl _::_,_::_,h=>by
  simp only[ay,yh] at h;cases h.1
 |[],_::_,h=>by cases h
 |_::_,[],h=>by cases h
theorem HS:∀{b:List (List ip×V)}{ds:List (D×D)}{xs:List (List Str)},RDt K H b ds->ds.map (·.1)=xs.map tX->b.map (·.1)=xs.map λx=>x.map jB
 |_,_,[],.nil,_=>rfl
 |_,_,x::xs,.cons h t,e=>by
  rw[ay,ay] at e;obtain⟨a,c⟩:=um e;rw[ay,ay,HS t c];have a:tD _=tX x:=a;unfold tD tX at a;injection a with a;rw[HR a]
 |_,_,_::_,.nil,e=>by cases e
 |_,_,[],.cons _ _,e=>by cases e
def KU(P:X.calm=true)(y:X.A.units+64<eQ):O4 X (.builtin "sorted") (il uy):=by
 have y:X.A.units+2<eQ:=by omega
 refine tQ (λd c n=>?_) λg s B H x u Q Hs d d' I L sub z b q=>?_
 ·unfold uy qZ;split<;>(try split)<;>(try split)<;>exact λh=>by cases h
 ·have fin:∀{f:List (List Str)}{l:ak}{bs:List ak},H l=none->xX H bs (kn f)->Q (.ref l) (upd H l (.lst (bs.map V.ref)))\/d'≠.list ((kn f).map tX):=λ{f l bs} m tb=>by
   by_cases e:d'=.list ((kn f).map tX)
   ·subst e;obtain⟨t,st,r⟩:=vU (K:=X.K) tb sub;have G:cQ H t (upd H l (.lst (bs.map V.ref))) (upd t l (.lst (bs.map V.ref))):=.new st.sub m;exact .inl (q _ _ _ (st.trans G) (.list (.inl (.of aX)) (r.same G.sh)))
   ·exact .inr e
  unfold uy at b;split at b
  ·split at b
   ·rename_i f w
    unfold qZ at b;split at b
    ·rename_i p
     cases b;obtain⟨a,U,rfl,N,M⟩:=z.list sub;rw[pI w] at M;obtain⟨T,rfl,E⟩:=HQ M;exact Bk y g s B H _ _ Q I (.cons L .nil) ⟨a,T,f,rfl,N,pJ sub E,p.1,by rw[MN E];exact p.2,λl bs m _ tb=>(fin m tb).resolve_right λh=>h rfl⟩
    ·cases b
   ·cases b
  ·split at b
   ·rename_i f w
    unfold qZ at b;split at b
    ·rename_i p
     cases b;obtain⟨a,O,S⟩:=z.dict sub;subst O;rcases S with⟨j,v,i⟩|⟨j,v,hn,i⟩|⟨o,j,es,he,v,hn,i⟩
     ·generalize b:((.none,.none)::_:List (D×D))=d0 at i;cases i with
      |nil=>cases b
      | @cons k _ _ _ _ _ _=>cases k<;>cases b
     ·generalize b:((.none,.none)::_:List (D×D))=d0 at i;cases i<;>cases b
     ·cases he;exact Bl P y g s B H _ _ Q I (.cons L .nil) ⟨a,o,j,f,rfl,v,HS i (pI w),p.1,p.2,λl bs m tb=>(fin m tb).resolve_right λh=>h rfl⟩
    ·cases b
   ·cases b
  ·cases b
end J
namespace L2
open PySem PySem.Spec PyProof.Rows PySem.W
end L2
namespace J
open PySem PySem.Spec PyProof.Rows L2
def Oh(a:Bool):D->D->R D
 |x,.list ys=>if x.canLay0&&cY ys&&decide (x.depth<=60) then .ok (.bool (if a then !(ys.any λy=>bn y x) else ys.any λy=>bn y x)) else .no
 |_,_=>.no
def Sc(o:X.A.units+64<eQ):A9 X (cp .In) (Oh false):=by
 refine⟨λe s p H x y v u Q I i j ⟨Hs,t,m,sub,f,g,d,a,q⟩=>?_,λx y c n=>?_⟩
 ·unfold Oh at a;split at a
  ·split at a
   ·rename_i b
    simp only[aR,decide_eq_true_eq] at b;cases a;obtain⟨w,l⟩:=nR I ((f.full sub).rep (pE _ b.1.1)) i;obtain⟨bs,k⟩:=nR I ((g.full sub).rep (pE _ (by simp only[eg];exact b.1.2))) j;exact PySem.SeqAt.in_list_reads k l b.1.2 b.1.1 ∅ ⟨.bl _,H,I,rfl,q _ H Hs (.refl sub) (.bool _)⟩
   ·cases a
  ·cases a
 ·unfold Oh;split<;>(try split)<;>exact λh=>by cases h
end J
namespace L2
open PySem PySem.Spec PyProof.Rows
end L2
namespace L2
open PySem PySem.Spec PyProof.Rows
section
variable{prog:bd}{w:bz}{A:cg}{R:Eo->aq->Prop}{s:aq}
def VA{b tg iter:bC}{c:List bC}{f:Comprehension}{scope:eP}{d:Pos}{it a:ag}{env:Env}
  (g:fR (az prog w) A (.compLoop (.ListComp b [f,⟨tg,iter,c,0⟩] scope d) 1 it a env) R s)
  (h:au (az prog w) A (rG it) (λe s'=>fR (az prog w) A (.compLoop (.ListComp b [f,⟨tg,iter,c,0⟩] scope d) 1 e a env) R s') (notedBy (az prog w) A env λx s'=>R (.error x) s') s):
  fR (az prog w) A (.compStart (.ListComp b [f,⟨tg,iter,c,0⟩] scope d) 1 it a env) R s:=by
 refine wy ?_
 show au _ _ ((compStart (.ListComp b [f,⟨tg,iter,c,0⟩] scope d) 1 it a env).onRaise (λx=>do Et x env;qJ theWindowsPlace)) _ _ s
 refine wpAny_notedAt ?_
 unfold compStart
 show au _ _ (ask>>=_) _ _ s
 refine a7 (h_ (Ex ?_))
 split
 ·first
   |exact a7 (a9 (a9 (lM rfl g)))
   |exact a9 (lM rfl g)
 ·first
   |exact a7 (eI (a7 (hV (a7 (cn h (λe s' h'=>a9 (lM rfl h')) λ_ _ x=>x)))))
   |(refine a7 (eI ?_);show au _ _ (qJ iter.pos>>=_) _ _ s;exact a7 (hV (a7 (cn h (λe s' h'=>a9 (lM rfl h')) λ_ _ x=>x))))
end
inductive GL2 (Y:Cx) {α:Type} (P:ak->Obj->α->Prop) (pl:List (ak×Obj)) (D:ak) (σ:St) (fp:List ak) (tn:Nat->bP->Prop) (W:Nat->Nat->α->Hp->Prop) (n:Nat) (s':aq):Prop
 |mk (i:Nat) (acc:α) (o:Obj) (H':Hp) (I:bQ Y ((D,o)::pl) σ H' s') (p:P D o acc) (t:tn i s'.heap) (f:∀b∈fp,H' b=none) (w:W i n acc H'):GL2 Y P pl D σ fp tn W n s'
inductive GE2 (Y:Cx) {α:Type} (P:ak->Obj->α->Prop) (pl:List (ak×Obj)) (D:ak) (σ:St) (Z:α->Hp->Prop) (r:Eo) (s':aq):Prop
 |mk (acc:α) (o:Obj) (H':Hp) (h0:r=.ok .next) (I:bQ Y ((D,o)::pl) σ H' s') (p:P D o acc) (z:Z acc H'):GE2 Y P pl D σ Z r s'
inductive GIn {α:Type} (nt:Nat) (tt:TT) (L:α->Prop) (U:St->Hp->α->Nat->(Nat->α->Hp->Prop)->Prop) (σ:St) (acc:α) (Z:α->Hp->Prop) (J:It) (H1:Hp):Prop
 |mk (W:Nat->Nat->α->Hp->Prop) (w0:∃m,W 0 m acc H1) (turn:∀i m acc H,W i m acc H->(J.stop i H/\Z acc H)\/(J.go i H/\L acc/\∀x H',J.yld i H x H'->tt (σ.set nt (some x)) H' λb H3=>
   if b=true then U (σ.set nt (some x)) H3 acc m (W (i+1)) else ∃m',m'<m/\W (i+1) m' acc H3)):GIn nt tt L U σ acc Z J H1
def Zb{X:Cx}{α:Type}{N':List Str}{scope:eP}{k:List (Str×ak)}{C:ak}{a:aq}{f:Hp}{h:List ak}{l:List (ak×Obj)}{P:ak->Obj->α->Prop}{L:α->Prop}{U:St->Hp->α->Nat->(Nat->α->Hp->Prop)->Prop}{Bd:Env->ak->(aq->Prop)->aq->Prop}{e0 tg:bC}{b0:List bC}{tt:TT}{nt:Nat}{pl:List (ak×Obj)}{D:ak}{q:St}{it:ak}{B:List ak}{tn:Nat->bP->Prop}{J:It}{Z:α->Hp->Prop}{W:Nat->Nat->α->Hp->Prop}{s:aq}
  (hc:X.calm=true) (M:GR X e0 tg b0 it 1 Bd) (step:Dp X N' scope (λ_=>True) P L U Bd) (pg:PG (bN X N' scope k C a f h l) tg (pA nt)) (pt:Kr (bN X N' scope k C a f h l) b0 tt) (d0:q[nt]?=some none) (T:Cq X.prog X.w X.K tg J B it tn)
  (ok:∀b∈B,b≠(bN X N' scope k C a f h l).env.locals/\b∉(bN X N' scope k C a f h l).fs/\(b∈h\/a.heap.objs.size<=b)/\(∀x c,k.lookup x=some c->c≠b)/\(∀p∈l++pl,p.1≠b)/\D≠b)
  (h1:D∈h\/a.heap.objs.size<=D) (h2:∀x c,k.lookup x=some c->c≠D) (h3:∀p∈l++pl,p.1≠D)
  (Q:∀i m g H,W i m g H->(J.stop i H/\Z g H)\/(J.go i H/\L g/\∀x H',J.yld i H x H'->tt (q.set nt (some x)) H' λb E=>if b=true then U (q.set nt (some x)) E g m (W (i+1)) else ∃G,G<m/\W (i+1) G g E))
  (n:Nat) (st:GL2 (bN X N' scope k C a f h l) P pl D q B tn W n s):
  fR (az X.prog X.w) X.A (.compLoop e0 1 (.ref it) (.ref D) (bN X N' scope k C a f h l).env) (GE2 (bN X N' scope k C a f h l) P pl D q Z) s:=by
 have t:∀{H':Hp}{o:Obj},(∀b∈B,H' b=none)->∀b∈B,vL (bN X N' scope k C a f h l) ((D,o)::pl) H' b:=λhn b I=>by
  obtain⟨a1,a2,a3,a4,a5,a6⟩:=ok b I
  refine⟨hn b I,a1,a2,a3,a4,λp hp=>?_⟩
  rcases dz.1 hp with z|z
  ·exact a5 p (c6 _ z)
  ·rcases aW.1 z with y|y
   ·rw[y];exact a6
   ·exact a5 p (aA _ y)
 refine M _ _ _ (GL2 (bN X N' scope k C a f h l) P pl D q B tn W) ?_ n _ st
 rintro n s3 ⟨i,g,o,E,J3,p3,st3,Y,w3⟩
 rcases Q i n g E w3 with⟨O,z⟩|⟨go,hlt,Mw⟩
 ·refine fS (T.done (bN X N' scope k C a f h l) rfl rfl rfl hc i _ s3 _ E _ J3 (t Y) st3 O) λr s4 c1=>?_
  obtain⟨hr,I4⟩:=c1
  subst hr
  exact⟨g,o,E,rfl,I4,p3,z⟩
 ·refine fS (T.item (bN X N' scope k C a f h l) rfl rfl rfl hc i _ s3 _ E _ J3 (t Y) st3 go) λr s4 d4=>?_
  obtain⟨u,hr,h4⟩:=d4
  subst hr
  refine fS h4 λ_ s5 c3=>?_
  obtain⟨x,H5,I5,r5,y5,st5,d2⟩:=c3
  have b8:=I5.pinned (t d2) (T.obj _ _ st5)
  have c0:pA nt x q H5 (λd3 H2=>d3=q.set nt (some x)/\tt (q.set nt (some x)) H2 λb E=>if b=true then U (q.set nt (some x)) E g n (W (i+1)) else ∃G,G<n/\W (i+1) G g E):=⟨rfl,Mw x H5 y5⟩
  refine fS (pg _ s5 _ H5 x u _ b8 r5 c0) λ_ s6 c5=>?_
  obtain⟨d5,H6,I6,e6,q6⟩:=c5
  subst e6
  have hw:∀(j:Nat) v,q[j]?=some (some v)->(q.set nt (some x))[j]?=some (some v):=λj v e=>by
   by_cases hj:nt=j
   ·rw[<- hj,d0] at e;cases e
   ·rw[ar hj];exact e
  refine fS (pt _ s6 _ H6 _ I6 q6) λb s7 d1=>?_
  obtain⟨H7,I7,q7⟩:=d1
  have b7:∀{o':Obj}{s8:aq}{a0:St}{H8:Hp},bQ (bN X N' scope k C a f h l) (((D,o')::pl)++tE B s5.heap) a0 H8 s8->tn (i+1) s8.heap/\∀b∈B,H8 b=none:=λ{o' s8 a0 H8} N=>by
   refine⟨T.keep _ _ _ st5 λb I o e=>(N.pin (b,o) (aA _ (aA _ (jt I e)))).1,λb I=>?_⟩
   obtain⟨o,e,d⟩:=T.obj _ _ st5 b I
   exact(N.pin (b,o) (aA _ (aA _ (jt I e)))).2.1
  cases b with
  |false=>
   simp only[bg,if_false] at q7 ⊢
   obtain⟨G,hm,w7⟩:=q7
   obtain⟨t7,f7⟩:=b7 I7
   exact⟨G,hm,i+1,g,o,H7,(I7.weak (by simp) hw).unpinned,p3,t7,f7,w7⟩
  |true=>
   simp only[if_true] at q7 ⊢
   refine step _ _ _ _ _ _ _ (pl++tE B s5.heap) _ _ _ _ _ _ _ _ h1 h2 (λp hp z=>?_) trivial hlt p3 I7 q7 λS o' H8 s8 G N p8 hm w8=>?_
   ·rcases dz.1 hp with y|y
    ·exact h3 p (c6 _ y) z
    ·rcases dz.1 y with y|y
     ·exact h3 p (aA _ y) z
     ·exact(ok p.1 (yj y).1).2.2.2.2.2 z.symm
   ·obtain⟨t8,f8⟩:=b7 (o':=o') N
    exact⟨G,hm,i+1,S,o',H8,((show bQ _ (((D,o')::pl)++tE B s5.heap) _ _ _ from N).weak (σ':=q) (by simp) hw).unpinned,p8,t8,f8,w8⟩
def Bd2(X:Cx)(c a:bC)(it:ak)(env:Env)(D:ak)(K:aq->Prop)(s:aq):Prop:=au (az X.prog X.w) X.A (do
   let x <- eu a env
   qJ a.pos
   let x <- bS a env x
   let _ <- runOwn (.compStart c 1 (<- Ji [x] (rG x)) (.ref D) env) env
   again (.compLoop c 0 (.ref it) (.ref D) env)) (λf b=>f=.again (.compLoop c 0 (.ref it) (.ref D) env)/\K b) (λ_ _=>False) s
def q22{X:Cx}{N':List Str}{scope:eP}{nt:Nat}{ix:List Nat}{j tg l c:bC}{Y k:List bC}{i:Sem ag}{α:Type}{O:ak->α->HO}{a0:α}{L:α->Prop}{U:St->Hp->α->Nat->(Nat->α->Hp->Prop)->Prop}{P:ak->Obj->α->Prop}{o0:Obj}{Bd:Env->ak->(aq->Prop)->aq->Prop}{T:TI}{u:TT}
  (nd:∀{D o a},P D o a->∀v,o.data≠.cell v) (of:o0.isFreed=false) (p0:∀D,P D o0 a0) (tr:∀{H h D o a},e_<D->P D o a->h.get? D=some o->c_ X.prog X.w H h D (O D a))
  (S:∀{E s2}{Q:ag->aq->Prop},Q (.ref s2.heap.objs.size) {s2 with heap:=s2.heap.push o0}->au (az X.prog X.w) X.A i Q E s2) (t:∀it,GR X j tg Y it 0 (Bd2 X j c it)) (q:∀it,GR X j l k it 1 Bd)
  (G:∀{d it a env R s},d=0\/d=1->fR (az X.prog X.w) X.A (.compLoop j d (.ref it) a env) R s->au (az X.prog X.w) X.A (rG (.ref it)) (λc0 s'=>fR (az X.prog X.w) X.A (.compLoop j d c0 a env) R s') (notedBy (az X.prog X.w) X.A env λx s'=>R (.error x) s') s->fR (az X.prog X.w) X.A (.compStart j d (.ref it) a env) R s)
  (step:Dp X N' scope (λ_=>True) P L U Bd) (hc:X.calm=true) (c3:∀(env:Env) x,bS c env x=pure x)
  (hb:∀I C e f B M,PI (bN X N' scope I C e f B M) l c T/\PG (bN X N' scope I C e f B M) l (pA nt)/\Kr (bN X N' scope I C e f B M) k u):
  Ks X N' scope nt (nt+1) ix j tg Y i O a0 (λ_=>True) (λN H a m V=>T N H (GIn nt u L U N a λg H'=>∃m',m'<m/\V m' g H')):=by
 refine⟨P,o0,Bd2 X j c,λN=>N[nt]?=some none,nd,of,p0,tr,S,t,G (.inl rfl),⟨ir _,λN y h=>?_⟩,λit=>?_⟩
 ·rw[h nt (aw _)]
  unfold mH
  rw[bx (by simp),c8,if_pos ∅]
 intro I C e f B M D pl o a y H7 s7 K m V h1 h2 h3 d5 _ hP I7 q7 fin
 obtain⟨d1,d3,c5⟩:=hb I C e f B M
 refine a7 (fS (d1 _ s7 y H7 _ I7 q7) λv s8 d4=>a7 (hV (a7 (eM (c3 _ v) (a7 (bY (fS d4 λe1 s9 b7=>a7 (wpAny_runOwn ?_))))))))
 obtain⟨b8,e2,d9,J2,H9,e9,I9,T2,t9,b0,W2,⟨m2,w2⟩,n⟩:=b7
 subst e9
 have a6:=Zb (pl:=pl) hc (q b8) step d3 c5 d5 T2 (λb hb=>by
  obtain⟨a0,a1,a2,a3,a4,a5⟩:=b0 b hb
  exact⟨a1,a2,a3,a4,λp hp=>a5 p ((dz.1 hp).elim (λz=>c6 _ z) λz=>aA _ (ai _ z)),a5 (D,o) (aA _ ap)⟩) h1 h2 h3 n m2 ⟨0,a,o,H9,I9,hP,t9,λb hb=>(b0 b hb).1,w2⟩
 refine k_ (G (.inr rfl) a6 (T2.self _ 0 _ _ _ t9 a6)) λr d7 d6=>?_
 obtain⟨g,o',d8,rfl,d0,d2,m',hm,c1⟩:=d6
 exact a9 ⟨rfl,fin g o' d8 d7 m' d0 d2 hm c1⟩
end L2
namespace J
open PySem L2
def inR(nt:Nat)(ρ:aE)(gt:aE->R Bool)(ge:aE->R D):D->R (Option D):=λd=>Fb ((gt (ρ.set nt (.shr d))).bind λb=>if b then(ge (ρ.set nt (.shr d))).bind λy=>.ok (some y) else .ok none)
def rQ(nt:Nat)(ρ:aE)(gt:aE->R Bool)(c:aE->R (List D))(a:aE->R Bool)(ge:aE->R D):D->R (List D):=λd=>Fb ((X8 nt d ρ).bind λρ'=>(gt ρ').bind λb=>if b then(c ρ').bind λes=>fY (inR nt ρ' a ge) es else .ok [])
def pK(f:D->R (List D)):List D->R (List D)
 |[]=>.ok []
 |d::r=>(f d).bind λxs=>(pK f r).bind λys=>.ok (xs++ys)
def KW{f:D->R (List D)}{d:D}{r ys:List D}(h:pK f (d::r)=.ok ys):∃xs a,f d=.ok xs/\pK f r=.ok a/\ys=xs++a:=by
 unfold pK at h
 cases c:f d with
 |ok o=>
  rw[c,bind_ok] at h
  cases b:pK f r with
  |ok a=>rw[b,bind_ok] at h;cases h;exact⟨_,a,rfl,rfl,rfl⟩
  |ex x n=>rw[b] at h;cases h
  |no=>rw[b] at h;cases h
 |ex x n=>rw[c] at h;cases h
 |no=>rw[c] at h;cases h
def Oi(nt:Nat)(ρ:aE)(gt:aE->R Bool)(b:aE->R (List D))(a:aE->R Bool)(ge:aE->R D)(d:D)(c:Str)(n):rQ nt ρ gt b a ge d≠.ex c n:=by
 unfold rQ;intro h;revert h;generalize R.bind _ _=r;cases r<;>exact λh=>by cases h
theorem HU{f:D->R (List D)}(e:∀d c n,f d≠.ex c n):∀(l:List D) c n,pK f l≠.ex c n
 |[],c,n=>λh=>by cases h
 |d::r,c,n=>λh=>by
  unfold pK at h
  cases b:f d with
  |no=>rw[b] at h;cases h
  |ex x y=>exact e _ _ _ b
  |ok o=>
   rw[b,bind_ok] at h
   cases a:pK f r with
   |ok g=>rw[a,bind_ok] at h;cases h
   |ex x n=>exact HU e _ _ _ a
   |no=>rw[a] at h;cases h
section
variable{c:C}{elt tg iter tg2 iter2:bC}{ifs ifs2:List bC}{scope:eP}{pos:Pos}{N':List Str}{nt:Nat}{ix:List Nat}{gi gi2:aE->R (List D)}{gt gt2:aE->R Bool}{ge:aE->R D}
def Sd(c:C)(N':List Str)(scope:eP)(nt:Nat)(tg:bC)(ifs:List bC)(tg2 iter2:bC)(ifs2:List bC)(elt:bC)(gt:aE->R Bool)(gi2:aE->R (List D))(gt2:aE->R Bool)(ge:aE->R D):Prop:=
 ∀d A a b f e,PG (c.comp N' scope d A a b f e).X tg (Fc c.X.K nt)/\YE (c.comp N' scope d A a b f e) ifs gt/\JI (c.comp N' scope d A a b f e) tg2 iter2 gi2/\PG (c.comp N' scope d A a b f e).X tg2 (pA nt)/\YE (c.comp N' scope d A a b f e) ifs2 gt2/\JE (c.comp N' scope d A a b f e) elt ge
end
end J
namespace L2
open PySem PySem.Spec PyProof.Rows
end L2
namespace L2
open PySem PySem.Spec PyProof.Rows
end L2
namespace L2
open PySem PySem.Spec PyProof.Rows PySem.W
end L2
namespace L2
open PySem PySem.Spec PyProof.Rows PySem.W
end L2
namespace L2
open PySem PySem.Spec PyProof.Rows
end L2
namespace L2
open PySem PySem.Spec PyProof.Rows
abbrev q23(c:TE)(e:St)(H:Hp)(a:List L2.V)(m:Nat)(R:Nat->List L2.V->Hp->Prop):Prop:=c e H λy d=>∃b,b<m/\R b (a++[y]) d
abbrev LIn(nt:Nat)(b:TT)(c:TE)(d:St)(a:List V)(Z:List V->Hp->Prop)(J:It)(e:Hp):Prop:=GIn nt b (λa=>a.length<sizeLine) (q23 c) d a Z J e
def Se{X:Cx}{n tg iter l g:bC}{q k:List bC}{t:TI}{o:TT}{scope:eP}{G:Pos}{M:TE}{N':List Str}{nt:Nat}{ix:List Nat}(Q:X.calm=true)(A:∀(env:Env) x,bS g env x=pure x)
  (w:∀u C j i y v,PI (bN X N' scope u C j i y v) l g t/\PG (bN X N' scope u C j i y v) l (pA nt)/\Kr (bN X N' scope u C j i y v) k o/\PE (bN X N' scope u C j i y v) n M):
  Ks X N' scope nt (nt+1) ix (.ListComp n [⟨tg,iter,q,0⟩,⟨l,g,k,0⟩] scope G) tg q (Jk []) (λ_=>HO.lst) [] (λ_=>True) (λI H B m V=>t I H (LIn nt o M I B λp H'=>∃L,L<m/\V L p H')):=
 q22 (o0:=Yp [] 0) (P:=Yq) (Bd:=US X n) (λ⟨_,_,h,_⟩ _ z=>(by rw[h] at z;cases z)) rfl (λ_=>⟨[],0,rfl,.nil,cu _⟩) (λ_ ⟨E,U,h,S,O⟩ e=>⟨O,E,U,S,by rw[e,h]⟩) bu (λit=>GS (iter:=iter) (λ_ _=>rfl) λenv D K s h=>h) (λit=>GS (iter:=g) (λ_ _=>rfl) λa b c d h=>GU rfl a b c d h) (λT N h=>by
  rcases T with rfl|rfl
  ·exact Po N h
  ·exact VA N h) (GT λa b c d e f=>(w a b c d e f).2.2.2) Q A λa b c d e f=>⟨(w a b c d e f).1,(w a b c d e f).2.1,(w a b c d e f).2.2.1⟩
inductive Sf (nt:Nat) (ix:List Nat) (g:TG) (tt:TT) (wi2:TI) (tt2:TT) (te:TE) (σ:St) (Q:VK) (J:It) (H1:Hp):Prop
 |mk (W:Nat->Nat->List V->Hp->Prop) (w0:∃m,W 0 m [] H1) (turn:∀i m acc H,W i m acc H->(J.stop i H/\∀p,H p=none->Q (.ref p) (upd H p (.lst acc))) \/
   (J.go i H/\∀x H',J.yld i H x H'->g x (mH (nt+1) ix σ) H' λσ2 H2=>tt σ2 H2 λb H3=>
    if b=true then wi2 σ2 H3 (LIn nt tt2 te σ2 acc λacc' H'=>∃m',m'<m/\W (i+1) m' acc' H') else ∃m',m'<m/\W (i+1) m' acc H3)):Sf nt ix g tt wi2 tt2 te σ Q J H1
def MO(nt:Nat)(ix:List Nat)(f:TI)(g:TG)(e:TT)(b:TI)(a:TT)(d:TE):TE:=λc H Q=>f c H (Sf nt ix g e b a d c Q)
def Fq{X:Cx}{E tg iter o j:bC}{p l:List bC}{scope:eP}{B:Pos}{wi N:TI}{g:TG}{tt M:TT}{te:TE}{N':List Str}{nt:Nat}{ix:List Nat}
  (hc:X.calm=true) (S:lZ X scope N' (nt+1) ix) (lo:UQ nt g) (hi:PI X tg iter wi)
  (P:∀z C k n K G,PG (bN X N' scope z C k n K G) tg g/\Kr (bN X N' scope z C k n K G) p tt/\PI (bN X N' scope z C k n K G) o j N/\PG (bN X N' scope z C k n K G) o (pA nt)/\Kr (bN X N' scope z C k n K G) l M/\PE (bN X N' scope z C k n K G) E te)
  (O:∀(env:Env) x,bS j env x=pure x) (hs:∀x,bS iter X.env x=pure x:=by intro _;rfl):PE X (.ListComp E [⟨tg,iter,p,0⟩,⟨o,j,l,0⟩] scope B) (MO nt ix wi g tt N M te):=by
 intro u s Y H Q I h
 obtain⟨z,U,c1,c2⟩:=o7 (scope:=scope) (env:=X.env) λy hy hf=>I.ok.has y.1 (S.free y hy hf)
 show au _ _ (A4 (.ListComp E [⟨tg,iter,p,0⟩,⟨o,j,l,0⟩] scope B) scope X.env (Pu [⟨tg,iter,p,0⟩,⟨o,j,l,0⟩] B) (Jk []) (firstAsync [⟨tg,iter,p,0⟩,⟨o,j,l,0⟩]) (firstIter [⟨tg,iter,p,0⟩,⟨o,j,l,0⟩] X.env)) _ _ _
 refine iF (use:=none) rfl hs U S.kind S.loc (fS (hi u s Y H _ I h) λv s1 h1=>fS h1 λa0 s2 h2=>?_)
 obtain⟨it,fp,tn,J,H2,e,I2,T,st2,f2,W,w0,L⟩:=h2
 subst e
 refine AD (RR:=λt C=>JU (az X.prog X.w) X.A X.xe none (EP X u Y Q) t C) (Se hc O λa b c d e f=>(P a b c d e f).2.2) hc S lo (λa b c d e f=>⟨(P a b c d e f).1,(P a b c d e f).2.1⟩) c1 c2 I2 T st2 f2 w0 (λi m t H w=>(L i m t H w).imp id λh=>⟨h.1,trivial,h.2⟩) ?_
 intro D C m s' t H' hD _ q hn hI
 exact⟨m,hn,λh' sb=>⟨.ref D,_,hI h' sb,rfl,q⟩⟩
end L2
namespace J
open PySem L2
def yF(nt:Nat)(ix:List Nat)(c:aE->R (List D))(gt:aE->R Bool)(b:aE->R (List D))(a:aE->R Bool)(ge:aE->R D):aE->R D:=λρ=>(c ρ).bind λds=>(pK (rQ nt (l9 (nt+1) ix ρ) gt b a ge) ds).bind λys=>if ys.length<=900 then .ok (.list ys) else .no
inductive lcJ (K:a8) (f:D->R (Option D)) (ds ys tl:List D) (H1 Hs1:Hp) (i m:Nat) (acc:List V) (H':Hp):Prop
 |mk (done bA zs ya Hs':_) (h0:ds=done++bA) (h1:done.length=i) (h2:bA.length=m) (h3:cQ H1 Hs1 H' Hs') (h4:RDs K Hs' acc ya) (h6:fY f bA=.ok zs) (h8:ys=ya++(zs++tl)):lcJ K f ds ys tl H1 Hs1 i m acc H'
inductive lcK (K:a8) (f:D->R (List D)) (ds ys:List D) (H1 Hs1:Hp) (i m:Nat) (acc:List V) (H':Hp):Prop
 |mk (done bA zs ya Hs':_) (h0:ds=done++bA) (h1:done.length=i) (h2:bA.length=m) (h3:cQ H1 Hs1 H' Hs') (h4:RDs K Hs' acc ya) (h6:pK f bA=.ok zs) (h8:ys=ya++zs):lcK K f ds ys H1 Hs1 i m acc H'
section
variable{K:a8}{cls:Str->ak}{E:XK}{σ:St}{H:Hp}{Q:VK}{ρ ρ':aE}{H0 Hs0 H1 Hs1 Hn:Hp}{la:Nat->Option ak}{nt:Nat}{ix:List Nat}{gi gi2:aE->R (List D)}{gt gt2:aE->R Bool}{ge:aE->R D}{J:It}{es zs ys ya tl:List D}{va:List V}
def Zc{Z:List V->Hp->Prop}(f:Fr K H0 Hs0 la ρ' σ H1 Hs1)(sn:dS Hn H1)(it:QU K J es Hn Hs1)(hm:fY (inR nt ρ' gt2 ge) es=.ok zs)(hl:ys.length<=900)(k:RDs K Hs1 va ya)(j:ys=ya++(zs++tl))
  (q:∀T X H' e,ys=X++tl->cQ H1 Hs1 H' e->RDs K e T X->Z T H'):
  LIn nt (λσ H Q=>∃ ρ',Hg K cls E0 ρ' (gt2 ρ') σ H Q) (λσ H Q=>∃ ρ',TR K cls E0 ρ' (ge ρ') σ H Q) σ va Z J H1:=by
 refine⟨lcJ K (inR nt ρ' gt2 ge) es ys tl H1 Hs1,⟨es.length,[],es,zs,ya,Hs1,rfl,rfl,rfl,.refl f.st.sub,k,hm,j⟩,?_⟩
 rintro i m A H' ⟨done,bA,zs,ya,e,c,g,z,st,k,S,j⟩
 obtain⟨L,h,l⟩:=it H' e (sn.trans st.all) st.sh st.sub
 cases bA with
 |nil=>
  left;cases S;rw[ck] at c;subst c
  exact⟨h i ∅,q A ya H' e j st k⟩
 |cons d bA=>
  right
  have s:i<es.length:=by rw[c,aT,aU];omega
  have Y:ya.length<=ys.length:=by rw[j,aT];omega
  refine⟨L i s,cV (by rw[k.length];omega),λx H2 O=>?_⟩
  obtain⟨d',M,N,w,r2⟩:=l i x H2 s O
  have G:d'=d:=by
   rw[c,aV ∅] at N;simp[g] at N;exact N.symm
  subst G
  obtain⟨o,u,a,t,rfl⟩:=rN S
  have a:=xg a
  have U:=((f.step st).step w).set nt r2
  refine⟨_,_,_,_,M,U,?_⟩
  cases B:gt2 (ρ'.set nt (.shr d')) with
  |no=>rw[B] at a;cases a
  |ex x n=>rw[B] at a;cases a
  |ok b=>
   rw[B,bind_ok] at a;intro H3 p s3
   cases b with
   |false=>
    rw[if_neg aG] at a;cases a
    exact wP ⟨bA.length,by rw[<- z];simp,done++[d'],bA,u,ya,p,by rw[c];simp,by simp[g],rfl,(st.trans w).trans s3,k.same (w.trans s3).sh,t,by simpa using j⟩
   |true=>
    rw[if_pos rfl] at a
    refine zP ⟨_,_,_,_,p,U.step s3,?_⟩
    cases he:ge (ρ'.set nt (.shr d')) with
    |no=>rw[he] at a;cases a
    |ex x n=>rw[he] at a;cases a
    |ok y=>
     rw[he,bind_ok] at a;cases a;intro v H4 I P r4
     exact⟨bA.length,by rw[<- z];simp,done++[d'],bA,u,ya++[y],I,by rw[c];simp,by simp[g],rfl,((st.trans w).trans s3).trans P,(k.same ((w.trans s3).trans P).sh).append (.cons r4 .nil),t,by rw[j];simp⟩
theorem VB(O:nt=1\/nt=2)
  (q:TN K cls E ρ (yF nt ix gi gt gi2 gt2 ge ρ) σ H Q):
  MO nt ix (YD K cls E ρ (gi ρ)) (Fc K nt) (λσ H Q=>∃ ρ',Hg K cls E0 ρ' (gt ρ') σ H Q) (λσ H Q=>∃ ρ',YD K cls E0 ρ' (gi2 ρ') σ H Q) (λσ H Q=>∃ ρ',Hg K cls E0 ρ' (gt2 ρ') σ H Q) (λσ H Q=>∃ ρ',TR K cls E0 ρ' (ge ρ') σ H Q) σ H Q:=by
 obtain⟨H0,Hs0,la,Hs,f,q⟩:=q;refine⟨H0,Hs0,la,Hs,f,?_⟩;unfold yF at q
 cases Y:gi ρ with
 |no=>rw[Y] at q;exact q
 |ex x n=>rw[Y] at q;exact q
 |ok ds=>
  rw[Y,bind_ok] at q;intro J H1 Hs1 Hn s1 sn it
  cases w:pK (rQ nt (l9 (nt+1) ix ρ) gt gi2 gt2 ge) ds with
  |no=>rw[w] at q;exact q.elim
  |ex x n=>exact(HU (Oi _ _ _ _ _ _) _ _ _ w).elim
  |ok ys=>
   rw[w,bind_ok] at q
   by_cases L:ys.length<=900
   ·rw[if_pos L] at q
    obtain⟨lb,fb⟩:=(f.step s1).block (nt+1) ix
    refine⟨lcK K (rQ nt (l9 (nt+1) ix ρ) gt gi2 gt2 ge) ds ys H1 Hs1,
     ⟨ds.length,[],ds,ys,[],Hs1,rfl,rfl,rfl,.refl s1.sub,.nil,w,rfl⟩,?_⟩
    rintro i m a2 H' ⟨done,bA,zs,ya,k,c,e,l,st,G,hz,y⟩
    obtain⟨a0,g,s⟩:=it H' k (sn.trans st.all) st.sh st.sub
    cases bA with
    |nil=>
     left;cases hz;rw[ck] at c y;subst y c
     exact⟨g i ∅,λp hp=>q p _ H' k (s1.trans st) hp (.lst G)⟩
    |cons d bA=>
     right
     have t:i<ds.length:=by rw[c,aT,aU];omega
     refine⟨a0 i t,λx H2 S=>?_⟩
     obtain⟨d',P,hd,v,r2⟩:=s i x H2 t S
     have M:d'=d:=by
      rw[c,aV ∅] at hd;simp[e] at hd;exact hd.symm
     subst M
     obtain⟨o,h,a,u,rfl⟩:=KW hz
     have a:=xg a
     cases z:X8 nt d' (l9 (nt+1) ix ρ) with
     |no=>rw[z] at a;cases a
     |ex x n=>rw[z] at a;cases a
     |ok ρ'=>
      rw[z,bind_ok] at a
      refine xi O ((fb.step st).step v) r2 z λa4 N=>⟨ρ',?_⟩
      refine⟨_,_,_,P,N,?_⟩
      cases X:gt ρ' with
      |no=>rw[X] at a;cases a
      |ex x n=>rw[X] at a;cases a
      |ok b=>
       rw[X,bind_ok] at a;intro H3 j s3
       cases b with
       |false=>
        rw[if_neg aG] at a;cases a
        exact wP ⟨bA.length,by rw[<- l];simp,done++[d'],bA,h,ya,j,by rw[c];simp,by simp[e],rfl,(st.trans v).trans s3,G.same (v.trans s3).sh,u,by simpa using y⟩
       |true=>
        rw[if_pos rfl] at a
        refine zP ⟨ρ',_,_,_,j,N.step s3,?_⟩
        cases he:gi2 ρ' with
        |no=>rw[he] at a;cases a
        |ex x n=>rw[he] at a;cases a
        |ok es=>
         rw[he,bind_ok] at a;intro J2 H4 a1 a3 I U T
         refine Zc (tl:=h) (ys:=ys) (ya:=ya) ((N.step s3).step I) U T a L (G.same ((v.trans s3).trans I).sh) y λvb yb H5 A B s5 rb=>?_
         exact⟨bA.length,by rw[<- l];simp,done++[d'],bA,h,yb,A,by rw[c];simp,by simp[e],rfl,(((st.trans v).trans s3).trans I).trans s5,rb,u,B⟩
   ·rw[if_neg L] at q;exact q.elim
end
section
variable{c:C}{elt tg iter tg2 iter2:bC}{ifs ifs2:List bC}{scope:eP}{pos:Pos}{N':List Str}{nt:Nat}{ix:List Nat}{gi gi2:aE->R (List D)}{gt gt2:aE->R Bool}{ge:aE->R D}
def Sg(nt:Nat)(d:nt=1\/nt=2)(m:c.X.calm=true)(S:lZ c.X scope N' (nt+1) ix)(n:JI c tg iter gi)(p:Sd c N' scope nt tg ifs tg2 iter2 ifs2 elt gt gi2 gt2 ge)
  (g:∀(env:Env) x,bS iter2 env x=pure x:=by intro _ _;rfl) (hs:∀x,bS iter c.X.env x=pure x:=by intro _;rfl):
  JN c (.ListComp elt [⟨tg,iter,ifs,0⟩,⟨tg2,iter2,ifs2,0⟩] scope pos) (yF nt ix gi gt gi2 gt2 ge):=.of λρ=>
 sK (Fq m S (xh d) (n ρ) (λj A f e w k=>by
  obtain⟨i,v,l,o,u,t⟩:=p j A f e w k
  exact⟨i,λa s b H Q I h=>by obtain⟨ρ',q⟩:=h;exact v ρ' a s b H Q I q,λa s b H Q I h=>by obtain⟨ρ',q⟩:=h;exact l ρ' a s b H Q I q,o,λa s b H Q I h=>by obtain⟨ρ',q⟩:=h;exact u ρ' a s b H Q I q,λa s b H Q I h=>by obtain⟨ρ',q⟩:=h;exact t ρ' a s b H Q I q⟩) g hs) λb H Q q=>VB d q
end
end J
namespace ST
open PySem
def pM(m:Nat)(p:jl):jl:=
 if p.more > 0 then {p with j:=p.j+1,more:=p.more-1} else
 {p with j:=(gq m p.i p.perturb).1,more:=bI m (gq m p.i p.perturb).1-(gq m p.i p.perturb).1,i:=(gq m p.i p.perturb).1,perturb:=(gq m p.i p.perturb).2}
def Sh(t:eR)(p:jl):t.advance p=pM t.mask p:=by
 unfold SetTable.advance pM;split<;>rfl
def XC(m:Nat)(h:Int):jl:={j:=bT h % (m+1),more:=bI m (bT h % (m+1))-bT h % (m+1),i:=bT h % (m+1),perturb:=bT h,dummy:=none}
def Si(t:eR)(h:Int):t.probeStart h=XC t.mask h:=rfl
def ZP(m:Nat)(h:Int):Nat->jl
 | 0=>XC m h
 |n+1=>pM m (ZP m h n)
theorem HV(m:Nat)(h:Int):∀n,(ZP m h n).dummy=none
 | 0=>rfl
 |n+1=>by
  show(pM m (ZP m h n)).dummy=none;unfold pM;split<;>exact HV m h n
def jf(m:Nat)(h:Int):Nat->Nat×Nat
 | 0=>(bT h % (m+1),bT h)
 |k+1=>gq m (jf m h k).1 (jf m h k).2
def Sj(m:Nat)(q:Nat×Nat):jl:={j:=q.1,more:=bI m q.1-q.1,i:=q.1,perturb:=q.2,dummy:=none}
def Sk(m i:Nat):bI m i-i<=9:=by
 unfold bI;split<;>omega
theorem Bm(m:Nat)(h:Int)(n:Nat)(q:Nat×Nat)(e:ZP m h n=Sj m q):∀k,k<=bI m q.1-q.1->ZP m h (n+k)={Sj m q with j:=q.1+k,more:=bI m q.1-q.1-k}
 | 0,_=>by rw[oX,e];rfl
 |k+1,b=>by
  have a:=Bm m h n q e k ∅;show pM m (ZP m h (n+k))=_;rw[a];unfold pM;rw[if_pos (show bI m q.1-q.1-k > 0 by omega)];simp only[Sj];congr 1
theorem XD(m:Nat)(h:Int):∀k,∃n,n<=10*k/\ZP m h n=Sj m (jf m h k)
 | 0=>⟨0,aw _,rfl⟩
 |k+1=>by
  obtain⟨n,b,e⟩:=XD m h k;have r:=Sk m (jf m h k).1;have a:=Bm m h n _ e (bI m (jf m h k).1-(jf m h k).1) (aw _);refine⟨n+(bI m (jf m h k).1-(jf m h k).1)+1,by omega,?_⟩;show pM m (ZP m h (n+(bI m (jf m h k).1-(jf m h k).1)))=_;rw[a];unfold pM;rw[if_neg (by simp)];rfl
def MP(m:Nat)(h:Int)(k:Nat):(jf m h k).1<m+1:=by
 cases k with
 |zero=>exact mU _ (oW m)
 |succ k=>exact mU _ (oW m)
theorem DL(m:Nat)(h:Int):∀k,(jf m h k).2=bT h / 32 ^ k
 | 0=>by simp[jf]
 |k+1=>by
  show(jf m h k).2 / 32=_;rw[DL m h k,K1,K2]
def Oj(h:Int):bT h<2 ^ 64:=by
 unfold bT;have a:=n_ h (b:=(2 ^ 64:Int)) ⋯;have c:=lz h (b:=(2 ^ 64:Int)) ⋯;omega
def Ol(m:Nat)(h:Int)(k:Nat)(a:13<=k):(jf m h k).2=0:=by
 rw[DL];refine Ue (aK (Oj h) ?_);calc 2 ^ 64<=32 ^ 13:=by decide
  _<=32 ^ k:=vJ ⋯ a
def Sm(N i:Nat):Nat:=(i*5+1) % N
def Bo(N:Nat):Nat->Nat->Nat
 | 0,a=>a
 |k+1,a=>Bo N k (Sm N a)
theorem tY(N:Nat):∀(p q a:Nat),Bo N (p+q) a=Bo N q (Bo N p a)
 | 0,q,a=>by rw[zK];rfl
 |p+1,q,a=>by rw[Nat.succ_add];exact tY N p q (Sm N a)
def MQ(N:Nat):Nat->Nat->List Nat
 | 0,_=>[]
 |k+1,a=>a::MQ N k (Sm N a)
theorem Bp(N:Nat):∀(n a b:Nat),b∈MQ N n a->∃k,k<n/\Bo N k a=b
 | 0,_,_,h=>nomatch h
 |n+1,a,b,h=>by
  rcases List.mem_cons.mp h with rfl|h
  ·exact⟨0,oW n,rfl⟩
  ·obtain⟨k,c,e⟩:=Bp N n _ _ h;exact⟨k+1,Uf c,e⟩
structure KY (N:Nat):Prop where
 all:∀b,b<N->b∈MQ N N 0
 back:Bo N N 0=0
def KY.to(c:KY N)(d:a<N)(e:b<N):∃k,k<N/\Bo N k a=b:=by
 obtain⟨p,f,rfl⟩:=Bp N N 0 a (c.all a d);obtain⟨q,g,rfl⟩:=Bp N N 0 b (c.all b e);by_cases h:p<=q
 ·exact⟨q-p,by omega,by rw[<- tY,show p+(q-p)=q by omega]⟩
 ·refine⟨q+N-p,by omega,?_⟩;rw[<- tY,show p+(q+N-p)=N+q by omega,tY,c.back]
def Br(h:((bq N).all λb=>(MQ N N 0).contains b)=true)(c:Bo N N 0=0):KY N:=by
 refine⟨λb a=>?_,c⟩;rw[cx] at h;have:=h b (List.mem_range.mpr a);simpa using this
def Zd:KY 8:=Br ∎ ∎
def VC:KY 32:=Br ∎ ∎
def Sn:KY 128:=Br ∎ ∎
def q_(m:Nat):Prop:=m=7\/m=31\/m=127
def MR(h:q_ m):KY (m+1):=by
 rcases h with rfl|rfl|rfl
 ·exact Zd
 ·exact VC
 ·exact Sn
theorem Fs(m:Nat)(h:Int):∀k,(jf m h (13+k)).1=Bo (m+1) k (jf m h 13).1
 | 0=>rfl
 |k+1=>by
  have e:Bo (m+1) (k+1) (jf m h 13).1=Sm (m+1) (Bo (m+1) k (jf m h 13).1):=by rw[tY];rfl
  rw[e,<- Fs m h k];show(gq m (jf m h (13+k)).1 (jf m h (13+k)).2).1=_;unfold gq Sm;rw[Ol m h (13+k) ∅];try simp
def VD(a:q_ m)(h:Int)(c:j<=m):∃n,n<10*(m+15)/\(ZP m h n).j=j:=by
 obtain⟨k,f,e⟩:=(MR a).to (MP m h 13) (show j<m+1 by omega);obtain⟨n,d,b⟩:=XD m h (13+k);exact⟨n,by omega,by rw[b];exact(Fs m h k).trans e⟩
theorem So(m:Nat)(h:Int):∀n,(ZP m h n).j+(ZP m h n).more<=m
 | 0=>by
  have:=mU (bT h) (show 0<m+1 by omega);show bT h % (m+1)+(bI m (bT h % (m+1))-bT h % (m+1))<=m;unfold bI;split<;>omega
 |n+1=>by
  have a:=So m h n;show(pM m (ZP m h n)).j+(pM m (ZP m h n)).more<=m;unfold pM;split
  ·simp only;omega
  ·simp only;have:=mU ((ZP m h n).i*5+1+(ZP m h n).perturb / 32) (show 0<m+1 by omega);unfold bI gq;simp only;split<;>omega
def MS(m:Nat)(h:Int)(n:Nat):(ZP m h n).j<=m:=by have:=So m h n;omega
def VE{p:Nat->Prop}[DecidablePred p]:∀n,p n->∃k,k<=n/\p k/\∀i,i<k->¬ p i:=by
 intro n;induction n using Nat.strongRecOn with
 |ind n c=>
  intro d;by_cases h:∃i,i<n/\p i
  ·obtain⟨i,b,a⟩:=h;obtain⟨k,g,e,f⟩:=c i b a;exact⟨k,by omega,e,f⟩
  ·exact⟨n,aw _,d,λi b a=>h ⟨i,b,a⟩⟩
theorem DM:∀{l l':List Nat},l.Nodup->(∀x∈l,x∈l')->l.length<=l'.length
 |[],_,_,_=>cu _
 |a::r,l',d,h=>by
  obtain⟨f,g⟩:=List.nodup_cons.mp d;have b:=h a ap;have:=DM (l':=l'.erase a) g λx c=>(vg (λ(e:x=a)=>f (by rw[<- e];exact c))).mpr (h x (ai _ c));rw[rA b] at this;have:0<l'.length:=sZ b
  simp only[aU];omega
def Sq(l:List Nat)(f:l.length<=m):∃j,j<=m/\j∉l:=by
 by_cases h:∃j,j<=m/\j∉l
 ·exact h
 ·have a:∀j,j<=m->j∈l:=λj c=>by
   by_cases b:j∈l
   ·exact b
   ·exact(h ⟨j,c,b⟩).elim
  have d:(bq (m+1)).Nodup:=TY;have sub:∀x∈bq (m+1),x∈l:=λx e=>a x (by have:=List.mem_range.mp e;omega);have:(bq (m+1)).length<=l.length:=DM d sub
  rw[dG] at this;omega
def HW{m:Nat}(a:q_ m)(h:Int)(l:List Nat)(c:l.length<=m):∃E,E<10*(m+15)/\(ZP m h E).j∉l/\∀n,n<E->(ZP m h n).j∈l:=by
 obtain⟨j,e,b⟩:=Sq l c;obtain⟨n,g,d⟩:=VD a h e;obtain⟨k,k1,k2,k3⟩:=VE (p:=λn=>(ZP m h n).j∉l) n (by rw[d];exact b);exact⟨k,by omega,k2,λi f=>Decidable.not_not.mp (k3 i f)⟩
theorem vV(xs:Array Nat)(j:Nat)(l:xs.toList.Pairwise (·<·)):∀(fuel lo c:Nat),lo<=c->c<=xs.size->c-lo<=fuel->(∀i,i<lo->xs.getD i j<j)->(∀i,c<=i->i<xs.size->j<=xs.getD i j) ->
  ∃r,mW xs j fuel lo c=r/\r<=xs.size/\(∀i,i<r->xs.getD i j<j)/\∀i,r<=i->i<xs.size->j<=xs.getD i j
 | 0,lo,c,o,n,p,f,k=>⟨lo,rfl,by omega,f,λi e=>k i ∅⟩
 |fuel+1,lo,c,o,n,p,f,k=>by
  unfold mW;have mono:∀a b,a<b->b<xs.size->xs.getD a j<xs.getD b j:=λa b d g=>by
   have:=List.pairwise_iff_getElem.mp l a b (by simpa using iq d g) (by simpa using g) d;simpa[Ch,iq d g,g] using this
  by_cases m:lo<c
  ·rw[if_pos m];simp only;by_cases h:xs.getD ((lo+c) / 2) j<j
   ·rw[if_pos h];refine vV xs j l fuel _ c ∅ n ∅ (λi e=>?_) k;by_cases he:i=(lo+c) / 2
    ·rw[he];exact h
    ·exact iq (mono i ((lo+c) / 2) ∅ ∅) h
   ·rw[if_neg h];refine vV xs j l fuel lo _ ∅ ∅ ∅ f (λi e hs=>?_);by_cases he:i=(lo+c) / 2
    ·rw[he];omega
    ·have:=mono ((lo+c) / 2) i ∅ hs;omega
  ·rw[if_neg m];exact⟨lo,rfl,by omega,f,λi e hs=>k i ∅ hs⟩
structure Sr (xs:List Nat) (j r:Nat):Prop where
 le:r<=xs.length
 lo:∀x∈xs.take r,x<j
 hi:∀x∈xs.drop r,j<=x
def Bt(xs:List Nat)(j:Nat)(l:xs.Pairwise (·<·)):Sr xs j (cm xs.toArray j):=by
 obtain⟨r,e,b,d,f⟩:=vV xs.toArray j (by simpa using l) xs.toArray.size 0 xs.toArray.size (cu _) (aw _) ∅ (λi h=>absurd h (gx i)) (λi b d=>absurd d ∅);have k:cm xs.toArray j=r:=e;rw[k];have g:∀i (a:i<xs.length),xs.toArray.getD i j=xs[i]:=λi a=>by simp[Ch,a]
 simp only[aM] at b f;refine⟨b,λx c=>?_,λx c=>?_⟩
 ·obtain⟨i,a,rfl⟩:=List.mem_iff_getElem.mp c;rw[sG] at a;rw[List.getElem_take,<- g i ∅];exact d i ∅
 ·obtain⟨i,a,rfl⟩:=List.mem_iff_getElem.mp c;rw[sH] at a;rw[List.getElem_drop,<- g (r+i) ∅];exact f (r+i) ∅ ∅
theorem Sr.at(b:Sr xs j r)(e:xs.Pairwise (·<·)):xs[r]?=some j↔j∈xs:=by
 constructor
 ·intro h;exact bR h
 ·intro h;rw[<- hJ r xs] at h;rcases List.mem_append.mp h with h|h
  ·exact absurd (b.lo j h) (cB j)
  ·cases c:xs.drop r with
   |nil=>rw[c] at h;cases h
   |cons y l=>
    have f:j<=y:=b.hi y (by rw[c];exact ap);have d:xs[r]?=some y:=by
     have:=congrArg (λl=>l[0]?) c;simpa using this
    rw[c] at h;rcases List.mem_cons.mp h with rfl|h
    ·exact d
    ·have a:(xs.drop r).Pairwise (·<·):=e.sublist (List.drop_sublist _ _);rw[c] at a;have:=(List.pairwise_cons.mp a).1 j h;omega
def Sr.ins(b:Sr xs j r)(l:xs.Pairwise (·<·))(h:j∉xs):(xs.take r++j::xs.drop r).Pairwise (·<·):=by
 have u:=l;rw[<- hJ r xs] at u;obtain⟨m,k,i⟩:=List.pairwise_append.mp u;refine List.pairwise_append.mpr ⟨m,List.pairwise_cons.mpr ⟨λx g=>?_,k⟩,λa f c d=>?_⟩
 ·have n:=b.hi x g;have o:j≠x:=λe=>h (e ▸ vh g);omega
 ·rcases List.mem_cons.mp d with rfl|d
  ·exact b.lo a f
  ·exact i a f c d
abbrev Gv:=Nat×(Int×ag)
structure HX (m:Nat) (ps:List Gv) (es:Array (Int×ag)) (t:eR):Prop where
 mask:t.mask=m
 place:t.place=(ps.map (·.1)).toArray
 es:es=(ps.map (·.2)).toArray
 dum:t.dummies=#[]
 up:(ps.map (·.1)).Pairwise (·<·)
theorem HX.slot{m:Nat}{ps:List Gv}{es:Array (Int×ag)}{t:eR}(T:HX m ps es t)(j:Nat):(j∉ps.map (·.1)/\t.slot j=.empty)\/∃i e,ps[i]?=some (j,e)/\t.slot j=.live i:=by
 have b:=Bt (ps.map (·.1)) j T.up;unfold SetTable.slot;rw[T.place];simp only;by_cases h:j∈ps.map (·.1)
 ·right;have e:=(b.at T.up).mpr h;rw[aI] at e;cases d:ps[cm (ps.map (·.1)).toArray j]? with
  |none=>rw[d] at e;cases e
  |some q=>
   rw[d] at e;obtain⟨a,c⟩:=q;cases e;refine⟨_,c,d,?_⟩;rw[if_pos];rw[mG,aI,d];simp
 ·left;refine⟨h,?_⟩;rw[if_neg,if_neg]
  ·rw[T.dum];simp[Dc]
  ·rw[mG];intro e;exact h ((b.at T.up).mp (by simpa using e))
structure XE (m:Nat) (ps:List Gv):Prop where
 hm:q_ m
 le:∀q∈ps,q.1<=m
 way:∀q∈ps,∃n,(ZP m q.2.1 n).j=q.1/\∀i,i<n->(ZP m q.2.1 i).j∈ps.map (·.1)
structure HY (m:Nat) (ps:List Gv) (h:Int) (E:Nat):Prop where
 lt:E<10*(m+15)
 no:(ZP m h E).j∉ps.map (·.1)
 yes:∀n,n<E->(ZP m h n).j∈ps.map (·.1)
def Om(b:q_ m)(h:Int)(d:ps.length<=m):∃E,HY m ps h E:=by
 obtain⟨E,a,e,c⟩:=HW b h (ps.map (·.1)) (by rw[ah];exact d);exact⟨E,a,e,c⟩
def XE.before(W:XE m ps)(F:HY m ps h E)(b:q∈ps)(e:q.2.1=h):∃n,n<E/\(ZP m h n).j=q.1:=by
 obtain⟨n,a,c⟩:=W.way q b;rw[e] at a c;refine⟨n,?_,a⟩;rcases TZ n E with z|z|z
 ·exact z
 ·subst z;exact absurd (by rw[a];exact bi (f:=λq:Gv=>q.1) b) F.no
 ·exact absurd (c E z) F.no
inductive ZPr (m:Nat) (ps:List Gv) (h:Int) (E n:Nat) (r:Option SetTable.Met):Prop
 |emp (e:r=some (.empty (ZP m h E).j none)) (no:∀k,n<=k->k<E->∀q∈ps,q.1=(ZP m h k).j->q.2.1≠h)
 |cand (k i:Nat) (x:Int×ag) (h1:n<=k) (h2:k<E) (hp:ps[i]?=some ((ZP m h k).j,x)) (hx:x.1=h) (e:r=some (.candidate (ZP m h k).j i (ZP m h (k+1)))) (no:∀k',n<=k'->k'<k->∀q∈ps,q.1=(ZP m h k').j->q.2.1≠h)
def HZ{l:List Nat}(d:l.Pairwise (·<·)){i j:Nat}{a:Nat}(g:l[i]?=some a)(k:l[j]?=some a):i=j:=by
 obtain⟨b,c⟩:=List.getElem?_eq_some_iff.mp g;obtain⟨e,f⟩:=List.getElem?_eq_some_iff.mp k;rcases TZ i j with h|h|h
 ·have:=List.pairwise_iff_getElem.mp d i j b e h;rw[c,f] at this;omega
 ·exact h
 ·have:=List.pairwise_iff_getElem.mp d j i e b h;rw[c,f] at this;omega
def DN{m:Nat}{ps:List Gv}{es:Array (Int×ag)}{t:eR}(T:HX m ps es t){i:Nat}{j:Nat}{x:Int×ag}(b:ps[i]?=some (j,x)){q:Gv}(d:q∈ps)(e:q.1=j):q.2=x:=by
 obtain⟨k,a⟩:=List.mem_iff_getElem?.mp d;have c:(ps.map (·.1))[i]?=some j:=by rw[aI,b];rfl
 have f:(ps.map (·.1))[k]?=some j:=by rw[aI,a,<- e];rfl
 have:=HZ T.up c f;subst this;rw[b] at a;cases a;rfl
def DO{m:Nat}{ps:List Gv}{es:Array (Int×ag)}{t:eR}(T:HX m ps es t){i:Nat}{e:Gv}(h:ps[i]?=some e):es[i]?=some e.2:=by
 rw[T.es,mG,aI,h];rfl
theorem DP{m:Nat}{ps:List Gv}{es:Array (Int×ag)}{t:eR}{h:Int}{E:Nat}{c:Nat->Int}(T:HX m ps es t)(F:HY m ps h E)(u:∀i e,ps[i]?=some e->c i=e.2.1):∀(fuel n:Nat),n<=E->E-n<fuel->ZPr m ps h E n (s_ t c h fuel (ZP m h n))
 | 0,_,_,G=>absurd G (gx _)
 |fuel+1,n,I,G=>by
  unfold s_;rcases T.slot (ZP m h n).j with⟨o,hs⟩|⟨i,e,hp,hs⟩
  ·rw[hs];have:n=E:=by
    rcases kg n E with z|z
    ·exact absurd (F.yes n z) o
    ·omega
   subst this;exact .emp (by simp only[HV]) λk A p=>absurd p ∅
  ·rw[hs];simp only;have H:n<E:=by
    rcases kg n E with z|z
    ·exact z
    ·have:n=E:=by omega
     subst this;exact absurd (bi (f:=(·.1)) (bR hp)) F.no
   have B:t.advance (ZP m h n)=ZP m h (n+1):=by rw[Sh,T.mask];rfl
   by_cases s:c i=h
   ·rw[if_pos (by simpa using s),B];exact .cand n i e (aw _) H hp ((u i _ hp).symm.trans s) rfl λv A p=>absurd p ∅
   ·rw[if_neg (by simpa using s),B];have d:∀q∈ps,q.1=(ZP m h n).j->q.2.1≠h:=λq g l=>by
     rw[DN T hp g l];intro z;exact s ((u i _ hp).trans z)
    rcases DP T F u fuel (n+1) H ∅ with⟨w,o⟩|⟨k,i',x,A,p,hp',hx,w,o⟩
    ·refine .emp w λk a b q g l=>?_;by_cases y:k=n
     ·subst y;exact d q g l
     ·exact o k ∅ b q g l
    ·refine .cand k i' x ∅ p hp' hx w λv a b q g l=>?_;by_cases y:v=n
     ·subst y;exact d q g l
     ·exact o v ∅ b q g l
def Bu{α:Type}(xs:List α)(p:Nat)(x:α):lj xs.toArray p x=(xs.take p++x::xs.drop p).toArray:=by
 apply Array.ext';rw[SetTable.toList_insertAt]
def m5(ps:List Gv)(p:Nat)(e:Gv):List Gv:=ps.take p++e::ps.drop p
def Su(T:HX m ps es t)(W:XE m ps)(F:HY m ps h E):HX m (m5 ps (t.put (ZP m h E).j).2 ((ZP m h E).j,(h,x))) (lj es (t.put (ZP m h E).j).2 (h,x)) (t.put (ZP m h E).j).1/\XE m (m5 ps (t.put (ZP m h E).j).2 ((ZP m h E).j,(h,x))):=by
 have b:=Bt (ps.map (·.1)) (ZP m h E).j T.up;have o:(t.put (ZP m h E).j).2=cm (ps.map (·.1)).toArray (ZP m h E).j:=by
  show cm t.place _=_;rw[T.place]
 rw[o];have d:(m5 ps (cm (ps.map (·.1)).toArray (ZP m h E).j) ((ZP m h E).j,(h,x))).map (·.1)=(ps.map (·.1)).take (cm (ps.map (·.1)).toArray (ZP m h E).j)++(ZP m h E).j::(ps.map (·.1)).drop (cm (ps.map (·.1)).toArray (ZP m h E).j):=by
  unfold m5;rw[bF,ay,Go,wF]
 have mem:∀a,a∈ps.map (·.1)->a∈(m5 ps (cm (ps.map (·.1)).toArray (ZP m h E).j) ((ZP m h E).j,(h,x))).map (·.1):=λa g=>by
  rw[d];rw[<- hJ (cm (ps.map (·.1)).toArray (ZP m h E).j) (ps.map (·.1))] at g;rcases List.mem_append.mp g with z|z
  ·exact c6 _ z
  ·exact aA _ (ai _ z)
 refine⟨⟨T.mask,?_,?_,?_,?_⟩,⟨W.hm,λq e=>?_,λq e=>?_⟩⟩
 ·show lj t.place (cm t.place _) _=_;rw[T.place,Bu,d]
 ·rw[T.es,Bu];unfold m5;rw[bF,ay,Go,wF]
 ·show(if Dc t.dummies _ then _ else t.dummies)=#[];rw[T.dum];simp[Dc]
 ·rw[d];exact b.ins T.up F.no
 ·rcases List.mem_append.mp e with z|z
  ·exact W.le q (LW z)
  ·rcases List.mem_cons.mp z with rfl|z
   ·exact MS m h E
   ·exact W.le q (vh z)
 ·have c:q∈ps->∃n,(ZP m q.2.1 n).j=q.1/\∀i,i<n->(ZP m q.2.1 i).j∈(m5 ps (cm (ps.map (·.1)).toArray (ZP m h E).j) ((ZP m h E).j,(h,x))).map (·.1):=λz=>by
   obtain⟨n,k,l⟩:=W.way q z;exact⟨n,k,λi f=>mem _ (l i f)⟩
  rcases List.mem_append.mp e with z|z
  ·exact c (LW z)
  ·rcases List.mem_cons.mp z with rfl|z
   ·exact⟨E,rfl,λi f=>mem _ (F.yes i f)⟩
   ·exact c (vh z)
def KZ(a:q_ m)(h:Int)(b:j<=m):∃K,K<m+15/\(jf m h K).1=j:=by
 obtain⟨k,c,e⟩:=(MR a).to (MP m h 13) (show j<m+1 by omega);exact⟨13+k,by omega,(Fs m h k).trans e⟩
theorem zq(owner:Array (Option Nat))(h:Int)(o:owner.getD (jf m h K).1 (some 0)=none):
  ∀(fuel k n:Nat),k<=K->K-k<fuel->ZP m h n=Sj m (jf m h k)->(∀i,i<n->owner.getD (ZP m h i).j (some 0)≠none) ->
   ∃N,cw m owner fuel (jf m h k).1 (jf m h k).2=some (ZP m h N).j/\owner.getD (ZP m h N).j (some 0)=none/\∀i,i<N->owner.getD (ZP m h i).j (some 0)≠none
 | 0,_,_,_,p,_,_=>absurd p (gx _)
 |fuel+1,k,n,x,p,e,f=>by
  have d:=Bm m h n _ e;have t:(jf m h k).1<=bI m (jf m h k).1:=by unfold bI;split<;>omega
  have b:∀r,r<bI m (jf m h k).1+1-(jf m h k).1->(ZP m h (n+r)).j=(jf m h k).1+r:=λr g=>by
   rw[d r ∅]
  unfold cw;split
  ·rename_i r g
   obtain⟨s,l,q⟩:=List.find?_range_eq_some.mp g;have l:=List.mem_range.mp l;refine⟨n+r,by rw[b r l],by rw[b r l];simpa using s,λi u=>?_⟩;by_cases c:i<n
   ·exact f i c
   ·have:=q (i-n) ∅;rw[show i=n+(i-n) by omega,b (i-n) ∅];intro z;rw[z] at this;cases this
  ·rename_i g
   have a:=List.find?_range_eq_none.mp g;have w:k≠K:=λz=>by
    subst z;have:=a 0 ∅;rw[oX,o] at this;cases this
   have v:=d (bI m (jf m h k).1-(jf m h k).1) (aw _);refine zq owner h o fuel (k+1) (n+(bI m (jf m h k).1-(jf m h k).1)+1) ∅ ∅ ?_ λi u=>?_
   ·show pM m (ZP m h (n+(bI m (jf m h k).1-(jf m h k).1)))=_;rw[v];unfold pM;rw[if_neg (by simp)];rfl
   ·by_cases c:i<n
    ·exact f i c
    ·have:=a (i-n) ∅;rw[show i=n+(i-n) by omega,b (i-n) ∅];intro z;rw[z] at this;cases this
structure v6 (m:Nat) (hs:List Int) (owner:Array (Option Nat)) (us:List Nat):Prop where
 size:owner.size=m+1
 le:∀x∈us,x<=m
 at_:∀j,j<=m->∀q:Nat,owner[j]?=some (some q)↔us[q]?=some j
 way:∀(q j:Nat) (h:Int),us[q]?=some j->hs[q]?=some h->∃n,(ZP m h n).j=j/\∀i,i<n->(ZP m h i).j∈us
def v6.getD(L:v6 m hs owner us)(a:j<=m):owner.getD j (some 0)=none↔j∉us:=by
 have hs:j<owner.size:=by rw[L.size];omega
 rw[dE,bf hs];simp only[jR];constructor
 ·intro z b;obtain⟨q,c⟩:=List.mem_iff_getElem?.mp b;have:=(L.at_ j a q).mpr c;rw[bf hs,z] at this;cases this
 ·intro z;cases e:owner[j] with
  |none=>rfl
  |some q=>
   refine absurd ?_ z;exact bR ((L.at_ j a q).mp (by rw[bf hs,e]))
def xr(m:Nat)(a:Option (Array (Option Nat)×Nat))(h:Int):Option (Array (Option Nat)×Nat):=a.bind λx=>(cw m x.1 (eZ m) (bT h % (m+1)) (bT h)).bind λj=>some (x.1.setIfInBounds j (some x.2),x.2+1)
def CH(m:Nat)(hs:Array Int):lf m hs=(hs.toList.foldl (xr m) (some (kM (m+1) none,0))).map (·.1):=by
 rw[Ny];rfl
def v6.step(y:q_ m)(L:v6 m hs owner us)(B:hs[us.length]?=some h)(p:us.length<=m):∃j,xr m (some (owner,us.length)) h=some (owner.setIfInBounds j (some us.length),us.length+1)/\v6 m hs (owner.setIfInBounds j (some us.length)) (us++[j]):=by
 obtain⟨O,f,l⟩:=Sq us p;obtain⟨K,M,s⟩:=KZ y h f;obtain⟨N,A,v,w⟩:=zq owner h (K:=K) (by rw[s];exact(L.getD f).mpr l) (eZ m) 0 0 (cu _) (by unfold eZ;omega) rfl (λi b=>absurd b (gx _));have H:(ZP m h N).j∉us:=(L.getD (MS m h N)).mp v;have before:∀i,i<N->(ZP m h i).j∈us:=λi b=>Decidable.not_not.mp λz=>w i b ((L.getD (MS m h i)).mpr z);refine⟨(ZP m h N).j,?_,?_⟩
 ·have g:cw m owner (eZ m) (bT h % (m+1)) (bT h)=some (ZP m h N).j:=A;unfold xr;simp only[rz,g]
 ·have o:=MS m h N;refine⟨by rw[Ey];exact L.size,λx G=>?_,λj E q=>?_,λq j h' d a=>?_⟩
  ·rcases List.mem_append.mp G with z|z
   ·exact L.le x z
   ·rw[List.mem_singleton.mp z];exact o
  ·rw[Array.getElem?_setIfInBounds];by_cases e:(ZP m h N).j=j
   ·rw[if_pos e,if_pos (by rw[L.size];omega)];constructor
    ·intro z;cases z;rw[aV (aw _),K9,<- e];rfl
    ·intro z;by_cases a:q<us.length
     ·rw[bx a] at z;exact absurd (e ▸ bR z) H
     ·rw[aV ∅] at z;have:q-us.length=0:=by
       obtain⟨c,_⟩:=List.getElem?_eq_some_iff.mp z;simpa using c
      rw[show q=us.length by omega]
   ·rw[if_neg e,L.at_ j E q];constructor
    ·intro z;obtain⟨c,_⟩:=List.getElem?_eq_some_iff.mp z;rw[bx c];exact z
    ·intro z;by_cases a:q<us.length
     ·rw[bx a] at z;exact z
     ·rw[aV ∅] at z;exact absurd (List.mem_singleton.mp (bR z)).symm e
  ·by_cases k:q<us.length
   ·rw[bx k] at d;obtain⟨n,t,u⟩:=L.way q j h' d a;exact⟨n,t,λi b=>c6 _ (u i b)⟩
   ·rw[aV ∅] at d;have P:q-us.length=0:=by
     obtain⟨c,_⟩:=List.getElem?_eq_some_iff.mp d;simpa using c
    have I:q=us.length:=by omega
    subst I;rw[B] at a;cases a;exact⟨N,(List.mem_singleton.mp (bR d)).symm,λi b=>c6 _ (before i b)⟩
theorem v6.fold(g:q_ m):∀(r:List Int) {owner:Array (Option Nat)}{b:List Nat},v6 m hs owner b->hs.drop b.length=r->hs.length<=m+1->∃o' a,r.foldl (xr m) (some (owner,b.length))=some (o',a.length)/\v6 m hs o' a/\a.length=b.length+r.length
 |[],owner,b,L,_,_=>⟨owner,b,rfl,L,rfl⟩
 |h::r,owner,b,L,e,k=>by
  have i:hs[b.length]?=some h:=by
   have:=congrArg (λl=>l[0]?) e;simpa using this
  obtain⟨q,_⟩:=List.getElem?_eq_some_iff.mp i;obtain⟨j,n,p⟩:=L.step g i ∅;rw[ik,n];have f:(b++[j]).length=b.length+1:=by simp
  obtain⟨o',a,d,o,c⟩:=v6.fold g r p (by
   rw[f];have:=congrArg List.tail e;simpa using this) k
  rw[f] at d c;exact⟨o',a,d,o,by rw[c,aU];omega⟩
def On(c:q_ m)(hs:List Int)(g:hs.length<=m):∃o a,lf m hs.toArray=some o/\v6 m hs o a/\a.length=hs.length:=by
 have d:v6 m hs (kM (m+1) none) []:=⟨by simp,(λ_ z=>nomatch z),(λj f q=>by
  rw[Array.getElem?_replicate];constructor
  ·intro z;split at z<;>cases z
  ·intro z;cases z),λq j h z _=>by simp at z⟩
 obtain⟨o,a,e,L,le⟩:=d.fold c hs rfl ∅;refine⟨o,a,?_,L,by simpa using le⟩;rw[CH];have b:hs.toArray.toList.foldl (xr m) (some (kM (m+1) none,0))=some (o,a.length):=e;rw[b];rfl
def jK(m:Nat)(o:Array (Option Nat)):List (Nat×Nat):=(bq (m+1)).filterMap λj=>(o.getD j none).map (j,·)
def kG(L:v6 m hs o us):(j,q)∈jK m o↔us[q]?=some j:=by
 unfold jK;rw[Ph];constructor
 ·rintro⟨d,b,a⟩;have b:=List.mem_range.mp b;cases e:o.getD d none with
  |none=>rw[e] at a;cases a
  |some q'=>
   rw[e] at a;cases a;refine(L.at_ j ∅ q).mp ?_;rw[dE,bf (by rw[L.size];omega)] at e;rw[bf (by rw[L.size];omega)];simpa using e
 ·intro h;have c:=L.le j (bR h);have:=(L.at_ j c q).mpr h;refine⟨j,List.mem_range.mpr ∅,?_⟩;rw[dE,this];rfl
def DQ(m:Nat)(o:Array (Option Nat)):((jK m o).map (·.1)).Pairwise (·<·):=by
 unfold jK;rw[Pf];refine(List.pairwise_lt_range (n:=m+1)).filterMap _ λa b e x d y c=>?_;cases g:o.getD a none with
 |none=>rw[g] at d;cases d
 |some _=>
  cases f:o.getD b none with
  |none=>rw[f] at c;cases c
  |some _=>rw[g] at d;rw[f] at c;cases d;cases c;exact e
def Oo(L:v6 m hs o us):((jK m o).map (·.2)).Nodup:=by
 have g:(jK m o).Nodup:=by
  have h:=DQ m o;have c:(jK m o).Pairwise (λa b=>a.1<b.1):=List.pairwise_map.mp h;exact c.imp λh e=>by rw[e] at h;exact cB _ h
 refine List.pairwise_map.mpr ?_;refine List.Pairwise.imp_of_mem (λ{a b} f j i e=>?_) g;obtain⟨p,k⟩:=a;obtain⟨n,l⟩:=b;simp only at e;subst e;have d:=(kG L).mp f;have c:=(kG L).mp j;rw[d] at c;cases c;exact i rfl
def H_(L:v6 m hs o us):((jK m o).map (·.2)).Perm (bq us.length):=by
 refine(jS (Oo L) TY).mpr λq=>?_;rw[i_,List.mem_range];constructor
 ·rintro⟨⟨j,q'⟩,a,rfl⟩;exact(List.getElem?_eq_some_iff.mp ((kG L).mp a)).1
 ·intro h;exact⟨(us[q],q),(kG L).mpr (bt h),rfl⟩
def rR(m:Nat)(o:Array (Option Nat))(es:List (Int×ag)):List Gv:=(jK m o).filterMap λx=>(es[x.2]?).map (x.1,·)
def DR(L:v6 m (es.map (·.1)) o us)(i:us.length=es.length):(rR m o es).map (·.1)=(jK m o).map (·.1)/\(rR m o es).map (·.2)=((jK m o).map (·.2)).filterMap λq=>es[q]?:=by
 have a:∀x∈jK m o,∃e,es[x.2]?=some e:=λx d=>by
  obtain⟨h,_⟩:=List.getElem?_eq_some_iff.mp ((kG L (j:=x.1) (q:=x.2)).mp d);exact⟨_,bt ∅⟩
 unfold rR;generalize jK m o=ll at a ⊢;induction ll with
 |nil=>exact⟨rfl,rfl⟩
 |cons x r b=>
  obtain⟨e,he⟩:=a x ap;obtain⟨f,g⟩:=b λy c=>a y (ai _ c);rw[fv];simp only[he,dm,ay,fv];exact⟨by rw[f],by rw[g]⟩
def Op(k:q_ m)(L:v6 m (es.map (·.1)) o us)(d:us.length=es.length):XE m (rR m o es):=by
 have sub:∀x,x∈us->x∈(rR m o es).map (·.1):=λx l=>by
  rw[(DR L d).1];obtain⟨q,c⟩:=List.mem_iff_getElem?.mp l;exact List.mem_map.mpr ⟨(x,q),(kG L).mpr c,rfl⟩
 have get:∀e∈rR m o es,∃q,us[q]?=some e.1/\es[q]?=some e.2:=λe he=>by
  unfold rR at he;obtain⟨⟨j,q⟩,b,a⟩:=List.mem_filterMap.mp he;cases c:es[q]? with
  |none=>simp only[c] at a;cases a
  |some v=>
   simp only[c] at a;cases a;exact⟨q,(kG L).mp b,c⟩
 refine⟨k,λe he=>?_,λe he=>?_⟩
 ·obtain⟨q,b,_⟩:=get e he;exact L.le _ (bR b)
 ·obtain⟨q,b,a⟩:=get e he;obtain⟨n,f,g⟩:=L.way q e.1 e.2.1 b (by rw[aI,a];rfl);exact⟨n,f,λi h=>sub _ (g i h)⟩
def Ft{es:List (Int×ag)}{l:List Nat}(h:l.Perm (bq es.length)):(l.filterMap λq=>es[q]?).Perm es:=by
 refine(h.filterMap _).trans (.of_eq ?_);have e:(bq es.length).map (λi=>es[i]?)=es.map some:=by
  refine mP (by simp) λi a c=>?_;simp only[ah,dG] at a;rw[k8,pq,k8];exact bt a
 have b:(bq es.length).filterMap (λi=>es[i]?)=((bq es.length).map (λi=>es[i]?)).filterMap id:=by rw[iZ];rfl
 rw[b,e,iZ];simp
def Oq{m finger moves:Nat}{led plain:Bool}(c:q_ m)(es:List (Int×ag))(g:es.length<=m):∃t' a ps,pj m finger moves led plain (es.toArray.map (·.1))=some (t',a)/\t'.led=led/\t'.plain=plain/\t'.moves=moves/\HX m ps (a.filterMap λq=>es.toArray[q]?) t'/\XE m ps/\(ps.map (·.2)).Perm es:=by
 obtain⟨o,i,e,L,b⟩:=On c (es.map (·.1)) (by rw[ah];exact g);rw[ah] at b;obtain⟨d,f⟩:=DR L b;have h:((rR m o es).map (·.2)).Perm es:=by
  rw[f];exact Ft (by rw[<- b];exact H_ L)
 refine⟨_,_,rR m o es,by unfold pj;rw[List.map_toArray,e];rfl,rfl,rfl,rfl,?_,Op c L b,h⟩;refine⟨rfl,?_,?_,rfl,?_⟩
 ·rw[d];rfl
 ·rw[f];apply Array.ext';rw[Gy];simp only[mG];rfl
 ·rw[d];exact DQ m o
end ST
namespace L2
open PySem PySem.Spec PyProof.Rows ST
abbrev hT(a:bd)(w:bz)(xs:List Str):Int:=tupleKeyHash (strKind a w) xs
abbrev Sv(a:bd)(w:bz)(h:bP)(x:ak×List Str):Prop:=fZ (strKind a w) h x.2 x.1
def VF(a:bd)(w:bz)(x:ak×List Str):Int×ag:=(hT a w x.2,.ref x.1)
structure MT (Pg:bd) (w:bz) (h:bP) (a:ak) (m:Nat) (ps:List Gv) (es:Array (Int×ag)) (ep:Nat) (t:eR) (acc:List (ak×List Str)):Prop where
 at_:h.get? a=some {cls:=.type "set",dict:=none,data:=.set es ep t}
 tb:HX m ps es t
 wf:XE m ps
 led:t.led=!w.params.followText "set-order"
 pl:es.size=0\/t.plain=false
 few:ps.length*5<m*3
 el:(ps.map (·.2)).Perm (acc.map (VF Pg w))
theorem MT.size(I:MT Pg w h a m ps es ep t acc):es.size=ps.length/\acc.length=ps.length/\t.fits es.size=true/\t.gaveWay=false:=by
 have b:es.size=ps.length:=by rw[I.tb.es];simp
 have c:acc.length=ps.length:=by have:=I.el.length_eq;simpa using this.symm
 refine⟨b,c,?_,?_⟩
 ·unfold k7 pw;rw[I.tb.place,I.tb.dum,I.tb.mask,b];have:=I.few;simp;omega
 ·unfold SetTable.gaveWay;rw[I.tb.mask];rcases I.wf.hm with e|e|e<;>rw[e]<;>rfl
def Ic(n:Nat)(h:Ka v=true):m_ n v=pure false:=by
 cases v with
 |ref a=>simp[Ka] at h
 |_=>first|rfl|simp[m_]|(unfold m_;rfl)
def DS(e:fZ (strKind Pg w) s.heap xs b)(h:Q false s):au (az Pg w) A (m_ 8 (.ref b)) Q E s:=by
 have hT:=e.typeIs;obtain⟨o,items,n,ho,_,g,f⟩:=e;unfold m_;refine a7 (mT hT ?_);show au _ _ (if("tuple" == "tuple")=true then _ else _) _ _ s;rw[if_pos ⋯];refine a7 (a9 ?_);simp only[gQ,bg,if_false];refine a7 (eS ho g ?_);refine a7 ?_;show au _ _ (forIn items _ _) _ _ s;rw[<- oY];refine EB _ (λbA r s'=>r.1=none/\s'=s/\∀v∈bA,Ka v=true) _ ?_ ?_ _ _ ⟨rfl,rfl,f.byValue⟩
 ·rintro v bA r s' ⟨d,rfl,a⟩;rw[Ic _ (a v ap)];refine a7 (a9 ?_);simp only[bg,if_false];exact a9 ⟨rfl,rfl,λu c=>a u (ai _ c)⟩
 ·rintro⟨i,j⟩ s' ⟨d,rfl,_⟩;simp only at d;subst d;exact a9 h
def CI(f:fZ (strKind Pg w) s.heap xs b)(g:∀y∈l,∃q ys,y=.ref q/\fZ (strKind Pg w) s.heap ys q)(h:Q false s):au (az Pg w) A (searchCouldBeSeen (.ref b) l) Q E s:=by
 unfold searchCouldBeSeen;refine a7 ?_;refine EB _ (λbA r s'=>r.1=none/\s'=s/\∀y∈bA,∃q ys,y=.ref q/\fZ (strKind Pg w) s.heap ys q) _ ?_ ?_ _ _ ⟨rfl,rfl,g⟩
 ·rintro v bA r s' ⟨d,rfl,a⟩;obtain⟨q,ys,rfl,e⟩:=a v ap;have tl:∀y∈bA,∃q ys,y=.ref q/\fZ (strKind Pg w) s'.heap ys q:=λu c=>a u (ai _ c);dsimp only;refine Ex ?_;split
  ·exact a9 ⟨rfl,rfl,tl⟩
  ·refine a7 (T_ f ?_);simp only[gQ,bg,if_false];refine a7 (T_ e ?_);simp only[gQ,bg,if_false];refine a7 (DS f ?_);simp only[bg,if_false];refine a7 (DS e ?_);simp only[bg,if_false];exact a9 ⟨rfl,rfl,tl⟩
 ·rintro⟨i,j⟩ s' ⟨d,rfl,_⟩;simp only at d;subst d;exact a9 h
def zr(h:Q true s):au (az Pg w) A (isSame (.ref r) (.ref r)) Q E s:=by
 unfold isSame;show au _ _ (if(r==r)=true then _ else _) _ _ s;rw[if_pos (by simp)];exact a9 h
theorem Ie(I:MT Pg w s.heap a m ps es ep t acc)(u:∀x∈acc,Sv Pg w s.heap x)(X:fZ (strKind Pg w) s.heap xs b)(hu:A.units<eQ)(F:HY m ps (hT Pg w xs) N)
  (q1:xs∈acc.map (·.2)->Q (.there none) s) (q2:xs∉acc.map (·.2)->Q (.free (ZP m (hT Pg w xs) N).j false) s):
  ∀(fuel n:Nat) (d:Option jl),n<=N->N-n<fuel->d.getD (t.probeStart (hT Pg w xs))=ZP m (hT Pg w xs) n->(∀k,k<n->∀q∈ps,q.1=(ZP m (hT Pg w xs) k).j->∀r,q.2.2=.ref r->¬ fZ (strKind Pg w) s.heap xs r) ->
   au (az Pg w) A (NA a (.ref b) (hT Pg w xs) true fuel d) Q E s
 | 0,_,_,_,hf,_,_=>absurd hf (gx _)
 |fuel+1,n,d,hn,hf,Y,K=>by
  obtain⟨sz,la,o,gw⟩:=I.size;unfold NA;refine a7 (bj I.at_ rfl o ?_);dsimp only;rw[gw,Y,if_neg aG];have hA:∀(i:Nat) (e:Gv),ps[i]?=some e->(λi:Nat=>((es[i]?.map (λx:Int×ag=>x.1)).getD 0:Int)) i=e.2.1:=λi e he=>by
   simp only[DO I.tb he];rfl
  have pr:=DP I.tb F hA (10*eZ t.mask) n hn (by have:=F.lt;rw[I.tb.mask];unfold eZ;omega);have tup:∀q∈ps,∃x∈acc,q.2=VF Pg w x:=λq B=>by
   have:=I.el.mem_iff.mp (bi (f:=(·.2)) B);obtain⟨x,h1,U⟩:=List.mem_map.mp this;exact⟨x,h1,U.symm⟩
  split
  ·rename_i a3 g
   rw[show s_ t (λi:Nat=>((es[i]?.map (λx:Int×ag=>x.1)).getD 0:Int)) (hT Pg w xs) (10*eZ t.mask) (ZP m (hT Pg w xs) n)=some a3 from g] at pr;rcases pr with⟨l,H⟩|⟨k,i,x,h1,U,hp,hx1,l,H⟩
   ·cases l;refine a9 (q2 λz=>?_);obtain⟨y,h,T⟩:=List.mem_map.mp z;obtain⟨e,he,ee⟩:=List.mem_map.mp (I.el.mem_iff.mpr (bi (f:=VF Pg w) h));have eh:e.2.1=hT Pg w xs:=by rw[ee,<- T];rfl
    obtain⟨k,k1,k2⟩:=I.wf.before F he eh;by_cases a1:k<n
    ·refine K k a1 e he k2.symm y.1 (by rw[ee];rfl) ?_;rw[<- T];exact u y h
    ·exact H k ∅ k1 e he k2.symm eh
   ·cases l;obtain⟨y,h,T⟩:=tup _ (bR hp);simp only at T;subst T;have P:=DO I.tb hp;simp only at P;have G:∀v∈pz (λx=>x.snd) (Array.filter (λx=>x.fst==hT Pg w xs) es).toList,∃q ys,v=.ref q/\fZ (strKind Pg w) s.heap ys q:=λv hv=>by
     obtain⟨e,he,rfl⟩:=List.mem_map.mp hv;rw[Array.toList_filter] at he;have he:=(List.mem_filter.mp he).1;rw[I.tb.es] at he;obtain⟨p,a0,rfl⟩:=List.mem_map.mp he;obtain⟨z,O,ez⟩:=tup p a0;exact⟨z.1,z.2,by rw[ez];rfl,u z O⟩
    have sl:t.slot (ZP m (hT Pg w xs) k).j=.live i:=by
     rcases I.tb.slot (ZP m (hT Pg w xs) k).j with⟨z,_⟩|⟨i',e',hp',hs'⟩
     ·exact absurd (bi (f:=(·.1)) (bR hp)) z
     ·have:=HZ I.tb.up (i:=i) (j:=i') (a:=(ZP m (hT Pg w xs) k).j) (by rw[aI,hp];rfl) (by rw[aI,hp'];rfl);rw[hs',this]
    have same:t.sameMemory t.moves t.mask=some true:=by unfold SetTable.sameMemory;rw[if_pos (by simp)]
    have bA:∀(Z:Sem SetFound),(y.2≠xs->Z=NA a (.ref b) (hT Pg w xs) true fuel (some (ZP m (hT Pg w xs) (k+1))))->y.2≠xs->au (az Pg w) A Z Q E s:=λZ hZ L=>by
     rw[hZ L];refine Ie I u X hu F q1 q2 fuel (k+1) _ U ∅ rfl λS a4 q B eq r er=>?_;by_cases c1:S<n
     ·exact K S c1 q B eq r er
     ·by_cases c2:S<k
      ·intro O;obtain⟨z,a2,M⟩:=tup q B;rw[M] at er;cases er;have:=(u z a2).inj O;exact H S ∅ c2 q B eq (by rw[M,<- this];rfl)
      ·have:S=k:=by omega
       subst this;have e2:=DN I.tb hp B eq;rw[e2] at er;cases er;intro O;exact L ((u y h).inj O)
    dsimp only;refine Ex ?_;split
    ·refine a7 (CI X G ?_);rw[if_neg aG];rw[P];refine a7 (bY (wpAny_eqBool_tuple hu (u y h) X ?_));refine a7 (bj I.at_ rfl o ?_);by_cases c:y.2=xs
     ·rw[decide_eq_true c,if_pos (show(true&&true)=true from rfl)];exact a9 (q1 (c ▸ bi (f:=(·.2)) h))
     ·rw[decide_eq_false c,if_neg ⋯];dsimp only;rw[same];dsimp only;rw[if_pos rfl,sl];dsimp only;rw[P];refine a7 (zr ?_);refine a7 (a9 ?_);exact bA _ (λ_=>rfl) c
    ·rw[P];refine a7 (bY (wpAny_eqBool_tuple hu (u y h) X ?_));refine a7 (bj I.at_ rfl o ?_);by_cases c:y.2=xs
     ·rw[decide_eq_true c,if_pos (show(true&&true)=true from rfl)];exact a9 (q1 (c ▸ bi (f:=(·.2)) h))
     ·rw[decide_eq_false c,if_neg ⋯];dsimp only;rw[same];dsimp only;rw[if_pos rfl,sl];dsimp only;rw[P];refine a7 (zr ?_);refine a7 (a9 ?_);exact bA _ (λ_=>rfl) c
  ·rename_i g
   exfalso;rcases pr with⟨l,H⟩|⟨k,i,x,h1,U,hp,hx1,l,H⟩
   ·exact g _ l
   ·exact g _ l
def VG(h:(strKind Pg w).is x v=true):∃a,v=.str x a:=by
 cases v with
 |str y a=>
  have:=(strKind Pg w).inj _ _ _ h (ZF Pg w y a);exact⟨a,by rw[this]⟩
 |_=>simp[Eu,qI] at h
def CJ(c:fZ (strKind Pg w) s.heap xs b)(a:xs≠[])(h:Q false s):au (az Pg w) A (Gp 8 (.ref b)) Q E s:=by
 have hT:=c.typeIs;obtain⟨o,items,n,ho,_,g,d⟩:=c;unfold Gp;refine a7 (Gw hT F.slot_tuple_hash.lookup ?_);show au _ _ (Pc (.ref b)>>=_) _ _ s;refine a7 (eS ho g ?_);refine a7 ?_;show au _ _ (forIn items _ _) _ _ s;rw[<- oY];cases xs with
 |nil=>exact absurd rfl a
 |cons x r=>
  generalize items.toList=l at d;cases d with
  | @cons _ v _ j f _=>
   obtain⟨i,rfl⟩:=VG f;rw[jh];have e:Gp 7 (.str x i)=pure false:=by unfold Gp;rfl
   rw[e];refine a7 (a7 (a9 ?_));refine a9 ?_;refine a9 ?_;exact a9 h
def VH(T:HX m ps es t)(a:ps.length<=m):t.fits es.size=true:=by
 unfold k7 pw;rw[T.place,T.dum,T.mask,T.es];simp;exact a
def K_(f:s.heap.get? a=some {cls:=.type "set",dict:=none,data:=.set es ep t})(T:HX m ps es t)(i:ps.length<=m)(x:bK wanted=m' + 1)(k:q_ m')(p:ps.length<=m')
  (h:∀c es' t',HX m' c es' t'->XE m' c->(c.map (·.2)).Perm (ps.map (·.2))->t'.led=t.led->t'.plain=t.plain->Q () {s with heap:=s.heap.update a (jW es' t')}):au (az Pg w) A (K5 a wanted) Q E s:=by
 obtain⟨t',b,c,e,v,o,y,g,u,l⟩:=Oq (finger:=t.finger) (moves:=t.movedTo (bK wanted-1)) (led:=t.led) (plain:=t.plain) k (ps.map (·.2)) (by rw[ah];exact p);rw[<- T.es] at e g;have le:c.length=ps.length:=by have:=l.length_eq;simpa using this
 have sz:es.size=ps.length:=by rw[T.es];simp
 have d:(b.filterMap (λq=>es[q]?)).size=ps.length:=by rw[g.es];simp[le]
 have j:m'<=127:=by rcases k with z|z|z<;>omega
 have n:(128:Nat)<=sizeLine:=by decide
 unfold K5;refine a7 (bj f rfl (VH T i) ?_);show au _ _ (if bK wanted > sizeLine then _ else _) _ _ s;rw[if_neg ∅];refine a7 ?_;unfold zb;rw[show bK wanted-1=m' by omega] at e ⊢;rw[e];show au _ _ (if((b.filterMap (es[·]?)).size != es.size)=true then _ else pure (b.filterMap (es[·]?),_)) _ _ s;rw[if_neg (by rw[d,sz];simp)];refine a9 ?_;exact gM f rfl (h c _ t' g u l v o) (by rw[d];omega)
inductive zY (Pg:bd) (w:bz) (h:bP) (a:ak) (acc:List (ak×List Str)):Prop
 |mk (m:Nat) (ps:List Gv) (es:Array (Int×ag)) (ep:Nat) (t:eR) (I:MT Pg w h a m ps es ep t acc):zY Pg w h a acc
def q17{h:bP}{a:ak}{es es':Array (Int×ag)}{c:Nat}{t t':eR}(b:h.get? a=some {cls:=.type "set",dict:=none,data:=.set es c t}):(h.update a (jW es' t')).get? a=some {cls:=.type "set",dict:=none,data:=.set es' (c+1) t'}:=
 eB (jW es' t') b rfl
def HX.unplain(T:HX m ps es t):HX m ps es {t with plain:=false}:=⟨T.mask,T.place,T.es,T.dum,T.up⟩
def Os{a:ak}{c:List (ak×List Str)}{b:ak}{xs:List Str}{Q:Bool->aq->Prop}(hS:zY Pg w s.heap a c)(hk:∀x∈c,Sv Pg w s.heap x)(hx:fZ (strKind Pg w) s.heap xs b)(L:xs≠[])(hu:A.units<eQ)(hr:c.length<70)
  (h:∀h',bG a s.heap h'->zY Pg w h' a (if xs∈c.map (·.2) then c else c++[(b,xs)])->∀r,Q r {s with heap:=h'}):
  au (az Pg w) A (Cb a (.ref b) (hT Pg w xs)) Q E s:=by
 obtain⟨m,ps,es,G,t,I⟩:=hS
 obtain⟨sz,la,v,gw⟩:=I.size
 have few:=I.few
 obtain⟨N,Fr⟩:=Om I.wf.hm (ps:=ps) (hT Pg w xs) ∅
 unfold Cb setAddHashedIn
 refine bY (a7 (bj I.at_ rfl v ?_))
 dsimp only
 have bs:byScan (.ref b) es=false:=by unfold byScan Value.scannable;rfl
 rw[bs,if_neg aG]
 have X:m<=127:=by rcases I.wf.hm with z|z|z<;>omega
 refine a7 ?_
 unfold setSearch
 refine Ie I hk hx hu Fr (λz=>?_) (λz=>?_) 100000 0 none (cu _) (by have:=Fr.lt;omega) (by show t.probeStart _=_;rw[Si,I.tb.mask];rfl) (λk P=>absurd P (gx _))
 ·exact a9 (h s.heap (.refl ..) (by rw[if_pos z];exact⟨m,ps,es,G,t,I⟩) _)
 ·dsimp only
  refine a7 (bj I.at_ rfl v ?_)
  dsimp only
  rw[if_neg z] at h
  obtain⟨f,y⟩:=Su (x:=.ref b) I.tb I.wf Fr
  have q:(t.put (ZP m (hT Pg w xs) N).j).1.plain=t.plain:=rfl
  have e:(t.put (ZP m (hT Pg w xs) N).j).1.led=t.led:=rfl
  generalize a4:t.put (ZP m (hT Pg w xs) N).j=tp at f y q e ⊢
  obtain⟨O,p⟩:=tp
  dsimp only at f y q e ⊢
  have U:(m5 ps p ((ZP m (hT Pg w xs) N).j,(hT Pg w xs,bh b))).length=ps.length+1:=by
   unfold m5
   rw[aT,aU,<- Nat.add_assoc,<- aT,hJ]
  have i:((m5 ps p ((ZP m (hT Pg w xs) N).j,(hT Pg w xs,bh b))).map (·.2)).Perm ((c++[(b,xs)]).map (VF Pg w)):=by
   have a1:(m5 ps p ((ZP m (hT Pg w xs) N).j,(hT Pg w xs,bh b))).Perm (((ZP m (hT Pg w xs) N).j,(hT Pg w xs,bh b))::ps):=by
    unfold m5
    refine List.perm_middle.trans ?_
    rw[hJ]
   refine(a1.map _).trans ?_
   rw[bF,ay]
   exact((I.el.cons _).trans (Db _ _).symm)
  have u:(lj es p (hT Pg w xs,bh b)).size=ps.length+1:=by rw[f.es];simpa using U
  generalize a0:m5 ps p ((ZP m (hT Pg w xs) N).j,(hT Pg w xs,bh b))=ps1 at f y U i
  generalize a2:lj es p (hT Pg w xs,bh b)=e1 at f u ⊢
  have fin:∀d:eR,HX m ps1 e1 d->d.led=t.led->d.plain=false->au (az Pg w) A (storeSet a e1 d>>=λ_=>(if(!false&&d.tooFull)=true then K5 a (gL (es.size+1))>>=λ_=>pure true else pure true)) Q E s:=λd n ld pl=>by
   refine a7 (gM I.at_ rfl ?_ (by have a3:(128:Nat)<=sizeLine:=⋯;rw[u];omega))
   have l:=q17 (es':=e1) (t':=d) I.at_
   refine Ex ?_
   have tf:d.tooFull=decide ((ps.length+1)*5 ≥ m*3):=by
    unfold SetTable.tooFull pw
    rw[n.place,n.dum,n.mask]
    simp[U]
   split
   ·rename_i g
    rw[tf] at g
    have g:=of_decide_eq_true (by simpa using g:decide ((ps.length+1)*5 ≥ m*3)=true)
    have cs:(m=7/\ps.length=4)\/(m=31/\ps.length=18):=by
     rcases I.wf.hm with z|z|z<;>omega
    have B:∃o,q_ o/\bK (gL (es.size+1))=o + 1/\ps1.length*5<o * 3:=by
     rcases cs with⟨_,z⟩|⟨_,z⟩
     ·refine⟨31,.inr (.inl rfl),?_,by omega⟩
      rw[sz,z];decide
     ·refine⟨127,.inr (.inr rfl),?_,by omega⟩
      rw[sz,z];decide
    obtain⟨o,M,hw,Y⟩:=B
    refine a7 (K_ (s:={s with heap:=s.heap.update a (jW e1 d)}) l n ∅ hw M ∅ λH es' t' T' W' pm K T=>a9 ?_)
    refine h _ ((bB s.heap a _).trans (bB _ a _)) ⟨o,H,es',G+1+1,t',⟨q17 l,T',W',K.trans (ld.trans I.led),.inr (T.trans pl),?_,pm.trans i⟩⟩ _
    have:=pm.length_eq
    simp only[ah] at this
    omega
   ·rename_i g
    rw[tf] at g
    have g:¬ ((ps.length+1)*5 ≥ m*3):=λz=>g (by simpa using z)
    refine a9 (h _ (bB s.heap a _) ⟨m,ps1,e1,G+1,d,⟨l,n,y,ld.trans I.led,.inr pl,by omega,i⟩⟩ _)
  cases S:O.plain with
  |true=>
   rw[if_pos rfl]
   refine a7 (CJ hx L ?_)
   exact fin {O with plain:=false} (L2.HX.unplain f) e rfl
  |false=>
   rw[if_neg aG]
   refine a7 (a9 ?_)
   exact fin O f e S
end L2
namespace L2
end L2
namespace L2
open PySem PySem.Spec PyProof.Rows
def CK(g:zY prog w s.heap a acc)(k:∀x∈acc,Sv prog w s.heap x)(i:fZ (strKind prog w) s.heap xs b)(f:xs≠[])(n:A.units+2<eQ)(j:acc.length<70)
  (h:∀h' d,bG a s.heap h'->zY prog w h' a (if xs∈acc.map (·.2) then acc else acc++[(b,xs)])->Q .none {s with heap:=h',toks:=d}):
  au (az prog w) A (call (.builtin "set.add") [.ref a,.ref b]) Q E s:=by
 have hT:s.TypeIs (.ref a) "set":=by obtain⟨m,ps,es,o,t,I⟩:=id g;exact⟨_,I.at_,rfl⟩
 refine bE F.slot_set_add hT F.entry_set_add ?_ (F.args_set_add_2 _ _);unfold iB.«set.add» uW;simp only[TU,bind_assoc];unfold vH;refine a7 (a9 ?_);try dsimp only
 refine a7 (a9 ?_);try dsimp only
 refine a7 ?_;unfold setAdd;have c:A.in1.units<eQ:=by show A.units+1<eQ;omega
 refine bY (a7 (wpAny_pyHash_tuple c i ?_));refine Os (s:={s with toks:=s.toks+(xs.length+1)}) g k i f c j λh' l e r=>?_;exact a9 ⟨_,rfl,h h' _ l e⟩
def zY.keep(x:zY Pg w h a acc)(k:∀o,h.get? a=some o->h'.get? a=some o):zY Pg w h' a acc:=
 let ⟨m,ps,es,ep,t,I⟩:=x;⟨m,ps,es,ep,t,⟨k _ I.at_,I.tb,I.wf,I.led,I.pl,I.few,I.el⟩⟩
def L3(b:bd)(w:bz)(e:h.get? a=some (gV w)):zY b w h a []:=
 ⟨7,[],#[],0,_,⟨e,⟨rfl,rfl,rfl,rfl,.nil⟩,⟨.inl rfl,(λ_ z=>nomatch z),(λ_ z=>nomatch z)⟩,rfl,.inl rfl,by decide,.nil⟩⟩
def vq(c:bd)(w:bz)(a:ak)(b:List (ak×List Str)):HO:=.ext λh=>zY c w h a b
def Sw(x:zY P w h a acc):c_ P w H h a (vq P w a acc):=
 ⟨x,let ⟨_,_,_,_,_,I⟩:=x;⟨_,I.at_⟩,λ_ _ y k=>y.keep k⟩
def MU{pins σ H s}(I:bQ X pins σ H s)(h:H a=some (.tup (x.map V.str))):fZ (strKind X.prog X.w) s.heap x a:=by
 obtain⟨j,o,b,n,d,e,g,i,ss⟩:=S8 I h;cases d;refine⟨o,b,n,e,g,i,?_⟩;have:∀{b:List ag}{x:List Str},TS.Ss b x->ItemsAre (strKind X.prog X.w) x b:=by
  intro b;induction b with
  |nil=>
   intro x h;cases x with
   |nil=>exact .nil
   |cons _ _=>exact h.elim
  |cons v r c=>
   intro x h;cases x with
   |nil=>exact h.elim
   |cons y ys=>
    obtain⟨⟨t,rfl⟩,f⟩:=h;exact .cons (ZF _ _ y t) (c f)
 exact this ss
def q18(b:bd)(w:bz)(D:ak)(o:Obj)(a:List (ak×List Str)):Prop:=∀h:bP,h.get? D=some o->zY b w h D a
abbrev Sx(d:TE)(e:St)(H:Hp)(a:List (ak×List Str))(m:Nat)(f:Nat->List (ak×List Str)->Hp->Prop):Prop:=d e H λy b=>∃q z c,y=.ref q/\z≠[]/\b q=some (.tup (z.map V.str))/\(∀x∈a,b x.1=some (.tup (x.2.map V.str)))/\c<m/\f c (if z∈a.map (·.2) then a else a++[(q,z)]) b
def Ot(Q:X.A.units+2<eQ)(I:∀d C b a j f,PE (bN X N' scope d C b a j f) elt te):
  Dp X N' scope M (λD o c=>(∀v,o.data≠.cell v)/\q18 X.prog X.w D o c) (λc=>c.length<70) (Sx te) (QI X elt):=by
 intro d C b a j f D pl o c t U G K m V E h2 T _ O hP I7 q7 fin;refine fS (I d C b a j f _ G t U _ I7 q7) λu8 u n=>?_;obtain⟨y,H8,l,r8,q,z,m',H,P,Y,k,hm,q8⟩:=n;obtain⟨pD,pN,_⟩:=l.pin (D,_) (aA _ ap);subst H;cases r8;refine CK (hP.2 _ pD) (λx hx=>show fZ (strKind X.prog X.w) u.heap _ _ from MU (X:=bN X N' scope d C b a j f) l (k x hx)) (show fZ (strKind X.prog X.w) u.heap _ _ from MU (X:=bN X N' scope d C b a j f) l Y) P Q O λh9 a0 s i=>?_;obtain⟨m9,S,N,L,t9,p⟩:=id i;have g:=p.at_;exact fin _ _ H8 _ m' ((l.swap s g (λ_ z=>nomatch z) E h2 T).tok _) ⟨λ_ z=>(nomatch z),λh e=>i.keep λo B=>by rw[g] at B;cases B;exact e⟩ hm q8
def Sy(j:X.A.units+2<eQ)(m:∀k C f g n l,PE (bN X N' scope k C f g n l) elt te):
  Ks X N' scope nt nt ix (.SetComp elt [⟨tg,iter,ifs,0⟩] scope pos) tg ifs (Pt (.type "set")) (vq X.prog X.w) [] (λi=>i.length<70) (Sx te):=
 ⟨_,_,λ_=>QI X elt,λ_=>True,λh=>h.1,rfl,λ_=>⟨λ_ z=>(nomatch z),λ_ e=>L3 X.prog X.w e⟩,λ_ h e=>Sw (h.2 _ e),qt,λ_=>GS (iter:=iter) (λ_ _=>rfl) λa b c d h=>Hf rfl a b c d h,lU,⟨aw _,λ_ _ _=>trivial⟩,λ_=>Ot j m⟩
inductive Sz (Pg:bd) (w:bz) (nt:Nat) (ix:List Nat) (g:TG) (tt:TT) (te:TE) (σ:St) (Q:VK) (J:It) (H1:Hp):Prop
 |mk (W:Nat->Nat->List (ak×List Str)->Hp->Prop) (w0:∃m,W 0 m [] H1) (turn:∀i m acc H,W i m acc H ->
 (J.stop i H/\∀p,H p=none->Q (.ref p) (upd H p (vq Pg w p acc))) \/
 (J.go i H/\acc.length<70/\∀x H',J.yld i H x H'->g x (mH nt ix σ) H' λσ2 H2=>tt σ2 H2 λb H3=>
  if b=true then Sx te σ2 H3 acc m (λm' acc' H4=>W (i+1) m' acc' H4) else ∃m',m'<m/\W (i+1) m' acc H3)):Sz Pg w nt ix g tt te σ Q J H1
def MV(d:bd)(w:bz)(nt:Nat)(ix:List Nat)(e:TI)(g:TG)(c:TT)(b:TE):TE:=λa H Q=>e a H (Sz d w nt ix g c b a Q)
def Ig(L:X.A.units+2<eQ)
  (O:X.calm=true) (S:lZ X scope N' nt ix) (lo:UQ nt g) (P:PI X tg iter wi)
  (t:∀o C j i u p,PG (bN X N' scope o C j i u p) tg g/\Kr (bN X N' scope o C j i u p) ifs tt/\PE (bN X N' scope o C j i u p) elt te)
  (hs:∀x,bS iter X.env x=pure x:=by intro _;rfl):PE X (.SetComp elt [⟨tg,iter,ifs,0⟩] scope pos) (MV X.prog X.w nt ix wi g tt te):=by
 intro k s B H Q I h;obtain⟨o,z,c1,c2⟩:=o7 (scope:=scope) (env:=X.env) λy G U=>I.ok.has y.1 (S.free y G U);show au _ _ (A4 (.SetComp elt [⟨tg,iter,ifs,0⟩] scope pos) scope X.env (Pu [⟨tg,iter,ifs,0⟩] pos) (Pt (.type "set")) (firstAsync [⟨tg,iter,ifs,0⟩]) (firstIter [⟨tg,iter,ifs,0⟩] X.env)) _ _ _;refine iF (use:=none) rfl hs z S.kind S.loc (fS (P k s B H _ I h) λv s1 E=>fS E λM s2 h2=>?_);obtain⟨it,fp,tn,J,H2,e,I2,T,st2,Y,W,K,n⟩:=h2;subst e;refine AD (RR:=λl C=>JU (az X.prog X.w) X.A X.xe none (EP X k B Q) l C) (Sy L λa b c d e f=>(t a b c d e f).2.2) O S lo (λa b c d e f=>⟨(t a b c d e f).1,(t a b c d e f).2.1⟩) c1 c2 I2 T st2 Y K n ?_;intro D C m s' l H' hD _ q hn N;exact⟨m,hn,λh' sb=>⟨.ref D,_,N h' sb,rfl,q⟩⟩
def yG(hc:X.calm=true)(hu:X.A.units+2<eQ):jU X (.builtin "sorted") (λxs H Q=>∃p a,xs=[.ref p]/\H p=some (vq X.prog X.w p a)/\xX H (a.map (·.1)) (a.map (·.2))/\(a.map (·.2)).Nodup/\a.length<64/\∀l bs,H l=none->xX H bs (kn (a.map (·.2)))->Q (.ref l) (upd H l (.lst (bs.map V.ref)))):=by
 intro a0 s σ H xs T Q I r h;obtain⟨p,a,rfl,hq,y,hn,Y,q⟩:=h;obtain⟨u,rfl,rx⟩:=lB r;cases rx;have hh:=I.ok.hd hc;obtain⟨⟨m,ps,es,ep,t,S⟩,_⟩:=(show c_ X.prog X.w H s.heap p (vq X.prog X.w p a) from I.hok p _ hq);obtain⟨n,la,E,gw⟩:=S.size;have SA:lT X.w s.heap p es ep t:=⟨S.at_,by rw[n,<- la];exact iq Y ⋯,E,S.led,S.pl⟩;refine TS.sorted_T hu (wT (by simpa using hh) SA λj h' d tk po kp sz=>?_);have c:j.Perm ((a.map (·.1)).map bh):=by
  refine po.trans ?_;rw[S.tb.es];refine(S.el.map (·.2)).trans (.of_eq ?_);rw[cb,cb];rfl
 obtain⟨as,rfl,M⟩:=yE c;obtain⟨ys,t9,U⟩:=(Bh I y).perm c;have i:∀v x,TS.Tk s.heap v x->TS.Tk h' v x:=λv x ⟨b,o,T,m,e0,e1,e2⟩=>⟨b,o,T,m,e0,kp b o e1,e2⟩;have f:as.length=a.length:=by rw[M.length_eq,ah]
 refine⟨ys,t9.keep i,U.nodup_iff.2 hn,by rw[ah,f];exact Y,λk a1 zs e G K L t2 p3 up=>?_⟩;obtain⟨bs,rfl,P⟩:=yE L;obtain rfl:=HN hn (p3.trans U) up;obtain⟨ws,g,_⟩:=(Bh I y).perm (L.trans c);have:=(g.keep i).inj t2;subst this;have O:∀b o,s.heap.get? b=some o->k.get? b=some o:=λb o e=>G b o (kp b o e);have B:c_ X.prog X.w (upd H h'.objs.size (.lst (bs.map V.ref))) k h'.objs.size (.lst (bs.map V.ref)):=
  ⟨by rw[ah,P.length_eq,f];rw[hW];omega,bs.map bh,e,yD bs,K⟩
 have N:=I.hok.fresh sz;exact⟨.ref h'.objs.size,_,I.call' (s':={s with heap:=k,drawn:=d,toks:=tk}) (ch:=[]) rfl (Un.laid O sz N) (I.hok.laid O sz B) I.bare (λb z=>absurd z (by simp)),rfl,q _ bs N (S9 I y (λb hb=>M.mem_iff.1 (P.mem_iff.1 hb)) g)⟩
end L2
namespace J
open PySem L2
section
open PyProof.Rows (envOfC)
section
variable{c:C}{e a b d:bC}{g ga gb gc:aE->R D}{pos p cpos:Pos}{x:Str}
def kU:List (List Str)->List (List Str)->List (List Str)
 |acc,[]=>acc
 |acc,x::r=>kU (if x∈acc then acc else acc++[x]) r
theorem Bv(z:List Str):∀(l f:List (List Str)),kU f (l++[z])=if z∈kU f l then kU f l else kU f l++[z]
 |[],f=>rfl
 |x::l,f=>by
  show kU _ (l++[z])=_;rw[Bv z l];rfl
theorem rT:∀(l f:List (List Str)),(kU f l).length<=f.length+l.length
 |[],f=>by simp[kU]
 |y::r,f=>by
  rw[kU];have:=rT r (if y∈f then f else f++[y]);by_cases h:y∈f
  ·rw[if_pos h] at this ⊢;simp only[aU];omega
  ·rw[if_neg h] at this ⊢;simp only[aU,aT,eA,cD] at this ⊢;omega
theorem DT:∀(l f:List (List Str)) (x:List Str),x∈kU f l↔x∈f\/x∈l
 |[],f,x=>by simp[kU]
 |y::r,f,x=>by
  rw[kU,DT r];by_cases h:y∈f
  ·rw[if_pos h];simp only[aW];constructor
   ·exact λz=>z.elim .inl λz=>.inr (.inr z)
   ·rintro (z|z|z)
    ·exact .inl z
    ·exact .inl (z ▸ h)
    ·exact .inr z
  ·rw[if_neg h];simp[dz,or_assoc]
theorem zt:∀(l f:List (List Str)),f.Nodup->(kU f l).Nodup
 |[],f,h=>h
 |y::r,f,h=>by
  rw[kU];refine zt r _ ?_;by_cases i:y∈f
  ·rw[if_pos i];exact h
  ·rw[if_neg i,zc];exact⟨h,by simp,λa k b j e=>i (by rw[df] at j;rw[<- j,<- e];exact k)⟩
inductive XF (K:a8) (Pg:bd) (w:bz) (cls:Str->ak) (E:XK) (ρ:aE) (r:R (List (List Str))) (σ:St) (H:Hp) (Q:VK):Prop
 |mk (H0 Hs0:Hp) (la:Nat->Option ak) (Hs:Hp) (f:Fr K H0 Hs0 la ρ σ H Hs) (q:Fin K cls E H Hs r λts=>∀p acc H' Hs',cQ H Hs H' Hs'->H' p=none->acc.map (·.2)=ts->xX Hs' (acc.map (·.1)) (acc.map (·.2))->Q (.ref p) (upd H' p (vq Pg w p acc))):XF K Pg w cls E ρ r σ H Q
def VI(K:a8)(f:bd)(w:bz)(cls:Str->ak)(E:XK)(ρ:aE)(r:R (List (List Str))):TE:=XF K f w cls E ρ r
structure VJ (c:C) (e:bC) (g:aE->R (List (List Str))):Prop where of ::
 run:∀ ρ,PE c.X e (VI c.X.K c.X.prog c.X.w c.cls c.E ρ (g ρ))
instance{c:C}{e:bC}{g:aE->R (List (List Str))}:CoeFun (VJ c e g) (λ_=>∀ ρ,PE c.X e (VI c.X.K c.X.prog c.X.w c.cls c.E ρ (g ρ))):=⟨VJ.run⟩
theorem Ze{K:a8}{y:bd}{w:bz}{cls:Str->ak}{E:XK}{ρ:aE}{r:R (List (List Str))}{v:Type}{k:List (List Str)->R v}{o:St}{H:Hp}{u l Hs:Hp}{la:Nat->Option ak}{Q:V->Hp->Prop}{q:v->Prop}(f:Fr K u l la ρ o H Hs)
  (h:Fin K cls E H Hs (r.bind k) q) (m:∀p i H' j,r=.ok (i.map (·.2))->cQ H Hs H' j->Fr K u l la ρ o H' j->H' p=none->xX j (i.map (·.1)) (i.map (·.2))->Q (.ref p) (upd H' p (vq y w p i))):VI K y w cls E ρ r o H Q:=by
 refine⟨u,l,la,Hs,f,?_⟩;cases r with
 |ok d=>exact λp i H' j s n e t=>by subst e;exact m p i H' j rfl s (f.step s) n t
 |ex c n=>exact h
 |no=>exact h
variable{gset:aE->R (List (List Str))}
def nT(g:aE->R (List (List Str))):aE->R D:=λρ=>(g ρ).bind λf=>if f.Nodup/\f.length<64 then .ok (.list ((kn f).map tX)) else .no
def Ih(v:c.X.calm=true)(M:c.X.A.units+64<eQ)(h:VJ c e gset)(I:Gl c.X "sorted")(z:c.X.mg "sorted"=none)(he:aF [e] c.X.env=(false,eu e c.X.env)::aF [] c.X.env:=by rfl):
  JE c (.Call (.Name "sorted" p) [e] [] cpos) (nT gset):=.of λρ=>by
 refine sK (o6 (yG v ∅) I z g_ (cE (h ρ) f_ he) (he:=he)) λN H Q s=>?_;obtain⟨O,L,la,Hs,f,q⟩:=s;dsimp only[L2.ZE,L2.GD,L2.Q3];refine Ze (w:=c.X.w) f q λp i n k E s1 B y G=>?_;unfold nT at q;rw[E,bind_ok] at q;by_cases o:(i.map (·.2)).Nodup/\(i.map (·.2)).length<64
 ·rw[if_pos o] at q;have j:cQ n k (upd n p (vq c.X.prog c.X.w p i)) k:=.mine B.st.sub y;refine⟨p,i,rfl,aX,pJ j.sub G,o.1,by simpa using o.2,λl bs u tb=>?_⟩;obtain⟨m,st,r⟩:=vU (K:=c.X.K) tb j.sub;have t:cQ (upd n p (vq c.X.prog c.X.w p i)) m (upd (upd n p (vq c.X.prog c.X.w p i)) l (.lst (bs.map V.ref))) (upd m l (.lst (bs.map V.ref))):=.new st.sub u;exact q _ _ _ (s1.trans (j.trans (st.trans t))) (.list (.inl (.of aX)) (r.same t.sh))
 ·rw[if_neg o] at q;exact q.elim
variable{elt iter tg:bC}{ifs:List bC}{scope:eP}{N':List Str}{nt:Nat}{ix:List Nat}{gi:aE->R (List D)}{gt:aE->R Bool}{ge:aE->R D}
def uz(nt:Nat)(ix:List Nat)(gi:aE->R (List D))(gt:aE->R Bool)(ge:aE->R D):aE->R (List (List Str)):=λρ=>(gi ρ).bind λds=>if ds.length<=60 then(fY (iX nt (l9 nt ix ρ) gt ge) ds).bind λys=>match jy ys with
 |some f=>if []∈f then .no else .ok (kU [] f)
 |none=>.no else .no
theorem vt:∀{xs:List D}{ss:List (List Str)},jy (xs++ys)=some ss->∃s1 i,jy xs=some s1/\jy ys=some i/\ss=s1++i
 |[],ss,h=>⟨[],ss,rfl,h,rfl⟩
 |d::r,ss,h=>by
  cases d with
  |tuple j=>
   have h:(fc j).bind (λy=>(jy (r++ys)).map (y::·))=some ss:=h;cases f:fc j with
   |none=>rw[f] at h;cases h
   |some y=>
    cases k:jy (r++ys) with
    |none=>rw[f,k] at h;cases h
    |some z=>
     rw[f,k] at h;cases h;obtain⟨s1,i,l,m,rfl⟩:=vt k;exact⟨y::s1,i,by show(fc j).bind (λy=>(jy r).map (y::·))=_;rw[f,l];rfl,m,rfl⟩
  |_=>cases h
theorem MW{H:Hp}{a:ak}{x:List Str}(h:H a=some (.tup (x.map V.str))):∀{f:List ak}{xs:List (List Str)},xX H f xs->xX H (f++[a]) (xs++[x])
 |[],[],_=>⟨h,trivial⟩
 |_::_,_::_,t=>⟨t.1,MW h t.2⟩
 |[],_::_,t=>t.elim
 |_::_,[],t=>t.elim
theorem MX:∀{f:List (ak×List Str)},xX H (f.map (·.1)) (f.map (·.2))->∀x∈f,H x.1=some (.tup (x.2.map V.str))
 |[],_,_,hx=>nomatch hx
 |a::f,t,x,hx=>by
  rcases List.mem_cons.mp hx with rfl|hx
  ·exact t.1
  ·exact MX t.2 x hx
inductive q19 (f:D->R (Option D)) (ds:List D) (ss:List (List Str)) (H1 Hs1:Hp) (i m:Nat) (acc:List (ak×List Str)) (H':Hp):Prop
 |mk (done bA zs sa sz Hs':_) (h0:ds=done++bA) (h1:done.length=i) (h2:bA.length=m) (h3:cQ H1 Hs1 H' Hs') (h4:acc.map (·.2)=kU [] sa) (h4':xX Hs' (acc.map (·.1)) (acc.map (·.2))) (h5:sa.length<=i) (h6:fY f bA=.ok zs) (h7:jy zs=some sz) (h8:ss=sa++sz):q19 f ds ss H1 Hs1 i m acc H'
theorem SB(a5:nt=1\/nt=2)
  (q:VI K Pg w cls E ρ (uz nt ix gi gt ge ρ) X H Q):
  MV Pg w nt ix (YD K cls E ρ (gi ρ)) (Fc K nt) (λX H Q=>∃ ρ',Hg K cls E0 ρ' (gt ρ') X H Q) (λX H Q=>∃ ρ',TR K cls E0 ρ' (ge ρ') X H Q) X H Q:=by
 obtain⟨H0,c0,la,Hs,f,q⟩:=q;refine⟨H0,c0,la,Hs,f,?_⟩;unfold uz at q;cases hi:gi ρ with
 |no=>rw[hi] at q;exact q
 |ex x n=>rw[hi] at q;exact q
 |ok ds=>
  rw[hi,bind_ok] at q;intro J H1 O Hn s1 sn it;by_cases hl:ds.length<=60
  ·rw[if_pos hl] at q;cases hm:fY (iX nt (l9 nt ix ρ) gt ge) ds with
   |no=>rw[hm] at q;exact q.elim
   |ex x n=>exact(xj (AW _ _ _ _) _ _ _ hm).elim
   |ok ys=>
    rw[hm,bind_ok] at q;cases hs:jy ys with
    |none=>rw[hs] at q;exact q.elim
    |some ss=>
     rw[hs] at q;dsimp only at q;by_cases B:[]∈ss
     ·rw[if_pos B] at q;exact q.elim
     ·rw[if_neg B] at q;obtain⟨lb,fb⟩:=(f.step s1).block nt ix;refine⟨q19 (iX nt (l9 nt ix ρ) gt ge) ds ss H1 O,
       ⟨ds.length,[],ds,ys,[],ss,O,rfl,rfl,rfl,.refl s1.sub,rfl,trivial,cu _,hm,hs,rfl⟩,?_⟩
      rintro i m s H' ⟨done,bA,zs,G,sz,P,k,u,S,st,j,t,yl,hz,a0,T⟩;obtain⟨b8,A,U⟩:=it H' P (sn.trans st.all) st.sh st.sub;cases bA with
      |nil=>
       left;cases hz;cases a0;rw[ck] at k T;subst T k;exact⟨A i ∅,λp hp=>q p s H' P (s1.trans st) hp j t⟩
      |cons d bA=>
       right;have a1:i<ds.length:=by rw[k,aT,aU];omega
       have a3:=rT G [];simp at a3;have c1:s.length=(kU [] G).length:=by rw[<- j,ah]
       refine⟨b8 i a1,by omega,λx H2 b7=>?_⟩;obtain⟨d',a6,hd,s2,r2⟩:=U i x H2 a1 b7;have a4:d'=d:=by
        rw[k,aV ∅] at hd;simp[u] at hd;exact hd.symm
       subst a4;obtain⟨o,Y,h,a2,rfl⟩:=rN hz;have h:=xg h;obtain⟨so,M,I,hsz,rfl⟩:=vt a0;cases hb:X8 nt d' (l9 nt ix ρ) with
       |no=>rw[hb] at h;cases h
       |ex x n=>rw[hb] at h;cases h
       |ok ρ'=>
        rw[hb,bind_ok] at h;refine xi a5 ((fb.step st).step s2) r2 hb λc3 f2=>⟨ρ',?_⟩;refine⟨_,_,_,a6,f2,?_⟩;cases ht:gt ρ' with
        |no=>rw[ht] at h;cases h
        |ex x n=>rw[ht] at h;cases h
        |ok b=>
         rw[ht,bind_ok] at h;intro H3 N s3;cases b with
         |false=>
          rw[if_neg aG] at h;cases h;cases I;refine wP ⟨bA.length,by rw[<- S];simp,done++[d'],bA,Y,G,M,N,by rw[k];simp,by simp[u],rfl,(st.trans s2).trans s3,j,pJ s3.sh (pJ s2.sh t),by omega,a2,hsz,by simpa using T⟩
         |true=>
          rw[if_pos rfl] at h;refine zP ⟨ρ',_,_,_,N,f2.step s3,?_⟩;cases he:ge ρ' with
          |no=>rw[he] at h;cases h
          |ex x n=>rw[he] at h;cases h
          |ok y=>
           rw[he,bind_ok] at h;cases h;intro v H4 L s4 r4;have l:xX L (s.map (·.1)) (s.map (·.2)):=pJ s4.sh (pJ s3.sh (pJ s2.sh t));have st4:=((st.trans s2).trans s3).trans s4;have ho:=pI I;cases so with
           |nil=>cases ho
           |cons z so=>
            cases so with
            |cons _ _=>cases ho
            |nil=>
             have ho:[y]=[tX z]:=ho;cases ho;cases r4 with
             | @tuple a ys _ qa ra=>
              rw[jJ ra] at qa;have b0:z≠[]:=λe=>B (by rw[T,e];simp);refine⟨a,z,bA.length,rfl,b0,st4.sub _ _ qa,λx hx=>st4.sub _ _ (MX l x hx),by rw[<- S];simp,done++[d'],bA,Y,G++[z],M,L,by rw[k];simp,by simp[u],rfl,st4,?_,?_,by simp;omega,a2,hsz,by rw[T];simp⟩
              ·rw[Bv z G [],<- j];split
               ·rfl
               ·rw[bF];rfl
              ·split
               ·exact l
               ·rw[bF,bF];exact MW qa l
  ·rw[if_neg hl] at q;exact q.elim
def Ou(nt:Nat)(f:nt=1\/nt=2)(h:c.X.calm=true)(k:c.X.A.units+64<eQ)(S:lZ c.X scope N' nt ix)(i:JI c tg iter gi)(j:ut c N' scope nt tg ifs elt gt ge)(hs:∀x,bS iter c.X.env x=pure x:=by intro _;rfl):
  VJ c (.SetComp elt [⟨tg,iter,ifs,0⟩] scope pos) (uz nt ix gi gt ge):=.of λρ=>sK (Ig ∅ h S (xh f) (i ρ) j.at hs) λl H Q q=>SB f q
end
end
end J
namespace L2
open PySem PySem.Spec PyProof.Rows
end L2
namespace L2
open PySem PySem.Spec PyProof.Rows
def Fv(ho:s.heap.get? a=some o)(j:o.cls=.type "tuple")(m:o.data=.seq items n)(i:items.size<=sizeLine)
  (q:∀h',(∀b o',s.heap.get? b=some o'->h'.get? b=some o')->s.heap.objs.size<=h'.objs.size->Q items.toList {s with heap:=h'}):au (az prog w) A (vE (.ref a)) Q E s:=by
 unfold vE;refine a7 (y9 (eX vF ?_));rw[dM vG _];refine a7 (bu ?_);refine a9 ⟨oQ jQ _,eX Au ?_⟩;rw[dM jQ _];have c:(s.heap.push {cls:=.type "list",data:=.seq ([]:List ag).toArray}).get? s.heap.objs.size=some {cls:=.type "list",data:=.seq #[] 0}:=aD _ rfl;have d:=eB (fN (·++items)) c rfl;have fin:au (az prog w) A (match bh s.heap.objs.size with | .ref a=>(do let o <- load a;match o.data with | .seq xs _=>pure xs.toList|_=>oV "internal:collect")|_=>oV "internal:collect") Q E {s with heap:=(s.heap.push {cls:=.type "list",data:=.seq ([]:List ag).toArray}).update s.heap.objs.size (fN (·++items))}:=by
  show au _ A (load s.heap.objs.size>>=_) _ _ _;refine a7 (Jx d (a9 ?_));show Q ((#[]:Array ag)++items).toList _;rw[show((#[]:Array ag)++items).toList=items.toList by simp];refine q _ (λb o' g=>(fo _ _ (dZ (av g))).trans (af _ g)) ?_;rw[sI,cF];exact ir _
 show au _ A.in1 (iH (.ref s.heap.objs.size) (.ref a) (.ref s.heap.objs.size)) _ _ _;refine cn (wpAny_extend_seq (hsz:=i) (A:=A) (R:=λr s'=>r=.ok (.ret (.ref s.heap.objs.size))/\s'={s with heap:=(s.heap.push {cls:=.type "list",data:=.seq ([]:List ag).toArray}).update s.heap.objs.size (fN (·++items))})
  (s:={s with heap:=s.heap.push {cls:=.type "list",data:=.seq ([]:List ag).toArray}}) _ a _ 0 (.inr rfl) c (af _ ho) j m ⟨rfl,rfl⟩) (λf s' h=>?_) (λe s' h=>absurd h.1 (by simp))
 cases f with
 |done f=>
  obtain⟨e,rfl⟩:=h;cases e;exact fin
 |again p=>exact⟨h.1,k_ h.2 λr l k=>by obtain⟨rfl,rfl⟩:=k;exact fin⟩
def yH:jU X (.builtin "sorted") (λxs H Q=>∃p ss,xs=[.ref p]/\lY X.K H p (ss.map V.str)/\ss.length<64/\∀l,H l=none->Q (.ref l) (upd H l (.lst ((iW ss).map V.str)))):=by
 intro m s P H xs S Q I r h;obtain⟨p,ss,rfl,B,k,q⟩:=h;obtain⟨u,rfl,x⟩:=lB r;cases x;obtain⟨E,L,⟨o,v,a,n,A⟩,O⟩:=I.tuple B;have j:=jI L;have t:=fO j;refine zf (Fv v a A (by rw[aM,t,hW];omega) λh' kp sz=>?_);refine⟨ss,by simpa using j,by simpa[t] using k,λa c M e d f g y G=>?_⟩;have z:∀b o,s.heap.get? b=some o->a.get? b=some o:=λb o e=>d b o (kp b o e);obtain rfl:=AE y G;have N:=I.hok.fresh sz;have i:c_ X.prog X.w (upd H h'.objs.size (.lst ((iW ss).map V.str))) a h'.objs.size (.lst ((iW ss).map V.str)):=
  ⟨by rw[ah,(gR ss).length_eq];exact cH (bL k) (by rw[hW];decide),c,e,nr g,f⟩
 exact⟨.ref h'.objs.size,_,I.laid (t':=s.toks) z sz i,rfl,q _ N⟩
end L2
namespace J
open PySem L2
def uA:D->R D
 |.tuple ds=>match fc ds with
  |some ss=>if ss.length<64 then .ok (.list ((iW ss).map .str)) else .no
  |none=>.no
 |_=>.no
def L5:O4 X (.builtin "sorted") (il uA):=by
 refine tQ (λd c n=>?_) λe s m H x u Q Hs d d' I o sub i b q=>?_
 ·unfold uA;split<;>(try split)<;>(try split)<;>exact λh=>by cases h
 ·unfold uA at b;split at b
  ·split at b
   ·split at b
    ·rename_i ss hs k
     cases b;obtain⟨a,p,rfl,f,g,_⟩:=i.tuple sub;rw[mI hs] at g;rw[jJ g] at f;exact yH e s m H _ _ Q I (.cons o .nil) ⟨a,ss,rfl,f,k,λl j=>q _ _ _ (.new sub j) (.list (.of aX) (tK _))⟩
    ·cases b
   ·cases b
  ·cases b
end J
namespace L2
open PySem PySem.Spec PyProof.Rows
end L2
namespace Z
open PySem L2 J
def Pl(y:Str):Option Nat:=if y="NoPaper" then some 6 else none
def lG:aE->R Fl:=(cZ (w_ (c7 (aa (cA 1 [1] (gG (rB 0)) kT (g2 (rB 0) (rB 1) (sS false))) aC) (il (f9 λbs=>bs.any id)))))
def eE:List D->R D:=gK 2 lG
def uB:aE->R Fl:=(cZ (c7 (aa (cA 1 [1] (gG (rB 0)) (ej (g2 (rB 0) (rB 1) (sS true))) (rS 0)) aC) (il hU)))
def nU:List D->R D:=gK 2 uB
def xt:aE->R Fl:=(cZ (c7 (aa (oo (RW (tV (rB 0)) (tV (rB 1)))) aC) (il hU)))
def xu:List D->R D:=gK 2 xt
def uC:aE->R Fl:=(a_ (eC (zT (i5 (ej (oh (rB 0) "str"))) (i5 (ej (tO (kI 1) (c7 (aa (rB 0) aC) (il n5)) (kI 6) X2 X2)))) (cZ (kB false)) (λρ=>.ok (.nx ρ))) (cZ (c7 (aa (cA 1 [] (gG (rB 0)) kT (tO (λ_=>.ok (.str "a")) (rB 0) (λ_=>.ok (.str "z")) X2 X2)) aC) (il (f9 λbs=>bs.all id)))))
def r9:List D->R D:=gK 1 uC
def iO:aE->R Fl:=(a_ (eC (zT (i5 (ej (oh (rB 0) "tuple"))) (i5 (ej (c7 (aa (cA 1 [] (gG (rB 0)) kT (dN 1 r9 (aa (rS 0) aC))) aC) (il (f9 λbs=>bs.all id)))))) (cZ (kB false)) (λρ=>.ok (.nx ρ))) (cZ (c7 (aa (cA 2 [] (V8 (aa (rS 0) (aa (Gu (rB 0) (F8 (kI 1)) Jr) aC))) kT (g2 (rB 0) (rB 1) KG)) aC) (il (f9 λbs=>bs.all id)))))
def gT:List D->R D:=gK 1 iO
def pO:aE->R Fl:=(cZ (pC (dN 1 gT (aa (rS 1) aC)) (c7 (aa (cA 1 [0] (gG (rB 1)) kT (g2 (rB 0) (rB 1) (sS false))) aC) (il (f9 λbs=>bs.all id)))))
def kW:List D->R D:=gK 2 pO
def rV:aE->R Fl:=(a_ (eC (zT (i5 (ej (oh (rB 0) "int"))) (ej (oh (rB 0) "bool"))) (cZ (kB false)) (λρ=>.ok (.nx ρ))) (cZ (tO (rB 1) (rB 0) (rB 2) X2 X2)))
def rW:List D->R D:=gK 3 rV
def pP:aE->R Fl:=(a_ (eC (zT (i5 (ej (oh (rB 1) "tuple"))) (ej (g2 (c7 (aa (rB 1) aC) (il n5)) (kI 6) (nh true)))) (cZ (kB false)) (λρ=>.ok (.nx ρ))) (a_ (zV (rS 1) (pd 6 (cW (cr 2) (cW (cr 3) (cW (cr 4) (cW (cr 5) (cW (cr 6) (cW (cr 7) qX)))))))) (a_ (eC (zT (i5 (ej (dN 1 r9 (aa (rS 2) aC)))) (i5 (ej (dN 3 rW (aa (rS 7) (aa (kI 0) (aa (kI 9) aC))))))) (cZ (kB false)) (λρ=>.ok (.nx ρ))) (a_ (eC (i5 (ej (c7 (aa (cA 1 [0] (gG (de (aa (rS 3) (aa (rS 4) (aa (rS 5) (aa (rS 6) aC)))) .tuple)) kT (dN 2 kW (aa (rS 1) (aa (rS 0) aC)))) aC) (il (f9 λbs=>bs.all id))))) (cZ (kB false)) (λρ=>.ok (.nx ρ))) (cZ (pC (dN 2 eE (aa (rS 3) (aa (rS 4) aC))) (dN 2 eE (aa (rS 5) (aa (rS 6) aC)))))))))
def pQ:List D->R D:=gK 8 pP
def uD:aE->R Fl:=(a_ (eC (zT (i5 (ej (oh (rB 0) "tuple"))) (ej (g2 (c7 (aa (rB 0) aC) (il n5)) (kI 2) (nh true)))) (cZ (kB false)) (λρ=>.ok (.nx ρ))) (a_ (zV (rS 0) (pd 2 (cW (cr 1) (cW (cr 2) qX)))) (a_ (eC (zT (i5 (ej (dN 1 gT (aa (rS 1) aC)))) (ej (g2 (c7 (aa (rB 1) aC) (il n5)) (kI 6) X3))) (cZ (kB false)) (λρ=>.ok (.nx ρ))) (a_ (eC (zT (i5 (ej (oh (rB 2) "tuple"))) (ej (g2 (c7 (aa (rB 2) aC) (il n5)) (kI 6) X3))) (cZ (kB false)) (λρ=>.ok (.nx ρ))) (a_ (eC (i5 (ej (c7 (aa (cA 1 [1] (gG (rB 2)) kT (dN 2 pQ (aa (rS 1) (aa (rS 0) aC)))) aC) (il (f9 λbs=>bs.all id))))) (cZ (kB false)) (λρ=>.ok (.nx ρ))) (cZ (g2 (xl (yz 1 [] (gG (rB 2)) kT (g2 (rB 0) (kI 0) bc))) (c7 (aa (rB 2) aC) (il n5)) (nh false))))))))
def uE:List D->R D:=gK 3 uD
def mq:aE->R Fl:=(eC (i5 (ej (dN 2 kW (aa (g2 (rB 0) (kI 0) bc) (aa (rS 1) aC))))) (λ_=>.no) (λρ=>.ok (.nx ρ)))
def ms:List D->R D:=gK 2 mq
def uF:aE->R Fl:=(a_ (zV (rS 1) (pd 2 (cW (cr 2) (cW (cr 3) qX)))) (cZ (pC (c7 (aa (cA 1 [0] (gG (rB 2)) kT (g2 (rB 0) (rB 1) (sS false))) aC) (il (f9 λbs=>bs.all id))) (dN 2 eE (aa (rS 3) (aa (rS 0) aC))))))
def uG:List D->R D:=gK 4 uF
def pR:aE->R Fl:=(cZ (dN 2 uG (aa (rS 1) (aa (de (aa (g2 (rB 0) (kI 1) bc) (aa (g2 (rB 0) (kI 2) bc) aC)) .tuple) aC))))
def pS:List D->R D:=gK 2 pR
def lH:aE->R Fl:=(a_ (RX 2 3 (aa (g2 (rB 0) (kI 3) bc) (aa (g2 (rB 0) (kI 4) bc) aC))) (cZ (dN 2 xu (aa (dN 2 nU (aa (rS 1) (aa (rS 3) aC))) (aa (rS 2) aC)))))
def lI:List D->R D:=gK 4 lH
def uH:aE->R Fl:=(a_ (eC (i5 (ej (dN 1 uE (aa (rS 0) aC)))) (λ_=>.no) (λρ=>.ok (.nx ρ))) (cZ (rS 0)))
def uI:List D->R D:=gK 1 uH
def mx:aE->R Fl:=(a_ (qW (dN 1 uI (aa (rS 0) aC))) (qW (dN 2 ms (aa (rS 0) (aa (rS 1) aC)))))
def cX:List D->R D:=gK 2 mx
def pT:aE->R Fl:=(cZ (yF 2 [0] (CF (aa (rS 0) aC)) kT (gG (Gu (rB 3) (F8 (rS 0)) Jr)) kT (de (aa (rS 1) (aa (rS 2) aC)) .tuple)))
def iC:List D->R D:=gK 1 pT
def pU:aE->R Fl:=(cZ (pC (g2 (g2 (rB 0) (kI 0) bc) (rB 1) (sS false)) (g2 (g2 (rB 0) (kI 1) bc) (rB 1) (sS false))))
def fP:List D->R D:=gK 2 pU
def xv:aE->R Fl:=(a_ (zV (Gu (rB 0) (F8 (kI 1)) (F8 (kI 5))) (pd 4 (cW (cr 3) (cW (cr 4) (cW (cr 5) (cW (cr 6) qX)))))) (a_ (iu 7 (dN 2 nU (aa (rS 1) (aa (rS 5) aC)))) (a_ (eC (zT (ej (g2 (c7 (aa (rB 7) aC) (il n5)) (kI 2) (nh false))) (zT (i5 (ej (dN 2 eE (aa (rS 1) (aa (rS 6) aC))))) (i5 (ej (dN 2 eE (aa (rS 7) (aa (rS 4) aC))))))) (cZ (kB false)) (λρ=>.ok (.nx ρ))) (a_ (iu 8 (g2 (rB 3) (rB 7) dU)) (cZ (w_ (c7 (aa (cA 1 [8] (gG (rB 2)) kT (dN 2 fP (aa (rS 0) (aa (rS 1) aC)))) aC) (il (f9 λbs=>bs.any id)))))))))
def xw:List D->R D:=gK 9 xv
def nw:aE->R Fl:=(cZ (c7 (aa (cA 1 [1,2] (gG (g2 (rB 0) (kI 1) bc)) kT (dN 3 xw (aa (rS 0) (aa (rS 1) (aa (rS 2) aC))))) aC) (il (f9 λbs=>bs.any id))))
def eF:List D->R D:=gK 3 nw
def uJ:aE->R Fl:=(a_ (eC (zT (i5 (ej (oh (rB 1) "tuple"))) (ej (g2 (c7 (aa (rB 1) aC) (il n5)) (kI 2) (nh true)))) (cZ (kB false)) (λρ=>.ok (.nx ρ))) (cZ (c7 (aa (cA 1 [0] (gG (rB 1)) kT (pC (oh (rB 0) "str") (g2 (rB 0) (g2 (rB 1) (kI 0) bc) (sS false)))) aC) (il (f9 λbs=>bs.all id)))))
def j4:List D->R D:=gK 2 uJ
def Ae:aE->R Fl:=(a_ (qW (dN 2 cX (aa (rS 0) (aa (rS 1) aC)))) (a_ (fF 2 (cA 1 [1] (gG (dN 1 iC (aa (g2 (rB 0) (kI 0) bc) aC))) (i5 (ej (dN 2 fP (aa (rS 0) (aa (rS 1) aC))))) (rS 0))) (a_ (Fh 2 (fF 3 (cA 1 [0,2] (gG (rB 2)) (i5 (ej (dN 3 eF (aa (rS 1) (aa (rS 0) (aa (rS 2) aC)))))) (rS 0)))) (a_ (iM (ej (g2 (rB 3) (rB 2) (nh true))) (a_ (Fh 3 (iu 2 (rS 3))) (Fh 2 (fF 3 (cA 1 [0,2] (gG (rB 2)) (i5 (ej (dN 3 eF (aa (rS 1) (aa (rS 0) (aa (rS 2) aC)))))) (rS 0))))) 100000) (cZ (rS 3))))))
def rX:List D->R D:=gK 4 Ae
def my:aE->R Fl:=(a_ (qW (dN 2 cX (aa (rS 0) (aa (rS 1) aC)))) (a_ (eC (zT (i5 (ej (oh (rB 2) "list"))) (i5 (ej (c7 (aa (cA 1 [0] (gG (rB 2)) kT (dN 2 j4 (aa (rS 1) (aa (rS 0) aC)))) aC) (il (f9 λbs=>bs.all id)))))) (B8 "NoPaper" (aa (λ_=>.ok (.str "it is no list of tuples of two facts")) aC)) (λρ=>.ok (.nx ρ))) (a_ (iu 3 (nT (uz 1 [] (gG (rB 2)) kT (c7 (aa (c7 (aa (rB 0) aC) (il uA)) aC) (il hU))))) (cZ (w_ (c7 (aa (cA 1 [1,0,3] (gG (rB 3)) kT (CC (dN 2 fP (aa (rS 0) (aa (rS 1) aC))) (dN 3 eF (aa (rS 2) (aa (rS 0) (aa (rS 3) aC)))))) aC) (il (f9 λbs=>bs.any id))))))))
def dv:List D->R D:=gK 4 my
def ny:aE->R Fl:=(cZ (cA 1 [1] (gG (g2 (rB 0) (kI 1) bc)) (ej (dN 2 pS (aa (rS 0) (aa (rS 1) aC)))) (de (aa (rS 0) (aa (dN 2 lI (aa (rS 0) (aa (rS 1) aC))) aC)) .tuple)))
def lJ:List D->R D:=gK 2 ny
def nz:aE->R Fl:=(a_ (fF 2 (ZK (rS 1) (de aC .list))) (a_ (fF 3 (de (aa (rS 1) aC) .list)) (a_ (iM (Fo (rB 3)) (a_ (fF 4 (de aC .list)) (a_ (xk 3 (cr 5) (qx (gG (dN 2 lJ (aa (rS 0) (aa (rS 5) aC)))) (pd 2 (cW (cr 6) (cW (cr 7) qX))) (eC (ej (g2 (rB 7) (rB 2) (inT true))) (a_ (zk 2 (rS 7) (g2 (g2 (rB 2) (rB 5) XB) (de (aa (g2 (rB 6) (kI 0) bc) aC) .list) dU)) (vQ 4 (rS 7))) (λρ=>.ok (.nx ρ))))) (Fh 4 (iu 3 (rS 4))))) 100000) (gFz 2 (cZ (rS 2))))))
def nA:List D->R D:=gK 8 nz
def uK:aE->R Fl:=(a_ (qW (dN 2 cX (aa (rS 0) (aa (rS 1) aC)))) (cZ (c7 (aa (dN 2 nA (aa (rS 0) (aa (rS 1) aC))) aC) (il uy))))
def m6:List D->R D:=gK 2 uK
def mz:aE->R Fl:=(a_ (eC (ej (g2 (rB 1) (c7 (aa (rB 0) aC) (il n5)) KG)) (cZ (g2 (rB 0) (rB 1) bc)) (λρ=>.ok (.nx ρ))) (a_ (eC (ej (g2 (rB 0) (de aC .list) (nh false))) (cZ (kI 0)) (λρ=>.ok (.nx ρ))) (cZ (g2 (g2 (g2 (rB 0) (g2 (rB 1) (c7 (aa (rB 0) aC) (il n5)) O1) bc) (kI 31) zU) (rB 1) dU))))
def mB:List D->R D:=gK 2 mz
def pV:aE->R Fl:=(a_ (iu 3 (g2 (g2 (g2 (g2 (dN 2 mB (aa (rS 0) (aa (rS 1) aC))) (g2 (kI 7919) (rB 1) zU) dU) (kI 1) dU) (kI 48271) zU) (kI 2147483647) O1)) (cZ (g2 (g2 (g2 (g2 (g2 (rB 3) (rB 3) zU) (g2 (kI 7) (rB 3) zU) dU) (rB 1) dU) (kI 2147483629) O1) (rB 2) O1)))
def aY:List D->R D:=gK 4 pV
def rY:aE->R Fl:=(a_ (iu 2 (λ_=>.ok (.str ""))) (a_ (qx (Dx (aa (g2 (de (aa (kI 1) (aa (kI 2) (aa (kI 3) (aa (kI 6) (aa (kI 1) (aa (kI 4) aC)))))) .list) (dN 3 aY (aa (rS 0) (aa (rS 1) (aa (kI 6) aC)))) bc) aC)) (cr 3) (iu 2 (g2 (rB 2) (g2 (λ_=>.ok (.str "abcdefghijklmnopqrstuvwxyz")) (dN 3 aY (aa (rS 0) (aa (g2 (g2 (rB 1) (kI 1) dU) (rB 3) dU) (aa (kI 26) aC)))) bc) dU))) (cZ (rS 2))))
def m7:List D->R D:=gK 4 rY
def pW:aE->R Fl:=(a_ (fF 3 (λ_=>.ok (.dict []))) (a_ (qx (Dx (aa (dN 3 aY (aa (rS 0) (aa (rS 1) (aa (g2 (rB 2) (kI 1) dU) aC)))) aC)) (cr 4) (Fg 3 (dN 2 m7 (aa (rS 0) (aa (g2 (g2 (rB 1) (kI 1) dU) (g2 (kI 8) (rB 4) zU) dU) aC))) (kB true))) (cZ (c7 (aa (c7 (aa (c7 (aa (rB 3) aC) (il mn)) aC) (il ur)) aC) (il hU)))))
def pX:List D->R D:=gK 5 pW
def rZ:aE->R Fl:=(cZ (c7 (aa (cA 2 [0,1,3] (CF (aa (rS 2) aC)) (ej (g2 (dN 3 aY (aa (rS 2) (aa (g2 (rB 3) (rB 0) dU) (aa (kI 12) aC)))) (rB 4) KG)) (rS 1)) aC) (il hU)))
def r_:List D->R D:=gK 4 rZ
def sd:aE->R Fl:=(a_ (iu 4 (g2 (rB 2) (dN 3 aY (aa (rS 0) (aa (g2 (rB 1) (kI 10) dU) (aa (c7 (aa (rB 2) aC) (il n5)) aC)))) bc)) (a_ (iu 5 (g2 (rB 2) (dN 3 aY (aa (rS 0) (aa (g2 (rB 1) (kI 11) dU) (aa (c7 (aa (rB 2) aC) (il n5)) aC)))) bc)) (a_ (iu 6 (g2 (rB 2) (dN 3 aY (aa (rS 0) (aa (g2 (rB 1) (kI 12) dU) (aa (c7 (aa (rB 2) aC) (il n5)) aC)))) bc)) (a_ (iu 7 (Gu (de (aa (rS 4) (aa (rS 5) aC)) .list) Jr (F8 (g2 (kI 1) (g2 (dN 3 aY (aa (rS 0) (aa (g2 (rB 1) (kI 13) dU) (aa (kI 3) aC)))) (kI 2) QP) dU)))) (a_ (fF 8 (cA 1 [7,0,1] (gG (de (aa (rS 6) aC) .list)) (AR (ej (g2 (rB 0) (rB 1) (sS true))) (ej (g2 (dN 3 aY (aa (rS 2) (aa (g2 (rB 3) (kI 14) dU) (aa (kI 4) aC)))) (kI 0) (nh false)))) (rS 0))) (a_ (fF 9 (cA 1 [6,0,1] (gG (de (aa (rS 4) aC) .list)) (AR (ej (g2 (rB 0) (rB 1) (nh true))) (ej (g2 (dN 3 aY (aa (rS 2) (aa (g2 (rB 3) (kI 15) dU) (aa (kI 3) aC)))) (kI 0) (nh false)))) (rS 0))) (a_ (Fh 8 (Fh 9 (fF 10 (cA 1 [] (gG (de (aa (rS 7) (aa (rS 8) (aa (de (aa (rS 6) aC) .list) (aa (rS 9) aC)))) .tuple)) kT (c7 (aa (oo (tV (rB 0))) aC) (il hU)))))) (cZ (de (aa (rS 3) (aa (g2 (rB 10) (kI 0) bc) (aa (g2 (rB 10) (kI 1) bc) (aa (g2 (rB 10) (kI 2) bc) (aa (g2 (rB 10) (kI 3) bc) (aa (dN 3 aY (aa (rS 0) (aa (rS 1) (aa (kI 5) aC)))) aC)))))) .tuple)))))))))
def se:List D->R D:=gK 11 sd
def jL:aE->R Fl:=(a_ (eC (AR (ej (g2 (rB 2) (de aC .tuple) (nh true))) (ej (g2 (dN 3 aY (aa (rS 0) (aa (kI 97) (aa (kI 2) aC)))) (kI 0) (nh false)))) (cZ (dN 4 se (aa (rS 0) (aa (rS 1) (aa (rS 2) (aa (rS 3) aC)))))) (λρ=>.ok (.nx ρ))) (a_ (Ve 4) (a_ (qx (CF (aa (rS 2) aC)) (pd 2 (cW (cr 5) (cW (cr 6) qX))) (a_ (iu 7 (dN 3 aY (aa (rS 0) (aa (g2 (g2 (rB 1) (kI 10) dU) (rB 5) dU) (aa (kI 8) aC))))) (a_ (eC (ej (g2 (rB 7) (kI 3) KG)) (qY 4 (g2 (de (aa (kI 0) (aa (kI 0) (aa (kI 1) aC))) .list) (rB 7) bc) (rS 6)) (λρ=>.ok (.nx ρ))) (a_ (iu 7 (dN 3 aY (aa (rS 0) (aa (g2 (g2 (rB 1) (kI 20) dU) (rB 5) dU) (aa (kI 8) aC))))) (eC (ej (g2 (rB 7) (kI 4) KG)) (qY 4 (g2 (de (aa (kI 2) (aa (kI 2) (aa (kI 3) (aa (kI 3) aC)))) .list) (rB 7) bc) (rS 6)) (λρ=>.ok (.nx ρ))))))) (a_ (λρ=>(fF 8 (cA 1 [] (gG (rB 4)) kT (c7 (aa (rB 0) aC) (il hU)))) (da ρ)) (cZ (de (aa (rS 3) (aa (g2 (rB 8) (kI 0) bc) (aa (g2 (rB 8) (kI 1) bc) (aa (g2 (rB 8) (kI 2) bc) (aa (g2 (rB 8) (kI 3) bc) (aa (dN 3 aY (aa (rS 0) (aa (rS 1) (aa (kI 5) aC)))) aC)))))) .tuple))))))
def jM:List D->R D:=gK 9 jL
def oA:aE->R Fl:=(a_ (iu 4 (dN 3 pX (aa (rS 0) (aa (rS 1) (aa (rS 2) aC))))) (a_ (fF 5 (λ_=>.ok (.dict []))) (a_ (qx (Dx (aa (dN 3 aY (aa (rS 0) (aa (g2 (rB 1) (kI 60) dU) (aa (g2 (rB 3) (kI 1) dU) aC)))) aC)) (cr 6) (a_ (iu 7 (dN 2 m7 (aa (rS 0) (aa (g2 (g2 (rB 1) (kI 70) dU) (g2 (kI 40) (rB 6) zU) dU) aC)))) (Fg 5 (rS 7) (dN 4 jM (aa (rS 0) (aa (g2 (g2 (rB 1) (kI 80) dU) (g2 (kI 40) (rB 6) zU) dU) (aa (rS 4) (aa (rS 7) aC)))))))) (a_ (iu 8 (c7 (aa (rB 5) aC) (il mn))) (a_ (iu 9 (dN 3 aY (aa (rS 0) (aa (g2 (rB 1) (kI 61) dU) (aa (g2 (c7 (aa (rB 8) aC) (il n5)) (kI 1) dU) aC))))) (cZ (de (aa (rS 4) (aa (c7 (aa (cA 1 [5] (gG (g2 (Gu (rB 8) (F8 (rS 9)) Jr) (Gu (rB 8) Jr (F8 (rS 9))) dU)) kT (g2 (rB 1) (rB 0) bc)) aC) (il hU)) aC)) .tuple)))))))
def oB:List D->R D:=gK 10 oA
def oC:aE->R Fl:=(a_ (fF 3 (de aC .list)) (a_ (fF 4 (de aC .list)) (a_ (qx (CF (aa (rS 2) aC)) (pd 2 (cW (cr 5) (cW (cr 6) qX))) (a_ (iu 7 (dN 3 aY (aa (rS 0) (aa (g2 (rB 1) (rB 5) dU) (aa (kI 8) aC))))) (eC (ej (g2 (rB 7) (kI 2) KG)) (vQ 3 (rS 6)) (eC (ej (g2 (rB 7) (kI 2) (nh false))) (vQ 4 (rS 6)) (λρ=>.ok (.nx ρ)))))) (cZ (de (aa (c7 (aa (rB 3) aC) (il hU)) (aa (c7 (aa (rB 4) aC) (il hU)) aC)) .tuple)))))
def vW:List D->R D:=gK 8 oC
def sf:aE->R Fl:=(a_ (iu 3 (dN 4 oB (aa (rS 0) (aa (kI 100) (aa (rS 1) (aa (rS 2) aC)))))) (a_ (iu 4 (dN 4 r_ (aa (rS 0) (aa (kI 20) (aa (g2 (rB 3) (kI 0) bc) (aa (g2 (de (aa (kI 2) (aa (kI 4) aC)) .list) (dN 3 aY (aa (rS 0) (aa (kI 97) (aa (kI 2) aC)))) bc) aC)))))) (cZ (de (aa (rS 3) (aa (rS 4) (aa (dN 3 vW (aa (rS 0) (aa (kI 30) (aa (g2 (rB 3) (kI 0) bc) aC)))) aC))) .tuple))))
def kH:List D->R D:=gK 5 sf
def nC:aE->R Fl:=(a_ (fF 4 (cA 1 [0] (gG (de (aa (rS 1) (aa (rS 2) aC)) .tuple)) (ej (g2 (rB 0) (g2 (rB 1) (kI 3) bc) (sS true))) (rS 0))) (a_ (eC (zT (ej (g2 (c7 (aa (rB 4) aC) (il n5)) (kI 2) (nh false))) (zT (ej (g2 (rB 1) (g2 (rB 0) (kI 4) bc) (sS false))) (zT (ej (g2 (rB 2) (g2 (rB 0) (kI 4) bc) (sS false))) (ej (c7 (aa (cA 1 [0] (gG (rB 4)) kT (g2 (rB 0) (g2 (rB 1) (kI 2) bc) (sS false))) aC) (il (f9 λbs=>bs.any id))))))) (cZ (kB false)) (λρ=>.ok (.nx ρ))) (a_ (iu 5 (g2 (c7 (aa (g2 (rB 0) (kI 1) bc) aC) (il mn)) (rB 4) dU)) (cZ (w_ (c7 (aa (cA 1 [5] (gG (rB 3)) kT (pC (g2 (g2 (rB 0) (kI 0) bc) (rB 1) (sS false)) (g2 (g2 (rB 0) (kI 1) bc) (rB 1) (sS false)))) aC) (il (f9 λbs=>bs.any id))))))))
def iP:List D->R D:=gK 6 nC
def pY:aE->R Fl:=(a_ (eC (ej (c7 (aa (cA 1 [1] (gG (rB 2)) kT (pC (g2 (g2 (rB 0) (kI 0) bc) (rB 1) (sS false)) (g2 (g2 (rB 0) (kI 1) bc) (rB 1) (sS false)))) aC) (il (f9 λbs=>bs.any id)))) (cZ (kB false)) (λρ=>.ok (.nx ρ))) (a_ (qx (gG (g2 (rB 0) (kI 1) bc)) (cr 3) (eC (ej (c7 (aa (cA 1 [3,2] (gG (rB 2)) kT (dN 4 iP (aa (rS 1) (aa (g2 (rB 0) (kI 0) bc) (aa (g2 (rB 0) (kI 1) bc) (aa (rS 2) aC)))))) aC) (il (f9 λbs=>bs.any id)))) (cZ (kB false)) (λρ=>.ok (.nx ρ)))) (cZ (kB true))))
def kX:List D->R D:=gK 4 pY
def MY:aE->R Fl:=(a_ (zV (dN 3 kH (aa (rS 0) (aa (kI 5) (aa (kI 5) aC)))) (pd 3 (cW (cr 1) (cW (cr 2) (cW (cr 3) qX))))) (a_ (iu 4 (dN 2 rX (aa (rS 1) (aa (rS 2) aC)))) (a_ (fF 5 (cA 2 [0] (vo (aa (rS 4) aC)) (ej (g2 (dN 3 aY (aa (rS 2) (aa (g2 (kI 300) (rB 0) dU) (aa (kI 5) aC)))) (kI 0) X3)) (rS 1))) (a_ (eC (AR (ej (g2 (g2 (rB 1) (kI 0) bc) (de aC .tuple) (nh true))) (ej (g2 (dN 3 aY (aa (rS 0) (aa (kI 0) (aa (kI 2) aC)))) (kI 0) (nh false)))) (a_ (iu 6 (g2 (g2 (rB 1) (kI 0) bc) (dN 3 aY (aa (rS 0) (aa (kI 1) (aa (c7 (aa (g2 (rB 1) (kI 0) bc) aC) (il n5)) aC)))) bc)) (vQ 5 (de (aa (rS 6) (aa (g2 (g2 (rB 1) (kI 0) bc) (dN 3 aY (aa (rS 0) (aa (kI 2) (aa (c7 (aa (g2 (rB 1) (kI 0) bc) aC) (il n5)) aC)))) bc) aC)) .tuple))) (λρ=>.ok (.nx ρ))) (a_ (Fh 5 (fF 5 (cA 2 [0] (vo (aa (rS 5) aC)) kT (g2 (de (aa (rS 1) (aa (HD (rB 1)) aC)) .list) (dN 3 aY (aa (rS 2) (aa (g2 (kI 340) (rB 0) dU) (aa (kI 2) aC)))) bc)))) (a_ (Fh 5 (iu 7 (dN 3 (vn Pl dv) (aa (rS 1) (aa (rS 2) (aa (rS 5) aC)))))) (a_ (Fh 5 (eC (zT (i5 (ej (oh (rB 7) "bool"))) (ej (g2 (rB 7) (dN 3 kX (aa (rS 1) (aa (rS 2) (aa (rS 5) aC)))) (nh true)))) (cZ (kB false)) (λρ=>.ok (.nx ρ)))) (a_ (eC (ej (rS 7)) (a_ (eC (i5 (ej (c7 (aa (cA 1 [4] (gG (rB 5)) kT (CC (g2 (rB 0) (rB 1) (Oh false)) (g2 (HD (rB 0)) (rB 1) (Oh false)))) aC) (il (f9 λbs=>bs.all id))))) (cZ (kB false)) (λρ=>.ok (.nx ρ))) (qx (gG (dN 2 m6 (aa (rS 1) (aa (rS 2) aC)))) (cr 6) (eC (ej (c7 (aa (cA 1 [6] (gG (rB 5)) kT (pC (g2 (g2 (rB 0) (kI 0) bc) (rB 1) (sS false)) (g2 (g2 (rB 0) (kI 1) bc) (rB 1) (sS false)))) aC) (il (f9 λbs=>bs.any id)))) (cZ (kB false)) (λρ=>.ok (.nx ρ))))) (λρ=>.ok (.nx ρ))) (a_ (fF 8 (de (aa kN (aa (c7 (aa (rB 5) aC) (il hU)) (aa (g2 (rB 5) (de (aa kN aC) .list) dU) (aa (g2 (rB 5) (de (aa (de (aa (λ_=>.ok (.str "zzzzz")) (aa (λ_=>.ok (.str "zzzzz")) aC)) .tuple) aC) .list) dU) (aa (g2 (rB 5) (de (aa (de aC .tuple) aC) .list) dU) (aa (g2 (rB 5) (de (aa (de (aa (kI 1) (aa (kI 2) aC)) .tuple) aC) .list) dU) (aa (kI 0) aC))))))) .list)) (cZ (g2 (dN 3 (vn Pl dv) (aa (rS 1) (aa (rS 2) (aa (g2 (rB 8) (dN 3 aY (aa (rS 0) (aa (kI 3) (aa (kI 7) aC)))) bc) aC)))) (de (aa (λ_=>.ok (.str "refused")) (aa (kI 6) aC)) .tuple) (nh false))))))))))))
def F_law:List D->R D:=gK 9 MY
end Z
section
set_option hygiene false
namespace Z
open PySem L2 J
local macro_rules | `(tactic| left)=>`(tactic| simp only[q0Z,Z2,q10,q11,Hu,xm,Hv,q0A,R8,R9,Xb,q0B,Mm,Hw,Mn,Hx,Hy,Hz,Ra,Rb,Rc,Mo,Re,Mp,q0D,Xd,Xe,Rg,Xg,Rh,Xh,q0G,Ri,Xi,Rj,Mq,Rk,Xl,Mr,Rl,Ms,Rm,Rn,Ro,Rr,HA,HB,Xm,Rs,Mt,Rt,q0L,Xo,Xp,Ru,Xq,Rv,Rw,Xr,Xs,Rx,q0P,Ry,Rz,Xt,Xu,RA,YL,RC,Xv,Xw,RE,Mu,Mv,Xz,Dy,Dz,DA,RG,q0R,RI,RJ,RK,RL,RM,RN,DC,B9,dU,zU,O1,QP,KC,KG,X2,X3,O3,n5,ay,fq,aU,cD,ah,A6,tq,NB,NC,xV,xW,Nat.reduceSub,Nat.reduceAdd,Ul,Um,K9,if_true,if_false,ite_true,ite_false,bg,decide_true,decide_false,cond_true,cond_false,gQ,jT,aw,cu,Kb,Int.reduceLE,Int.reduceAdd,Int.reduceMul,Nat.reduceLT,Int.reduceNeg,reduceIte])
local macro_rules | `(tactic| walk_at "yy")=>`(tactic| simp only[q0Z,Z2,q10,q11,Hu,xm,Hv,Xb,q0B,Mm,Hw,Mn,Hx,Hy,Hz,Ra,Rb,Rc,Mo,Re,Mp,q0D,Xd,Xe,Rg,Xg,Rh,Xh,q0G,Ri,Xi,Rj,Mq,Rk,Xl,Mr,Rl,Ms,Rm,Rn,Ro,Rr,HA,HB,Xm,Rs,Mt,Rt,q0L,Xo,Xp,Ru,Xq,Rv,Rw,Xr,Xs,Rx,q0P,Ry,Rz,Xt,Xu,RA,YL,RC,Xv,Xw,RE,Mu,Mv,Xz,Dy,Dz,DA,RG,q0R,RI,RJ,RK,RL,RM,RN,DC,B9,dU,n5,ay,fq,aU,cD,ah,A6,tq,NB,NC,xV,xW,Nat.reduceSub,Nat.reduceAdd,Ul,Um,K9,if_true,if_false,ite_true,ite_false,bg,decide_true,decide_false,cond_true,cond_false,gQ,jT,aw,cu,Kb,Int.reduceLE,Int.reduceAdd,Int.reduceMul,Nat.reduceLT,Int.reduceNeg,reduceIte])
def dh(h:g (cf n ds)=.ok (.rt d)):gK n g ds=.ok d:=by unfold gK;rw[h]
def Zf(h:g (cf n ds)=.ex c m):gK n g ds=.ex c m:=by unfold gK;rw[h]
def MZ(ns:List Int)(k:Int):Int:=if k<ns.length then ns.getD k.toNat 0 else if ns=[] then 0 else ns.getD (k % ns.length).toNat 0*31+k
def SC(ns:List Int):cY (ns.map .int)=true:=by
 induction ns with
 |nil=>rfl
 |cons x r a=>simp[cY,eg,a]
def VL(ns:List Int):bn (.list (ns.map .int)) (.list [])=decide (ns=[]):=by
 cases ns with
 |nil=>rfl
 |cons x r=>simp[bn,dQ]
def Zg(ns:List Int):nh false (.list (ns.map .int)) (.list [])=.ok (.bool (decide (ns=[]))):=by
 unfold nh;have a:(iJ (ns.map .int)).canLay0=true:=by simp only[eg];exact SC ns
 have c:(iJ []).canLay0=true:=rfl;have b:min (iJ (ns.map .int)).depth (iJ []).depth<=60:=cH (Aq _ _) ⋯;rw[a,c,decide_eq_true b,VL];rfl
def Zh(ns:List Int)(k:Int)(b:0<=k)(c:k<ns.length):Kn (ns.map iU) k=some (.int (ns.getD k.toNat 0)):=by
 have a:k.toNat<ns.length:=by omega
 have:=wK (xs:=ns.map iU) (j:=k.toNat) (v:=.int (ns.getD k.toNat 0)) (by rw[aI,bt a];simp[a])
 rwa[gJ b] at this
def SD(ns:List Int)(k:Int)(b:0<=k)(a:k<ns.length):bc (.list (ns.map .int)) (.int k)=.ok (.int (ns.getD k.toNat 0)):=by
 have e:∀xs k,bc (.list xs) k=KI (.list xs) k:=λ_ _=>rfl;rw[e];unfold KI;simp only[Zh ns k b a]
def M_(a:-(2 ^ 64)<j)(b:j<2 ^ 64):Du i j=true:=by
 unfold Du;simp only[ij,aR,decide_eq_true_eq];exact .inr ⟨a,b⟩
def uL(a:-(2 ^ 64)<i)(b:i<2 ^ 64):Du i j=true:=by
 unfold Du;simp only[ij,aR,decide_eq_true_eq];exact .inl ⟨a,b⟩
def VM(ns:List Int)(k:Int)(c:0<=k):mB [.list (ns.map .int),.int k]=.ok (.int (MZ ns k)):=by
 unfold mB;refine dh ?_;unfold mz cf MZ;left;by_cases h:k<ns.length
 ·simp only[h,decide_true,cond_true,if_true,SD ns k c h,bind_ok];left
 ·simp only[h,decide_false,cond_false,if_false];left;rw[Zg];left;by_cases a:ns=[]
  ·simp only[a,decide_true,cond_true,if_true];left
  ·have b:(0:Int)<ns.length:=by have:0<ns.length:=List.length_pos_iff.mpr a;omega
   simp only[a,decide_false,cond_false,if_false,b,decide_true];left;simp only[a,decide_false,cond_false,if_false,b,decide_true,if_true];left;rw[SD ns _ (n_ _ ∅) (lz _ b)];left;rw[M_ ⋯ ⋯];left
def Bw(ns:List Int)(k:Int):Int:=(MZ ns k+7919*k+1)*48271 % 2147483647
def fg(ns:List Int)(k m:Int):Int:=(Bw ns k*Bw ns k+7*Bw ns k+k) % 2147483629 % m
def fK(ns:List Int)(k m:Int)(h:0<m):0<=fg ns k m:=n_ _ ∅
def gz(ns:List Int)(k m:Int)(h:0<m):fg ns k m<m:=lz _ h
def fz(ns:List Int)(k m:Int)(b:0<=k)(a:0<m):aY [.list (ns.map .int),.int k,.int m]=.ok (.int (fg ns k m)):=by
 have d:0<=Bw ns k:=n_ _ ⋯;have c:Bw ns k<2147483647:=lz _ ⋯;unfold aY;refine dh ?_;unfold pV cf;left;rw[VM ns k b];left;rw[uL ⋯ ⋯];left;rw[M_ ⋯ ⋯];left;rw[show(MZ ns k+7919*k+1)*48271 % 2147483647=Bw ns k from rfl,uL (i:=Bw ns k) ∅ ∅];left;rw[uL (i:=7) ⋯ ⋯];left;rw[decide_eq_true a];left;rfl
theorem tZ{α a:Type}{kt:D->aE->R aE}{gb:aE->R Fl}(c:α->D)(f:a->α->a)(P:List α->a->aE->Prop)(h:∀x bA b ρ,P (x::bA) b ρ->∃ ρ1 ρ',kt (c x) ρ=.ok ρ1/\gb ρ1=.ok (.nx ρ')/\P bA (f b x) ρ'):
  ∀(xs:List α) (b:a) (ρ:aE),P xs b ρ->∃ ρ',lP kt gb (xs.map c) ρ=.ok (.nx ρ')/\P [] (xs.foldl f b) ρ'
 |[],b,ρ,p=>⟨ρ,rfl,p⟩
 |x::r,b,ρ,p=>by
  obtain⟨ρ1,d,g,j,k⟩:=h x r b ρ p;obtain⟨e,l,i⟩:=tZ c f P h r (f b x) d k;refine⟨e,?_,i⟩;rw[ay];unfold lP;rw[g];simp only[j];exact l
def N0{α a:Type}{kt:D->aE->R aE}{gb d:aE->R Fl}{r:R Fl}(c:α->D)(f:a->α->a)(P:List α->a->aE->Prop){xs:List α}(b:a){ρ:aE}
  (h:∀x bA b ρ,P (x::bA) b ρ->∃ ρ1 ρ',kt (c x) ρ=.ok ρ1/\gb ρ1=.ok (.nx ρ')/\P bA (f b x) ρ') (g:P xs b ρ) (k:∀ ρ',P [] (xs.foldl f b) ρ'->d ρ'=r):(lP kt gb (xs.map c) ρ).bind (Vj d)=r:=by
 obtain⟨ρ',e,p⟩:=tZ c f P h xs b ρ g;rw[e,bind_ok,xm];exact k ρ' p
def Fx(n:Nat)(h:n<=1000):KL [.int (n:Int)]=.ok ((bq n).map λ(i:Nat)=>iU (i:Int)):=by
 have e:KL [.int (n:Int)]=.ok (tS 0 (n:Int).toNat):=Vk ∅ ∅;rw[e];unfold tS;rw[lW];exact congrArg R.ok (gD λa _=>congrArg iU (Int.zero_add _))
def Af(x:Str):Bool:=decide (1<=x.cps.size)&&decide (x.cps.size<=6/\x.cps.size≠5)&&x.cps.toList.all λc=>decide (97<=c)&&decide (c<=122)
def vv(ns:List Int)(k:Int):Nat:=[1,2,3,6,1,4].getD (fg ns k 6).toNat 0
def Fz(ns:List Int)(k:Int)(i:Nat):Nat:=97+(fg ns (k+1+i) 26).toNat
def mK(ns:List Int)(k:Int):Str:=⟨((bq (vv ns k)).map (Fz ns k)).toArray⟩
def N1(ns:List Int)(k:Int):1<=vv ns k/\(vv ns k<=6/\vv ns k≠5):=by
 have b:=fK ns k 6 ⋯;have a:=gz ns k 6 ⋯;unfold vv;have:∀j:_root_.Fin 6,1<=[1,2,3,6,1,4].getD j.val 0/\([1,2,3,6,1,4].getD j.val 0<=6/\[1,2,3,6,1,4].getD j.val 0≠5):=by decide
 exact this ⟨(fg ns k 6).toNat,by omega⟩
def VN(ns:List Int)(k:Int)(i:Nat):97<=Fz ns k i/\Fz ns k i<=122:=by
 have b:=fK ns (k+1+i) 26 ⋯;have a:=gz ns (k+1+i) 26 ⋯;unfold Fz;omega
def Ii(ns:List Int)(k:Int):Af (mK ns k)=true:=by
 have⟨h1,h2⟩:=N1 ns k;unfold Af mK;simp only[aM,ah,dG,aR,decide_eq_true_eq,cx];refine⟨⟨h1,h2⟩,λc a=>?_⟩;obtain⟨i,_,rfl⟩:=List.mem_map.mp a;exact VN ns k i
def SE(j:Int)(d:0<=j)(g:j<26):bc (.str "abcdefghijklmnopqrstuvwxyz") (.int j)=.ok (.str ⟨#[97+j.toNat]⟩):=by
 have e:∀x k,bc (.str x) k=KI (.str x) k:=λ_ _=>rfl;rw[e];unfold KI;have c:("abcdefghijklmnopqrstuvwxyz" : Str).cps.toList=(bq 26).map (97 + ·):=by decide +kernel
 have f:("abcdefghijklmnopqrstuvwxyz" : Str).length<=1000:=by decide +kernel
 have b:j.toNat<26:=by omega
 have a:=wK (xs:=(bq 26).map (97 + ·)) (j:=j.toNat) (v:=97+j.toNat) (by rw[aI,Nv b];rfl);rw[gJ d] at a;simp only[f,if_true,c,a]
def VO(j:Int)(a:0<=j)(c:j<6):bc (.list [.int 1,.int 2,.int 3,.int 6,.int 1,.int 4]) (.int j)=.ok (.int (([1,2,3,6,1,4].getD j.toNat 0:Nat):Int)):=by
 obtain⟨n,rfl⟩:=Int.eq_ofNat_of_zero_le a;have b:n<6:=by omega
 match n,b with
 | 0,_=>rfl
 | 1,_=>rfl
 | 2,_=>rfl
 | 3,_=>rfl
 | 4,_=>rfl
 | 5,_=>rfl
def FA(l:List Nat):∀(b:Str),l.foldl (λ(a:Str) c=>a++⟨#[c]⟩) b=⟨(b.cps.toList++l).toArray⟩:=by
 induction l with
 |nil=>intro b;simp
 |cons c r d=>
  intro b;rw[ik,d];show(⟨((b.cps++#[c]).toList++r).toArray⟩:Str)=_;simp
def Ov:("" : Str).cps.toList=[]:=by decide +kernel
def N5(ns:List Int)(k:Int)(d:0<=k):m7 [.list (ns.map .int),.int k]=.ok (.str (mK ns k)):=by
 have f:=fK ns k 6 ⋯;have c:=gz ns k 6 ⋯;have⟨w1,w2⟩:=N1 ns k;unfold m7;refine dh ?_;unfold rY cf;left;rw[Bb (ds:=(bq (vv ns k)).map λ(i:Nat)=>iU i)]
 ·refine N0 (λ(i:Nat)=>iU i) (λ(a:Str) i=>a++⟨#[Fz ns k i]⟩) (λbA a ρ=>a.length+bA.length<=900/\∃z,ρ=[.shr (.list (ns.map .int)),.shr (.int k),.shr (.str a),z]) "" ?_ ⟨by rw[dG,show("" : Str).length=0 by decide];omega,_,rfl⟩ ?_
  ·rintro i bA a ρ ⟨g,z,rfl⟩;simp only[aU] at g;refine⟨_,[.shr (.list (ns.map .int)),.shr (.int k),.shr (.str (a++⟨#[Fz ns k i]⟩)),.shr (.int i)],rfl,?_,?_,_,rfl⟩
   ·left;rw[fz ns _ 26 ∅ ⋯];left;rw[SE _ (fK _ _ _ ⋯) (gz _ _ _ ⋯)];left;have h:a.length+(⟨#[97+(fg ns (k+1+i) 26).toNat]⟩:Str).length<=1000:=by
     show a.length+1<=1000;omega
    rw[if_pos h];left;rw[show 97+(fg ns (k+1+i) 26).toNat=Fz ns k i from rfl]
   ·show(a.cps++#[_]).size+bA.length<=900;rw[Array.size_append];show a.cps.size+1+bA.length<=900;have:a.length=a.cps.size:=rfl
    omega
  ·rintro ρ' ⟨_,z,rfl⟩;left;have:(bq (vv ns k)).foldl (λ(a:Str) i=>a++⟨#[Fz ns k i]⟩) ""=mK ns k:=by
    have:=FA ((bq (vv ns k)).map (Fz ns k)) "";rw[List.foldl_map] at this;rw[this,Ov];unfold mK;rw[tq]
   rw[this]
 ·left;rw[fz ns k 6 d ⋯];left;have b:=VO (fg ns k 6) f c;have e:[1,2,3,6,1,4].getD (fg ns k 6).toNat 0=vv ns k:=rfl;rw[e] at b;rw[b];left;rw[Fx (vv ns k) ∅]
def nF(l:List (Str×D)):List (D×D):=l.map λp=>(.str p.1,p.2)
def xx(l:List (Str×D))(x:Str)(d:D):List (Str×D):=if l.any (λp=>decide (p.1=x)) then l.map (λp=>if p.1=x then(p.1,d) else p) else l++[(x,d)]
def xy(x y:Str):bn (.str x) (.str y)=decide (x=y):=by
 show(x==y)=_;rw[ul]
def VP(l:List (Str×D))(x:Str)(d:D):yy (nF l) (.str x) d=nF (xx l x d):=by
 unfold yy xx nF;rw[k9];have e:((λa:D×D=>bn a.1 (.str x))∘λp:Str×D=>(aS p.1,p.2))=λp=>decide (p.1=x):=by
  funext p;exact xy p.1 x
 rw[e];split
 ·rw[cb,cb];apply gD;intro p _;simp only[Function.comp,xy];by_cases h:p.1=x
  ·simp[h]
  ·simp[h]
 ·simp
def Bx(l:List (Str×D)):iY (nF l)=true:=by
 unfold iY nF;rw[lS,cx];intro p _;rfl
def Ij(l:List (Str×D))(x:Str)(d:D):(xx l x d).length<=l.length+1:=by
 unfold xx;split<;>simp
def DU(l:List (Str×D))(x:Str)(d:D):(xx l x d).map (·.1)=if x∈l.map (·.1) then l.map (·.1) else l.map (·.1)++[x]:=by
 unfold xx;have e:(l.any λp=>decide (p.1=x))=decide (x∈l.map (·.1)):=by
  rw[dw];simp only[eU,decide_eq_true_eq,i_]
 rw[e];by_cases h:x∈l.map (·.1)
 ·rw[decide_eq_true h,if_pos rfl,if_pos h,cb];apply gD;intro p _;by_cases a:p.1=x<;>simp[a]
 ·rw[decide_eq_false h,if_neg aG,if_neg h,bF];rfl
def SF{Q:Str->D->Prop}{l:List (Str×D)}{x:Str}{d:D}(h:∀p∈l,Q p.1 p.2)(b:Q x d):∀p∈xx l x d,Q p.1 p.2:=by
 unfold xx;split
 ·intro p hp;obtain⟨c,a,rfl⟩:=List.mem_map.mp hp;by_cases e:c.1=x
  ·rw[if_pos e];rw[e];exact b
  ·rw[if_neg e];exact h c a
 ·intro p hp;rcases List.mem_append.mp hp with hp|hp
  ·exact h p hp
  ·rw[List.mem_singleton.mp hp];exact b
def Ow{l:List Str}{x:Str}(h:l.Nodup):(if x∈l then l else l++[x]).Nodup:=by
 by_cases a:x∈l
 ·rw[if_pos a];exact h
 ·rw[if_neg a];exact EN h a
def XG(c:ρ[i]?=some (Sl.own (.dict (nF l))))(f:g ρ=.ok d)(b:gk ρ=.ok (.str x))(h:l.length<1000):Fg i gk g ρ=.ok (.nx (ρ.set i (.own (.dict (nF (xx l x d)))))):=by
 have a:(nF l).length<1000:=by unfold nF;rw[ah];exact h
 have e:Fg i gk g ρ=(g ρ).bind λd=>(gk ρ).bind λk=>match tU k with
  |some _=>if(nF l).length<1000/\iY (nF l)=true then .ok (.nx (ρ.set i (.own (.dict (yy (nF l) k d))))) else .no
  |none=>.no:=by
  unfold Fg;simp only[c];try rfl
 rw[e,f,B9,b,B9];simp only[tU,if_pos (lM a (Bx l)),VP]
def Ik(l:List (Str×D)):mn (.dict (nF l))=.ok (.list ((l.map (·.1)).map .str)):=by
 have e:∀a,mn (.dict a)=if iY a=true then .ok (.list (a.map (·.1))) else .no:=λ_=>rfl
 rw[e,if_pos (Bx l)];unfold nF;rw[cb,cb];rfl
def sorted_strs(ss:List Str)(h:ss.length<64):ur (.list (ss.map .str))=.ok (.list ((iW ss).map .str)):=by
 have e:∀ds,ur (.list ds)=match fc ds with
  |some ss=>if ss.length<64 then .ok (.list ((iW ss).map .str)) else .no
  |none=>.no:=λ_=>rfl
 rw[e,strsOf_map];simp only[if_pos h]
def iQ(ds:List D):hU (.list ds)=.ok (.tuple ds):=id rfl
def FC(ns:List Int)(k:Int)(n:Nat):List Str:=(bq n).map λ(i:Nat)=>mK ns (k+1+8*(i:Int))
def FD(ns:List Int)(k m:Int):List Str:=iW (dY [] (FC ns k (fg ns k (m+1)).toNat))
structure SG (fs:List Str) (n:Nat):Prop where
 ok:∀x∈fs,Af x=true
 up:fs.Pairwise λa b=>oR a b=true
 len:fs.length<=n
def SH{α:Type}{a b:List α}(h:a.Perm b):a.length=b.length:=h.length_eq
def L6(ns:List Int)(k m:Int)(c:0<=m):SG (FD ns k m) m.toNat:=by
 have d:=fK ns k (m+1) ∅;have b:=gz ns k (m+1) ∅;have a:=gR (dY [] (FC ns k (fg ns k (m+1)).toNat));refine⟨λx hx=>?_,?_,?_⟩
 ·have hx:=a.mem_iff.mp hx;rw[jH] at hx;rcases hx with hx|hx
  ·cases hx
  ·obtain⟨i,_,rfl⟩:=List.mem_map.mp hx;exact Ii _ _
 ·exact yu (qR _) (a.nodup_iff.mpr (jv _ [] gY))
 ·unfold FD;rw[SH a];have:=iK (FC ns k (fg ns k (m+1)).toNat) [];unfold FC at this ⊢;simp at this;omega
def Ox(f:Nat->Str)(l:List Nat):∀b:List (Str×D),((l.foldl (λ(a:List (Str×D)) i=>xx a (f i) (.bool true)) b).map (·.1))=dY (b.map (·.1)) (l.map f):=by
 induction l with
 |nil=>intro b;rfl
 |cons i r c=>
  intro b;rw[ik,c,ay,DU];rfl
def SJ(ns:List Int)(k m:Int)(f:0<=k)(j:0<=m)(e:m<=20):pX [.list (ns.map .int),.int k,.int m]=.ok (.tuple ((FD ns k m).map .str)):=by
 have g:=fK ns k (m+1) ∅;have h:=gz ns k (m+1) ∅;unfold pX;refine dh ?_;unfold pW cf;left;rw[Bb (ds:=(bq (fg ns k (m+1)).toNat).map λ(i:Nat)=>iU i)]
 ·refine N0 (λ(i:Nat)=>iU i) (λ(a:List (Str×D)) i=>xx a (mK ns (k+1+8*(i:Int))) (.bool true)) (λbA a ρ=>a.length+bA.length<=60/\∃z,ρ=[.shr (.list (ns.map .int)),.shr (.int k),.shr (.int m),.own (.dict (nF a)),z]) [] ?_ ⟨by simp;omega,_,rfl⟩ ?_
  ·rintro i bA a ρ ⟨b,z,rfl⟩;simp only[aU] at b;refine⟨_,[.shr (.list (ns.map .int)),.shr (.int k),.shr (.int m),.own (.dict (nF (xx a (mK ns (k+1+8*(i:Int))) (.bool true)))),.shr (.int i)],rfl,?_,?_,_,rfl⟩
   ·refine(XG (l:=a) (x:=mK ns (k+1+8*(i:Int))) (d:=.bool true) rfl rfl ?_ ∅).trans rfl;left;rw[uL ⋯ ⋯];left;rw[N5 ns _ ∅]
   ·have:=Ij a (mK ns (k+1+8*(i:Int))) (.bool true);omega
  ·rintro ρ' ⟨b,z,rfl⟩;simp only[cD] at b;left;rw[Ik];left;have c:=Ox (λi=>mK ns (k+1+8*(i:Int))) (bq (fg ns k (m+1)).toNat) [];rw[c,sorted_strs]
   ·left;rw[iQ];left;rfl
   ·rw[<- c,ah];omega
 ·left;rw[fz ns k (m+1) f ∅];left;have:=Fx (fg ns k (m+1)).toNat ∅;rw[gJ g] at this;exact this
structure jm where
 name:Str
 needs:List Str
 bars:List Str
 makes:List Str
 ends:List Str
 price:Int
abbrev aP(xs:List Str):D:=.tuple (xs.map .str)
def eY(e:jm):D:=.tuple [.str e.name,aP e.needs,aP e.bars,aP e.makes,aP e.ends,.int e.price]
structure vw (fs xs:List Str):Prop where
 up:xs.Pairwise λa b=>oR a b=true
 mem:∀x∈xs,x∈fs
structure pZ (fs:List Str) (e:jm):Prop where
 name:Af e.name=true
 needs:vw fs e.needs
 bars:vw fs e.bars
 makes:vw fs e.makes
 ends:vw fs e.ends
 nb:∀x∈e.needs,x∉e.bars
 me:∀x∈e.makes,x∉e.ends
 p0:0<=e.price
 p9:e.price<=9
def Il(xs:List Str):List Str:=iW (dY [] xs)
def p_:x∈Il xs↔x∈xs:=by
 unfold Il;rw[(gR _).mem_iff,jH];simp
def L7(xs:List Str):(Il xs).Pairwise λa b=>oR a b=true:=yu (qR _) ((gR _).nodup_iff.mpr (jv _ [] gY))
def Ag(h:∀x∈xs,x∈fs):vw fs (Il xs):=⟨L7 xs,λx a=>h x (p_.mp a)⟩
def xz(fs:List Str)(j:Int)(c:0<=j)(d:j<fs.length):∃x,x∈fs/\bc (aP fs) (.int j)=.ok (.str x):=by
 have a:j.toNat<fs.length:=by omega
 refine⟨fs[j.toNat],mO a,?_⟩;have e:∀xs k,bc (.tuple xs) k=KI (.tuple xs) k:=λ_ _=>rfl;rw[e];have b:=wK (xs:=fs.map aS) (j:=j.toNat) (v:=.str fs[j.toNat]) (by rw[aI,bt a];rfl);rw[gJ c] at b;unfold KI;simp only[b]
theorem By(x:Str):∀ys:List Str,((ys.map aS).any λy=>bn y (.str x))=decide (x∈ys)
 |[]=>rfl
 |y::r=>by
  rw[ay,dR,By x r,xy];by_cases h:y=x
  ·subst h;simp
  ·simp[h,dk h]
def Bz(ys:List Str):(ys.map aS).all ni=true:=by
 rw[lS,cx];intro _ _;rfl
def FE(a:Bool)(x:Str)(ys:List Str):sS a (.str x) (.list (ys.map .str))=.ok (.bool (if a then !decide (x∈ys) else decide (x∈ys))):=by
 have e:sS a (.str x) (.list (ys.map .str))=if ni (.str x)&&(ys.map aS).all ni then .ok (.bool (if a then !((ys.map aS).any λy=>bn y (.str x)) else(ys.map aS).any λy=>bn y (.str x))) else .no:=rfl
 rw[e,Bz,By];rfl
def lK(a:Bool)(x:Str)(ys:List Str):sS a (.str x) (aP ys)=.ok (.bool (if a then !decide (x∈ys) else decide (x∈ys))):=by
 have e:sS a (.str x) (aP ys)=if ni (.str x)&&(ys.map aS).all ni then .ok (.bool (if a then !((ys.map aS).any λy=>bn y (.str x)) else(ys.map aS).any λy=>bn y (.str x))) else .no:=rfl
 rw[e,Bz,By];rfl
def n6(c:Bool)(a b:Int):nh c (.int a) (.int b)=.ok (.bool (if c then !decide (a=b) else decide (a=b))):=by
 have e:nh c (.int a) (.int b)=.ok (.bool (if c then !(a==b) else(a==b))):=rfl;rw[e,ul]
def xA(h:Af x=true):(aS x).canLay0=true:=by
 unfold Af at h;simp only[aR,cx,decide_eq_true_eq] at h;show PyData.strOk x=true;unfold PyData.strOk;rw[<- Array.all_toList,cx];intro c a;have:=h.2 c a;exact decide_eq_true ∅
def VQ(a:Bool)(b:Af x=true)(c:Af y=true):nh a (.str x) (.str y)=.ok (.bool (if a then !decide (x=y) else decide (x=y))):=by
 unfold nh;rw[xA b,xA c,xy];rfl
def L8(ss:List Str)(h:ss.length<60):vR (.list (ss.map .str))=.ok (dY [] ss):=by
 have e:∀ds,vR (.list ds)=match fc ds with
  |some ss=>if ss.length<60 then .ok (dY [] ss) else .no
  |none=>.no:=λ_=>rfl
 rw[e,strsOf_map];simp only[if_pos h]
def VR(g:aE->R D)(s:Sl)(ρ:aE):tV g (s::ρ)=(g (s::ρ)).bind vR:=id rfl
def XH:List Str->R D:=λss=>if ss.length<64 then .ok (.list ((iW ss).map .str)) else .no
def DV(g:aE->R (List Str))(s:Sl)(ρ:aE):oo g (s::ρ)=(g (s::ρ)).bind XH:=id rfl
def Im(ss:List Str)(h:ss.length<64):XH ss=.ok (.list ((iW ss).map .str)):=if_pos h
def Oy(ss:List Str)(h:ss.length<60)(ρ:aE):(c7 (J.aa (oo (tV (rB 0))) J.aC) (il hU)) (.shr (.list (ss.map .str))::ρ)=.ok (aP (Il ss)):=by
 left;rw[DV,VR];left;rw[L8 ss h];left;rw[Im _ (by have:=iK ss [];simp at this;omega)];left;rw[iQ];rfl
def Io(a:ρ=s::r)(h:gt (.shr (.str x)::r)=.ok b):fY (iX 1 ρ gt (rS 0)) [.str x]=.ok ((if b then [x] else []).map .str):=by
 subst a;have e:=uv (ρ:=s::r) (gt:=gt) (ge:=(rS 0)) (d:=.str x) (y:=.str x) (b:=b) h λ_=>rfl;unfold fY;rw[e,B9];unfold fY;rw[B9];cases b<;>rfl
def Zi(p q r t:List Str)(a:p.length<60)(b:q.length<60)(d:r.length<60)(c:t.length<60):fY (iX 1 [Sl.no] kT (c7 (J.aa (oo (tV (rB 0))) J.aC) (il hU))) [.list (p.map .str),.list (q.map .str),.list (r.map .str),.list (t.map .str)]=.ok [aP (Il p),aP (Il q),aP (Il r),aP (Il t)]:=
 cK _ (λss:List Str=>iJ (ss.map .str)) (λss=>aP (Il ss)) [p,q,r,t] λss hs=>eD rfl (Oy ss (by simp at hs;rcases hs with h|h|h|h<;>(rw[h];assumption)) _)
def XI(a b c d:D):bc (.list [a,b,c,d]) (.int 0)=.ok a:=id rfl
def XJ(a b c d:D):bc (.list [a,b,c,d]) (.int 1)=.ok b:=id rfl
def XM(a b c d:D):bc (.list [a,b,c,d]) (.int 2)=.ok c:=id rfl
def XN(a b c d:D):bc (.list [a,b,c,d]) (.int 3)=.ok d:=id rfl
def VS(ns:List Int)(k:Int)(N:0<=k)(fs:List Str)(z:∀x∈fs,Af x=true)(Q:0<fs.length)(nm:Str)(L:Af nm=true):
  ∃e,se [.list (ns.map .int),.int k,aP fs,.str nm]=.ok (eY e)/\pZ fs e/\e.name=nm:=by
 have j:(0:Int)<(fs.length:Int):=by omega
 obtain⟨a,q,I⟩:=xz fs (fg ns (k+10) fs.length) (fK _ _ _ j) (gz _ _ _ j);obtain⟨b,K,M⟩:=xz fs (fg ns (k+11) fs.length) (fK _ _ _ j) (gz _ _ _ j);obtain⟨c,u,O⟩:=xz fs (fg ns (k+12) fs.length) (fK _ _ _ j) (gz _ _ _ j);have G:=fK ns (k+13) 3 ⋯;have B:=gz ns (k+13) 3 ⋯;obtain⟨h,t,v,n⟩:∃h:List Str,(∀x∈h,x∈fs)/\h.length<60/\Mf (.list [.str a,.str b]) none (some (1+fg ns (k+13) 3 / 2))=.ok (.list (h.map .str)):=by
  by_cases g:fg ns (k+13) 3=2
  ·exact⟨[a,b],by simp[q,K],by simp,by rw[g];rfl⟩
  ·have:fg ns (k+13) 3 / 2=0:=by omega
   exact⟨[a],by simp[q],by simp,by rw[this];rfl⟩
 let l:Bool:=!decide (c∈h)&&decide (fg ns (k+14) 4=0)
 let i:Bool:=!decide (a=c)&&decide (fg ns (k+15) 3=0)
 have H:=fK ns k 5 ⋯;have P:=gz ns k 5 ⋯;refine⟨⟨nm,Il h,Il (if l then [c] else []),Il [c],Il (if i then [a] else []),fg ns k 5⟩,?_,⟨L,Ag t,Ag ?_,Ag (by simp[u]),Ag ?_,λx s g=>?_,λx s g=>?_,H,by show fg ns k 5<=9;omega⟩,rfl⟩
 ·unfold se;refine dh ?_;unfold sd cf;left;rw[fz ns _ _ ∅ j];left;rw[I];left;rw[fz ns (k+11) _ ∅ j];left;rw[M];left;rw[fz ns (k+12) _ ∅ j];left;rw[O];left;rw[fz ns (k+13) 3 ∅ ⋯];left;simp only[Kb,decide_true,mX,if_true];left;rw[n];left;rw[Io (b:=l) rfl]
  ·left;rw[Io (b:=i) rfl]
   ·left;simp only[Fh];rw[Fi rfl,Fi rfl];left;have w:=Zi h (if l then [c] else []) [c] (if i then [a] else []) v (by cases l<;>simp) (by simp) (by cases i<;>simp);rw[show([c].map aS)=[aS c] from rfl] at w;rw[w];left;rw[XI];left;rw[XJ];left;rw[XM];left;rw[XN];left;rw[fz ns k 5 N ⋯];left;rfl
   ·left;rw[VQ true (z a q) (z c u)];left;by_cases p:a=c
    ·simp only[i,p,decide_true,gQ,D6,if_true,cond_false]
    ·simp only[i,p,decide_false,jT,wE,if_true,cond_true];rw[fz ns (k+15) 3 ∅ ⋯];left;rw[n6];left
  ·left;rw[FE];left;by_cases o:c∈h
   ·simp only[l,o,decide_true,gQ,D6,if_true,cond_false]
   ·simp only[l,o,decide_false,jT,wE,if_true,cond_true];rw[fz ns (k+14) 4 ∅ ⋯];left;rw[n6];left
 ·intro x m;cases d:l
  ·simp[d] at m
  ·simp[d] at m;rw[m];exact u
 ·intro x m;cases f:i
  ·simp[f] at m
  ·simp[f] at m;rw[m];exact q
 ·have g:x∈(if l then [c] else []):=p_.mp g;cases d:l
  ·simp[d] at g
  ·simp[d] at g;subst g;have:(!decide (x∈h))=true:=by
    have:(!decide (x∈h)&&decide (fg ns (k+14) 4=0))=true:=d
    simp only[aR] at this;exact this.1
   simp at this;exact this (p_.mp s)
 ·cases f:i
  ·have g:x∈(if i then [a] else []):=p_.mp g;simp[f] at g
  ·skip;have A:x∈[c]:=p_.mp s;have E:x∈(if i then [a] else []):=p_.mp g;simp only[df] at A;simp only[f,if_true,df] at E;have:(!decide (a=c)&&decide (fg ns (k+15) 3=0))=true:=f
   simp only[aR] at this;have y:=this.1;simp at y;exact y (E.symm.trans A)
def FF(a:ρ[i]?=some (Sl.ow2 dss))(c:gi ρ=.ok (.int j))(e:0<=j)(h:dss[j.toNat]?=some ds)(b:g ρ=.ok d)(f:ds.length<1000):qY i gi g ρ=.ok (.nx (ρ.set i (.ow2 (dss.set j.toNat (ds++[d]))))):=by
 unfold qY;simp only[a,c,bind_ok,if_pos e,h,b,if_pos f]
def q9(n:Nat):List Str->List (Nat×Str)
 |[]=>[]
 |x::r=>(n,x)::q9 (n+1) r
abbrev cI(p:Nat×Str):D:=.tuple [.int (p.1:Nat),.str p.2]
theorem Ah:∀(xs:List Str) (n:Nat),kj n (xs.map .str)=(q9 n xs).map cI
 |[],_=>rfl
 |x::r,n=>by
  show fM [.int n,.str x]::kj (n+1) (r.map .str)=cI (n,x)::(q9 (n+1) r).map cI;rw[Ah r (n+1)]
theorem uM:∀(xs:List Str) (n:Nat),(q9 n xs).map (·.2)=xs
 |[],_=>rfl
 |x::r,n=>by
  show x::(q9 (n+1) r).map (·.2)=x::r;rw[uM r]
theorem Ip:∀(fs:List Str),(∀x∈fs,Af x=true)->cY (fs.map .str)=true
 |[],_=>rfl
 |x::r,h=>by
  have a:=xA (h x ap);have c:=Ip r λy b=>h y (ai _ b);simp only[ay,cY,a,c,mX]
def FG(fs:List Str)(c:∀x∈fs,Af x=true):nh true (aP fs) (.tuple [])=.ok (.bool (!decide (fs=[]))):=by
 unfold nh;have a:(aP fs).canLay0=true:=by simp only[eg];exact Ip fs c
 have e:(fM []).canLay0=true:=rfl;have b:min (aP fs).depth (fM []).depth<=60:=cH (Aq _ _) ⋯;have d:bn (aP fs) (.tuple [])=decide (fs=[]):=by
  cases fs with
  |nil=>rfl
  |cons x r=>simp[bn,dQ]
 rw[a,e,decide_eq_true b,d];rfl
structure qy (pre p q:List Str):Prop where
 sp:p.Sublist pre
 sq:q.Sublist pre
 d:∀x∈p,x∉q
def qy.skip(h:qy pre p q)(x:Str):qy (pre++[x]) p q:=⟨h.sp.trans (kO _ _),h.sq.trans (kO _ _),h.d⟩
def qy.left(h:qy pre p q)(x:Str)(c:x∉pre):qy (pre++[x]) (p++[x]) q:=⟨h.sp.append (fJ _),h.sq.trans (kO _ _),λy b a=>by
 rcases List.mem_append.mp b with h1|h1
 ·exact h.d y h1 a
 ·rw[List.mem_singleton.mp h1] at a;exact c (h.sq.subset a)⟩
def qy.right(h:qy pre p q)(x:Str)(c:x∉pre):qy (pre++[x]) p (q++[x]):=⟨h.sp.trans (kO _ _),h.sq.append (fJ _),λy a b=>by
 rcases List.mem_append.mp b with h1|h1
 ·exact h.d y a h1
 ·rw[List.mem_singleton.mp h1] at a;exact c (h.sp.subset a)⟩
abbrev o4(p q r t:List Str):Sl:=.ow2 [p.map .str,q.map .str,r.map .str,t.map .str]
def q1a(j:Int)(c:0<=j)(a:j<3):∃b:Bool,bc (.list [.int 0,.int 0,.int 1]) (.int j)=.ok (.int (if b then 0 else 1)):=by
 have:j=0\/j=1\/j=2:=by omega
 rcases this with h|h|h<;>subst h
 ·exact⟨true,rfl⟩
 ·exact⟨true,rfl⟩
 ·exact⟨false,rfl⟩
def q1b(j:Int)(c:0<=j)(a:j<4):∃b:Bool,bc (.list [.int 2,.int 2,.int 3,.int 3]) (.int j)=.ok (.int (if b then 2 else 3)):=by
 have:j=0\/j=1\/j=2\/j=3:=by omega
 rcases this with h|h|h|h<;>subst h
 ·exact⟨true,rfl⟩
 ·exact⟨true,rfl⟩
 ·exact⟨false,rfl⟩
 ·exact⟨false,rfl⟩
def xB(p:List Str)(x:Str):(p++[x]).map aS=p.map .str++[.str x]:=by simp
def SK(g:qy pre p q)(i:x∉pre)(u:pre.length<900)(s:0<=j):
  ∃k q',qy (pre++[x]) k q'/\eC (ej (g2 (rB 7) (kI 3) KG)) (qY 4 (g2 (de (J.aa (kI 0) (J.aa (kI 0) (J.aa (kI 1) J.aC))) .list) (rB 7) bc) (rS 6)) (λρ=>.ok (.nx ρ)) [a,b,c,d,o4 p q r t,e,.shr (.str x),.shr (.int j),f]=.ok (.nx [a,b,c,d,o4 k q' r t,e,.shr (.str x),.shr (.int j),f]):=by
 by_cases h:j<3
 ·obtain⟨m,l⟩:=q1a j s h;have n:p.length<1000:=by have:=g.sp.length_le;omega
  have o:q.length<1000:=by have:=g.sq.length_le;omega
  cases m
  ·refine⟨p,q++[x],g.right x i,?_⟩;left;rw[decide_eq_true h];left;simp only[o4,xB];refine(FF (j:=1) (ds:=q.map .str) (d:=.str x) rfl ?_ ⋯ rfl rfl (by rw[ah];exact o)).trans rfl;left;rw[l];rfl
  ·refine⟨p++[x],q,g.left x i,?_⟩;left;rw[decide_eq_true h];left;simp only[o4,xB];refine(FF (j:=0) (ds:=p.map .str) (d:=.str x) rfl ?_ ⋯ rfl rfl (by rw[ah];exact n)).trans rfl;left;rw[l];rfl
 ·refine⟨p,q,g.skip x,?_⟩;left;rw[decide_eq_false h];left
def SL(g:qy pre r t)(k:x∉pre)(u:pre.length<900)(s:0<=j):
  ∃i t',qy (pre++[x]) i t'/\eC (ej (g2 (rB 7) (kI 4) KG)) (qY 4 (g2 (de (J.aa (kI 2) (J.aa (kI 2) (J.aa (kI 3) (J.aa (kI 3) J.aC)))) .list) (rB 7) bc) (rS 6)) (λρ=>.ok (.nx ρ)) [a,b,c,d,o4 p q r t,e,.shr (.str x),.shr (.int j),f]=.ok (.nx [a,b,c,d,o4 p q i t',e,.shr (.str x),.shr (.int j),f]):=by
 by_cases h:j<4
 ·obtain⟨m,l⟩:=q1b j s h;have n:r.length<1000:=by have:=g.sp.length_le;omega
  have o:t.length<1000:=by have:=g.sq.length_le;omega
  cases m
  ·refine⟨r,t++[x],g.right x k,?_⟩;left;rw[decide_eq_true h];left;simp only[o4,xB];refine(FF (j:=3) (ds:=t.map .str) (d:=.str x) rfl ?_ ⋯ rfl rfl (by rw[ah];exact o)).trans rfl;left;rw[l];rfl
  ·refine⟨r++[x],t,g.left x k,?_⟩;left;rw[decide_eq_true h];left;simp only[o4,xB];refine(FF (j:=2) (ds:=r.map .str) (d:=.str x) rfl ?_ ⋯ rfl rfl (by rw[ah];exact n)).trans rfl;left;rw[l];rfl
 ·refine⟨r,t,g.skip x,?_⟩;left;rw[decide_eq_false h];left
def q1c(i:Nat)(ρ:aE):Ve i ρ=.ok (.nx ((clear2 ρ).set i (.ow2 [[],[],[],[]]))):=id rfl
def qy.sub(d:fs.Pairwise λa b=>oR a b=true)(h:qy fs p q):vw fs p/\vw fs q:=⟨⟨d.sublist h.sp,λx c=>h.sp.subset c⟩,⟨d.sublist h.sq,λx c=>h.sq.subset c⟩⟩
def SM(p:List Str)(ρ:aE):(c7 (J.aa (rB 0) J.aC) (il hU)) (.shr (.list (p.map .str))::ρ)=.ok (aP p):=by
 left;rw[iQ]
def q1d(p q r t:List Str):fY (iX 1 [Sl.no] kT (c7 (J.aa (rB 0) J.aC) (il hU))) [.list (p.map .str),.list (q.map .str),.list (r.map .str),.list (t.map .str)]=.ok [aP p,aP q,aP r,aP t]:=
 cK _ (λss:List Str=>iJ (ss.map .str)) (λss=>aP ss) [p,q,r,t] λss hs=>eD rfl (SM ss _)
def Oz(ns:List Int)(k:Int)(M:0<=k)(fs:List Str)(B:∀x∈fs,Af x=true)(G:fs.Pairwise λa b=>oR a b=true)(I:fs.Nodup)(X:fs.length<=6)(nm:Str)(K:Af nm=true):
  ∃e,jM [.list (ns.map .int),.int k,aP fs,.str nm]=.ok (eY e)/\pZ fs e/\e.name=nm:=by
 have N:=fK ns k 5 ⋯;have Y:=gz ns k 5 ⋯;have T:∀ ρ:aE,ρ=[.shr (.list (ns.map .int)),.shr (.int k),.shr (aP fs),.shr (.str nm),.no,.no,.no,.no,.no]->(!decide (fs=[])&&decide (fg ns 97 2=0))=false->∃e,jL ρ=.ok (.rt (eY e))/\pZ fs e/\e.name=nm:=by
  rintro ρ rfl m;obtain⟨ρ',n,p,q,r,t,l,o,v⟩:∃ ρ',(qx (CF (J.aa (rS 2) J.aC)) (pd 2 (cW (cr 5) (cW (cr 6) qX))) (a_ (iu 7 (dN 3 aY (J.aa (rS 0) (J.aa (g2 (g2 (rB 1) (kI 10) dU) (rB 5) dU) (J.aa (kI 8) J.aC))))) (a_ (eC (ej (g2 (rB 7) (kI 3) KG)) (qY 4 (g2 (de (J.aa (kI 0) (J.aa (kI 0) (J.aa (kI 1) J.aC))) .list) (rB 7) bc) (rS 6)) (λρ=>.ok (.nx ρ))) (a_ (iu 7 (dN 3 aY (J.aa (rS 0) (J.aa (g2 (g2 (rB 1) (kI 20) dU) (rB 5) dU) (J.aa (kI 8) J.aC))))) (eC (ej (g2 (rB 7) (kI 4) KG)) (qY 4 (g2 (de (J.aa (kI 2) (J.aa (kI 2) (J.aa (kI 3) (J.aa (kI 3) J.aC)))) .list) (rB 7) bc) (rS 6)) (λρ=>.ok (.nx ρ))))))) [.shr (.list (ns.map .int)),.shr (.int k),.shr (aP fs),.shr (.str nm),o4 [] [] [] [],.no,.no,.no,.no]=.ok (.nx ρ')/\∃p q r t,qy fs p q/\qy fs r t/\∃w z s,ρ'=[.shr (.list (ns.map .int)),.shr (.int k),.shr (aP fs),.shr (.str nm),o4 p q r t,w,z,s,.no]:=by
   rw[Bb (ds:=(q9 0 fs).map cI)]
   ·have H:=tZ cI (λ(a:Unit) (_:Nat×Str)=>a) (λbA _ ρ=>∃g,g++bA.map (·.2)=fs/\∃p q r t,qy g p q/\qy g r t/\∃w z s,ρ=[.shr (.list (ns.map .int)),.shr (.int k),.shr (aP fs),.shr (.str nm),o4 p q r t,w,z,s,.no]) (kt:=pd 2 (cW (cr 5) (cW (cr 6) qX))) (gb:=(a_ (iu 7 (dN 3 aY (J.aa (rS 0) (J.aa (g2 (g2 (rB 1) (kI 10) dU) (rB 5) dU) (J.aa (kI 8) J.aC))))) (a_ (eC (ej (g2 (rB 7) (kI 3) KG)) (qY 4 (g2 (de (J.aa (kI 0) (J.aa (kI 0) (J.aa (kI 1) J.aC))) .list) (rB 7) bc) (rS 6)) (λρ=>.ok (.nx ρ))) (a_ (iu 7 (dN 3 aY (J.aa (rS 0) (J.aa (g2 (g2 (rB 1) (kI 20) dU) (rB 5) dU) (J.aa (kI 8) J.aC))))) (eC (ej (g2 (rB 7) (kI 4) KG)) (qY 4 (g2 (de (J.aa (kI 2) (J.aa (kI 2) (J.aa (kI 3) (J.aa (kI 3) J.aC)))) .list) (rB 7) bc) (rS 6)) (λρ=>.ok (.nx ρ)))))));obtain⟨ρ',n,g,l,p,q,r,t,o,v,Q⟩:=H (by
     rintro⟨i,x⟩ bA _ ρ ⟨g,l,p,q,r,t,o,v,w,z,s,rfl⟩;have A:x∉g:=by
      rw[<- l,ay] at I;have:=(List.nodup_append.mp I).2.2;intro A;exact this x A x ap rfl
     have y:g.length<900:=by
      have:=congrArg lm l;rw[aT] at this;omega
     obtain⟨E,q',k1,k2⟩:=SK (a:=.shr (.list (ns.map .int))) (b:=.shr (.int k)) (c:=.shr (aP fs)) (d:=.shr (.str nm)) (e:=.shr (.int (i:Nat))) (f:=.no) (r:=r) (t:=t) (j:=fg ns (k+10+i) 8) o A y (fK _ _ _ ⋯);obtain⟨L,t',k3,P⟩:=SL (a:=.shr (.list (ns.map .int))) (b:=.shr (.int k)) (c:=.shr (aP fs)) (d:=.shr (.str nm)) (e:=.shr (.int (i:Nat))) (f:=.no) (p:=E) (q:=q') (j:=fg ns (k+20+i) 8) v A y (fK _ _ _ ⋯);refine⟨[.shr (.list (ns.map .int)),.shr (.int k),.shr (aP fs),.shr (.str nm),o4 p q r t,.shr (.int (i:Nat)),.shr (.str x),s,.no],[.shr (.list (ns.map .int)),.shr (.int k),.shr (aP fs),.shr (.str nm),o4 E q' L t',.shr (.int (i:Nat)),.shr (.str x),.shr (.int (fg ns (k+20+i) 8)),.no],rfl,?_,g++[x],?_,E,q',L,t',k1,k3,_,_,_,rfl⟩
     ·rw[Hu,Ra];walk_at "yy";rw[fz ns _ 8 ∅ ⋯];walk_at "yy";rw[k2];walk_at "yy";rw[fz ns _ 8 ∅ ⋯];walk_at "yy";rw[P]
     ·rw[<- l];simp) (q9 0 fs) () [.shr (.list (ns.map .int)),.shr (.int k),.shr (aP fs),.shr (.str nm),o4 [] [] [] [],.no,.no,.no,.no] ⟨[],by rw[uM];rfl,[],[],[],[],⟨fJ _,fJ _,λ_ h=>nomatch h⟩,⟨fJ _,fJ _,λ_ h=>nomatch h⟩,_,_,_,rfl⟩
    refine⟨ρ',n,p,q,r,t,?_,?_,Q⟩
    ·simp only[fq,ck] at l;rw[<- l];exact o
    ·simp only[fq,ck] at l;rw[<- l];exact v
   ·left;rw[Ah]
  obtain⟨s1,S⟩:=l.sub G;obtain⟨s3,O⟩:=o.sub G;obtain⟨w,z,s,rfl⟩:=v;refine⟨⟨nm,p,q,r,t,fg ns k 5⟩,?_,⟨K,s1,S,s3,O,l.d,o.d,N,by show fg ns k 5<=9;omega⟩,rfl⟩;unfold jL;have u:AR (ej (g2 (rB 2) (de J.aC .tuple) (nh true))) (ej (g2 (dN 3 aY (J.aa (rS 0) (J.aa (kI 97) (J.aa (kI 2) J.aC)))) (kI 0) (nh false))) [.shr (.list (ns.map .int)),.shr (.int k),.shr (aP fs),.shr (.str nm),.no,.no,.no,.no,.no]=.ok false:=by
   left;rw[FG fs B];left;by_cases h:fs=[]
   ·simp only[h,decide_true,gQ,cond_false]
   ·simp only[h,decide_false,jT,cond_true,wE] at m ⊢;rw[fz ns 97 2 ⋯ ⋯];left;rw[n6];left;rw[m]
  rw[Hu,q0A,u];simp only[B9,R8,q1c,clear2,ay,fq,xW,xV,B9,xm,Hu];rw[show Sl.ow2 [[],[],[],[]]=o4 [] [] [] [] from rfl,n];left;rw[q1d];left;rw[XI];left;rw[XJ];left;rw[XM];left;rw[XN];left;rw[fz ns k 5 M ⋯];left;rfl
 by_cases m:(!decide (fs=[])&&decide (fg ns 97 2=0))=true
 ·have U:0<fs.length:=by
   rcases fs with _|⟨x,r⟩
   ·simp at m
   ·simp
  obtain⟨e,n,l⟩:=VS ns k M fs B U nm K;refine⟨e,?_,l⟩;unfold jM;refine dh ?_;unfold jL cf;left;rw[FG fs B];left;simp only[aR] at m;rw[m.1];left;rw[fz ns 97 2 ⋯ ⋯];left;rw[n6];left;rw[m.2];left;rw[n];left
 ·obtain⟨e,n,l⟩:=T _ rfl (Bool.eq_false_iff.mpr m);exact⟨e,by unfold jM;exact dh n,l⟩
def L9(ds:List D)(t:Nat)(h:t<=ds.length):AT ds (some (t:Int)) none=ds.drop t:=by
 unfold AT;rw[HT.M3,HT.GF,Nat.min_eq_left h,List.take_of_length_le (by rw[sH];exact aw _)]
def Zj(ds:List D)(t:Nat)(h:t<=ds.length):AT ds none (some (t:Int))=ds.take t:=by
 unfold AT;rw[HT.M3,HT.GF,Nat.min_eq_left h,List.drop_zero,Nat.sub_zero]
def q1e(ds:List D)(t:Nat)(h:t<=ds.length):Mf (.list ds) (some (t:Int)) none=.ok (.list (ds.drop t)):=by
 rw[<- L9 ds t h];rfl
def q1f(ds:List D)(t:Nat)(h:t<=ds.length):Mf (.list ds) none (some (t:Int))=.ok (.list (ds.take t)):=by
 rw[<- Zj ds t h];rfl
def Zk(c:(l.map (·.1)).Nodup)(b:p∈l):bc (.dict (nF l)) (.str p.1)=.ok p.2:=by
 have e:∀a x,bc (.dict a) (.str x)=if iY a=true then(match nj a (.str x) with
   |some d=>.ok d
   |none=>.no) else .no:=λ_ _=>rfl
 rw[e,if_pos (Bx l)];have:nj (nF l) (.str p.1)=some p.2:=by
  unfold nj nF;clear e;induction l with
  |nil=>cases b
  |cons q r f=>
   rw[ay] at c;obtain⟨g,i⟩:=List.nodup_cons.mp c;rw[ay,cC,xy];rcases List.mem_cons.mp b with h|h
   ·subst h;simp
   ·have:q.1≠p.1:=λz=>g (z ▸ bi h)
    rw[decide_eq_false this];exact f i h
 rw[this]
structure fh (fs:List Str) (es:List jm):Prop where
 rise:SG fs 6
 len:es.length<=6
 nd:(es.map (·.name)).Nodup
 ok:∀e∈es,pZ fs e
def cG(fs:List Str)(es:List jm):D:=.tuple [aP fs,.tuple (es.map eY)]
theorem q1g(fs:List Str):∀(l:List (Str×D)),(∀p∈l,∃e,p.2=eY e/\pZ fs e/\e.name=p.1)->∃es:List jm,l.map (·.2)=es.map eY/\es.map (·.name)=l.map (·.1)/\∀e∈es,pZ fs e
 |[],_=>⟨[],rfl,rfl,λ_ h=>nomatch h⟩
 |p::r,h=>by
  obtain⟨e,a,d,b⟩:=h p ap;obtain⟨es,k1,k2,k3⟩:=q1g fs r λq c=>h q (ai _ c);refine⟨e::es,by rw[ay,ay,a,k1],by rw[ay,ay,b,k2],λx f=>?_⟩;rcases List.mem_cons.mp f with z|z
  ·rw[z];exact d
  ·exact k3 x z
def OA{α:Type}(l:List α)(t:Nat):(l.drop t++l.take t).Perm l:=by
 refine List.perm_append_comm.trans ?_;rw[hJ]
def mL{l:List Str}(h:l.Pairwise λa b=>oR a b=true):l.Nodup:=h.imp λc z=>by
 rw[z,kE] at c;cases c
def VT(ns:List Int)(k:Int)(N:0<=k)(m n:Int)(f:0<=m)(S:m<=6)(O:0<=n)(T:n<=6):∃fs es,oB [.list (ns.map .int),.int k,.int m,.int n]=.ok (cG fs es)/\fh fs es/\fs.length<=m.toNat/\es.length<=n.toNat:=by
 have b:=L6 ns k m f;generalize u:FD ns k m=fs at b;have y:=b.len;have b:SG fs 6:=⟨b.ok,b.up,by have:=b.len;omega⟩;have G:=mL b.up;have E:=fK ns (k+60) (n+1) ∅;have Y:=gz ns (k+60) (n+1) ∅;suffices H:∃es,oB [.list (ns.map .int),.int k,.int m,.int n]=.ok (cG fs es)/\fh fs es/\es.length<=n.toNat from H.elim λes h=>⟨fs,es,h.1,h.2.1,y,h.2.2⟩
 unfold oB;suffices H:∃es,oA (cf 10 [.list (ns.map .int),.int k,.int m,.int n])=.ok (.rt (cG fs es))/\fh fs es/\es.length<=n.toNat from H.elim λes h=>⟨es,dh h.1,h.2⟩
 have H:=tZ (λ(i:Nat)=>iU i) (λ(a:Unit) (_:Nat)=>a) (λbA _ ρ=>∃l,l.length+bA.length<=n.toNat/\(l.map (·.1)).Nodup/\(∀p∈l,∃e,p.2=eY e/\pZ fs e/\e.name=p.1)/\∃v q,ρ=[.shr (.list (ns.map .int)),.shr (.int k),.shr (.int m),.shr (.int n),.shr (aP fs),.own (.dict (nF l)),v,q,.no,.no]) (kt:=cr 6) (gb:=a_ (iu 7 (dN 2 m7 (J.aa (rS 0) (J.aa (g2 (g2 (rB 1) (kI 70) dU) (g2 (kI 40) (rB 6) zU) dU) J.aC)))) (Fg 5 (rS 7) (dN 4 jM (J.aa (rS 0) (J.aa (g2 (g2 (rB 1) (kI 80) dU) (g2 (kI 40) (rB 6) zU) dU) (J.aa (rS 4) (J.aa (rS 7) J.aC)))))));obtain⟨ρ',z,l,w,o,s,v,q,M⟩:=H (by
  rintro i bA _ ρ ⟨l,w,o,s,v,q,rfl⟩;simp only[aU] at w;have I:=Ii ns (k+70+40*(i:Int));obtain⟨e,g,P,B⟩:=Oz ns (k+80+40*(i:Int)) ∅ fs b.ok b.up G b.len (mK ns (k+70+40*(i:Int))) I;have pl:=Ij l (mK ns (k+70+40*(i:Int))) (eY e);refine⟨[.shr (.list (ns.map .int)),.shr (.int k),.shr (.int m),.shr (.int n),.shr (aP fs),.own (.dict (nF l)),.shr (.int i),q,.no,.no],[.shr (.list (ns.map .int)),.shr (.int k),.shr (.int m),.shr (.int n),.shr (aP fs),.own (.dict (nF (xx l (mK ns (k+70+40*(i:Int))) (eY e)))),.shr (.int i),.shr (.str (mK ns (k+70+40*(i:Int)))),.no,.no],rfl,?_,xx l (mK ns (k+70+40*(i:Int))) (eY e),by omega,?_,?_,_,_,rfl⟩
  ·left;rw[uL ⋯ ⋯];left;rw[N5 ns _ ∅];left;refine(XG (l:=l) (x:=mK ns (k+70+40*(i:Int))) (d:=eY e) rfl ?_ rfl ∅).trans rfl;left;rw[uL ⋯ ⋯];left;exact g
  ·rw[DU];exact Ow o
  ·exact SF (Q:=λx d=>∃e,d=eY e/\pZ fs e/\e.name=x) s ⟨e,rfl,P,B⟩) (bq (fg ns (k+60) (n+1)).toNat) () [.shr (.list (ns.map .int)),.shr (.int k),.shr (.int m),.shr (.int n),.shr (aP fs),.own (.dict (nF [])),.no,.no,.no,.no] ⟨[],by rw[dG];simp only[cD];omega,gY,λ_ h=>(nomatch h),_,_,rfl⟩
 simp only[cD,oX] at w;have K:=fK ns (k+61) ((l.length:Int)+1) ∅;have U:=gz ns (k+61) ((l.length:Int)+1) ∅;obtain⟨t,A⟩:∃t:Nat,fg ns (k+61) ((l.length:Int)+1)=t:=⟨_,(gJ K).symm⟩;have tl:t<=l.length:=by omega
 have c:=OA l t;obtain⟨es,k1,k2,k3⟩:=q1g fs (l.drop t++l.take t) λp j=>s p (c.mem_iff.mp j);have X:es.length=l.length:=by
  have:=congrArg lm k1;rw[ah,ah,c.length_eq] at this;exact this.symm
 refine⟨es,?_,⟨b,by omega,?_,k3⟩,by omega⟩
 ·unfold oA cf;walk_at "yy";rw[SJ ns k m N f ∅,u];walk_at "yy";rw[Bb (ds:=(bq (fg ns (k+60) (n+1)).toNat).map λ(i:Nat)=>iU i)]
  ·rw[show Jo []=Jo (nF []) from rfl,z,M];walk_at "yy";rw[Ik];walk_at "yy";rw[fz ns _ _ ∅ ∅,A];walk_at "yy";clear H z;rw[q1e _ t (by simpa using tl)];walk_at "yy";rw[q1f _ t (by simpa using tl)];walk_at "yy";have g:(List.drop t (pz aS (pz (λx=>x.fst) l))++List.take t (pz aS (pz (λx=>x.fst) l)))=(l.drop t++l.take t).map λp=>aS p.1:=by
    rw[bF,wF,Go,cb];rfl
   rw[g,if_pos (by rw[<- aT,g,ah,c.length_eq];omega)];have pl:=c.length_eq;have px:∀p∈l.drop t++l.take t,p∈l:=λp j=>c.mem_iff.mp j;clear g c k2;generalize l.drop t++l.take t=L at pl px k1 ⊢;walk_at "yy";rw[if_pos ∅];rw[cK _ (λp:Str×D=>aS p.1) (λp=>p.2) L λp j=>eD rfl (by
    walk_at "yy";exact Zk o (px p j))]
   walk_at "yy";rw[iQ];walk_at "yy";rw[k1];rfl
  ·walk_at "yy";rw[fz ns (k+60) (n+1) ∅ ∅];walk_at "yy";have:=Fx (fg ns (k+60) (n+1)).toNat ∅;rw[gJ E] at this;exact this
 ·rw[k2];exact((c.map _).nodup_iff).mpr o
theorem DW{α:Type}(b:α->Bool):∀xs:List α,pG (xs.map λx=>bO (b x))=some (xs.map b)
 |[]=>rfl
 |x::r=>by
  show(pG (r.map λx=>bO (b x))).map (b x::·)=_;rw[DW b r];rfl
def iR{α:Type}(k:List Bool->Bool)(b:α->Bool)(xs:List α):f9 k (.list (xs.map λx=>bO (b x)))=.ok (.bool (k (xs.map b))):=by
 have e:∀ds,f9 k (.list ds)=match pG ds with
  |some bs=>.ok (.bool (k bs))
  |none=>.no:=λ_=>rfl
 rw[e,DW]
def SO(a:gt (.shr d::.shr d'::ρ)=.ok true)(c:ge (.shr d::.shr d'::ρ)=.ok y):iX 2 (s::s'::ρ) gt ge (.tuple [d,d'])=.ok (some y):=by
 have e:iX 2 (s::s'::ρ) gt ge (.tuple [d,d'])=Fb ((gt (.shr d::.shr d'::ρ)).bind λb=>if b then(ge (.shr d::.shr d'::ρ)).bind λy=>.ok (some y) else .ok none):=id rfl;rw[e,a,bind_ok,if_pos rfl,c];rfl
def Zl(x:Str):qT (.str x)=true:=id rfl
def SQ(i:Int):qT (.int i)=true:=id rfl
theorem FH{α:Type}(c:α->D)(h:∀x,qT (c x)=true):∀xs:List α,noDs (xs.map c)=true
 |[]=>rfl
 |x::r=>by
  show(qT (c x)&&noDs (r.map c))=true;rw[h x,FH c h r];rfl
def SS(xs:List D):qT (.tuple xs)=noDs xs:=id rfl
def uN(xs:List Str):qT (aP xs)=true:=by
 rw[SS];exact FH _ (λ_=>rfl) xs
def N6(e:jm):qT (eY e)=true:=by
 have:qT (eY e)=(true&&(qT (aP e.needs)&&(qT (aP e.bars)&&(qT (aP e.makes)&&(qT (aP e.ends)&&(true&&true)))))):=rfl
 rw[this,uN,uN,uN,uN];rfl
def XO(es:List jm):qT (.tuple (es.map eY))=true:=by
 rw[SS];exact FH _ N6 es
def VU(fs:List Str)(es:List jm):qT (cG fs es)=true:=by
 have:qT (cG fs es)=(qT (aP fs)&&(qT (.tuple (es.map eY))&&true)):=rfl
 rw[this,uN,XO];rfl
def Zm(x:Str):CD "str" (.str x)=true:=id rfl
def FI(x:List D):CD "tuple" (.tuple x)=true:=id rfl
def Zn(x:Int):CD "int" (.int x)=true:=id rfl
def Zo(x:Int):CD "bool" (.int x)=false:=id rfl
def VV:∀c:_root_.Fin 123,97<=c.val->(!oR ⟨#[c.val]⟩ "a")=true/\(!oR "z" ⟨#[c.val]⟩)=true:=by decide +kernel
def DX(h:Af x=true):r9 [.str x]=.ok (.bool true):=by
 have f:=h;unfold Af at h;simp only[aR,decide_eq_true_eq,cx] at h;obtain⟨⟨e,j⟩,a⟩:=h;have i:x.length=x.cps.size:=rfl;unfold r9;refine dh ?_;unfold uC cf;left;rw[Zl,Zm];left;rw[if_pos ∅];left;rw[decide_eq_true ∅];left;rw[decide_eq_true ∅];left;unfold qw;left;rw[if_pos (by rw[ax];omega)];rw[cK _ (λc:Nat=>aS ⟨#[c]⟩) (λ_=>bO true) x.cps.toList λc b=>eD rfl (by
  obtain⟨d,g⟩:=a c b;obtain⟨b1,b2⟩:=VV ⟨c,by omega⟩ d;left;simp only at b1 b2;rw[b1];left;rw[b2])]
 left;rw[iR _ (λ_=>true)];left;simp
theorem Iq:∀(xs ys:List Str),zW (xs.map .str) (ys.map .str)=(xs.zip ys).map λp=>fM [.str p.1,.str p.2]
 |[],_=>rfl
 |_::_,[]=>rfl
 |x::r,y::a=>by
  show fM [.str x,.str y]::zW (r.map .str) (a.map .str)=_;rw[Iq r a];rfl
theorem SU:∀{l:List Str},(l.Pairwise λa b=>oR a b=true)->∀p∈l.zip (l.drop 1),oR p.1 p.2=true
 |[],_,p,c=>by cases c
 |[_],_,p,c=>by cases c
 |a::b::r,h,p,c=>by
  obtain⟨d,e⟩:=List.pairwise_cons.mp h;rcases List.mem_cons.mp c with z|z
  ·rw[z];exact d b ap
  ·exact SU e p z
def VW(xs:List Str):Mf (aP xs) (some 1) none=.ok (aP (xs.drop 1)):=by
 have e:Mf (aP xs) (some 1) none=.ok (.tuple (AT (xs.map .str) (some 1) none)):=rfl;rw[e];cases xs with
 |nil=>rfl
 |cons x r=>
  rw[show(1:Int)=((1:Nat):Int) from rfl,L9 _ 1 (by simp)];rfl
def zu(e:∀x∈xs,Af x=true)(f:xs.Pairwise λa b=>oR a b=true)(g:xs.length<=6):gT [aP xs]=.ok (.bool true):=by
 unfold gT;refine dh ?_;unfold iO cf;left;rw[uN,FI];left;rw[if_pos ∅];rw[cK _ (λx:Str=>aS x) (λ_=>bO true) xs λx d=>eD rfl (by
  left;rw[DX (e x d)])]
 left;rw[iR _ (λ_=>true)];left;rw[show((xs.map λ_=>true).all id)=true by simp];left;rw[VW];left;rw[Iq];left;rw[if_pos (by simp;omega)];rw[cK _ (λp:Str×Str=>fM [.str p.1,.str p.2]) (λ_=>bO true) (xs.zip (xs.drop 1)) λp c=>SO rfl (by
  left;rw[SU f p c])]
 left;rw[iR _ (λ_=>true)];left;simp
def oE(b:∀x∈fs,Af x=true)(h:vw fs xs)(c:xs.length<=6):kW [aP fs,aP xs]=.ok (.bool true):=by
 unfold kW;refine dh ?_;unfold pO cf;left;rw[zu (λx a=>b x (h.mem x a)) h.up c];left;rw[if_pos ∅];rw[cK _ (λx:Str=>aS x) (λ_=>bO true) xs λx a=>eD rfl (by
  left;rw[lK,decide_eq_true (h.mem x a)];rfl)]
 left;rw[iR _ (λ_=>true)];left;simp
def DY(h:∀x∈xs,x∉ys)(b:xs.length<=6):eE [aP xs,aP ys]=.ok (.bool true):=by
 unfold eE;refine dh ?_;unfold lG cf;left;rw[if_pos ∅];rw[cK _ (λx:Str=>aS x) (λ_=>bO false) xs λx a=>eD rfl (by
  left;rw[lK,decide_eq_false (h x a)];rfl)]
 left;rw[iR _ (λ_=>false)];left;simp
def La(b:l<=i)(a:i<=m):rW [.int i,.int l,.int m]=.ok (.bool true):=by
 unfold rW;refine dh ?_;unfold rV cf;left;rw[SQ,Zn];left;rw[SQ,Zo];left;rw[decide_eq_true b];left;rw[decide_eq_true a]
theorem FJ:∀(xs fs:List Str),xs.Nodup->(∀x∈xs,x∈fs)->xs.length<=fs.length
 |[],_,_,_=>cu _
 |x::r,fs,c,h=>by
  obtain⟨d,e⟩:=List.nodup_cons.mp c;have b:=h x ap;have:=FJ r (fs.erase x) e λy a=>(vg λ(z:y=x)=>d (z ▸ a)).mpr (h y (ai _ a));rw[rA b] at this;have:0<fs.length:=sZ b
  rw[aU];omega
def kw(h:vw fs xs)(a:fs.length<=6):xs.length<=6:=by
 exact cH (FJ xs fs (mL h.up) h.mem) a
def q24(a b c d e f g:D):RF (pd 6 (cW (cr 2) (cW (cr 3) (cW (cr 4) (cW (cr 5) (cW (cr 6) (cW (cr 7) qX))))))) [Sl.shr a,Sl.shr (.tuple [b,c,d,e,f,g]),.no,.no,.no,.no,.no,.no] (.tuple [b,c,d,e,f,g])=.ok (.nx [Sl.shr a,Sl.shr (.tuple [b,c,d,e,f,g]),.shr b,.shr c,.shr d,.shr e,.shr f,.shr g]):=id rfl
def Ir(a:SG fs 6)(g:pZ fs e):pQ [aP fs,eY e]=.ok (.bool true):=by
 have f:=kw g.needs a.len;have h:=kw g.bars a.len;have d:=kw g.makes a.len;have i:=kw g.ends a.len;unfold pQ;refine dh ?_;unfold pP cf;left;rw[N6];unfold eY;left;rw[FI];left;rw[n6];left;rw[show decide (((6:Nat):Int)=6)=true from rfl];left;rw[q24]
 ·left;rw[DX g.name];left;rw[La g.p0 g.p9];left;have b:=cK (iX 1 [Sl.no,Sl.shr (aP fs)] kT (dN 2 kW (J.aa (rS 1) (J.aa (rS 0) J.aC)))) (λx:List Str=>aP x) (λ_=>bO true) [e.needs,e.bars,e.makes,e.ends] λx c=>eD rfl (by
   left;simp only[aW,br,or_false] at c;rcases c with z|z|z|z<;>rw[z]
   ·rw[oE a.ok g.needs f]
   ·rw[oE a.ok g.bars h]
   ·rw[oE a.ok g.makes d]
   ·rw[oE a.ok g.ends i])
  simp only[ay,fq] at b;rw[b];left;rw[show f9 (λbs=>bs.all id) (.list [.bool true,.bool true,.bool true,.bool true])=.ok (.bool true) from rfl];left;rw[DY g.nb f];left;rw[DY g.me d];left
def SW(l:List Str)(b:l.Nodup):(dY [] l).length=l.length:=by
 have c:=FJ (dY [] l) l (jv l [] gY) λx a=>((jH l [] x).mp a).elim (λh=>nomatch h) id;have d:=FJ l (dY [] l) b λx a=>(jH l [] x).mpr (.inr a);omega
def OB(es:List jm)(c:es.length<=6)(a:(es.map (·.name)).Nodup)(s:Sl)(ρ:aE)(h:(s::ρ)[2]?=some (.shr (.tuple (es.map eY)))):xl (yz 1 [] (gG (rB 2)) kT (g2 (rB 0) (kI 0) bc)) (s::ρ)=.ok (.int (es.length:Nat)):=by
 have b:Jq (s::ρ) 2=.ok (.tuple (es.map eY)):=by unfold Jq;rw[h]
 unfold xl yz;rw[YL,Z2,b];left;rw[if_pos ∅];rw[cK _ eY (λe=>aS e.name) es λe he=>eD rfl (by
  left;rfl)]
 left;have:(es.map λe=>aS e.name)=(es.map (·.name)).map .str:=by rw[cb];rfl
 rw[this,strsOf_map];simp only[B9,SW _ a,ah]
def q25(b c:D):RF (pd 2 (cW (cr 1) (cW (cr 2) qX))) [Sl.shr (.tuple [b,c]),.no,.no] (.tuple [b,c])=.ok (.nx [Sl.shr (.tuple [b,c]),.shr b,.shr c]):=id rfl
def OC(g:fh fs es):uE [cG fs es]=.ok (.bool true):=by
 have b:=g.rise.len;have a:=g.len;unfold uE;refine dh ?_;unfold uD cf;left;rw[VU];unfold cG;left;rw[FI];left;rw[n6];left;rw[show decide (((2:Nat):Int)=2)=true from rfl];left;rw[q25];left;rw[zu g.rise.ok g.rise.up b];left;rw[decide_eq_false ∅];left;rw[XO,FI];left;rw[decide_eq_false ∅];left;rw[if_pos ∅];rw[cK _ eY (λ_=>bO true) es λe he=>eD rfl (by
  left;rw[Ir g.rise (g.ok e he)])]
 left;rw[iR _ (λ_=>true)];left;rw[show((es.map λ_=>true).all id)=true by simp];left;rw[OB es a g.nd _ _ rfl];left;rw[n6,decide_eq_true rfl];rfl
def Lb(g:fh fs es):uI [cG fs es]=.ok (cG fs es):=by
 unfold uI;refine dh ?_;unfold uH cf;left;rw[OC g];left
theorem Is{α:Type}(c:α->D):∀xs:List α,(∀x∈xs,(c x).canLay0=true)->cY (xs.map c)=true
 |[],_=>rfl
 |x::r,h=>by
  have a:=h x ap;have d:=Is c r λy b=>h y (ai _ b);simp only[ay,cY,a,d,mX]
theorem DZ{α:Type}(c:α->D)(n:Nat)(h:∀x,(c x).depth<=n):∀xs:List α,n8 (xs.map c)<=n
 |[]=>by simp[n8]
 |x::r=>by
  simp only[ay,n8];exact Nat.max_le.mpr ⟨h x,DZ c n h r⟩
def N7(a:ρ[i]?=some (Sl.own (.list ds)))(b:g ρ=.ok d)(c:ds.length<1000):vQ i g ρ=.ok (.nx (ρ.set i (.own (.list (ds++[d]))))):=by
 unfold vQ;simp only[a,b,bind_ok,if_pos c]
def BA(a:gt (.shr d::.shr d'::ρ)=.ok b)(c:b=true->ge (.shr d::.shr d'::ρ)=.ok y):iX 2 (s::s'::ρ) gt ge (.tuple [d,d'])=.ok (if b then some y else none):=by
 have e:iX 2 (s::s'::ρ) gt ge (.tuple [d,d'])=Fb ((gt (.shr d::.shr d'::ρ)).bind λb=>if b then(ge (.shr d::.shr d'::ρ)).bind λy=>.ok (some y) else .ok none):=id rfl;rw[e,a,bind_ok];cases b with
 |true=>rw[if_pos rfl,c rfl];rfl
 |false=>rfl
theorem D_:∀(xs:List Str) (n:Nat),(q9 n xs).length=xs.length
 |[],_=>rfl
 |x::r,n=>by
  show(q9 (n+1) r).length+1=r.length+1;rw[D_ r]
def VX(ns:List Int)(k:Int)(b:0<=k)(fs:List Str)(c:fs.length<=6)(m:Int):∃ss:List Str,r_ [.list (ns.map .int),.int k,aP fs,.int m]=.ok (aP ss)/\ss.Sublist fs:=by
 refine⟨((q9 0 fs).filter λq=>decide (fg ns (k+(q.1:Int)) 12<m)).map (·.2),?_,?_⟩
 ·unfold r_;refine dh ?_;unfold rZ cf;left;rw[Ah];left;rw[if_pos (by rw[D_];omega)];rw[i7 _ cI (λq=>aS q.2) (λq=>decide (fg ns (k+(q.1:Int)) 12<m)) (q9 0 fs) λq a=>BA (by
   left;rw[fz ns _ 12 ∅ ⋯];left) λ_=>rfl]
  left;rw[iQ];left;unfold aP;rw[cb];rfl
 ·have:=(wz (l:=q9 0 fs) (p:=λq=>decide (fg ns (k+(q.1:Int)) 12<m))).map (·.2);rw[uM] at this;exact this
def Lc(d:fs.Pairwise λa b=>oR a b=true)(h:xs.Sublist fs):vw fs xs:=⟨d.sublist h,λx c=>h.subset c⟩
structure XQ (fs m b:List Str):Prop where
 must:vw fs m
 bars:vw fs b
 mb:∀x∈m,x∉b
abbrev oF(m b:List Str):D:=.tuple [aP m,aP b]
def N8(p:List Str)(x:Str):p.map aS++[aS x]=(p++[x]).map .str:=by simp
def VY(ns:List Int)(k:Int)(B:0<=k)(fs:List Str)(n:fs.Pairwise λa b=>oR a b=true)(y:fs.length<=6):∃m b,vW [.list (ns.map .int),.int k,aP fs]=.ok (oF m b)/\XQ fs m b:=by
 have u:=mL n;suffices H:∃p q,oC (cf 8 [.list (ns.map .int),.int k,aP fs])=.ok (.rt (oF p q))/\qy fs p q by
  obtain⟨p,q,l,e⟩:=H;exact⟨p,q,dh l,Lc n e.sp,Lc n e.sq,e.d⟩
 unfold oC cf;walk_at "yy";rw[Bb (ds:=(q9 0 fs).map cI)]
 ·have H:=tZ cI (λ(a:Unit) (_:Nat×Str)=>a) (λbA _ ρ=>∃c,c++bA.map (·.2)=fs/\∃p q,qy c p q/\∃o s g,ρ=[.shr (.list (ns.map .int)),.shr (.int k),.shr (aP fs),.own (.list (p.map .str)),.own (.list (q.map .str)),o,s,g]) (kt:=pd 2 (cW (cr 5) (cW (cr 6) qX))) (gb:=a_ (iu 7 (dN 3 aY (J.aa (rS 0) (J.aa (g2 (rB 1) (rB 5) dU) (J.aa (kI 8) J.aC))))) (eC (ej (g2 (rB 7) (kI 2) KG)) (vQ 3 (rS 6)) (eC (ej (g2 (rB 7) (kI 2) (nh false))) (vQ 4 (rS 6)) (λρ=>.ok (.nx ρ)))));obtain⟨ρ',l,c,e,p,q,f,o,s,g,v⟩:=H (by
   rintro⟨i,x⟩ bA _ ρ ⟨c,e,p,q,f,o,s,g,rfl⟩;have j:x∉c:=by
    rw[<- e,ay] at u;have:=(List.nodup_append.mp u).2.2;intro j;exact this x j x ap rfl
   have w:c.length<900:=by
    have:=congrArg lm e;rw[aT] at this;omega
   have z:=f.sp.length_le;have A:=f.sq.length_le;refine⟨[.shr (.list (ns.map .int)),.shr (.int k),.shr (aP fs),.own (.list (p.map .str)),.own (.list (q.map .str)),.shr (.int (i:Nat)),.shr (.str x),g],?_⟩;by_cases t:fg ns (k+(i:Nat)) 8<2
   ·refine⟨[.shr (.list (ns.map .int)),.shr (.int k),.shr (aP fs),.own (.list ((p++[x]).map .str)),.own (.list (q.map .str)),.shr (.int (i:Nat)),.shr (.str x),.shr (.int (fg ns (k+(i:Nat)) 8))],rfl,?_,c++[x],by rw[<- e];simp,_,_,f.left x j,_,_,_,rfl⟩;left;rw[fz ns _ 8 ∅ ⋯];left;rw[decide_eq_true t];left;rw[<- N8];exact N7 (ds:=p.map .str) rfl rfl (by rw[ah];omega)
   ·by_cases c2:fg ns (k+(i:Nat)) 8=2
    ·refine⟨[.shr (.list (ns.map .int)),.shr (.int k),.shr (aP fs),.own (.list (p.map .str)),.own (.list ((q++[x]).map .str)),.shr (.int (i:Nat)),.shr (.str x),.shr (.int (fg ns (k+(i:Nat)) 8))],rfl,?_,c++[x],by rw[<- e];simp,_,_,f.right x j,_,_,_,rfl⟩;left;rw[fz ns _ 8 ∅ ⋯];left;rw[decide_eq_false t];left;rw[n6];left;rw[decide_eq_true c2];left;rw[<- N8];exact N7 (ds:=q.map .str) rfl rfl (by rw[ah];omega)
    ·refine⟨[.shr (.list (ns.map .int)),.shr (.int k),.shr (aP fs),.own (.list (p.map .str)),.own (.list (q.map .str)),.shr (.int (i:Nat)),.shr (.str x),.shr (.int (fg ns (k+(i:Nat)) 8))],rfl,?_,c++[x],by rw[<- e];simp,_,_,f.skip x,_,_,_,rfl⟩;left;rw[fz ns _ 8 ∅ ⋯];left;rw[decide_eq_false t];left;rw[n6];left;rw[decide_eq_false c2];left) (q9 0 fs) () [.shr (.list (ns.map .int)),.shr (.int k),.shr (aP fs),.own (.list []),.own (.list []),.no,.no,.no] ⟨[],by rw[uM];rfl,[],[],⟨fJ _,fJ _,λ_ h=>nomatch h⟩,_,_,_,rfl⟩
  refine⟨p,q,?_,?_⟩
  ·rw[l,v];left;rw[iQ];left;rw[iQ];left
  ·simp only[fq,ck] at e;rw[<- e];exact f
 ·left;rw[Ah]
def Zp(j:Int)(b:0<=j)(a:j<2):∃m:Int,bc (.list [.int 2,.int 4]) (.int j)=.ok (.int m):=by
 have:j=0\/j=1:=by omega
 rcases this with h|h<;>subst h
 ·exact⟨2,rfl⟩
 ·exact⟨4,rfl⟩
def Zq(fs:List Str)(es:List jm):bc (cG fs es) (.int 0)=.ok (aP fs):=id rfl
def q1h(fs:List Str)(es:List jm):bc (cG fs es) (.int 1)=.ok (.tuple (es.map eY)):=id rfl
def VZ(ns:List Int)(m n:Int)(c:0<=m)(e:m<=6)(d:0<=n)(f:n<=6):∃fs es ss b a,kH [.list (ns.map .int),.int m,.int n]=.ok (.tuple [cG fs es,aP ss,oF b a])/\fh fs es/\vw fs ss/\XQ fs b a/\fs.length<=m.toNat/\es.length<=n.toNat:=by
 obtain⟨fs,es,k,gb,h⟩:=VT ns 100 ⋯ m n c e d f;obtain⟨pt,g⟩:=Zp (fg ns 97 2) (fK _ _ _ ⋯) (gz _ _ _ ⋯);obtain⟨ss,hs,j⟩:=VX ns 20 ⋯ fs gb.rise.len pt;obtain⟨b,a,i,l⟩:=VY ns 30 ⋯ fs gb.rise.up gb.rise.len;refine⟨fs,es,ss,b,a,?_,gb,Lc gb.rise.up j,l,h⟩;unfold kH;refine dh ?_;unfold sf cf;left;rw[k];left;rw[Zq];left;rw[fz ns 97 2 ⋯ ⋯];left;rw[g];left;rw[hs];left;rw[Zq];left;rw[i];left
def BB(b:xs.length<=60):eE [aP xs,aP ys]=.ok (.bool (!xs.any λx=>decide (x∈ys))):=by
 unfold eE;refine dh ?_;unfold lG cf;left;rw[if_pos ∅];rw[cK _ (λx:Str=>aS x) (λx=>bO (decide (x∈ys))) xs λx a=>eD rfl (by
  left;rw[lK];rfl)]
 left;rw[iR _ (λx=>decide (x∈ys))];left;rw[k9];rfl
def q26(e:jm):bc (eY e) (.int 0)=.ok (.str e.name):=id rfl
def SX(a:Str->Option Nat)(F:List D->R D)(ds:List D):vn a F ds=DD a (F ds):=id rfl
def V_(a:Str->Option Nat)(d:D):DD a (.ok d)=.ok d:=id rfl
def W3(h:wh y=some j):DD wh (.ex y none)=.ok (.tuple [.str "refused",.int (j:Nat)]):=by simp only[DD,h]
def Zr(h:Af x=true):x≠"zzzzz":=by
 intro e;rw[e] at h;have:Af "zzzzz"=false:=by decide +kernel
 rw[this] at h;cases h
def EI(h:xs[j]?=some v):bc (.list xs) (.int (j:Nat))=.ok v:=by
 have e:bc (.list xs) (.int (j:Nat))=KI (.list xs) (.int (j:Nat)):=rfl;rw[e];unfold KI;simp only[wK h]
def q1i:R D->Bool
 |.ok (.bool b)=>b
 |_=>false
def W4(h:q1i r=true):r=.ok (.bool true):=by
 unfold q1i at h;split at h
 ·rw[h]
 ·cases h
def iD(st a b:List Str):Bool:=(a.all λx=>decide (x∈st)) && !b.any λx=>decide (x∈st)
def SY(h:g (cf n ds)=.ok (.nx ρ)):gK n g ds=.ok .none:=by unfold gK;rw[h]
def q27(a x y:D):RF (pd 2 (cW (cr 2) (cW (cr 3) qX))) [Sl.shr a,.shr (.tuple [x,y]),.no,.no] (.tuple [x,y])=.ok (.nx [.shr a,.shr (.tuple [x,y]),.shr x,.shr y]):=id rfl
def Ld(c:a.length<=60)(f:b.length<=60):uG [aP st,oF a b]=.ok (.bool (iD st a b)):=by
 unfold uG;refine dh ?_;unfold uF cf oF;left;rw[q27];left;rw[if_pos ∅];rw[cK _ (λx:Str=>aS x) (λx=>bO (decide (x∈st))) a λx d=>eD rfl (by
  left;rw[lK];rfl)]
 left;rw[iR _ (λx=>decide (x∈st))];left;rw[BB ∅];unfold iD;rw[lS];have e:(id∘λx=>decide (x∈st))=λx=>decide (x∈st):=rfl;rw[e];cases(a.all λx=>decide (x∈st))<;>rfl
def OD(g:fh fs es)(h:vw fs ss):ms [cG fs es,aP ss]=.ok .none:=by
 unfold ms;refine SY (ρ:=[.shr (cG fs es),.shr (aP ss)]) ?_;unfold mq cf;left;rw[Zq];left;rw[oE g.rise.ok h (kw h g.rise.len)];left
def xC(g:fh fs es)(h:vw fs ss):cX [cG fs es,aP ss]=.ok .none:=by
 unfold cX;refine SY (ρ:=[.shr (cG fs es),.shr (aP ss)]) ?_;unfold mx cf;left;rw[Lb g];left;rw[OD g h];left
structure SZ (e:jm):Prop where
 needs:e.needs.length<=6
 bars:e.bars.length<=6
 makes:e.makes.length<=6
 ends:e.ends.length<=6
def Iu(g:fh fs es)(he:e∈es):SZ e:=
 ⟨kw (g.ok e he).needs g.rise.len,kw (g.ok e he).bars g.rise.len,kw (g.ok e he).makes g.rise.len,kw (g.ok e he).ends g.rise.len⟩
def q28(e:jm):bc (eY e) (.int 1)=.ok (aP e.needs):=id rfl
def q29(e:jm):bc (eY e) (.int 2)=.ok (aP e.bars):=id rfl
def S_:∀{a b:List Str},(a.Pairwise λx y=>oR x y=true)->(b.Pairwise λx y=>oR x y=true)->(∀x,x∈a↔x∈b)->a=b:=by
 intro a b c d h;have e:=mL c;have g:=mL d;have p:a.Perm b:=(jS e g).mpr h;exact p.eq_of_pairwise (λx y _ _ f i=>by
  have:=nQ f i;rw[kE] at this;cases this) c d
def cL(e:jm)(st:List Str):List Str:=Il ((st.filter λx=>!decide (x∈e.ends))++e.makes)
def vX:x∈cL e st↔(x∈st/\x∉e.ends)\/x∈e.makes:=by
 unfold cL;rw[p_];simp[cM]
def q1j(a gb:aE->R (List Str))(s:Sl)(ρ:aE)(b:a (s::ρ)=.ok xs)(d:gb (s::ρ)=.ok ys)(c:xs.length+ys.length<=15):RW a gb (s::ρ)=.ok (dY xs ys):=by
 unfold RW J.YR;rw[b,bind_ok,d,bind_ok,if_pos c]
def E2(ss:List Str)(h:ss.length<60):vR (aP ss)=.ok (dY [] ss):=by
 have e:∀ds,vR (.tuple ds)=match fc ds with
  |some ss=>if ss.length<60 then .ok (dY [] ss) else .no
  |none=>.no:=λ_=>rfl
 rw[e,strsOf_map];simp only[if_pos h]
def Zt(xs ys:List Str):iW (dY (dY [] xs) (dY [] ys))=Il (xs++ys):=by
 refine S_ (yu (qR _) ((gR _).nodup_iff.mpr (jv _ _ (jv _ [] gY)))) (L7 _) λx=>?_;rw[(gR _).mem_iff,jH,jH,jH,p_,dz];simp
def OE(h:xs.length+ys.length<=12):xu [aP xs,aP ys]=.ok (aP (Il (xs++ys))):=by
 have b:=iK xs [];have a:=iK ys [];simp only[cD] at b a;have c:=iK (dY [] ys) (dY [] xs);unfold xu;refine dh ?_;unfold xt cf;left;rw[DV,q1j _ _ _ _ (E2 xs ∅) (E2 ys ∅) ∅];left;rw[Im _ ∅,Zt];left;rw[iQ];left
def BC(h:xs.length<=60):nU [aP xs,aP ys]=.ok (aP (xs.filter λx=>!decide (x∈ys))):=by
 unfold nU;refine dh ?_;unfold uB cf;left;rw[if_pos ∅];rw[i7 _ (λx:Str=>aS x) (λx=>aS x) (λx=>!decide (x∈ys)) xs λx a=>uv (by
  left;rw[lK];rfl) λ_=>rfl]
 left;rw[iQ];left
def q1k(h:gs (s::ρ)=.ok [d,e]):RX i j gs (s::ρ)=.ok (.nx (((s::ρ).set i (.shr d)).set j (.shr e))):=by
 unfold RX;rw[h];rfl
def OF(he:SZ e)(hs:st.length<=6):lI [eY e,aP st]=.ok (aP (cL e st)):=by
 have:=he.makes;have a:(st.filter λx=>!decide (x∈e.ends)).length<=st.length:=fE _ _;unfold lI;refine dh ?_;unfold lH cf;left;rw[q1k (d:=aP e.makes) (e:=aP e.ends) rfl];left;rw[BC ∅];left;rw[OE ∅];rfl
def OG(he:SZ e):pS [eY e,aP st]=.ok (.bool (iD st e.needs e.bars)):=by
 have:=he.needs;have:=he.bars;unfold pS;refine dh ?_;unfold pR cf;left;rw[q28];left;rw[q29];left;rw[Ld ∅ ∅];left
abbrev Le(a:List jm):D:=.list (a.map λe=>aS e.name)
def Ai(a:kt d ρ=.ok ρ1)(b:gb ρ1=.ok (.nx ρ2)):lP kt gb (d::r) ρ=lP kt gb r ρ2:=by
 rw[lP,a];simp only[b]
def W5(a:kt d ρ=.ok ρ1)(b:gb ρ1=.ok (.rt x)):lP kt gb (d::r) ρ=.ok (.rt x):=by
 rw[lP,a];simp only[b]
def OH:iD st a b=true↔(∀x∈a,x∈st)/\∀x∈b,x∉st:=by
 unfold iD;simp only[aR,cx,decide_eq_true_eq,lR,fm]
def W6(fs:List Str):List (List Str):=fs.foldl (λa f=>a++a.map (·++[f])) [[]]
def Zu(h:ρ[i]?=some (Sl.shr d)):xk i kt gb ρ=qx (gG λρ=>Jp ρ i) kt gb ρ:=by
 unfold xk;rw[h]
theorem FK:∀(fs:List Str) (a:List (List Str)) (t u:List Str),t∈a->u.Sublist fs->t++u∈fs.foldl (λa f=>a++a.map (·++[f])) a
 |[],a,t,u,b,c=>by
  cases c;rw[ck];exact b
 |f::r,a,t,u,b,c=>by
  rw[ik];cases c with
  |cons _ h=>exact FK r _ t u (c6 _ b) h
  |cons_cons _ h=>
   rename_i d
   have:=FK r (a++a.map (·++[f])) (t++[f]) d (aA _ (bi b)) h
   rwa[z9] at this
def T3(c:fs.Pairwise λa b=>oR a b=true)(h:vw fs xs):xs.Sublist fs:=by
 have e:xs=fs.filter λx=>decide (x∈xs):=S_ h.up (c.sublist wz) λx=>by
  rw[cM,decide_eq_true_eq];exact⟨λz=>⟨h.mem x z,z⟩,λz=>z.2⟩
 rw[e];exact wz
def Iv(c:fs.Pairwise λa b=>oR a b=true)(h:vw fs xs):xs∈W6 fs:=FK fs [[]] [] xs (List.mem_singleton.mpr rfl) (T3 c h)
def zZ:List jm->List Str->Option (List Str)
 |[],st=>some st
 |e::r,st=>if iD st e.needs e.bars then zZ r (cL e st) else none
def Lf(d:fs.Pairwise λa b=>oR a b=true)(g:pZ fs e)(h:vw fs st):vw fs (cL e st):=by
 refine⟨L7 _,λx c=>?_⟩;rcases vX.mp c with z|z
 ·exact h.mem x z.1
 ·exact g.makes.mem x z
def gC(l:List (List Str×D)):List (D×D):=l.map λp=>(aP p.1,p.2)
abbrev sM(l:List (List Str×D)):List (List Str):=l.map (·.1)
def Lg(x:List Str):aP x=tD (x.map jB):=by
 unfold aP tD;rw[cb];rfl
def oG(x:List Str):sL (aP x)=some (x.map jB):=by rw[Lg,S1]
def W7{a b:List Str}(h:a.map (jB:Str->ip)=b.map jB):a=b:=by
 induction a generalizing b with
 |nil=>cases b with|nil=>rfl|cons _ _=>cases h
 |cons x r c=>
  cases b with
  |nil=>cases h
  |cons y t=>
   simp only[ay,yh] at h;rw[c h.2,Sum.inr.inj h.1]
def T4(x y:List Str):bn (aP x) (aP y)=decide (x=y):=by
 rw[Lg,Lg,Fm];by_cases h:x=y
 ·rw[h];simp
 ·rw[decide_eq_false h,decide_eq_false λz=>h (W7 z)]
def Iw(l:List (List Str×D)):MH (gC l)=gC l:=by cases l<;>rfl
def sg(h:l≠[]):lF (gC l)=true:=by
 have b:((gC l).all λa=>(sL a.1).isSome)=true:=by
  unfold gC;rw[lS,cx];intro p _;show(sL (aP p.1)).isSome=true;rw[oG];rfl
 unfold lF;rw[b];cases l with
 |nil=>exact(h rfl).elim
 |cons _ _=>rfl
theorem yI(x:List Str):∀l:List (List Str×D),nj (gC l) (aP x)=(l.find? λp=>decide (p.1=x)).map (·.2)
 |[]=>rfl
 |p::r=>by
  have a:=yI x r;unfold nj gC at a ⊢;rw[ay,cC,cC,T4];by_cases h:p.1=x
  ·rw[decide_eq_true h];rfl
  ·rw[decide_eq_false h];exact a
def T5(c:(sM l).Nodup)(a:p∈l):(l.find? λq=>decide (q.1=p.1))=some p:=by
 induction l with
 |nil=>cases a
 |cons q r b=>
  obtain⟨d,e⟩:=List.nodup_cons.mp c;rw[cC];rcases List.mem_cons.mp a with h|h
  ·subst h;simp
  ·have:q.1≠p.1:=λz=>d (by show q.1∈_;rw[z];exact bi h)
   rw[decide_eq_false this];exact b e h
def OI{α:Type}{l:List α}{x:α}(h:x∈l):l≠[]:=λz=>by rw[z] at h;cases h
def Zv(c:MH ds=gC l)(b:(sM l).Nodup)(a:p∈l):XB (.dict ds) (aP p.1)=.ok p.2:=by
 unfold XB;simp only[oG,c];rw[if_pos (sg (OI a)),yI,T5 b a];rfl
def W8(a:(sM l).Nodup)(b:p∈l):XB (.dict (gC l)) (aP p.1)=.ok p.2:=Zv (Iw l) a b
theorem E3(x:List Str):∀l:List (List Str×D),((l.find? λp=>decide (p.1=x)).map (·.2)).isSome=decide (x∈sM l)
 |[]=>by simp
 |p::r=>by
  rw[cC];by_cases h:p.1=x
  ·rw[decide_eq_true h];simp[h]
  ·rw[decide_eq_false h];simp only;rw[E3 x r];simp[dk h]
def W9(h:l≠[])(x:List Str):inT true (aP x) (.dict (gC l))=.ok (.bool (!decide (x∈sM l))):=by
 unfold inT;simp only[oG,Iw];rw[if_pos (sg h),yI,E3];rfl
def Wa(h:x∉sM l)(d:D):yy (gC l) (aP x) d=gC (l++[(x,d)]):=by
 have e:((gC l).any λb=>bn b.1 (aP x))=false:=by
  unfold gC;rw[k9,fm];intro p a;show ¬bn (aP p.1) (aP x)=true;rw[T4,decide_eq_true_eq];exact λz=>h (by rw[<- z];exact bi a)
 unfold yy;rw[e,if_neg aG];unfold gC;rw[bF];rfl
def Zw(f:ρ[i]?=some (Sl.own (.dict (gC l))))(h:g ρ=.ok d)(c:gk ρ=.ok (aP x))(b:l≠[])(m:l.length<1000)(j:x∉sM l):zk i gk g ρ=.ok (.nx (ρ.set i (.own (.dict (gC (l++[(x,d)])))))):=by
 have a:(gC l).length<1000:=by unfold gC;rw[ah];exact m
 have e:zk i gk g ρ=(g ρ).bind λd=>(gk ρ).bind λk=>match sL k with
  |some _=>if(gC l).length<1000/\lF (gC l)=true then .ok (.nx (ρ.set i (.own (.dict (yy (gC l) k d))))) else .no
  |none=>.no:=by
  unfold zk;simp only[f];try rfl
 rw[e,h,B9,c,B9];simp only[oG,if_pos (lM a (sg b)),Wa j]
def q2a(a:l≠[])(h:ρ[i]?=some (Sl.own (.dict (gC l)))):gFz i g ρ=g (ρ.set i (.own (.dict ((.none,.none)::gC l)))):=by
 unfold gFz;congr 1;unfold mJ;rw[h];cases l with
 |nil=>exact(a rfl).elim
 |cons p r=>rfl
def q2b(a:gk (s::ρ)=.ok (aP x))(b:gv (s::ρ)=.ok d):ZK gk gv (s::ρ)=.ok (.dict (gC [(x,d)])):=by
 unfold ZK;rw[a,bind_ok,b,bind_ok];simp only[oG];rfl
def q1l(h:g (s::ρ)=.ok (.list ds)):Fo g (s::ρ)=.ok (!ds.isEmpty):=by
 unfold Fo;rw[h,bind_ok]
theorem xD{α:Type}[DecidableEq α]:∀{l m:List α},l.Nodup->(∀x∈l,x∈m)->l.length<=m.length
 |[],_,_,_=>cu _
 |x::r,m,c,h=>by
  obtain⟨d,e⟩:=List.nodup_cons.mp c;have b:=h x ap;have:=xD (l:=r) (m:=m.erase x) e λy a=>(vg λz=>d (by rw[<- z];exact a)).mpr (h y (ai _ a));rw[rA b] at this;have:=sZ b;simp only[aU];omega
theorem BD:∀(fs:List Str) (a:List (List Str)),(fs.foldl (λa f=>a++a.map (·++[f])) a).length=a.length*2 ^ fs.length
 |[],a=>by simp
 |f::r,a=>by
  rw[ik,BD r,aT,ah,aU,K2,<- Nat.two_mul,K3 2,Nat.mul_assoc,K3 2]
def Wb(h:fs.length<=6):(W6 fs).length<=64:=by
 unfold W6;rw[BD];have:2 ^ fs.length<=2 ^ 6:=vJ ⋯ h
 simp only[aU,cD];omega
def T6(a:SG fs 6)(c:(sM l).Nodup)(h:∀x∈sM l,vw fs x):l.length<=64:=by
 have:=xD c λx b=>Iv a.up (h x b);rw[ah] at this;exact cH this (Wb a.len)
def Rch(es:List jm)(st x:List Str):Prop:=∃a:List jm,(∀e∈a,e∈es)/\zZ a st=some x
theorem Ix(e:jm):∀(b:List jm) (st x:List Str),zZ b st=some x->iD x e.needs e.bars=true->zZ (b++[e]) st=some (cL e x)
 |[],st,x,h,g=>by cases h;show(if iD st e.needs e.bars then zZ [] (cL e st) else none)=_;rw[g];rfl
 |a::r,st,x,h,g=>by
  show(if iD st a.needs a.bars then zZ (r++[e]) (cL a st) else none)=_;have h':(if iD st a.needs a.bars then zZ r (cL a st) else none)=some x:=h;split at h'
  ·rename_i c
   rw[if_pos c];exact Ix e r _ _ h' g
  ·cases h'
theorem BE{es:List jm}{M:List Str->Prop}(c:∀x,M x->∀e∈es,iD x e.needs e.bars=true->M (cL e x)):∀(d:List jm) (st x:List Str),M st->(∀e∈d,e∈es)->zZ d st=some x->M x
 |[],st,x,b,_,h=>by cases h;exact b
 |a::r,st,x,b,he,h=>by
  have h':(if iD st a.needs a.bars then zZ r (cL a st) else none)=some x:=h;split at h'
  ·rename_i f
   exact BE c r _ _ (c st b a (he a ap) f) (λe h=>he e (ai _ h)) h'
  ·cases h'
def T7(g:fh fs es)(hs:vw fs st):lJ [cG fs es,aP st]=.ok (.list ((es.filter λe=>iD st e.needs e.bars).map λe=>fM [eY e,aP (cL e st)])):=by
 have ls:=kw hs g.rise.len;have a:=g.len;unfold lJ;refine dh ?_;unfold ny cf;left;rw[q1h];left;rw[if_pos ∅];rw[i7 _ eY (λe=>fM [eY e,aP (cL e st)]) (λe=>iD st e.needs e.bars) es λe he=>uv (by
  left;rw[OG (Iu g he)];left) λ_=>(by
  left;rw[OF (Iu g he) ls];left)]
 left
abbrev LZ:=List (List Str×List jm)
def jN(l:LZ):List (List Str×D):=l.map λp=>(p.1,Le p.2)
structure re (fs st:List Str) (es:List jm) (l:LZ):Prop where
 nd:(l.map (·.1)).Nodup
 beg:(st,[])∈l
 sub:∀p∈l,vw fs p.1
 row:∀p∈l,(∀e∈p.2,e∈es)/\zZ p.2 st=some p.1/\p.2.length<l.length
def nV(l:LZ):sM (jN l)=l.map (·.1):=by
 unfold sM jN;rw[cb];rfl
def re.ne(h:re fs st es l):jN l≠[]:=by
 intro z;have:=List.map_eq_nil_iff.mp z;have a:=h.beg;rw[this] at a;cases a
def re.few(g:fh fs es)(h:re fs st es l):l.length<=64:=by
 have:=T6 g.rise (l:=jN l) (by rw[nV];exact h.nd) λx a=>by
  rw[nV] at a;obtain⟨p,b,rfl⟩:=List.mem_map.mp a;exact h.sub p b
 unfold jN at this;rw[ah] at this;exact this
def ko(at0:List Str)(row:List jm)(b:LZ×List (List Str))(e:jm):LZ×List (List Str):=
 if cL e at0∈b.1.map (·.1) then b else(b.1++[(cL e at0,row++[e])],b.2++[cL e at0])
def Zx(g:fh fs es)(h:re fs st es b.1)(c:(at0,row)∈b.1)(he:e∈es)(l:iD at0 e.needs e.bars=true):re fs st es (ko at0 row b e).1:=by
 unfold ko;split
 ·exact h
 ·rename_i d
  obtain⟨f,i,j⟩:=h.row _ c;refine⟨?_,c6 _ h.beg,λp a=>?_,λp a=>?_⟩
  ·rw[bF];exact EN h.nd d
  ·rcases List.mem_append.mp a with z|z
   ·exact h.sub p z
   ·rw[List.mem_singleton.mp z];exact Lf g.rise.up (g.ok e he) (h.sub _ c)
  ·rw[aT,eA];rcases List.mem_append.mp a with z|z
   ·obtain⟨k1,k2,k3⟩:=h.row p z;exact⟨k1,k2,by omega⟩
   ·rw[List.mem_singleton.mp z];refine⟨λx k=>?_,Ix e _ _ _ i l,?_⟩
    ·rcases List.mem_append.mp k with y|y
     ·exact f x y
     ·rw[List.mem_singleton.mp y];exact he
    ·show(row++[e]).length<b.1.length+1;rw[aT,eA];have:row.length<b.1.length:=j
     omega
def Iy(at0:List Str)(row:List jm)(b:LZ×List (List Str))(e:jm):(∀p∈b.1,p∈(ko at0 row b e).1)/\cL e at0∈(ko at0 row b e).1.map (·.1)/\(∀x∈(ko at0 row b e).1.map (·.1),x∈b.1.map (·.1)\/x∈(ko at0 row b e).2)/\(∀x∈b.2,x∈(ko at0 row b e).2)/\(∀x∈(ko at0 row b e).2,x∈b.2\/x∈(ko at0 row b e).1.map (·.1))/\b.1.length+(ko at0 row b e).2.length=(ko at0 row b e).1.length+b.2.length:=by
 unfold ko;split
 ·rename_i h
  exact⟨λ_ h=>h,h,λ_ h=>.inl h,λ_ h=>h,λ_ h=>.inl h,rfl⟩
 ·refine⟨λp c=>c6 _ c,?_,λx a=>?_,λx a=>c6 _ a,λx a=>?_,?_⟩
  ·rw[bF];exact aA _ ap
  ·rw[bF] at a;rcases List.mem_append.mp a with z|z
   ·exact .inl z
   ·exact .inr (aA _ z)
  ·rcases List.mem_append.mp a with z|z
   ·exact .inl z
   ·rw[bF];exact .inr (aA _ z)
  ·simp only[aT,eA];omega
def inB:aE->R Fl:=(eC (ej (g2 (rB 7) (rB 2) (inT true))) (a_ (zk 2 (rS 7) (g2 (g2 (rB 2) (rB 5) XB) (de (J.aa (g2 (rB 6) (kI 0) bc) J.aC) .list) dU)) (vQ 4 (rS 7))) (λρ=>.ok (.nx ρ)))
def OJ:aE->R Fl:=qx (gG (dN 2 lJ (J.aa (rS 0) (J.aa (rS 5) J.aC)))) (pd 2 (cW (cr 6) (cW (cr 7) qX))) inB
def bfB:aE->R Fl:=a_ (fF 4 (de J.aC .list)) (a_ (xk 3 (cr 5) OJ) (Fh 4 (iu 3 (rS 4))))
def T8:nz=a_ (fF 2 (ZK (rS 1) (de J.aC .list))) (a_ (fF 3 (de (J.aa (rS 1) J.aC) .list)) (a_ (iM (Fo (rB 3)) bfB 100000) (gFz 2 (cZ (rS 2))))):=rfl
def T9(h:p∈l):(p.1,Le p.2)∈jN l:=bi (f:=λp:List Str×List jm=>(p.1,Le p.2)) h
def Zy(h:re fs st es l)(a:(at0,row)∈l):XB (.dict (gC (jN l))) (aP at0)=.ok (Le row):=by
 have:=W8 (l:=jN l) (by rw[nV];exact h.nd) (T9 a);exact this
def Ta(l:LZ)(x:List Str)(r:List jm):jN (l++[(x,r)])=jN l++[(x,Le r)]:=by
 unfold jN;rw[bF];rfl
def Wc(g:fh fs es)(B S:D)(f m n:Sl)(h:re fs st es b.1)(c:(at0,row)∈b.1)(k:b.2.length<=b.1.length):
  inB [.shr B,.shr S,.own (.dict (gC (jN b.1))),f,.own (.list (b.2.map aP)),.shr (aP at0),.shr (eY e),.shr (aP (cL e at0))]=.ok (.nx [.shr B,.shr S,.own (.dict (gC (jN (ko at0 row b e).1))),f,.own (.list ((ko at0 row b e).2.map aP)),.shr (aP at0),.shr (eY e),.shr (aP (cL e at0))]):=by
 have few:=h.few g;have i:=(h.row _ c).2.2;have j:row.length<b.1.length:=i;unfold inB;left;rw[W9 h.ne,nV];unfold ko;by_cases a:cL e at0∈b.1.map (·.1)
 ·rw[if_pos a,decide_eq_true a];left
 ·rw[if_neg a,decide_eq_false a];left;rw[Zw (l:=jN b.1) (x:=cL e at0) (d:=Le (row++[e])) rfl ?_ rfl h.ne (by unfold jN;rw[ah];omega) (by rw[nV];exact a)]
  ·left;rw[N7 (ds:=b.2.map aP) (d:=aP (cL e at0)) rfl rfl (by rw[ah];omega),Ta,bF];rfl
  ·left;rw[Zy h c];left;rw[q26];left;rw[if_pos ∅];simp only[Le,bF];rfl
theorem Iz{fs st at0:List Str}{es:List jm}{row:List jm}:∀(xs:List jm) (b:LZ×List (List Str)),(∀p∈b.1,p∈(xs.foldl (ko at0 row) b).1)/\(∀e∈xs,cL e at0∈(xs.foldl (ko at0 row) b).1.map (·.1))/\(∀x∈(xs.foldl (ko at0 row) b).1.map (·.1),x∈b.1.map (·.1)\/x∈(xs.foldl (ko at0 row) b).2)/\(∀x∈b.2,x∈(xs.foldl (ko at0 row) b).2)/\(∀x∈(xs.foldl (ko at0 row) b).2,x∈b.2\/x∈(xs.foldl (ko at0 row) b).1.map (·.1))/\b.1.length+(xs.foldl (ko at0 row) b).2.length=(xs.foldl (ko at0 row) b).1.length+b.2.length
 |[],b=>⟨λ_ h=>h,λ_ h=>(nomatch h),λ_ h=>.inl h,λ_ h=>h,λ_ h=>.inl h,rfl⟩
 |e::r,b=>by
  obtain⟨g,j,f,k,i,l⟩:=Iy at0 row b e;obtain⟨b1,b2,b3,b4,b5,b6⟩:=Iz (fs:=fs) (st:=st) (es:=es) r (ko at0 row b e);rw[ik];have d:∀x∈(ko at0 row b e).1.map (·.1),x∈(r.foldl (ko at0 row) (ko at0 row b e)).1.map (·.1):=λx a=>by
   obtain⟨p,c,rfl⟩:=List.mem_map.mp a;exact bi (b1 p c)
  refine⟨λp c=>b1 p (g p c),λx a=>?_,λx a=>?_,λx a=>b4 x (k x a),λx a=>?_,by omega⟩
  ·rcases List.mem_cons.mp a with z|z
   ·rw[z];exact d _ j
   ·exact b2 x z
  ·rcases b3 x a with z|z
   ·rcases f x z with y|y
    ·exact .inl y
    ·exact .inr (b4 x y)
   ·exact .inr z
  ·rcases b5 x a with z|z
   ·rcases i x z with y|y
    ·exact .inl y
    ·exact .inr (d x y)
   ·exact .inr z
def ZA(g:fh fs es)(B S:D)(a c d:Sl)(h:re fs st es b.1)(i:(at0,row)∈b.1)(n:b.2.length<=b.1.length)(xs:List jm)(k:∀e∈xs,e∈es/\iD at0 e.needs e.bars=true):
  re fs st es (xs.foldl (ko at0 row) b).1/\∃f j,lP (pd 2 (cW (cr 6) (cW (cr 7) qX))) inB (xs.map λe=>fM [eY e,aP (cL e at0)]) [.shr B,.shr S,.own (.dict (gC (jN b.1))),a,.own (.list (b.2.map aP)),.shr (aP at0),c,d]=.ok (.nx [.shr B,.shr S,.own (.dict (gC (jN (xs.foldl (ko at0 row) b).1))),a,.own (.list ((xs.foldl (ko at0 row) b).2.map aP)),.shr (aP at0),f,j]):=by
 induction xs generalizing b c d with
 |nil=>exact⟨h,c,d,rfl⟩
 |cons e r l=>
  obtain⟨he,q⟩:=k e ap;obtain⟨m,v,s,w,u,t⟩:=Iy at0 row b e;have h':=Zx g h i he q;obtain⟨o,f,j,p⟩:=l (.shr (eY e)) (.shr (aP (cL e at0))) h' (m _ i) ∅ λx z=>k x (ai _ z);refine⟨o,f,j,?_⟩;rw[ay,Ai (ρ1:=[.shr B,.shr S,.own (.dict (gC (jN b.1))),a,.own (.list (b.2.map aP)),.shr (aP at0),.shr (eY e),.shr (aP (cL e at0))]) rfl (Wc g B S a c d h i n)];exact p
def Wd(l:LZ)(x:List Str):List jm:=((l.find? λp=>decide (p.1=x)).map (·.2)).getD []
def Tb(h:x∈l.map (·.1)):(x,Wd l x)∈l:=by
 unfold Wd;induction l with
 |nil=>cases h
 |cons p r b=>
  rw[cC];by_cases a:p.1=x
  ·rw[decide_eq_true a];subst a;exact ap
  ·rw[decide_eq_false a];rcases List.mem_cons.mp h with z|z
   ·exact(a z.symm).elim
   ·exact ai _ (b z)
def si(es:List jm)(b:LZ×List (List Str))(x:List Str):LZ×List (List Str):=(es.filter λe=>iD x e.needs e.bars).foldl (ko x (Wd b.1 x)) b
def Tc(g:fh fs es)(S:D)(c j i:Sl)(h:re fs st es b.1)(l:at0∈b.1.map (·.1))(n:b.2.length<=b.1.length):
  re fs st es (si es b at0).1/\∃a d,OJ [.shr (cG fs es),.shr S,.own (.dict (gC (jN b.1))),c,.own (.list (b.2.map aP)),.shr (aP at0),j,i]=.ok (.nx [.shr (cG fs es),.shr S,.own (.dict (gC (jN (si es b at0).1))),c,.own (.list ((si es b at0).2.map aP)),.shr (aP at0),a,d]):=by
 have f:=Tb l;obtain⟨k,a,d,m⟩:=ZA g (cG fs es) S c j i h f n (es.filter λe=>iD at0 e.needs e.bars) λe he=>List.mem_filter.mp he;refine⟨k,a,d,?_⟩;unfold OJ;rw[Bb (ds:=(es.filter λe=>iD at0 e.needs e.bars).map λe=>fM [eY e,aP (cL e at0)])]
 ·exact m
 ·left;rw[T7 g (h.sub _ f)];left
def N9(es:List jm)(b:LZ×List (List Str))(x:List Str):(∀p∈b.1,p∈(si es b x).1)/\(∀e∈es,iD x e.needs e.bars=true->cL e x∈(si es b x).1.map (·.1))/\(∀y∈(si es b x).1.map (·.1),y∈b.1.map (·.1)\/y∈(si es b x).2)/\(∀y∈b.2,y∈(si es b x).2)/\(∀y∈(si es b x).2,y∈b.2\/y∈(si es b x).1.map (·.1))/\b.1.length+(si es b x).2.length=(si es b x).1.length+b.2.length:=by
 obtain⟨b1,b2,b3,b4,b5,b6⟩:=Iz (fs:=[]) (st:=[]) (es:=es) (at0:=x) (row:=Wd b.1 x) (es.filter λe=>iD x e.needs e.bars) b;exact⟨b1,λe he a=>b2 e (List.mem_filter.mpr ⟨he,a⟩),b3,b4,b5,b6⟩
theorem E4(es:List jm):∀(ring:List (List Str)) (b:LZ×List (List Str)),(∀p∈b.1,p∈(ring.foldl (si es) b).1)/\(∀x∈ring,∀e∈es,iD x e.needs e.bars=true->cL e x∈(ring.foldl (si es) b).1.map (·.1))/\(∀y∈(ring.foldl (si es) b).1.map (·.1),y∈b.1.map (·.1)\/y∈(ring.foldl (si es) b).2)/\(∀y∈b.2,y∈(ring.foldl (si es) b).2)/\(∀y∈(ring.foldl (si es) b).2,y∈b.2\/y∈(ring.foldl (si es) b).1.map (·.1))/\b.1.length+(ring.foldl (si es) b).2.length=(ring.foldl (si es) b).1.length+b.2.length
 |[],b=>⟨λ_ h=>h,λ_ h=>(nomatch h),λ_ h=>.inl h,λ_ h=>h,λ_ h=>.inl h,rfl⟩
 |x::r,b=>by
  obtain⟨i,k,g,l,j,m⟩:=N9 es b x;obtain⟨b1,b2,b3,b4,b5,b6⟩:=E4 es r (si es b x);rw[ik];have d:∀y∈(si es b x).1.map (·.1),y∈(r.foldl (si es) (si es b x)).1.map (·.1):=λy a=>by
   obtain⟨p,c,rfl⟩:=List.mem_map.mp a;exact bi (b1 p c)
  refine⟨λp c=>b1 p (i p c),λy a e he f=>?_,λy a=>?_,λy a=>b4 y (l y a),λy a=>?_,by omega⟩
  ·rcases List.mem_cons.mp a with z|z
   ·subst z;exact d _ (k e he f)
   ·exact b2 y z e he f
  ·rcases b3 y a with z|z
   ·rcases g y z with w|w
    ·exact .inl w
    ·exact .inr (b4 y w)
   ·exact .inr z
  ·rcases b5 y a with z|z
   ·rcases j y z with w|w
    ·exact .inl w
    ·exact .inr (d y w)
   ·exact .inr z
def Td(g:fh fs es)(S:D)(d i a c:Sl)(h:re fs st es b.1)(s:b.2.length<=b.1.length)(ring:List (List Str))(k:∀x∈ring,x∈b.1.map (·.1)):
  re fs st es (ring.foldl (si es) b).1/\∃v f j,lP (cr 5) OJ (ring.map aP) [.shr (cG fs es),.shr S,.own (.dict (gC (jN b.1))),d,.own (.list (b.2.map aP)),i,a,c]=.ok (.nx [.shr (cG fs es),.shr S,.own (.dict (gC (jN (ring.foldl (si es) b).1))),d,.own (.list ((ring.foldl (si es) b).2.map aP)),v,f,j]):=by
 induction ring generalizing b i a c with
 |nil=>exact⟨h,i,a,c,rfl⟩
 |cons x r l=>
  obtain⟨n,H,B,I,G,E⟩:=N9 es b x;obtain⟨h',f,j,q⟩:=Tc g S d a c h (k x ap) s;obtain⟨t,o,A,u,w⟩:=l (.shr (aP x)) f j h' ∅ λy m=>by
   obtain⟨p,z,e⟩:=List.mem_map.mp (k y (ai _ m));rw[<- e];exact bi (n p z)
  refine⟨t,o,A,u,?_⟩;rw[ay,Ai (ρ1:=[.shr (cG fs es),.shr S,.own (.dict (gC (jN b.1))),d,.own (.list (b.2.map aP)),.shr (aP x),a,c]) rfl q];exact w
def We(g:fh fs es)(S:D)(n u j k m:Sl)(h:re fs st es l)(ring:List (List Str))(t:∀x∈ring,x∈l.map (·.1))(ho:n=.own (.list (ring.map aP))\/n=.shr (.list (ring.map aP))):
  re fs st es (ring.foldl (si es) (l,[])).1/\∃s c f i,bfB [.shr (cG fs es),.shr S,.own (.dict (gC (jN l))),n,u,j,k,m]=.ok (.nx [.shr (cG fs es),.shr S,.own (.dict (gC (jN (ring.foldl (si es) (l,[])).1))),.shr (.list ((ring.foldl (si es) (l,[])).2.map aP)),s,c,f,i]):=by
 have L:=λo=>Td g S o j k m (b:=(l,[])) h (cu _) ring t;unfold bfB;left;rcases ho with ho|ho
 ·subst ho;obtain⟨q,c,f,i,p⟩:=L (.lck (.list (ring.map aP)));refine⟨q,.shr (.list ((ring.foldl (si es) (l,[])).2.map aP)),c,f,i,?_⟩;have e:xk 3 (cr 5) OJ [.shr (cG fs es),.shr S,.own (.dict (gC (jN l))),.own (.list (ring.map aP)),.own (.list []),j,k,m]=.ok (.nx [.shr (cG fs es),.shr S,.own (.dict (gC (jN (ring.foldl (si es) (l,[])).1))),.own (.list (ring.map aP)),.own (.list ((ring.foldl (si es) (l,[])).2.map aP)),c,f,i]):=by
   show unl 3 _ (lP (cr 5) OJ (ring.map aP) [.shr (cG fs es),.shr S,.own (.dict (gC (jN l))),.lck (.list (ring.map aP)),.own (.list []),j,k,m])=_;have a:=p;rw[fq] at a;rw[a];rfl
  rw[e];left;simp only[Fh];rw[Fi rfl];left
 ·subst ho;obtain⟨q,c,f,i,p⟩:=L (.shr (.list (ring.map aP)));refine⟨q,.shr (.list ((ring.foldl (si es) (l,[])).2.map aP)),c,f,i,?_⟩;rw[Zu (d:=.list (ring.map aP)) rfl,Bb (ds:=ring.map aP)]
  ·have a:=p;rw[fq] at a;rw[a];left;simp only[Fh];rw[Fi rfl];left
  ·left
structure Wf (fs st:List Str) (es:List jm) (l:LZ):Prop where
 ok:re fs st es l
 all:∀x∈l.map (·.1),∀e∈es,iD x e.needs e.bars=true->cL e x∈l.map (·.1)
theorem IA(g:fh fs es)(S:D):∀(k a:Nat) (b f c d i:Sl) (l:LZ) (ring:List (List Str)),re fs st es l->(∀x∈ring,x∈l.map (·.1))->(∀x∈l.map (·.1),x∉ring->∀e∈es,iD x e.needs e.bars=true->cL e x∈l.map (·.1)) ->
  (b=.own (.list (ring.map aP))\/b=.shr (.list (ring.map aP)))->65-l.length+(if ring=[] then 0 else 1)<=k->k<a ->
  ∃l' T u o n v,Wf fs st es l'/\iM (Fo (rB 3)) bfB a [.shr (cG fs es),.shr S,.own (.dict (gC (jN l))),b,f,c,d,i]=.ok (.nx [.shr (cG fs es),.shr S,.own (.dict (gC (jN l'))),T,u,o,n,v])
 |_,0,_,_,_,_,_,_,_,_,_,_,_,_,E=>absurd E (gx _)
 |k,a+1,b,f,c,d,i,l,ring,h,w,hc,ho,hk,E=>by
  have Q:Fo (rB 3) [.shr (cG fs es),.shr S,.own (.dict (gC (jN l))),b,f,c,d,i]=.ok (!(ring.map aP).isEmpty):=q1l (by rcases ho with z|z<;>subst z<;>rfl);rw[iM,Q];cases ring with
  |nil=>exact⟨l,b,f,c,d,i,⟨h,λx w=>hc x w (λz=>nomatch z)⟩,rfl⟩
  |cons x r=>
   obtain⟨h',u,o,n,v,q⟩:=We g S b f c d i h (x::r) w ho;obtain⟨O,K,N,a4,Y,t⟩:=E4 es (x::r) (l,[]);have few:=h'.few g;have A:=h.few g;simp only[cD,oX] at t;rw[if_neg (by simp)] at hk;have s:65-((x::r).foldl (si es) (l,[])).1.length+(if((x::r).foldl (si es) (l,[])).2=[] then 0 else 1)<=k-1:=by
    by_cases j:((x::r).foldl (si es) (l,[])).2=[]
    ·rw[if_pos j];rw[j] at t;simp only[cD,oX] at t;omega
    ·rw[if_neg j];have:=List.length_pos_iff.mpr j;omega
   obtain⟨l',w3,w4,P,w6,U,I,M⟩:=IA g S (k-1) a (.shr (.list (((x::r).foldl (si es) (l,[])).2.map aP))) u o n v _ _ h' (λy m=>by
    rcases Y y m with z|z
    ·cases z
    ·exact z) (λy m X e he B=>by
    rcases N y m with z|z
    ·by_cases G:y∈x::r
     ·exact K y G e he B
     ·obtain⟨p,L,H⟩:=List.mem_map.mp (hc y z G e he B);rw[<- H];exact bi (O p L)
    ·exact(X z).elim) (.inr rfl) s ∅
   refine⟨l',w3,w4,P,w6,U,I,?_⟩;simp only[ay,List.isEmpty_cons,jT];rw[q];exact M
def Te(g:fh fs es)(hs:vw fs st):∃l,Wf fs st es l/\nA [cG fs es,aP st]=.ok (.dict ((.none,.none)::gC (jN l))):=by
 have i:re fs st es [(st,[])]:=⟨by simp,List.mem_singleton.mpr rfl,λp a=>by rw[List.mem_singleton.mp a];exact hs,λp a=>by rw[List.mem_singleton.mp a];exact⟨λ_ h=>(nomatch h),rfl,by simp⟩⟩;obtain⟨l,n,q,k,m,o,e,j⟩:=IA g (aP st) 65 100000 (.own (.list ([st].map aP))) .no .no .no .no [(st,[])] [st] i (λx b=>b) (λx b f=>(f b).elim) (.inl rfl) (by simp) ⋯;refine⟨l,e,?_⟩;unfold nA;refine dh ?_;rw[T8];unfold cf;left;rw[q2b (x:=st) (d:=.list []) rfl rfl];left;have c:iM (Fo (rB 3)) bfB 100000 [.shr (cG fs es),.shr (aP st),.own (.dict (gC [(st,.list [])])),.own (.list [aP st]),.no,.no,.no,.no]=_:=j;rw[c];left;rw[q2a e.ok.ne rfl];left
def Wf.keys(h:Wf fs st es l)(x:List Str):x∈l.map (·.1)↔Rch es st x:=by
 constructor
 ·intro d;obtain⟨p,c,rfl⟩:=List.mem_map.mp d;obtain⟨b,a,_⟩:=h.ok.row p c;exact⟨p.2,b,a⟩
 ·rintro⟨e,b,a⟩;exact BE (M:=λx=>x∈l.map (·.1)) h.all e st x (bi (f:=(·.1)) h.ok.beg) b a
def ZB(l:LZ):((gC (jN l)).map (·.1))=(l.map (·.1)).map J.tX:=by
 rw[<- nV l];unfold gC sM;rw[cb,cb];rfl
def q2c(g:fh fs es)(b:fs.length<=5)(h:re fs st es l):l.length<=32:=by
 have:=xD h.nd λx c=>Iv g.rise.up (by
  obtain⟨p,a,rfl⟩:=List.mem_map.mp c;exact h.sub p a)
 rw[ah] at this;unfold W6 at this;rw[BD] at this;have:2 ^ fs.length<=2 ^ 5:=vJ ⋯ b
 simp only[aU,cD] at *;omega
def Lh(g:fh fs es)(h:fs.length<=5)(hs:vw fs st):∃a:List (List Str),a.Nodup/\(∀x,x∈a↔Rch es st x)/\(∀x∈a,vw fs x)/\a.length<=32/\m6 [cG fs es,aP st]=.ok (.list ((kn a).map aP)):=by
 obtain⟨l,b,e⟩:=Te g hs;have few:=q2c g h b.ok;have d:=b.ok.nd;refine⟨l.map (·.1),d,b.keys,λx i=>?_,by rw[ah];exact few,?_⟩
 ·obtain⟨p,f,rfl⟩:=i_.1 i;exact b.ok.sub p f
 have c:J.uy (.dict ((.none,.none)::gC (jN l)))=.ok (.list ((kn (l.map (·.1))).map aP)):=by
  unfold J.uy;dsimp only;rw[ZB,J.vT];dsimp only;unfold J.qZ;rw[if_pos ⟨d,by rw[ah];omega⟩];rfl
 unfold m6;refine dh ?_;unfold uK cf;left;rw[xC g hs];left;rw[e];left;rw[c];left
def Wg(a:t ρ=.ok true)(c:b ρ=.ok (.nx ρ')):iM t b (n+1) ρ=iM t b n ρ':=by
 rw[iM,a];simp only[c]
def Wi(a:t ρ=.ok false):iM t b (n+1) ρ=.ok (.nx ρ):=by
 rw[iM,a]
abbrev PZ:=Str×Str
def aN(p:PZ):D:=.tuple [.str p.1,.str p.2]
def fB:List Str->List PZ
 |[]=>[]
 |x::r=>((x::r).map λy=>(x,y))++fB r
def Li{fs r:List Str}{x:Str}{k:Nat}(h:fs.drop k=x::r):
  rQ 2 [.no,.no,.no,.shr (aP fs)] kT (gG (Gu (rB 3) (F8 (rS 0)) Jr)) kT (de (J.aa (rS 1) (J.aa (rS 2) J.aC)) .tuple) (.tuple [.int k,.str x])=.ok ((x::r).map λy=>aN (x,y)):=by
 have b:k<=(fs.map aS).length:=by
  rw[ah];by_cases d:k<=fs.length
  ·exact d
  ·rw[List.drop_eq_nil_of_le ∅] at h;cases h
 have c:gG (Gu (rB 3) (F8 (rS 0)) Jr) [.shr (.int k),.shr (.str x),.no,.shr (aP fs)]=.ok ((x::r).map aS):=by
  have e:gG (Gu (rB 3) (F8 (rS 0)) Jr) [.shr (.int k),.shr (.str x),.no,.shr (aP fs)]=.ok (AT (fs.map aS) (some (k:Int)) none):=rfl;rw[e,L9 _ k b,<- wF,h]
 have a:fY (inR 2 [.shr (.int k),.shr (.str x),.no,.shr (aP fs)] kT (de (J.aa (rS 1) (J.aa (rS 2) J.aC)) .tuple)) ((x::r).map aS)=.ok ((x::r).map λy=>aN (x,y)):=
  cK _ (λy:Str=>aS y) (λy=>aN (x,y)) (x::r) λy _=>rfl
 have e:rQ 2 [.no,.no,.no,.shr (aP fs)] kT (gG (Gu (rB 3) (F8 (rS 0)) Jr)) kT (de (J.aa (rS 1) (J.aa (rS 2) J.aC)) .tuple) (.tuple [.int k,.str x])=Fb ((gG (Gu (rB 3) (F8 (rS 0)) Jr) [.shr (.int k),.shr (.str x),.no,.shr (aP fs)]).bind λes=>fY (inR 2 [.shr (.int k),.shr (.str x),.no,.shr (aP fs)] kT (de (J.aa (rS 1) (J.aa (rS 2) J.aC)) .tuple)) es):=rfl;rw[e,c,bind_ok,a];rfl
theorem BF(fs:List Str):∀(r:List Str) (k:Nat),fs.drop k=r ->
  pK (rQ 2 [.no,.no,.no,.shr (aP fs)] kT (gG (Gu (rB 3) (F8 (rS 0)) Jr)) kT (de (J.aa (rS 1) (J.aa (rS 2) J.aC)) .tuple)) (kj k (r.map aS))=.ok ((fB r).map aN)
 |[],_,_=>rfl
 |x::r,k,h=>by
  have h':fs.drop (k+1)=r:=by rw[<- List.drop_drop,h];rfl
  rw[ay,kj];unfold pK;rw[Li h,bind_ok,BF fs r (k+1) h',bind_ok,fB,bF,cb];rfl
theorem E5:∀fs:List Str,2*(fB fs).length<=fs.length*(fs.length+1)
 |[]=>by simp[fB]
 |x::r=>by
  have:=E5 r;rw[fB,aT,ah,aU];have e:(r.length+1)*(r.length+1+1)=r.length*(r.length+1)+2*(r.length+1):=by
   rw[Nat.add_mul,Nat.mul_add,Nat.one_mul];omega
  omega
def rf(h:fs.length<=6):(fB fs).length<=21:=by
 have a:=E5 fs;have b:fs.length*(fs.length+1)<=6*7:=Nat.mul_le_mul h ∅;omega
def FL(h:fs.length<=6):iC [aP fs]=.ok (.list ((fB fs).map aN)):=by
 have a:=rf h;unfold iC;refine dh ?_;unfold pT cf;have e:yF 2 [0] (CF (J.aa (rS 0) J.aC)) kT (gG (Gu (rB 3) (F8 (rS 0)) Jr)) kT (de (J.aa (rS 1) (J.aa (rS 2) J.aC)) .tuple) [.shr (aP fs)]=(pK (rQ 2 [.no,.no,.no,.shr (aP fs)] kT (gG (Gu (rB 3) (F8 (rS 0)) Jr)) kT (de (J.aa (rS 1) (J.aa (rS 2) J.aC)) .tuple)) (kj 0 (fs.map aS))).bind λys=>if ys.length<=900 then .ok (.list ys) else .no:=rfl
 show(yF 2 [0] (CF (J.aa (rS 0) J.aC)) kT (gG (Gu (rB 3) (F8 (rS 0)) Jr)) kT (de (J.aa (rS 1) (J.aa (rS 2) J.aC)) .tuple) [.shr (aP fs)]).bind _=_;rw[e,BF fs fs 0 rfl,bind_ok,if_pos (by rw[ah];omega)];rfl
theorem yJ:∀(fs:List Str) (p:PZ),p∈fB fs->p.1∈fs/\p.2∈fs
 |x::r,p,h=>by
  rw[fB] at h;rcases dz.1 h with z|z
  ·obtain⟨y,b,rfl⟩:=i_.1 z;exact⟨ap,b⟩
  ·obtain⟨a,c⟩:=yJ r p z;exact⟨ai _ a,ai _ c⟩
def fA(xs:List Str)(p:PZ):Bool:=decide (p.1∈xs)&&decide (p.2∈xs)
def yK(p:PZ)(xs:List Str):fP [aN p,aP xs]=.ok (.bool (fA xs p)):=by
 unfold fP;refine dh ?_;unfold pU cf;left;rw[show bc (aN p) (.int 0)=.ok (.str p.1) from rfl];left;rw[lK];unfold fA;cases decide (p.1∈xs) with
 |false=>
  left;rfl
 |true=>
  left;rw[show bc (aN p) (.int 1)=.ok (.str p.2) from rfl];left;rw[lK];left;rfl
def jg(e:jm)(p:PZ):List Str:=[p.1,p.2].filter λx=>!decide (x∈e.makes)
def fi(e:jm)(p:PZ)(P:List PZ):Bool:=!(decide ((jg e p).length=2)||(([p.1,p.2].any λx=>decide (x∈e.ends))||(jg e p).any λx=>decide (x∈e.bars))) && !P.any (fA (e.needs++jg e p))
def Na(e:jm)(p:PZ):(jg e p).length<=2:=fE _ _
def OK(h:pZ fs e)(a:fs.length<=6)(g:P.length<=21):xw [eY e,aN p,.list (P.map aN)]=.ok (.bool (fi e p P)):=by
 have f:=kw h.needs a;have d:=Na e p;have w:nU [aN p,aP e.makes]=.ok (aP (jg e p)):=BC (xs:=[p.1,p.2]) (by show 2<=60;omega);have s1:eE [aN p,aP e.ends]=.ok (.bool (!([p.1,p.2].any λx=>decide (x∈e.ends)))):=BB (xs:=[p.1,p.2]) (by show 2<=60;omega);have c:eE [aP (jg e p),aP e.bars]=.ok (.bool (!((jg e p).any λx=>decide (x∈e.bars)))):=BB ∅;unfold xw;refine dh ?_;unfold xv cf;left;rw[show(Mf (eY e) (some 1) (some 5)).bind (RF (pd 4 (cW (cr 3) (cW (cr 4) (cW (cr 5) (cW (cr 6) qX))))) [Sl.shr (eY e),Sl.shr (aN p),Sl.shr (iJ (pz aN P)),Sl.no,Sl.no,Sl.no,Sl.no,Sl.no,Sl.no])=.ok (.nx [Sl.shr (eY e),Sl.shr (aN p),Sl.shr (iJ (pz aN P)),Sl.shr (aP e.needs),Sl.shr (aP e.bars),Sl.shr (aP e.makes),Sl.shr (aP e.ends),Sl.no,Sl.no]) from rfl];left;rw[w];left;rw[n6];unfold fi;have b:decide (((jg e p).length:Int)=2)=decide ((jg e p).length=2):=by rw[dw,decide_eq_true_iff,decide_eq_true_iff];omega
 rw[b];cases decide ((jg e p).length=2) with
 |true=>
  left;rfl
 |false=>
  left;rw[s1];left;cases([p.1,p.2].any λx=>decide (x∈e.ends)) with
  |true=>
   left;rfl
  |false=>
   left;rw[c];left;cases((jg e p).any λx=>decide (x∈e.bars)) with
   |true=>
    left;rfl
   |false=>
    left;rw[if_pos ∅,<- bF];left;rw[if_pos ∅];rw[cK _ aN (λq=>bO (fA (e.needs++jg e p) q)) P λq _=>eD rfl (by
     left;rw[yK])]
    left;rw[iR _ (fA (e.needs++jg e p))];left;rw[k9,show(id∘fA (e.needs++jg e p))=fA (e.needs++jg e p) from rfl];rfl
def dL(es:List jm)(P:List PZ)(p:PZ):Bool:=es.any λe=>fi e p P
def BG(g:fh fs es)(a:P.length<=21):eF [cG fs es,aN p,.list (P.map aN)]=.ok (.bool (dL es P p)):=by
 have b:=g.len;unfold eF;refine dh ?_;unfold nw cf;left;rw[q1h];left;rw[if_pos ∅];rw[cK _ eY (λe=>bO (fi e p P)) es λe he=>eD rfl (by
  left;rw[OK (g.ok e he) g.rise.len a])]
 left;rw[iR _ (λe=>fi e p P)];left;rw[k9];rfl
def i8(es:List jm)(P:List PZ):List PZ:=P.filter λp=>!dL es P p
def vY(es:List jm):Nat->List PZ->List PZ
 | 0,P=>i8 es P
 |n+1,P=>if i8 es P=P then i8 es P else vY es n (i8 es P)
def t_(es:List jm)(P:List PZ):(i8 es P).length<=P.length:=fE _ _
theorem BH:∀A B:List PZ,dQ (A.map aN) (B.map aN)=decide (A=B)
 |[],[]=>rfl
 |[],_::_=>by simp[dQ]
 |_::_,[]=>by simp[dQ]
 |a::A,b::B=>by
  rw[ay,ay,dQ,BH A B];have:bn (aN a) (aN b)=decide (a=b):=by
   obtain⟨d,e⟩:=a;obtain⟨b1,b2⟩:=b;by_cases c:d=b1<;>by_cases f:e=b2<;>simp[aN,bn,dQ,c,f]
  rw[this];simp
def oH{fs:List Str}(c:∀x∈fs,Af x=true){A:List PZ}(h:∀p∈A,p.1∈fs/\p.2∈fs):(iJ (A.map aN)).canLay0=true:=by
 simp only[eg];exact Is aN A λp a=>by
  have b:=xA (c _ (h p a).1);have d:=xA (c _ (h p a).2);simp only[eg] at b d;simp only[aN,eg,cY,b,d];rfl
def OL(A:List PZ):(iJ (A.map aN)).depth<=60:=by
 have:=DZ aN 1 (λx=>by simp[aN,Gq,n8]) A;simp only[Gq];omega
def Wj(a:Bool){fs:List Str}(b:∀x∈fs,Af x=true){A B:List PZ}(h:∀p∈A,p.1∈fs/\p.2∈fs)(h':∀p∈B,p.1∈fs/\p.2∈fs):nh a (.list (A.map aN)) (.list (B.map aN))=.ok (.bool (if a then !decide (A=B) else decide (A=B))):=by
 unfold nh;rw[oH b h,oH b h',decide_eq_true (cH (Nat.min_le_left _ _) (OL A)),show bn (.list (A.map aN)) (.list (B.map aN))=dQ (A.map aN) (B.map aN) from by simp[bn],BH];rfl
def kpB:aE->R Fl:=Fh 2 (fF 3 (cA 1 [0,2] (gG (rB 2)) (i5 (ej (dN 3 eF (J.aa (rS 1) (J.aa (rS 0) (J.aa (rS 2) J.aC)))))) (rS 0)))
def apB:aE->R Fl:=a_ (Fh 3 (iu 2 (rS 3))) kpB
def Tf:Ae=a_ (qW (dN 2 cX (J.aa (rS 0) (J.aa (rS 1) J.aC)))) (a_ (fF 2 (cA 1 [1] (gG (dN 1 iC (J.aa (g2 (rB 0) (kI 0) bc) J.aC))) (i5 (ej (dN 2 fP (J.aa (rS 0) (J.aa (rS 1) J.aC))))) (rS 0))) (a_ kpB (a_ (iM (ej (g2 (rB 3) (rB 2) (nh true))) apB 100000) (cZ (rS 3))))):=rfl
def Wk(g:fh fs es)(b:P.length<=21):
  cA 1 [0,2] (gG (rB 2)) (i5 (ej (dN 3 eF (J.aa (rS 1) (J.aa (rS 0) (J.aa (rS 2) J.aC)))))) (rS 0) [.shr (cG fs es),s1,.shr (.list (P.map aN)),s3]=.ok (.list ((i8 es P).map aN)):=by
 unfold cA;have a:gG (rB 2) [.shr (cG fs es),s1,.shr (.list (P.map aN)),s3]=.ok (P.map aN):=rfl;rw[a,bind_ok,if_pos (by rw[ah];omega)];rw[i7 _ aN aN (λp=>!dL es P p) P λp _=>uv (by
  show i5 (ej (dN 3 eF (J.aa (rS 1) (J.aa (rS 0) (J.aa (rS 2) J.aC))))) [.shr (aN p),.shr (cG fs es),.shr (.list (P.map aN))]=_;left;rw[BG g b];left) λ_=>rfl]
 rfl
def Tg(g:fh fs es)(b:P.length<=21)(a:s2=.own (.list (P.map aN))\/s2=.shr (.list (P.map aN))):
  kpB [.shr (cG fs es),s1,s2,s3]=.ok (.nx [.shr (cG fs es),s1,.shr (.list (P.map aN)),.own (.list ((i8 es P).map aN))]):=by
 have e:kpB [.shr (cG fs es),s1,s2,s3]=fF 3 (cA 1 [0,2] (gG (rB 2)) (i5 (ej (dN 3 eF (J.aa (rS 1) (J.aa (rS 0) (J.aa (rS 2) J.aC)))))) (rS 0)) [.shr (cG fs es),s1,.shr (.list (P.map aN)),s3]:=by
  rcases a with rfl|rfl<;>rfl
 rw[e];unfold fF;rw[Wk g b];rfl
theorem IB{fs:List Str}{es:List jm}{s1:Sl}(g:fh fs es):∀(n N:Nat) (P:List PZ),(∀p∈P,p.1∈fs/\p.2∈fs)->P.length<=21->P.length<=n->n<N ->
  ∃h,iM (ej (g2 (rB 3) (rB 2) (nh true))) apB N [.shr (cG fs es),s1,.shr (.list (P.map aN)),.own (.list ((i8 es P).map aN))]=.ok (.nx [.shr (cG fs es),s1,h,.own (.list ((vY es n P).map aN))])
 |n,0,_,_,_,_,c=>absurd c (gx _)
 |n,N+1,P,hs,o,f,c=>by
  have i:∀p∈i8 es P,p.1∈fs/\p.2∈fs:=λp m=>hs p (cM.1 m).1;have k:=t_ es P;have t:ej (g2 (rB 3) (rB 2) (nh true)) [.shr (cG fs es),s1,.shr (.list (P.map aN)),.own (.list ((i8 es P).map aN))]=.ok (!decide (i8 es P=P)):=by
   have e:ej (g2 (rB 3) (rB 2) (nh true)) [.shr (cG fs es),s1,.shr (.list (P.map aN)),.own (.list ((i8 es P).map aN))]=(nh true (.list ((i8 es P).map aN)) (.list (P.map aN))).bind λd=>match d with
    |.bool b=>.ok b
    |_=>.no:=rfl
   rw[e,Wj true g.rise.ok i hs];rfl
  by_cases a:i8 es P=P
  ·have l:vY es n P=i8 es P:=by cases n with
    |zero=>rfl
    |succ n=>rw[vY,if_pos a]
   rw[l];rw[decide_eq_true a] at t;exact⟨_,Wi t⟩
  ·rw[decide_eq_false a] at t;have lt:(i8 es P).length<P.length:=PD k λz=>a (List.filter_sublist.eq_of_length z)
   match n,f,c with
   | 0,f,_=>omega
   |n+1,f,c=>
    obtain⟨h,e⟩:=IB (s1:=s1) g n N (i8 es P) i ∅ ∅ ∅;refine⟨h,?_⟩;have b:apB [.shr (cG fs es),s1,.shr (.list (P.map aN)),.own (.list ((i8 es P).map aN))]=.ok (.nx [.shr (cG fs es),s1,.shr (.list ((i8 es P).map aN)),.own (.list ((i8 es (i8 es P)).map aN))]):=by
     have j:apB [.shr (cG fs es),s1,.shr (.list (P.map aN)),.own (.list ((i8 es P).map aN))]=kpB [.shr (cG fs es),s1,.shr (.list ((i8 es P).map aN)),.shr (.list ((i8 es P).map aN))]:=rfl;rw[j,Tg g ∅ (.inr rfl)]
    rw[Wg t b,e,vY,if_neg a]
def fQ(fs:List Str)(es:List jm)(ss:List Str):List PZ:=vY es 21 ((fB fs).filter λp=>!fA ss p)
def Th(g:fh fs es)(h:vw fs ss):rX [cG fs es,aP ss]=.ok (.list ((fQ fs es ss).map aN)):=by
 have sq:∀(a b:aE->R Fl) (ρ ρ':aE),a ρ=.ok (.nx ρ')->a_ a b ρ=b ρ':=λa b ρ ρ' h=>by unfold a_;rw[h];rfl
 have pl:=rf g.rise.len;have k:((fB fs).filter λp=>!fA ss p).length<=(fB fs).length:=fE _ _;have ps:∀p∈(fB fs).filter λp=>!fA ss p,p.1∈fs/\p.2∈fs:=λp d=>yJ fs p (cM.1 d).1;have i:cA 1 [1] (gG (dN 1 iC (J.aa (g2 (rB 0) (kI 0) bc) J.aC))) (i5 (ej (dN 2 fP (J.aa (rS 0) (J.aa (rS 1) J.aC))))) (rS 0) [.shr (cG fs es),.shr (aP ss),.no,.no]=.ok (.list (((fB fs).filter λp=>!fA ss p).map aN)):=by
  unfold cA;have e:gG (dN 1 iC (J.aa (g2 (rB 0) (kI 0) bc) J.aC)) [.shr (cG fs es),.shr (aP ss),.no,.no]=(iC [aP fs]).bind tT:=rfl;rw[e,FL g.rise.len,bind_ok,show tT (.list ((fB fs).map aN))=.ok ((fB fs).map aN) from rfl,bind_ok,if_pos (by rw[ah];omega)];rw[i7 _ aN aN (λp=>!fA ss p) (fB fs) λp _=>uv (by
   show i5 (ej (dN 2 fP (J.aa (rS 0) (J.aa (rS 1) J.aC)))) [.shr (aN p),.shr (aP ss)]=_;left;rw[yK];left) λ_=>rfl]
  rfl
 obtain⟨j,f⟩:=IB (s1:=.shr (aP ss)) g 21 100000 _ ps ∅ ∅ ⋯;unfold rX;refine dh ?_;rw[Tf];show a_ _ _ [.shr (cG fs es),.shr (aP ss),.no,.no]=_;have c:dN 2 cX (J.aa (rS 0) (J.aa (rS 1) J.aC)) [.shr (cG fs es),.shr (aP ss),.no,.no]=cX [cG fs es,aP ss]:=rfl;rw[sq _ _ _ [.shr (cG fs es),.shr (aP ss),.no,.no] (by unfold qW;rw[c,xC g h];rfl)];rw[sq _ _ _ [.shr (cG fs es),.shr (aP ss),.own (.list (((fB fs).filter λp=>!fA ss p).map aN)),.no] (by unfold fF;rw[i];rfl)];rw[sq _ _ _ _ (Tg g ∅ (.inl rfl)),sq _ _ _ _ f];rfl
theorem FM:∀(n:Nat) (P:List PZ),p∈vY es n P->p∈P
 | 0,P,h=>(cM.1 h).1
 |n+1,P,h=>by
  rw[vY] at h;split at h
  ·exact(cM.1 h).1
  ·exact(cM.1 (FM n _ h)).1
theorem IC:∀(n:Nat) (P:List PZ),P.length<=n->i8 es (vY es n P)=vY es n P
 | 0,P,h=>by
  have:P=[]:=List.eq_nil_of_length_eq_zero ∅
  subst this;rfl
 |n+1,P,h=>by
  rw[vY];by_cases a:i8 es P=P
  ·rw[if_pos a,a,a]
  ·rw[if_neg a];have lt:(i8 es P).length<P.length:=PD (t_ es P) λz=>a (List.filter_sublist.eq_of_length z);exact IC n _ ∅
def Aj:fA xs p=true↔p.1∈xs/\p.2∈xs:=by
 unfold fA;rw[aR,decide_eq_true_iff,decide_eq_true_iff]
def Lj(v:∀y∈e.makes,y∉e.ends)(A:iD x e.needs e.bars=true)(o:∀q∈P,fA x q=false)(f:fA x p=false)(n:fA (cL e x) p=true):fi e p P=true:=by
 obtain⟨u,g2⟩:=OH.1 A;obtain⟨b1,b2⟩:=Aj.1 n;have c:∀y∈[p.1,p.2],(y∈x/\y∉e.ends)\/y∈e.makes:=λy a=>by
  rcases aW.1 a with z|z
  ·rw[z];exact vX.1 b1
  ·rw[df.1 z];exact vX.1 b2
 have b:∀y∈jg e p,y∈x:=λy a=>by
  obtain⟨h,d⟩:=cM.1 a;rcases c y h with z|z
  ·exact z.1
  ·rw[decide_eq_true z] at d;cases d
 have l:¬(jg e p).length=2:=λz=>by
  have:∀y∈[p.1,p.2],(!decide (y∈e.makes))=true:=List.length_filter_eq_length_iff.1 z
  have i:p.1∈jg e p:=cM.2 ⟨by simp,this _ (by simp)⟩;have E:p.2∈jg e p:=cM.2 ⟨by simp,this _ (by simp)⟩;rw[Aj.2 ⟨b _ i,b _ E⟩] at f;cases f
 have m:([p.1,p.2].any λy=>decide (y∈e.ends))=false:=by
  rw[fm];intro y a z;have z:=of_decide_eq_true z;rcases c y a with w|w
  ·exact w.2 z
  ·exact v y w z
 have B:((jg e p).any λy=>decide (y∈e.bars))=false:=by
  rw[fm];intro y a z;exact g2 y (of_decide_eq_true z) (b y a)
 have j:P.any (fA (e.needs++jg e p))=false:=by
  rw[fm];intro q k z;obtain⟨s,t⟩:=Aj.1 z;have g:∀y∈e.needs++jg e p,y∈x:=λy a=>(dz.1 a).elim (u y) (b y);have:=o q k;rw[Aj.2 ⟨g _ s,g _ t⟩] at this;cases this
 unfold fi;rw[decide_eq_false l,m,B,j];rfl
theorem E6(g:fh fs es)(d:∀q∈A,∀e∈es,fi e q A=false):∀(f:List jm) (st x:List Str),(∀e∈f,e∈es)->(∀q∈A,fA st q=false)->zZ f st=some x->∀q∈A,fA x q=false
 |[],st,x,_,hs,h=>by cases h;exact hs
 |a::r,st,x,he,hs,h=>by
  have h':(if iD st a.needs a.bars then zZ r (cL a st) else none)=some x:=h;split at h'
  ·rename_i i
   have b:=he a ap;refine E6 g d r (cL a st) x (λe h=>he e (ai _ h)) (λq c=>?_) h';cases j:fA (cL a st) q with
   |false=>rfl
   |true=>
    have:=Lj (g.ok a b).me i hs (hs q c) j;rw[d q c a b] at this;cases this
  ·cases h'
def ID(g:fh fs es)(h:Rch es ss x):∀q∈fQ fs es ss,fA x q=false:=by
 obtain⟨d,b,f⟩:=h;have pl:=rf g.rise.len;have i:((fB fs).filter λp=>!fA ss p).length<=(fB fs).length:=fE _ _;have c:i8 es (fQ fs es ss)=fQ fs es ss:=IC 21 _ ∅;refine E6 g (λq a e he=>?_) d ss x b (λq a=>?_) f
 ·rw[<- c] at a;have:=(cM.1 a).2;have:dL es (fQ fs es ss) q=false:=by simpa using this
  unfold dL at this;rw[fm] at this;simpa using this e he
 ·have:=(cM.1 (FM 21 _ a)).2;simpa using this
def E7:∀q∈fQ fs es ss,q.1∈fs/\q.2∈fs:=λq a=>yJ fs q (cM.1 (FM 21 _ a)).1
def OM(g:fh fs es):(fQ fs es ss).length<=21:=by
 have pl:=rf g.rise.len;have b:((fB fs).filter λp=>!fA ss p).length<=(fB fs).length:=fE _ _;have:∀(n:Nat) (P:List PZ),(vY es n P).length<=P.length:=λn=>by
  induction n with
  |zero=>exact t_ es
  |succ n a=>
   intro P;rw[vY];split
   ·exact t_ es P
   ·exact cH (a _) (t_ es P)
 exact cH (this 21 _) ∅
def Lk(h:∀q∈P,q∈P')(a:fi e p P'=true):fi e p P=true:=by
 unfold fi at a ⊢;rw[aR] at a ⊢;refine⟨a.1,?_⟩;have b:=a.2;rw[lR,fm] at b ⊢;exact λq c=>b q (h q c)
def FO(h:∀q∈P,q∈P')(a:dL es P' p=true):dL es P p=true:=by
 unfold dL at a ⊢;rw[eU] at a ⊢;obtain⟨e,he,q⟩:=a;exact⟨e,he,Lk h q⟩
def ON(c:∀p∈B,dL es B p=false):∀(n:Nat) (P:List PZ),(∀p∈B,p∈P)->∀p∈B,p∈vY es n P:=by
 have k:∀P,(∀p∈B,p∈P)->∀p∈B,p∈i8 es P:=λP h p a=>by
  refine cM.2 ⟨h p a,?_⟩;cases q:dL es P p with
  |false=>rfl
  |true=>exact absurd ((c p a).symm.trans (FO h q)) aG
 intro n;induction n with
 |zero=>exact λP h=>k P h
 |succ n b=>
  intro P h;rw[vY];split
  ·exact k P h
  ·exact b _ (k P h)
abbrev BI:aE->R D:=pC (g2 (g2 (rB 0) (kI 0) bc) (rB 1) (sS false)) (g2 (g2 (rB 0) (kI 1) bc) (rB 1) (sS false))
def OO(xs:List Str)(q:PZ):BI [.shr (aN q),.shr (.list (xs.map .str))]=.ok (.bool (fA xs q)):=by
 left;rw[show bc (aN q) (.int 0)=.ok (.str q.1) from rfl];left;rw[FE];unfold fA;cases decide (q.1∈xs) with
 |false=>
  left;rfl
 |true=>
  left;rw[show bc (aN q) (.int 1)=.ok (.str q.2) from rfl];left;rw[FE];rfl
def IE(xs:List Str)(q:PZ):BI [.shr (aN q),.shr (aP xs)]=.ok (.bool (fA xs q)):=by
 left;rw[show bc (aN q) (.int 0)=.ok (.str q.1) from rfl];left;rw[lK];unfold fA;cases decide (q.1∈xs) with
 |false=>
  left;rfl
 |true=>
  left;rw[show bc (aN q) (.int 1)=.ok (.str q.2) from rfl];left;rw[lK];rfl
def Ll(h:pZ fs e)(f:fs.length<=6)(k:P.length<=30):iP [eY e,.str p.1,.str p.2,.list (P.map aN)]=.ok (.bool (fi e p P)):=by
 have j:=kw h.needs f;have g:=Na e p;have a:fY (iX 1 [Sl.no,Sl.shr (eY e)] (ej (g2 (rB 0) (g2 (rB 1) (kI 3) bc) (sS true))) (rS 0)) [aS p.1,aS p.2]=.ok ((jg e p).map aS):=by
  rw[show [aS p.1,aS p.2]=[p.1,p.2].map aS from rfl];rw[i7 _ (λx:Str=>aS x) (λx=>aS x) (λx=>!decide (x∈e.makes)) [p.1,p.2] λx i=>uv (by
   have z:ej (g2 (rB 0) (g2 (rB 1) (kI 3) bc) (sS true)) [.shr (.str x),.shr (eY e)]=(sS true (.str x) (aP e.makes)).bind λd=>match d with
    |.bool b=>.ok b
    |_=>.no:=rfl
   refine qH z ?_;rw[lK];rfl) λ_=>rfl]
  rfl
 unfold iP;refine dh ?_;unfold nC cf;left;rw[a];left;rw[n6];unfold fi;have c:decide (((jg e p).length:Int)=2)=decide ((jg e p).length=2):=by rw[dw,decide_eq_true_iff,decide_eq_true_iff];omega
 rw[c];cases decide ((jg e p).length=2) with
 |true=>
  left;rfl
 |false=>
  left;rw[show bc (eY e) (.int 4)=.ok (aP e.ends) from rfl];left;rw[lK];rw[show([p.1,p.2].any λx=>decide (x∈e.ends))=(decide (p.1∈e.ends)||decide (p.2∈e.ends)) by simp];cases decide (p.1∈e.ends) with
  |true=>
   left;rfl
  |false=>
   left;rw[show bc (eY e) (.int 4)=.ok (aP e.ends) from rfl];left;rw[lK];cases decide (p.2∈e.ends) with
   |true=>
    left;rfl
   |false=>
    left;rw[if_pos ∅];rw[cK _ aS (λx=>bO (decide (x∈e.bars))) (jg e p) λx _=>eD rfl (by
     have z:g2 (rB 0) (g2 (rB 1) (kI 2) bc) (sS false) [.shr (.str x),.shr (eY e)]=sS false (.str x) (aP e.bars):=rfl;refine qH z ?_;rw[lK];rfl)]
    left;rw[iR _ (λx=>decide (x∈e.bars))];left;rw[k9,show(id∘λx=>decide (x∈e.bars))=λx=>decide (x∈e.bars) from rfl];cases((jg e p).any λx=>decide (x∈e.bars)) with
    |true=>
     left;rfl
    |false=>
     left;rw[show bc (eY e) (.int 1)=.ok (aP e.needs) from rfl];left;rw[show mn (aP e.needs)=zj (aP e.needs) from rfl];try unfold zj aP
     left;rw[if_pos ∅,<- bF];left;rw[if_pos ∅];rw[cK _ aN (λq=>bO (fA (e.needs++jg e p) q)) P λq _=>eD rfl (OO (e.needs++jg e p) q)];left;rw[iR _ (fA (e.needs++jg e p))];left;rw[k9,show(id∘fA (e.needs++jg e p))=fA (e.needs++jg e p) from rfl];rfl
def jz(p:PZ):PZ:=if oR p.2 p.1=true then(p.2,p.1) else p
def rg(p:PZ):jz p=p\/jz p=(p.2,p.1):=by
 unfold jz;split
 ·exact .inr rfl
 ·exact .inl rfl
def Ti(p:PZ):(jz p).1=(jz p).2\/oR (jz p).1 (jz p).2=true:=by
 unfold jz;split
 ·rename_i h;exact .inr h
 ·rename_i h
  cases q:oR p.1 p.2 with
  |true=>exact .inr rfl
  |false=>exact .inl (wU q (by simpa using h))
def Js(p:PZ):List Str:=[p.1,p.2]
def Nb(P:List PZ):P.map aN=(P.map Js).map tX:=by
 rw[cb];rfl
def Nc(z:Js p=Js q):p=q:=by
 unfold Js at z;injection z with b a;injection a with a _;exact Prod.ext b a
def Wl(h:x=y\/oR x y=true):Qq [x,y]:=by
 refine List.pairwise_cons.mpr ⟨λz a=>?_,sJ ..⟩;rw[List.mem_singleton.mp a];cases q:oR y x with
 |false=>rfl
 |true=>
  rcases h with h|h
  ·rw[h] at q;exact q.symm.trans (kE _)
  ·exact(nQ q h).symm.trans (kE _)
def Tj(p:PZ):iW [p.1,p.2]=Js (jz p):=by
 refine yt ((gR _).trans ?_) (qR _) (Wl (Ti p));rcases rg p with e|e
 ·rw[e];exact .refl _
 ·rw[e];exact .swap ..
def Tl(xs:List Str)(p:PZ):fA xs (p.2,p.1)=fA xs p:=Bool.and_comm ..
def FP(xs:List Str)(p:PZ):fA xs (jz p)=fA xs p:=by
 rcases rg p with e|e<;>rw[e];exact Tl xs p
def Tn(h:∀x,x∈xs↔x∈ys)(p:PZ):fA xs p=fA ys p:=by
 unfold fA;rw[decide_eq_decide.mpr (h p.1),decide_eq_decide.mpr (h p.2)]
def Nd{α:Type}{f:α->Bool}{l m:List α}(h:∀x,x∈l↔x∈m):l.any f=m.any f:=by
 rw[dw,eU,eU];exact⟨λ⟨x,a,b⟩=>⟨x,(h x).1 a,b⟩,λ⟨x,a,b⟩=>⟨x,(h x).2 a,b⟩⟩
def Lm(e:jm)(p:PZ)(P:List PZ):fi e (p.2,p.1) P=fi e p P:=by
 have a:(jg e (p.2,p.1)).Perm (jg e p):=(zJ p.1 p.2 []).filter _;unfold fi;rw[a.length_eq,Nd (l:=[(p.2,p.1).1,(p.2,p.1).2]) (m:=[p.1,p.2]) (λx=>(zJ p.1 p.2 []).mem_iff),Nd (l:=jg e (p.2,p.1)) (m:=jg e p) λx=>a.mem_iff];congr 2;refine congrArg (LX P) (funext λq=>Tn (λx=>?_) q);rw[dz,dz,a.mem_iff]
def OP(e:jm)(p:PZ)(P:List PZ):fi e (jz p) P=fi e p P:=by
 rcases rg p with h|h<;>rw[h];exact Lm e p P
def Wm(P U:List PZ):Prop:=∀u,u∈U↔∃p∈P,jz p=u
def Wm.any(h:Wm P U)(b:∀p,f (jz p)=f p):U.any f=P.any f:=by
 rw[dw,eU,eU];constructor
 ·rintro⟨u,c,q⟩;obtain⟨p,a,rfl⟩:=(h u).1 c;exact⟨p,a,(b p).symm.trans q⟩
 ·rintro⟨p,a,q⟩;exact⟨jz p,(h _).2 ⟨p,a,rfl⟩,(b p).trans q⟩
def Wm.bring(h:Wm P U)(e:jm)(p:PZ):fi e p U=fi e p P:=by
 unfold fi;rw[h.any λp=>FP _ p]
def Wm.brought(h:Wm P U)(es:List jm)(p:PZ):dL es U p=dL es P p:=by
 unfold dL;exact congrArg (LX es) (funext λe=>h.bring e p)
def IF(es:List jm)(P:List PZ)(p:PZ):dL es P (jz p)=dL es P p:=by
 unfold dL;exact congrArg (LX es) (funext λe=>OP e p P)
def lL(es:List jm)(ss:List Str)(P:List PZ):Bool:=!P.any λp=>fA ss p||dL es P p
def IG(h:Wm P U)(es:List jm)(ss:List Str):(!U.any λp=>fA ss p||dL es U p)=lL es ss P:=by
 unfold lL;rw[<- h.any (f:=λp=>fA ss p||dL es P p) λp=>by rw[FP,IF]];congr 1;exact congrArg (LX U) (funext λp=>by rw[h.brought])
theorem E8:∀{fs:List Str},(fs.Pairwise λa b=>oR a b=true)->∀{x y:Str},x∈fs->y∈fs->(x=y\/oR x y=true)->(x,y)∈fB fs
 |[],_,_,_,h,_,_=>nomatch h
 |a::r,e,x,y,hx,c,h=>by
  obtain⟨d,f⟩:=List.pairwise_cons.mp e;rw[fB];rcases List.mem_cons.mp hx with rfl|hx
  ·exact c6 _ (List.mem_map.mpr ⟨y,c,rfl⟩)
  ·have l:=d x hx;rcases List.mem_cons.mp c with rfl|c
   ·exfalso;rcases h with rfl|h
    ·exact aG ((kE _).symm.trans l)
    ·exact aG ((kE _).symm.trans (nQ h l))
   ·exact aA _ (E8 f hx c h)
def E9(g:fs.Pairwise λa b=>oR a b=true)(d:p.1∈fs)(f:p.2∈fs):jz p∈fB fs:=by
 have c:=Ti p;have k:(jz p).1∈fs/\(jz p).2∈fs:=by
  rcases rg p with e|e
  ·rw[e];exact⟨d,f⟩
  ·rw[e];exact⟨f,d⟩
 generalize jz p=q at k c;exact E8 g k.1 k.2 c
def Ln(g:fh fs es)(c:∀p∈P,p.1∈fs/\p.2∈fs)(k:lL es ss P=true):∀p∈P,jz p∈fQ fs es ss:=by
 have n:Wm P (P.map jz):=λu=>i_;rw[<- IG n es ss,lR,fm] at k;have k1:∀u∈P.map jz,fA ss u=false/\dL es (P.map jz) u=false:=λu a=>by
  have:=k u a;simpa using this
 intro p d;refine ON (B:=P.map jz) (λu a=>(k1 u a).2) 21 _ (λu a=>?_) _ (bi d);refine cM.2 ⟨?_,by rw[(k1 u a).1];rfl⟩;obtain⟨q,b,rfl⟩:=List.mem_map.mp a;exact E9 g.rise.up (c q b).1 (c q b).2
abbrev FQ(g:aE->R D):aE->R D:=c7 (J.aa g J.aC) (il (f9 λbs=>bs.any id))
abbrev OQ(g:aE->R D):aE->R D:=c7 (J.aa g J.aC) (il (f9 λbs=>bs.all id))
def IH(h:gc ρ=.ok d):ej (c7 (J.aa gc J.aC) (il q)) ρ=(q d).bind λd=>match d with
  |.bool b=>.ok b
  |_=>.no:=by
 have e:ej (c7 (J.aa gc J.aC) (il q)) ρ=((((gc ρ).bind λd=>(J.aC ρ).bind λds=>.ok (d::ds)).bind (il q)).bind λd=>match d with
  |.bool b=>.ok b
  |_=>.no):=rfl
 rw[e,h];rfl
def Wn(h:gc (da ρ)=.ok d):cZ (c7 (J.aa gc J.aC) (il q)) ρ=(q d).bind λd=>.ok (.rt d):=by
 have e:cZ (c7 (J.aa gc J.aC) (il q)) ρ=((((gc (da ρ)).bind λd=>(J.aC (da ρ)).bind λds=>.ok (d::ds)).bind (il q)).bind λd=>.ok (.rt d)):=rfl;rw[e,h];rfl
def FR{α:Type}{a:aE->R D}{ρ:aE}{A:List α}{f:α->Bool}(h:a ρ=.ok (.list (A.map λq=>bO (f q)))):ej (FQ a) ρ=.ok (A.any f):=by
 rw[IH h,iR _ f,k9];rfl
def Lo{α:Type}{a:aE->R D}{ρ:aE}{A:List α}{f:α->Bool}(h:a ρ=.ok (.list (A.map λq=>bO (f q)))):ej (OQ a) ρ=.ok (A.all f):=by
 rw[IH h,iR _ f,lS];rfl
def vZ(p:PZ):j4 [cG fs es,aN p]=.ok (.bool ([p.1,p.2].all λx=>decide (x∈fs))):=by
 unfold j4;refine dh ?_;have c:cA 1 [0] (gG (rB 1)) kT (pC (oh (rB 0) "str") (g2 (rB 0) (g2 (rB 1) (kI 0) bc) (sS false))) [.shr (cG fs es),.shr (aN p)]=.ok (.list ([p.1,p.2].map λx=>bO (decide (x∈fs)))):=by
  unfold cA;have b:gG (rB 1) [.shr (cG fs es),.shr (aN p)]=.ok ([p.1,p.2].map aS):=rfl;rw[b,bind_ok,if_pos (by simp)];rw[cK _ aS (λx=>bO (decide (x∈fs))) [p.1,p.2] λx _=>eD rfl (by
   have z:pC (oh (rB 0) "str") (g2 (rB 0) (g2 (rB 1) (kI 0) bc) (sS false)) [.shr (.str x),.shr (cG fs es)]=sS false (.str x) (aP fs):=rfl;refine qH z ?_;rw[lK];rfl)]
  rfl
 have s1:eC (zT (i5 (ej (oh (rB 1) "tuple"))) (ej (g2 (c7 (J.aa (rB 1) J.aC) (il n5)) (kI 2) (nh true)))) (cZ (kB false)) (λρ=>.ok (.nx ρ)) [.shr (cG fs es),.shr (aN p)]=.ok (.nx [.shr (cG fs es),.shr (aN p)]):=rfl;have a:cf 2 [cG fs es,aN p]=[.shr (cG fs es),.shr (aN p)]:=rfl;rw[a];unfold uJ a_;rw[s1];refine qH (Wn (ρ:=[.shr (cG fs es),.shr (aN p)]) c) ?_;rw[iR _ (λx=>decide (x∈fs)),lS];rfl
def unP:List Str->PZ
 |[x,y]=>(x,y)
 |_=>(⟨#[]⟩,⟨#[]⟩)
abbrev kpC:aE->R D:=cA 1 [0] (gG (rB 2)) kT (dN 2 j4 (J.aa (rS 1) (J.aa (rS 0) J.aC)))
abbrev kpS:=uz 1 [] (gG (rB 2)) kT (c7 (J.aa (c7 (J.aa (rB 0) J.aC) (il uA)) J.aC) (il hU))
abbrev kpO:aE->R D:=cA 1 [1,0,3] (gG (rB 3)) kT (CC (dN 2 fP (J.aa (rS 0) (J.aa (rS 1) J.aC))) (dN 3 eF (J.aa (rS 2) (J.aa (rS 0) (J.aa (rS 3) J.aC)))))
abbrev qz(fs ss:List Str)(es:List jm)(d:D)(s3:Sl):aE:=[.shr (cG fs es),.shr (aP ss),.shr d,s3]
def OR(t:P.length<=30):
  ∃U:List PZ,Wm P U/\U.Nodup/\nT kpS (qz fs ss es (.list (P.map aN)) s3)=.ok (.list (U.map aN)):=by
 have o:(P.map λp=>aN (jz p))=((P.map jz).map Js).map tX:=by
  rw[<- Nb,cb];rfl
 have c:kpS (qz fs ss es (.list (P.map aN)) s3)=.ok (kU [] ((P.map jz).map Js)):=by
  unfold kpS uz;have n:gG (rB 2) (qz fs ss es (.list (P.map aN)) s3)=.ok (P.map aN):=rfl;rw[n,bind_ok,if_pos (by rw[ah];omega)];rw[cK _ aN (λp=>aN (jz p)) P λp _=>eD rfl (by
   have z:c7 (J.aa (c7 (J.aa (rB 0) J.aC) (il uA)) J.aC) (il hU) [.shr (aN p)]=.ok (.tuple ((iW [p.1,p.2]).map .str)):=rfl;refine qH z ?_;rw[Tj];rfl),bind_ok,o,vT]
  dsimp only;rw[if_neg (λz=>by obtain⟨p,_,e⟩:=List.mem_map.mp z;cases e)]
 have j:=zt ((P.map jz).map Js) [] .nil;have l:=rT ((P.map jz).map Js) [];have g:∀x,x∈kU [] ((P.map jz).map Js)↔x∈(P.map jz).map Js:=λx=>by
  rw[DT];simp
 rw[ah,ah,cD] at l;generalize kU [] ((P.map jz).map Js)=L at c j l g;have d:=oz L;have b:kn L=((kn L).map unP).map Js:=by
  rw[cb];refine(LV _).symm.trans (gD λx s=>?_);obtain⟨p,_,rfl⟩:=List.mem_map.mp ((g x).1 (d.mem_iff.mp s));rfl
 have m:∀u,u∈(kn L).map unP↔u∈P.map jz:=λu=>by
  constructor
  ·intro h;have a:=bi (f:=Js) h;rw[<- b,d.mem_iff,g] at a;obtain⟨q,i,e⟩:=List.mem_map.mp a;rw[<- Nc e];exact i
  ·intro h;have a:=bi (f:=Js) h;rw[<- g,<- d.mem_iff,b] at a;obtain⟨q,i,e⟩:=List.mem_map.mp a;rw[<- Nc e];exact i
 refine⟨(kn L).map unP,λu=>(m u).trans i_,?_,?_⟩
 ·have k:=d.nodup_iff.mpr j;rw[b] at k;exact(List.pairwise_map.mp k).imp λh e=>h (congrArg Js e)
 ·unfold nT;rw[c,bind_ok,if_pos ⟨j,by omega⟩,Nb,<- b]
def zv:aE->R Bool:=zT (i5 (ej (oh (rB 2) "list"))) (i5 (ej (OQ kpC)))
def Lp:aE->R Fl:=a_ (iu 3 (nT kpS)) (cZ (w_ (FQ kpO)))
def II:my=a_ (qW (dN 2 cX (J.aa (rS 0) (J.aa (rS 1) J.aC)))) (a_ (eC zv (B8 "NoPaper" (J.aa (λ_=>.ok (.str "it is no list of tuples of two facts")) J.aC)) (λρ=>.ok (.nx ρ))) Lp):=rfl
def sq(h:a ρ=.ok (.nx ρ')):a_ a b ρ=b ρ':=by unfold a_;rw[h];rfl
def v_(g:fh fs es)(h:vw fs ss)(t:zv (qz fs ss es d .no)=.ok true):dv [cG fs es,aP ss,d]=.ex "NoPaper" none:=by
 unfold dv;refine Zf ?_;rw[II];have a:cf 4 [cG fs es,aP ss,d]=qz fs ss es d .no:=rfl;rw[a];have b:dN 2 cX (J.aa (rS 0) (J.aa (rS 1) J.aC)) (qz fs ss es d .no)=cX [cG fs es,aP ss]:=rfl;rw[sq (ρ':=qz fs ss es d .no) (by unfold qW;rw[b,xC g h];rfl)];unfold a_ eC;rw[t];rfl
def Wo(g:fh fs es)(h:vw fs ss)(t:zv (qz fs ss es d .no)=.ok false)(e:Lp (qz fs ss es d .no)=.ok (.rt r)):dv [cG fs es,aP ss,d]=.ok r:=by
 unfold dv;refine dh ?_;rw[II];have a:cf 4 [cG fs es,aP ss,d]=qz fs ss es d .no:=rfl;rw[a];have b:dN 2 cX (J.aa (rS 0) (J.aa (rS 1) J.aC)) (qz fs ss es d .no)=cX [cG fs es,aP ss]:=rfl;rw[sq (ρ':=qz fs ss es d .no) (by unfold qW;rw[b,xC g h];rfl)];rw[sq (ρ':=qz fs ss es d .no) (by unfold eC;rw[t];rfl)];exact e
def IJ{fs:List Str}{p:PZ}(h:p.1∈fs/\p.2∈fs):([p.1,p.2].all λx=>decide (x∈fs))=true:=by simp[h.1,h.2]
def To{fs ss:List Str}{es:List jm}{P:List PZ}(g:fh fs es)(h:vw fs ss)(b:∀p∈P,p.1∈fs/\p.2∈fs)(e:P.length<=30):dv [cG fs es,aP ss,.list (P.map aN)]=.ok (.bool (lL es ss P)):=by
 obtain⟨U,n,i,o⟩:=OR (fs:=fs) (ss:=ss) (es:=es) (s3:=.no) e;have pl:=rf g.rise.len;have la:U.length<=21:=by
  have:=xD (m:=fB fs) i λu f=>by
   obtain⟨p,a,rfl⟩:=(n u).1 f;exact E9 g.rise.up (b p a).1 (b p a).2
  omega
 have l:qT (.list (P.map aN))=true:=pE _ (oH g.rise.ok b);refine Wo g h ?_ ?_
 ·have k:ej (oh (rB 2) "list") (qz fs ss es (.list (P.map aN)) .no)=.ok true:=by
   left;rw[if_pos l];rfl
  have d:ej (OQ kpC) (qz fs ss es (.list (P.map aN)) .no)=.ok (P.all λp=>[p.1,p.2].all λx=>decide (x∈fs)):=Lo (by
   unfold kpC cA;have c:gG (rB 2) (qz fs ss es (.list (P.map aN)) .no)=.ok (P.map aN):=rfl;rw[c,bind_ok,if_pos (by rw[ah];omega)];rw[cK _ aN (λp=>bO ([p.1,p.2].all λx=>decide (x∈fs))) P λp a=>eD rfl (by
    have z:dN 2 j4 (J.aa (rS 1) (J.aa (rS 0) J.aC)) [.shr (aN p),.shr (cG fs es)]=j4 [cG fs es,aN p]:=rfl;exact qH z (vZ p))]
   rfl)
  rw[List.all_eq_true.mpr λp a=>IJ (b p a)] at d;unfold zv zT i5;rw[k,d];rfl
 ·unfold Lp;rw[sq (ρ':=qz fs ss es (.list (P.map aN)) (.shr (.list (U.map aN)))) (by unfold iu;rw[o];rfl)];have j:ej (FQ kpO) (qz fs ss es (.list (P.map aN)) (.shr (.list (U.map aN))))=.ok (U.any λu=>fA ss u||dL es U u):=FR (by
   unfold kpO cA;have c:gG (rB 3) (qz fs ss es (.list (P.map aN)) (.shr (.list (U.map aN))))=.ok (U.map aN):=rfl;rw[c,bind_ok,if_pos (by rw[ah];omega)];rw[cK _ aN (λu=>bO (fA ss u||dL es U u)) U λu _=>eD rfl (by
    show CC (dN 2 fP (J.aa (rS 0) (J.aa (rS 1) J.aC))) (dN 3 eF (J.aa (rS 2) (J.aa (rS 0) (J.aa (rS 3) J.aC)))) [.shr (aN u),.shr (aP ss),.shr (cG fs es),.shr (.list (U.map aN))]=_;left;rw[yK];cases fA ss u with
    |true=>
     left;rfl
    |false=>
     left;rw[BG g la];rfl)]
   rfl)
  unfold cZ w_;rw[show da (qz fs ss es (.list (P.map aN)) (.shr (.list (U.map aN))))=qz fs ss es (.list (P.map aN)) (.shr (.list (U.map aN))) from rfl,j,<- IG n es ss];rfl
abbrev lkC:aE->R D:=cA 1 [3,2] (gG (rB 2)) kT (dN 4 iP (J.aa (rS 1) (J.aa (g2 (rB 0) (kI 0) bc) (J.aa (g2 (rB 0) (kI 1) bc) (J.aa (rS 2) J.aC)))))
def ZM:aE->R Fl:=eC (ej (FQ lkC)) (cZ (kB false)) (λρ=>.ok (.nx ρ))
def Tp:pY=a_ (eC (ej (FQ (cA 1 [1] (gG (rB 2)) kT BI))) (cZ (kB false)) (λρ=>.ok (.nx ρ))) (a_ (qx (gG (g2 (rB 0) (kI 1) bc)) (cr 3) ZM) (cZ (kB true))):=rfl
def Wp{fs ss:List Str}{es:List jm}{P:List PZ}{e:jm}(b:fs.length<=6)(he:pZ fs e)(c:P.length<=30):ZM (qz fs ss es (.list (P.map aN)) (.shr (eY e)))=if(P.any λp=>fi e p P)=true then .ok (.rt (.bool false)) else .ok (.nx (qz fs ss es (.list (P.map aN)) (.shr (eY e)))):=by
 have t:ej (FQ lkC) (qz fs ss es (.list (P.map aN)) (.shr (eY e)))=.ok (P.any λp=>fi e p P):=FR (by
  unfold lkC cA;have a:gG (rB 2) (qz fs ss es (.list (P.map aN)) (.shr (eY e)))=.ok (P.map aN):=rfl;rw[a,bind_ok,if_pos (by rw[ah];omega)];rw[cK _ aN (λp=>bO (fi e p P)) P λp _=>eD rfl (by
   have z:dN 4 iP (J.aa (rS 1) (J.aa (g2 (rB 0) (kI 0) bc) (J.aa (g2 (rB 0) (kI 1) bc) (J.aa (rS 2) J.aC)))) [.shr (aN p),.shr (eY e),.shr (.list (P.map aN))]=iP [eY e,.str p.1,.str p.2,.list (P.map aN)]:=rfl;exact qH z (Ll he b c))]
  rfl)
 unfold ZM eC;rw[t];cases(P.any λp=>fi e p P)<;>rfl
theorem Tq{fs ss:List Str}{es:List jm}{P:List PZ}(d:fs.length<=6)(c:P.length<=30):∀(r:List jm) (s3:Sl),(∀e∈r,pZ fs e)->∃a,lP (cr 3) ZM (r.map eY) (qz fs ss es (.list (P.map aN)) s3)=if(r.any λe=>P.any λp=>fi e p P)=true then .ok (.rt (.bool false)) else .ok (.nx (qz fs ss es (.list (P.map aN)) a))
 |[],s3,_=>⟨s3,rfl⟩
 |e::r,s3,h=>by
  have b:=Wp (ss:=ss) (es:=es) d (h e ap) c;obtain⟨a,f⟩:=Tq d c r (.shr (eY e)) λx g=>h x (ai _ g);refine⟨a,?_⟩;rw[ay,dR];cases q:(P.any λp=>fi e p P) with
  |true=>
   rw[q,if_pos rfl] at b;rw[W5 (ρ1:=qz fs ss es (.list (P.map aN)) (.shr (eY e))) rfl b,Bool.true_or,if_pos rfl]
  |false=>
   rw[q,if_neg aG] at b;rw[Ai (ρ1:=qz fs ss es (.list (P.map aN)) (.shr (eY e))) rfl b,rm,f]
def Tr(es:List jm)(ss:List Str)(P:List PZ):lL es ss P=!(P.any (fA ss)||es.any λe=>P.any λp=>fi e p P):=by
 unfold lL;congr 1;rw[dw];simp only[eU,ij,dL];constructor
 ·rintro⟨p,a,h|⟨e,he,h⟩⟩
  ·exact .inl ⟨p,a,h⟩
  ·exact .inr ⟨e,he,p,a,h⟩
 ·rintro (⟨p,a,h⟩|⟨e,he,p,a,h⟩)
  ·exact⟨p,a,.inl h⟩
  ·exact⟨p,a,.inr ⟨e,he,h⟩⟩
def FS(g:fh fs es)(i:P.length<=30):kX [cG fs es,aP ss,.list (P.map aN)]=.ok (.bool (lL es ss P)):=by
 have t:ej (FQ (cA 1 [1] (gG (rB 2)) kT BI)) (qz fs ss es (.list (P.map aN)) .no)=.ok (P.any (fA ss)):=FR (by
  unfold cA;have h:gG (rB 2) (qz fs ss es (.list (P.map aN)) .no)=.ok (P.map aN):=rfl;rw[h,bind_ok,if_pos (by rw[ah];omega)];rw[cK _ aN (λq=>bO (fA ss q)) P λq _=>eD rfl (IE ss q)];rfl)
 obtain⟨d,f⟩:=Tq (ss:=ss) (es:=es) g.rise.len i es .no g.ok;unfold kX;refine dh ?_;rw[Tp,Tr];have c:cf 4 [cG fs es,aP ss,.list (P.map aN)]=qz fs ss es (.list (P.map aN)) .no:=rfl;rw[c];cases q:P.any (fA ss) with
 |true=>
  rw[q] at t;unfold a_ eC;rw[t];rfl
 |false=>
  rw[q] at t;rw[sq (ρ':=qz fs ss es (.list (P.map aN)) .no) (by unfold eC;rw[t];rfl)];have a:qx (gG (g2 (rB 0) (kI 1) bc)) (cr 3) ZM (qz fs ss es (.list (P.map aN)) .no)=lP (cr 3) ZM (es.map eY) (qz fs ss es (.list (P.map aN)) .no):=rfl;rw[f] at a;rw[rm];cases b:(es.any λe=>P.any λp=>fi e p P) with
  |true=>
   rw[b,if_pos rfl] at a;unfold a_;rw[a];rfl
  |false=>
   rw[b,if_neg aG] at a;rw[sq a];rfl
def yL(a:qT d=true)(e:CD "list" d=false):zv (qz fs ss es d .no)=.ok true:=by
 have c:ej (oh (rB 2) "list") (qz fs ss es d .no)=.ok false:=by
  have z:ej (oh (rB 2) "list") (qz fs ss es d .no)=(if qT d then .ok (.bool (CD "list" d)) else .no:R D).bind λd=>match d with
   |.bool b=>.ok b
   |_=>.no:=rfl
  rw[z,if_pos a,e];rfl
 unfold zv zT i5;rw[c];rfl
theorem IK:∀(xs ys:List D),noDs (xs++ys)=(noDs xs&&noDs ys)
 |[],ys=>by rw[tq];rfl
 |x::r,ys=>by
  have b:noDs (x::r++ys)=(qT x&&noDs (r++ys)):=by rw[A6];simp only[noDs]
  have a:noDs (x::r)=(qT x&&noDs r):=by simp only[noDs]
  rw[b,a,IK r ys,Bool.and_assoc]
def sj{fs ss:List Str}{es:List jm}{P:List PZ}{d:D}(g:fh fs es)(b:∀p∈P,p.1∈fs/\p.2∈fs)(m:P.length<=30)(j:qT d=true)(k:j4 [cG fs es,d]=.ok (.bool false)):zv (qz fs ss es (.list (P.map aN++[d])) .no)=.ok true:=by
 have c:qT (.list (P.map aN))=true:=pE _ (oH g.rise.ok b);have i:qT (.list (P.map aN++[d]))=true:=by
  simp only[qT] at c ⊢;rw[IK,c];simp only[noDs,j,Gr]
 have h:ej (oh (rB 2) "list") (qz fs ss es (.list (P.map aN++[d])) .no)=.ok true:=by
  left;rw[if_pos i];rfl
 have a:ej (OQ kpC) (qz fs ss es (.list (P.map aN++[d])) .no)=.ok ((P.map some++[none]).all Uo):=Lo (by
  unfold kpC cA;have l:gG (rB 2) (qz fs ss es (.list (P.map aN++[d])) .no)=.ok ((P.map some++[none]).map λo:Option PZ=>o.elim d aN):=by
   have e:gG (rB 2) (qz fs ss es (.list (P.map aN++[d])) .no)=.ok (P.map aN++[d]):=rfl;rw[e,bF,cb];rfl
  rw[l,bind_ok,if_pos (by rw[ah,aT,ah];simp only[aU,cD];omega)];rw[cK _ (λo:Option PZ=>o.elim d aN) (λo=>bO o.isSome) (P.map some++[none]) λo ho=>eD rfl (by
   have z:dN 2 j4 (J.aa (rS 1) (J.aa (rS 0) J.aC)) [.shr (o.elim d aN),.shr (cG fs es)]=j4 [cG fs es,o.elim d aN]:=rfl;refine qH z ?_;cases o with
   |none=>exact k
   |some p=>
    have f:p∈P:=by simpa using ho
    exact(vZ p).trans (by rw[IJ (b p f)];rfl))]
  rfl)
 have q:(P.map some++[none]).all (Uo (α:=PZ))=false:=by simp
 rw[q] at a;unfold zv zT i5;rw[h,a];rfl
def IL(P:List PZ):List D:=[.none,.tuple (P.map aN),.list (P.map aN++[.none]),.list (P.map aN++[aN ("zzzzz","zzzzz")]),.list (P.map aN++[.tuple []]),.list (P.map aN++[.tuple [.int 1,.int 2]]),.int 0]
def ZC{fs ss:List Str}{es:List jm}{P:List PZ}(g:fh fs es)(h:vw fs ss)(a:∀p∈P,p.1∈fs/\p.2∈fs)(c:P.length<=30)(j:Int)(f:0<=j)(e:j<7):∃d,bc (.list (IL P)) (.int j)=.ok d/\dv [cG fs es,aP ss,d]=.ex "NoPaper" none:=by
 have:j=0\/j=1\/j=2\/j=3\/j=4\/j=5\/j=6:=by omega
 have b:qT (.tuple (P.map aN))=true:=by
  have b:qT (.list (P.map aN))=true:=pE _ (oH g.rise.ok a);simp only[qT] at b ⊢;exact b
 rcases this with rfl|rfl|rfl|rfl|rfl|rfl|rfl
 ·exact⟨_,rfl,v_ g h (yL rfl rfl)⟩
 ·exact⟨_,rfl,v_ g h (yL b rfl)⟩
 ·exact⟨_,rfl,v_ g h (sj g a c rfl rfl)⟩
 ·refine⟨_,rfl,v_ g h (sj g a c rfl ((vZ _).trans ?_))⟩;have:(("zzzzz" : Str)∈fs)=False:=eq_false λz=>Zr (g.rise.ok _ z) rfl
  simp[this]
 ·exact⟨_,rfl,v_ g h (sj g a c rfl rfl)⟩
 ·exact⟨_,rfl,v_ g h (sj g a c rfl rfl)⟩
 ·exact⟨_,rfl,v_ g h (yL rfl rfl)⟩
def nl(n:Nat):List PZ->List (Nat×PZ)
 |[]=>[]
 |x::r=>(n,x)::nl (n+1) r
abbrev cP(q:Nat×PZ):D:=.tuple [.int (q.1:Nat),aN q.2]
theorem FU:∀(xs:List PZ) (n:Nat),kj n (xs.map aN)=(nl n xs).map cP
 |[],_=>rfl
 |x::r,n=>by
  show fM [.int n,aN x]::kj (n+1) (r.map aN)=cP (n,x)::(nl (n+1) r).map cP;rw[FU r (n+1)]
theorem yM:∀(xs:List PZ) (n:Nat),(nl n xs).map (·.2)=xs
 |[],_=>rfl
 |x::r,n=>by
  show x::(nl (n+1) r).map (·.2)=x::r;rw[yM r (n+1)]
def uO(xs:List PZ)(n:Nat):(nl n xs).length=xs.length:=by
 have:=congrArg lm (yM xs n)
 rwa[ah] at this
def Ea(h:q∈nl n xs):q.2∈xs:=by
 have:=bi (f:=(·.2)) h
 rwa[yM] at this
abbrev lr(ns:List Int)(fs ss:List Str)(es:List jm)(W:D)(A:List PZ)(b s6 a c:Sl):aE:=[.shr (.list (ns.map .int)),.shr (cG fs es),.shr (aP ss),.shr W,.shr (.list (A.map aN)),b,s6,a,c]
abbrev c2:aE->R D:=cA 2 [0] (vo (J.aa (rS 4) J.aC)) (ej (g2 (dN 3 aY (J.aa (rS 2) (J.aa (g2 (kI 300) (rB 0) dU) (J.aa (kI 5) J.aC)))) (kI 0) X3)) (rS 1)
abbrev v4:aE->R D:=g2 (de (J.aa (rS 1) (J.aa (HD (rB 1)) J.aC)) .list) (dN 3 aY (J.aa (rS 2) (J.aa (g2 (kI 340) (rB 0) dU) (J.aa (kI 2) J.aC)))) bc
abbrev c4:aE->R D:=cA 2 [0] (vo (J.aa (rS 5) J.aC)) kT v4
abbrev t3a:aE->R Bool:=ej (g2 (g2 (rB 1) (kI 0) bc) (de J.aC .tuple) (nh true))
abbrev t3b:aE->R Bool:=ej (g2 (dN 3 aY (J.aa (rS 0) (J.aa (kI 0) (J.aa (kI 2) J.aC)))) (kI 0) (nh false))
abbrev dr(ns:List Int)(q:Nat×PZ):Bool:=decide (0<fg ns (300+(q.1:Int)) 5)
abbrev tw(ns:List Int)(q:Nat×PZ):PZ:=if fg ns (340+(q.1:Int)) 2=0 then q.2 else(q.2.2,q.2.1)
def st2:aE->R Fl:=(fF 5 c2)
def Wq(g:A.length<=21):∃P:List PZ,(∀p∈P,p∈A)/\P.length<=21/\st2 (lr ns fs ss es W A .no .no .no .no)=.ok (.nx (lr ns fs ss es W A (.own (.list (P.map aN))) .no .no .no)):=by
 refine⟨((nl 0 A).filter (dr ns)).map (·.2),λp a=>?_,?_,?_⟩
 ·obtain⟨q,b,rfl⟩:=List.mem_map.mp a;exact Ea (List.mem_filter.mp b).1
 ·rw[ah];have:=fE (dr ns) (nl 0 A);rw[uO] at this;omega
 ·have c:c2 (lr ns fs ss es W A .no .no .no .no)=.ok (.list (((nl 0 A).filter (dr ns)).map λq=>aN q.2)):=by
   unfold c2 cA;have f:vo (J.aa (rS 4) J.aC) (lr ns fs ss es W A .no .no .no .no)=.ok ((nl 0 A).map cP):=by
    have e:vo (J.aa (rS 4) J.aC) (lr ns fs ss es W A .no .no .no .no)=.ok (kj 0 (A.map aN)):=rfl;rw[e,FU]
   have d:l9 2 [0] (lr ns fs ss es W A .no .no .no .no)=[.no,.no,.shr (.list (ns.map .int))]:=rfl;rw[f,bind_ok,if_pos (by rw[ah,uO];omega),d];rw[i7 _ cP (λq=>aN q.2) (dr ns) (nl 0 A) λq _=>BA (by
    left;rw[fz ns _ 5 ∅ ⋯];rfl) λ_=>rfl]
   rfl
  unfold st2 fF;rw[c,bind_ok,cb];rfl
def Wr:aE->R Fl:=iu 6 (g2 (g2 (rB 1) (kI 0) bc) (dN 3 aY (J.aa (rS 0) (J.aa (kI 1) (J.aa (c7 (J.aa (g2 (rB 1) (kI 0) bc) J.aC) (il n5)) J.aC)))) bc)
def Tt:aE->R D:=de (J.aa (rS 6) (J.aa (g2 (g2 (rB 1) (kI 0) bc) (dN 3 aY (J.aa (rS 0) (J.aa (kI 2) (J.aa (c7 (J.aa (g2 (rB 1) (kI 0) bc) J.aC) (il n5)) J.aC)))) bc) J.aC)) .tuple
def st3:aE->R Fl:=eC (AR t3a t3b) (a_ Wr (vQ 5 Tt)) (λρ=>.ok (.nx ρ))
def Wt{ns:List Int}{fs ss:List Str}{es:List jm}{W:D}{A P:List PZ}(g:fh fs es)(h:∀p∈P,p.1∈fs/\p.2∈fs)(q:P.length<=21):∃(f:List PZ) (s6:Sl),(∀p∈f,p.1∈fs/\p.2∈fs)/\f.length<=22/\st3 (lr ns fs ss es W A (.own (.list (P.map aN))) .no .no .no)=.ok (.nx (lr ns fs ss es W A (.own (.list (f.map aN))) s6 .no .no)):=by
 have k:t3a (lr ns fs ss es W A (.own (.list (P.map aN))) .no .no .no)=.ok (!decide (fs=[])):=by
  have z:t3a (lr ns fs ss es W A (.own (.list (P.map aN))) .no .no .no)=(nh true (aP fs) (.tuple [])).bind λd=>match d with
   |.bool b=>.ok b
   |_=>.no:=rfl
  rw[z,FG fs g.rise.ok];rfl
 have j:t3b (lr ns fs ss es W A (.own (.list (P.map aN))) .no .no .no)=.ok (decide (fg ns 0 2=0)):=by
  have z:t3b (lr ns fs ss es W A (.own (.list (P.map aN))) .no .no .no)=((aY [.list (ns.map .int),.int 0,.int 2]).bind λx=>nh false x (.int 0)).bind λd=>match d with
   |.bool b=>.ok b
   |_=>.no:=rfl
  rw[z,fz ns 0 2 ⋯ ⋯,bind_ok,n6];rfl
 have t:AR t3a t3b (lr ns fs ss es W A (.own (.list (P.map aN))) .no .no .no)=.ok (!decide (fs=[])&&decide (fg ns 0 2=0)):=by
  unfold AR;rw[k,j,bind_ok];cases decide (fs=[])<;>rfl
 cases e:(!decide (fs=[])&&decide (fg ns 0 2=0)) with
 |false=>
  rw[e] at t;exact⟨P,.no,h,by omega,by unfold st3 eC;rw[t];rfl⟩
 |true=>
  rw[e] at t;have c:0<(fs.length:Int):=by
   rcases fs with _|⟨x,r⟩
   ·simp at e
   ·simp only[aU];omega
  obtain⟨x,n,o⟩:=xz fs (fg ns 1 fs.length) (fK _ _ _ c) (gz _ _ _ c);obtain⟨y,i,l⟩:=xz fs (fg ns 2 fs.length) (fK _ _ _ c) (gz _ _ _ c);refine⟨P++[(x,y)],.shr (.str x),λp hp=>?_,by rw[aT];simp only[aU,cD];omega,?_⟩
  ·rcases List.mem_append.mp hp with hp|hp
   ·exact h p hp
   ·rw[List.mem_singleton.mp hp];exact⟨n,i⟩
  ·have a:Wr (lr ns fs ss es W A (.own (.list (P.map aN))) .no .no .no)=.ok (.nx (lr ns fs ss es W A (.own (.list (P.map aN))) (.shr (.str x)) .no .no)):=by
    have z:Wr (lr ns fs ss es W A (.own (.list (P.map aN))) .no .no .no)=((aY [.list (ns.map .int),.int 1,.int ((fs.map aS).length:Int)]).bind λm=>bc (aP fs) m).bind λd=>.ok (.nx (lr ns fs ss es W A (.own (.list (P.map aN))) (.shr d) .no .no)):=rfl;rw[z,ah,fz ns 1 _ ⋯ c,bind_ok,o,bind_ok]
   have v:Tt (lr ns fs ss es W A (.own (.list (P.map aN))) (.shr (.str x)) .no .no)=.ok (aN (x,y)):=by
    have z:Tt (lr ns fs ss es W A (.own (.list (P.map aN))) (.shr (.str x)) .no .no)=((((aY [.list (ns.map .int),.int 2,.int ((fs.map aS).length:Int)]).bind λm=>bc (aP fs) m).bind λd=>(R.ok []).bind λds=>.ok (d::ds)).bind λds=>.ok (.str x::ds)).bind λds=>if ds.length<=1000 then .ok (.tuple ds) else .no:=rfl
    rw[z,ah,fz ns 2 _ ⋯ c,bind_ok,l];rfl
   have b:vQ 5 Tt (lr ns fs ss es W A (.own (.list (P.map aN))) (.shr (.str x)) .no .no)=.ok (.nx (lr ns fs ss es W A (.own (.list ((P++[(x,y)]).map aN))) (.shr (.str x)) .no .no)):=by
    rw[N7 (ds:=P.map aN) rfl v (by rw[ah];omega),bF];rfl
   unfold st3 eC;rw[t];show a_ Wr (vQ 5 Tt) _=_;rw[sq a,b]
def st4:aE->R Fl:=Fh 5 (fF 5 c4)
def Wu{ns:List Int}{fs ss:List Str}{es:List jm}{W:D}{A P:List PZ}{s6:Sl}(j:∀p∈P,p.1∈fs/\p.2∈fs)(f:P.length<=22):∃a:List PZ,(∀p∈a,p.1∈fs/\p.2∈fs)/\a.length<=22/\st4 (lr ns fs ss es W A (.own (.list (P.map aN))) s6 .no .no)=.ok (.nx (lr ns fs ss es W A (.own (.list (a.map aN))) s6 .no .no)):=by
 refine⟨(nl 0 P).map (tw ns),λp k=>?_,?_,?_⟩
 ·obtain⟨q,g,rfl⟩:=List.mem_map.mp k;have:=j _ (Ea g);unfold tw;split
  ·exact this
  ·exact⟨this.2,this.1⟩
 ·rw[ah,uO];exact f
 ·have c:c4 (lr ns fs ss es W A (.shr (.list (P.map aN))) s6 .no .no)=.ok (.list ((nl 0 P).map λq=>aN (tw ns q))):=by
   unfold c4 cA;have i:vo (J.aa (rS 5) J.aC) (lr ns fs ss es W A (.shr (.list (P.map aN))) s6 .no .no)=.ok ((nl 0 P).map cP):=by
    have e:vo (J.aa (rS 5) J.aC) (lr ns fs ss es W A (.shr (.list (P.map aN))) s6 .no .no)=.ok (kj 0 (P.map aN)):=rfl;rw[e,FU]
   have h:l9 2 [0] (lr ns fs ss es W A (.shr (.list (P.map aN))) s6 .no .no)=[.no,.no,.shr (.list (ns.map .int))]:=rfl;rw[i,bind_ok,if_pos (by rw[ah,uO];omega),h];rw[cK _ cP (λq=>aN (tw ns q)) (nl 0 P) λq _=>BA (b:=true) rfl λ_=>(by
    have z:v4 [.shr (.int (q.1:Nat)),.shr (aN q.2),.shr (.list (ns.map .int))]=(aY [.list (ns.map .int),.int (340+(q.1:Int)),.int 2]).bind λm=>bc (.list [aN q.2,aN (q.2.2,q.2.1)]) m:=rfl;refine qH z ?_;rw[fz ns _ 2 ∅ ⋯,bind_ok];have l:=fK ns (340+(q.1:Int)) 2 ⋯;have n:=gz ns (340+(q.1:Int)) 2 ⋯;have m:fg ns (340+(q.1:Int)) 2=0\/fg ns (340+(q.1:Int)) 2=1:=by omega
    rcases m with m|m
    ·unfold tw;rw[m,if_pos rfl];rfl
    ·unfold tw;rw[m,if_neg ⋯];rfl)]
   rfl
  have z:st4 (lr ns fs ss es W A (.own (.list (P.map aN))) s6 .no .no)=(c4 (lr ns fs ss es W A (.shr (.list (P.map aN))) s6 .no .no)).bind λd=>.ok (.nx (lr ns fs ss es W A (.own d) s6 .no .no)):=rfl;rw[z,c,bind_ok,cb];rfl
abbrev i4:aE->R D:=cA 1 [4] (gG (rB 5)) kT (CC (g2 (rB 0) (rB 1) (J.Oh false)) (g2 (HD (rB 0)) (rB 1) (J.Oh false)))
abbrev i6:aE->R D:=cA 1 [6] (gG (rB 5)) kT BI
def Nf{fs:List Str}(b:∀x∈fs,Af x=true){A:List PZ}(h:∀p∈A,p.1∈fs/\p.2∈fs){p:PZ}(c:p.1∈fs/\p.2∈fs):J.Oh false (aN p) (.list (A.map aN))=.ok (.bool (decide (p∈A))):=by
 have d:(aN p).canLay0=true:=by
  have:=oH b (A:=[p]) λq i=>by rw[List.mem_singleton.mp i];exact c
  simpa only[eg,cY,ay,fq,Gr] using this
 have k:cY (A.map aN)=true:=by
  have:=oH b h;simpa only[eg] using this
 have g:(aN p).depth<=60:=by simp[aN,Gq,n8]
 have j:∀A:List PZ,((A.map aN).any λy=>bn y (aN p))=decide (p∈A):=λA=>by
  induction A with
  |nil=>rfl
  |cons a A f=>
   rw[ay,dR,f];have:bn (aN a) (aN p)=decide (a=p):=by
    have e:=BH [a] [p];simp only[ay,fq,dQ,Gr] at e;rw[e];exact decide_eq_decide.2 ⟨λh=>(um h).1,λh=>by rw[h]⟩
   rw[this,dw,ij,decide_eq_true_iff,decide_eq_true_iff,decide_eq_true_iff,aW];exact⟨λh=>h.imp Eq.symm id,λh=>h.imp Eq.symm id⟩
 unfold J.Oh;dsimp only;rw[d,k,decide_eq_true g,j];rfl
def lwB:aE->R Fl:=eC (ej (FQ i6)) (cZ (kB false)) (λρ=>.ok (.nx ρ))
abbrev ls(ns:List Int)(fs ss:List Str)(es:List jm)(W:D)(A P:List PZ)(s6:Sl)(b:Bool):aE:=lr ns fs ss es W A (.shr (.list (P.map aN))) s6 (.shr (.bool b)) .no
def Wv(e:P.length<=30)(h:∀q∈P,fA x q=false):lwB (ls ns fs ss es W A P (.shr (aP x)) b)=.ok (.nx (ls ns fs ss es W A P (.shr (aP x)) b)):=by
 have a:ej (FQ i6) (ls ns fs ss es W A P (.shr (aP x)) b)=.ok (P.any (fA x)):=FR (by
  unfold i6 cA;have d:gG (rB 5) (ls ns fs ss es W A P (.shr (aP x)) b)=.ok (P.map aN):=rfl;rw[d,bind_ok,if_pos (by rw[ah];omega)];rw[cK _ aN (λq=>bO (fA x q)) P λq _=>eD rfl (IE x q)];rfl)
 rw[show P.any (fA x)=false from List.any_eq_false.mpr λq c=>by rw[h q c];exact aG] at a;unfold lwB eC;rw[a];rfl
theorem Tu(c:P.length<=30):∀(xs:List (List Str)) (s6:Sl),(∀x∈xs,∀q∈P,fA x q=false)->∃a,lP (cr 6) lwB (xs.map aP) (ls ns fs ss es W A P s6 b)=.ok (.nx (ls ns fs ss es W A P a b))
 |[],s6,_=>⟨s6,rfl⟩
 |x::r,s6,h=>by
  obtain⟨a,e⟩:=Tu (ns:=ns) (fs:=fs) (ss:=ss) (es:=es) (W:=W) (A:=A) (b:=b) c r (.shr (aP x)) λy d=>h y (ai _ d);refine⟨a,?_⟩;rw[ay,Ai (ρ1:=ls ns fs ss es W A P (.shr (aP x)) b) rfl (Wv c (h x ap)),e]
def lwI:aE->R Fl:=eC (i5 (ej (OQ i4))) (cZ (kB false)) (λρ=>.ok (.nx ρ))
def st7:aE->R Fl:=eC (ej (rS 7)) (a_ lwI (qx (gG (dN 2 m6 (J.aa (rS 1) (J.aa (rS 2) J.aC)))) (cr 6) lwB)) (λρ=>.ok (.nx ρ))
def Ww{ns:List Int}{fs ss:List Str}{es:List jm}{W:D}{A P:List PZ}{b:Bool}{s6:Sl}(f:∀x∈fs,Af x=true)(j:P.length<=30)(d:∀p∈A,p.1∈fs/\p.2∈fs)(c:∀p∈P,p.1∈fs/\p.2∈fs)(k:∀p∈P,jz p∈A):lwI (ls ns fs ss es W A P s6 b)=.ok (.nx (ls ns fs ss es W A P s6 b)):=by
 have t:ej (OQ i4) (ls ns fs ss es W A P s6 b)=.ok (P.all λ_=>true):=Lo (by
  unfold i4 cA;have h:gG (rB 5) (ls ns fs ss es W A P s6 b)=.ok (P.map aN):=rfl;rw[h,bind_ok,if_pos (by rw[ah];omega)];rw[cK _ aN (λ_=>bO true) P λp a=>eD rfl (by
   show CC (g2 (rB 0) (rB 1) (J.Oh false)) (g2 (HD (rB 0)) (rB 1) (J.Oh false)) [.shr (aN p),.shr (.list (A.map aN))]=_;have g:g2 (rB 0) (rB 1) (J.Oh false) [.shr (aN p),.shr (.list (A.map aN))]=.ok (.bool (decide (p∈A))):=Nf f d (c p a);have i:g2 (HD (rB 0)) (rB 1) (J.Oh false) [.shr (aN p),.shr (.list (A.map aN))]=.ok (.bool (decide ((p.2,p.1)∈A))):=Nf f d (p:=(p.2,p.1)) ⟨(c p a).2,(c p a).1⟩;have o:p∈A\/(p.2,p.1)∈A:=by
    have:=k p a;rcases rg p with e|e
    ·rw[e] at this;exact .inl this
    ·rw[e] at this;exact .inr this
   unfold CC ej;rw[g,i];by_cases m:p∈A
   ·rw[decide_eq_true m];rfl
   ·rw[decide_eq_false m,decide_eq_true (o.resolve_left m)];rfl)]
  rfl)
 rw[show(P.all λ_=>true)=true by simp] at t;unfold lwI eC i5;rw[t];rfl
def Wx(g:fh fs es)(k:fs.length<=5)(l:vw fs ss)(f:P.length<=30)(h:∀p∈P,p.1∈fs/\p.2∈fs):∃a,st7 (ls ns fs ss es W (fQ fs es ss) P s6 (lL es ss P))=.ok (.nx (ls ns fs ss es W (fQ fs es ss) P a (lL es ss P))):=by
 cases m:lL es ss P with
 |false=>exact⟨s6,rfl⟩
 |true=>
  have d:=Ln g h m;obtain⟨c,k1,k2,k3,o,k5⟩:=Lh g k l;have so:∀x∈kn c,∀q∈P,fA x q=false:=λx n q j=>by
   rw[<- FP];exact ID g ((k2 x).1 ((oz c).mem_iff.1 n)) _ (d q j)
  have e:∀p∈fQ fs es ss,p.1∈fs/\p.2∈fs:=E7;generalize fQ fs es ss=A at d e;obtain⟨a,i⟩:=Tu (ns:=ns) (fs:=fs) (ss:=ss) (es:=es) (W:=W) (A:=A) (b:=true) f (kn c) s6 so;refine⟨a,?_⟩;unfold st7 eC;rw[show ej (rS 7) (ls ns fs ss es W A P s6 true)=.ok true from rfl];show a_ lwI _ (ls ns fs ss es W A P s6 true)=_;rw[sq (Ww g.rise.ok f e h d)];unfold qx;have z:gG (dN 2 m6 (J.aa (rS 1) (J.aa (rS 2) J.aC))) (ls ns fs ss es W A P s6 true)=(m6 [cG fs es,aP ss]).bind tT:=rfl;rw[z,k5];exact i
def kq(a:g ρ=.ok d)(b:gs ρ=.ok ds):J.aa g gs ρ=.ok (d::ds):=by
 unfold J.aa;rw[a,bind_ok,b,bind_ok]
def Wz(a:gs ρ=.ok ds)(b:ds.length<=1000):de gs k ρ=.ok (k ds):=by
 unfold de;rw[a,bind_ok,if_pos b]
def Eb(a:g ρ=.ok x)(b:h ρ=.ok y):g2 g h f ρ=f x y:=by
 unfold g2;rw[a,bind_ok,b,bind_ok]
def Tv(a:gs ρ=.ok ds)(b:ds.length=n):dN n F gs ρ=F ds:=by
 unfold dN;rw[a,bind_ok,if_pos b]
abbrev b6:aE->R Bool:=zT (i5 (ej (oh (rB 7) "bool"))) (ej (g2 (rB 7) (dN 3 kX (J.aa (rS 1) (J.aa (rS 2) (J.aa (rS 5) J.aC)))) (nh true)))
def st5:aE->R Fl:=Fh 5 (iu 7 (dN 3 (vn Pl dv) (J.aa (rS 1) (J.aa (rS 2) (J.aa (rS 5) J.aC)))))
def st6:aE->R Fl:=Fh 5 (eC b6 (cZ (kB false)) (λρ=>.ok (.nx ρ)))
def st8:aE->R Fl:=(fF 8 (de (J.aa kN (J.aa (c7 (J.aa (rB 5) J.aC) (il hU)) (J.aa (g2 (rB 5) (de (J.aa kN J.aC) .list) dU) (J.aa (g2 (rB 5) (de (J.aa (de (J.aa (λ_=>.ok (.str "zzzzz")) (J.aa (λ_=>.ok (.str "zzzzz")) J.aC)) .tuple) J.aC) .list) dU) (J.aa (g2 (rB 5) (de (J.aa (de J.aC .tuple) J.aC) .list) dU) (J.aa (g2 (rB 5) (de (J.aa (de (J.aa (kI 1) (J.aa (kI 2) J.aC)) .tuple) J.aC) .list) dU) (J.aa (kI 0) J.aC))))))) .list))
def st9:aE->R Fl:=(cZ (g2 (dN 3 (vn Pl dv) (J.aa (rS 1) (J.aa (rS 2) (J.aa (g2 (rB 8) (dN 3 aY (J.aa (rS 0) (J.aa (kI 3) (J.aa (kI 7) J.aC)))) bc) J.aC)))) (de (J.aa (λ_=>.ok (.str "refused")) (J.aa (kI 6) J.aC)) .tuple) (nh false)))
def OS:MY=a_ (zV (dN 3 kH (J.aa (rS 0) (J.aa (kI 5) (J.aa (kI 5) J.aC)))) (pd 3 (cW (cr 1) (cW (cr 2) (cW (cr 3) qX))))) (a_ (iu 4 (dN 2 rX (J.aa (rS 1) (J.aa (rS 2) J.aC)))) (a_ st2 (a_ st3 (a_ st4 (a_ st5 (a_ st6 (a_ st7 (a_ st8 st9)))))))):=rfl
def Ak{P:List PZ}(a:P.length<=30)(d:D):dU (.list (P.map aN)) (.list [d])=.ok (.list (P.map aN++[d])):=by
 have z:dU (.list (P.map aN)) (.list [d])=if(P.map aN).length+1<=1000 then .ok (.list (P.map aN++[d])) else .no:=rfl
 rw[z,if_pos (by rw[ah];omega)]
def WA(a:P.length<=30):st8 (ls ns fs ss es W A P s6 b)=.ok (.nx (lr ns fs ss es W A (.shr (.list (P.map aN))) s6 (.shr (.bool b)) (.own (.list (IL P))))):=by
 have r:rB 5 (ls ns fs ss es W A P s6 b)=.ok (.list (P.map aN)):=rfl;unfold st8 fF;rw[Wz (ds:=IL P) (kq rfl (kq rfl (kq ((Eb r (y:=.list [.none]) rfl).trans (Ak a _)) (kq ((Eb r (y:=.list [aN ("zzzzz","zzzzz")]) rfl).trans (Ak a _)) (kq ((Eb r (y:=.list [.tuple []]) rfl).trans (Ak a _)) (kq ((Eb r (y:=.list [.tuple [.int 1,.int 2]]) rfl).trans (Ak a _)) (kq rfl rfl))))))) (by simp[IL])];rfl
def wh6:Pl "NoPaper"=some 6:=by decide +kernel
def q1m:nh false (.tuple [.str "refused",.int ((6:Nat):Int)]) (.tuple [.str "refused",.int 6])=.ok (.bool true):=W4 ∎
def WB(hs:∃s,(lr ns fs ss es W A (.shr (.list (P.map aN))) s (.shr (.bool b)) (.shr (.list (IL P))))=da (lr ns fs ss es W A (.shr (.list (P.map aN))) s6 (.shr (.bool b)) (.own (.list (IL P)))))(g:fh fs es)(h:vw fs ss)(c:∀p∈P,p.1∈fs/\p.2∈fs)(e:P.length<=30):st9 (lr ns fs ss es W A (.shr (.list (P.map aN))) s6 (.shr (.bool b)) (.own (.list (IL P))))=.ok (.rt (.bool true)):=by
 obtain⟨d,a,f⟩:=ZC (ss:=ss) g h c e (fg ns 3 7) (fK _ _ _ ⋯) (gz _ _ _ ⋯);obtain⟨s,hs⟩:=hs;have m:dN 3 aY (J.aa (rS 0) (J.aa (kI 3) (J.aa (kI 7) J.aC))) (lr ns fs ss es W A (.shr (.list (P.map aN))) s (.shr (.bool b)) (.shr (.list (IL P))))=.ok (.int (fg ns 3 7)):=(Tv rfl rfl).trans (fz ns 3 7 ⋯ ⋯);unfold st9 cZ;rw[<- hs,Eb (x:=.tuple [.str "refused",.int ((6:Nat):Int)]) (y:=.tuple [.str "refused",.int 6]) ?_ rfl,q1m]
 ·rfl
 ·refine(Tv (ds:=[cG fs es,aP ss,d]) (kq rfl (kq rfl (kq ((Eb rfl m).trans a) rfl))) rfl).trans ?_;rw[SX,f,W3 wh6]
def law_true(ns:List Int):F_law [.list (ns.map .int)]=.ok (.bool true):=by
 obtain⟨fs,es,ss,c,a,q,g,f,O,i,_⟩:=VZ ns 5 5 ⋯ ⋯ ⋯ ⋯;have i:fs.length<=5:=i;have l:=Th g f;have B:=OM g (ss:=ss);have o:∀p∈fQ fs es ss,p.1∈fs/\p.2∈fs:=E7;obtain⟨N,k,j,G⟩:=Wq (ns:=ns) (fs:=fs) (ss:=ss) (es:=es) (W:=oF c a) B;obtain⟨L,s6,m,u,H⟩:=Wt (ns:=ns) (ss:=ss) (W:=oF c a) (A:=fQ fs es ss) g (λp E=>o p (k p E)) j;obtain⟨P,h,M,s⟩:=Wu (ns:=ns) (ss:=ss) (es:=es) (W:=oF c a) (A:=fQ fs es ss) (s6:=s6) m u;have e:P.length<=30:=by omega
 have I:=To g f h e;have v:=FS (ss:=ss) g e;obtain⟨w,x⟩:=Wx (ns:=ns) (W:=oF c a) (s6:=s6) g i f e h;have K:st5 (lr ns fs ss es (oF c a) (fQ fs es ss) (.own (.list (P.map aN))) s6 .no .no)=.ok (.nx (ls ns fs ss es (oF c a) (fQ fs es ss) P s6 (lL es ss P))):=by
  have z:st5 (lr ns fs ss es (oF c a) (fQ fs es ss) (.own (.list (P.map aN))) s6 .no .no)=(vn Pl dv [cG fs es,aP ss,.list (P.map aN)]).bind λd=>.ok (.nx (lr ns fs ss es (oF c a) (fQ fs es ss) (.shr (.list (P.map aN))) s6 (.shr d) .no)):=rfl;rw[z,SX,I,V_,bind_ok]
 have n:st6 (ls ns fs ss es (oF c a) (fQ fs es ss) P s6 (lL es ss P))=.ok (.nx (ls ns fs ss es (oF c a) (fQ fs es ss) P s6 (lL es ss P))):=by
  have t:b6 (ls ns fs ss es (oF c a) (fQ fs es ss) P s6 (lL es ss P))=.ok false:=by
   have z:b6 (ls ns fs ss es (oF c a) (fQ fs es ss) P s6 (lL es ss P))=((kX [cG fs es,aP ss,.list (P.map aN)]).bind λd=>nh true (.bool (lL es ss P)) d).bind λd=>match d with
    |.bool b=>.ok b
    |_=>.no:=rfl
   rw[z,v,bind_ok];cases lL es ss P<;>rfl
  have z:st6 (ls ns fs ss es (oF c a) (fQ fs es ss) P s6 (lL es ss P))=eC b6 (cZ (kB false)) (λρ=>.ok (.nx ρ)) (ls ns fs ss es (oF c a) (fQ fs es ss) P s6 (lL es ss P)):=rfl;rw[z];unfold eC;rw[t];rfl
 unfold F_law;refine dh ?_;rw[OS];show a_ _ _ [.shr (.list (ns.map .int)),.no,.no,.no,.no,.no,.no,.no,.no]=_;have y:dN 3 kH (J.aa (rS 0) (J.aa (kI 5) (J.aa (kI 5) J.aC))) [.shr (.list (ns.map .int)),.no,.no,.no,.no,.no,.no,.no,.no]=kH [.list (ns.map .int),.int 5,.int 5]:=rfl;rw[sq (ρ':=[.shr (.list (ns.map .int)),.shr (cG fs es),.shr (aP ss),.shr (oF c a),.no,.no,.no,.no,.no]) (by unfold zV;rw[y,q];rfl)];rw[sq (ρ':=lr ns fs ss es (oF c a) (fQ fs es ss) .no .no .no .no) (by
  have:iu 4 (dN 2 rX (J.aa (rS 1) (J.aa (rS 2) J.aC))) [.shr (.list (ns.map .int)),.shr (cG fs es),.shr (aP ss),.shr (oF c a),.no,.no,.no,.no,.no]=(rX [cG fs es,aP ss]).bind λd=>.ok (.nx [.shr (.list (ns.map .int)),.shr (cG fs es),.shr (aP ss),.shr (oF c a),.shr d,.no,.no,.no,.no]):=rfl
  rw[this,l,bind_ok])]
 rw[sq G,sq H,sq s,sq K,sq n,sq x,sq (WA e)];refine WB ?_ g f h e;exact⟨_,rfl⟩
end Z
end
namespace Z
open PySem L2 J
def rE(i:Nat):eG:=PySem.Challenge.pw_errands_k14_whole_keeps_apart.main.body.getD i (.Pass ⟨0,0,0,0⟩)
section
variable{e:En}
abbrev u0:eG:=rE 56
def IM:List Str:=["NoBook","NoState","NoWant","NoErrand","NoRow","NoWay","NoPaper","NoFacts","NoNumber","Nothing","NoText"]
def xE:bM ["_law_e","_law_own"] ["_law_e"] (aB u0):=eV ∎
def CL{f:ak}{Y:gW}(F:GJ e.K "_law_which" "_law_which" u0 f Y)(B:Bi e.mg)(mv:e.mg "ValueError"=none)(g:∀n∈IM,e.mg n=some (.ref (e.cls n))):Hd e.P e.w e.K e.mg e.base 1 f Y ["_law_e"] (YG e.K e.base e.cls IM):=by
 refine F.okH xE (λvs H Q E h=>?_) (λa0 A outer s H vs Q E hr h=>?_)
 ·obtain⟨_,_,_,rfl,_⟩:=h;rfl
 obtain⟨a,C,j,rfl,G,x,q⟩:=h
 refine⟨_,lA (EG (i:=1) xE.nd rfl (io rfl) (qq (cE (ou (names:=IM) (cls:=e.cls) (base:=e.base) (pv 0) rfl B.isinstance rfl (g "NoBook" ∎)) (cE (ou (names:=IM) (cls:=e.cls) (base:=e.base) (pv 0) rfl B.isinstance rfl (g "NoState" ∎)) (cE (ou (names:=IM) (cls:=e.cls) (base:=e.base) (pv 0) rfl B.isinstance rfl (g "NoWant" ∎)) (cE (ou (names:=IM) (cls:=e.cls) (base:=e.base) (pv 0) rfl B.isinstance rfl (g "NoErrand" ∎)) f_))))))
  (lA (wH (Dk fW Ck Cm Dm (pv 1) (cE (qq (cE (ou (names:=IM) (cls:=e.cls) (base:=e.base) (pv 0) rfl B.isinstance rfl (g "NoRow" ∎)) (cE (ou (names:=IM) (cls:=e.cls) (base:=e.base) (pv 0) rfl B.isinstance rfl (g "NoWay" ∎)) (cE (ou (names:=IM) (cls:=e.cls) (base:=e.base) (pv 0) rfl B.isinstance rfl (g "NoPaper" ∎)) (cE (ou (names:=IM) (cls:=e.cls) (base:=e.base) (pv 0) rfl B.isinstance rfl (g "NoFacts" ∎)) f_))))) f_)))
  (lA (wH (Dk fW Ck Cm Dm (pv 1) (cE (qq (cE (ou (names:=IM) (cls:=e.cls) (base:=e.base) (pv 0) rfl B.isinstance rfl (g "NoNumber" ∎)) (cE (ou (names:=IM) (cls:=e.cls) (base:=e.base) (pv 0) rfl B.isinstance rfl (g "Nothing" ∎)) (cE (ou (names:=IM) (cls:=e.cls) (base:=e.base) (pv 0) rfl B.isinstance rfl (g "NoText" ∎)) f_)))) f_)))
  (lA (WG (PW.pt (WF (M0 q00 (Dk fW D9 PySem.F.type_list_count NZ (pv 1) (cE PJ f_)) Kc (Kg _)) (PM (PN (PL (Vg (names:=IM) (cls:=e.cls) (base:=e.base) (pv 0) rfl B.isinstance rfl mv)))))) qM L_)
  (wG (EF (Q4 (cE PK (cE (Dk fW Da PySem.F.type_list_index N_ (pv 1) (cE PJ f_)) f_)))))))),?_⟩
 refine⟨a,C,j,0,rfl,G,x,rfl,a,C,j,1,rfl,G,x,rfl,a,C,j,2,rfl,G,x,rfl,a,C,j,3,rfl,G,x,rfl,bL (cV (show 4<=1000 by decide)),λp U=>?_⟩
 have N:a≠p:=bw G U
 have c:∀o,upd H p o a=some (AK a C):=λo=>by rw[b9 N];exact G
 refine⟨_,rfl,.inl ⟨rfl,_,.of aX⟩,?_⟩
 refine⟨a,C,j,4,rfl,c _,x,rfl,a,C,j,5,rfl,c _,x,rfl,a,C,j,6,rfl,c _,x,rfl,a,C,j,7,rfl,c _,x,rfl,bL (cV (show 4<=1000 by decide)),λI v=>?_⟩
 have S:p≠I:=bw aX v
 have T:a≠I:=bw (c _) v
 refine⟨p,I,([decide (0=j),decide (1=j),decide (2=j),decide (3=j)].map V.bl),_,rfl,rfl,by rw[b9 S];exact aX,aX,bL (cV (show 8<=1000 by decide)),?_⟩
 have k:∀o u,upd (upd (upd H p o) I u) p (.lst (([decide (0=j),decide (1=j),decide (2=j),decide (3=j)]++[decide (4=j),decide (5=j),decide (6=j),decide (7=j)]).map V.bl)) a=some (AK a C):=λo u=>by rw[b9 N,b9 T];exact c _
 refine⟨_,rfl,.inl ⟨rfl,_,.of aX⟩,?_⟩
 refine⟨a,C,j,8,rfl,k _ _,x,rfl,a,C,j,9,rfl,k _ _,x,rfl,a,C,j,10,rfl,k _ _,x,rfl,bL (cV (show 3<=1000 by decide)),λM y=>?_⟩
 have X:p≠M:=bw aX y
 have O:a≠M:=bw (k _ _) y
 refine⟨p,M,(([decide (0=j),decide (1=j),decide (2=j),decide (3=j)]++[decide (4=j),decide (5=j),decide (6=j),decide (7=j)]).map V.bl),_,rfl,rfl,by rw[b9 X];exact aX,aX,bL (cV (show 11<=1000 by decide)),?_⟩
 refine⟨_,rfl,.inl ⟨rfl,_,.of aX⟩,p,bits j,rfl,rfl,.of aX,?_⟩
 rw[KP j x.lt]
 refine⟨rfl,_,rfl,wP ⟨a,C,j,rfl,?_,x,_,rfl,wP ?_⟩⟩
 ·rw[b9 N,b9 O];exact k _ _
 obtain⟨b1,b2⟩:=Vf j x.lt
 refine⟨_,rfl,.inl ⟨rfl,_,.of aX⟩,p,bits j,j,rfl,rfl,.of aX,b1,b2,bL (aK x.lt ⋯),bL (cV (show 2<=1000 by decide)),λt ht=>?_⟩
 have s1:dS H _:=ki (o:=.lst ([decide (0=j),decide (1=j),decide (2=j),decide (3=j)].map V.bl)) U
 have d:∀b o,H b=some o->b≠p:=λb o e=>bw e U
 have l:∀b o,H b=some o->b≠I:=λb o e=>bw (s1 b o e) v
 have m:∀b o,H b=some o->b≠M:=λb o e=>bw (by rw[b9 (d b o e),b9 (l b o e)];exact s1 b o e) y
 have L:∀b o,H b=some o->b≠t:=λb o e=>bw (by rw[b9 (d b o e),b9 (m b o e),b9 (d b o e),b9 (l b o e)];exact s1 b o e) ht
 refine q t _ (λb o e=>?_) ?_ aX
 ·rw[b9 (L b o e),b9 (d b o e),b9 (m b o e),b9 (d b o e),b9 (l b o e)];exact s1 b o e
 ·cases z:H t with
  |none=>rfl
  |some o=>exact(L t o z rfl).elim
abbrev iy:eG:=rE 57
abbrev md:List Str:=["_law_ask","_law_one","_law_other","_law_third","_law_e"]
def qc:bM md ["_law_ask","_law_one","_law_other","_law_third"] (aB iy):=eV ∎
def xF{y:Str}{p k:Nat}{n:List D->R D}(D:iN e.K e.mg "_law_told_three" iy)(W:Wh e.P e.w e.K e.mg e.base e.cls "_law_which" IM Pl)(G:FN e y p 3 n)(B:p<=k)(q:1<=k):FT e "_law_told_three" y (k+1) 3 (vn Pl n):=by
 obtain⟨f,M,F,x⟩:=D.ex
 obtain⟨a,t,I,v,m,d,l⟩:=G.ex
 refine Vn (k:=k) (g:=Oa Pl (cZ (dN 3 n (aa (rS 1) (aa (rS 2) (aa (rS 3) aC)))))) F qc x (b4 F) m rfl (λb A outer s H E o ρ=>?_) λds u=>?_
 ·exact wG (YN (c:=⟨kC (oS e.P e.w) e.P e.w e.K e.mg e.base md "_law_told_three" (aB iy) f b A outer s H E,e.cls,E⟩) 4 0 W (λL j i z=>wG (YM (c:=⟨WX (kC (oS e.P e.w) e.P e.w e.K e.mg e.base md "_law_told_three" (aB iy) f b A outer s H E) j i,e.cls,L⟩) v d l (o.mono B) z (ac (ao 1) (ac (ao 2) (ac (ao 3) aL))) (ρ:=ρ))) (o.h.mono1 q) rfl rfl qc.nd)
 ·match ds,u with
  |[_,_,_],_=>exact RP rfl rfl
abbrev nG:eG:=rE 18
abbrev xG:List Str:=["one","other"]
def CM:bM xG ["one","other"] (aB nG):=eV ∎
abbrev nI(e:En):=FN e "share_none" 1 2 eE
def CN(D:iN e.K e.mg "share_none" nG)(B:Bi e.mg):nI e:=sU (k:=0) (g:=lG) D CM b2 λ_ _ _ _ _ _ _ f=>by unfold lG;exact(aZ (bZ (F6 (bV (rM rfl) rfl B.any dg (bD (JE.bor (JN.je (eO (N':=["fact","other"]) (ix:=[1]) 1 ⋯ rfl (bJ (so:=aB nG) (N:=xG) ∎) (ed (aj 0)) (λa j b c h d=>⟨cj (i:=0) (by show(["fact","other"]:List Str).Nodup;decide +kernel) rfl (.inl rfl),dW,(j8 (og) (aj 0) (aj 1))⟩)))) c9)))))
abbrev uP:eG:=rE 19
abbrev Ec:List Str:=["facts","others"]
def Lq:bM Ec ["facts","others"] (aB uP):=eV ∎
abbrev yN(e:En):=FN e "without" 1 2 nU
def Lr(D:iN e.K e.mg "without" uP)(B:Bi e.mg):yN e:=sU (k:=0) (g:=uB) D Lq b2 λ_ _ _ _ _ _ _ f=>by unfold uB;exact(aZ (bZ (fX (jx rfl) rfl B.tuple bv (bD (JE.bor (JN.je (eO (N':=["fact","others"]) (ix:=[1]) 1 ⋯ rfl (bJ (so:=aB uP) (N:=Ec) ∎) (ed (aj 0)) (λa j b c h d=>⟨cj (i:=0) (by show(["fact","others"]:List Str).Nodup;decide +kernel) rfl (.inl rfl),(ml (eT (AS) (aj 0) (aj 1))),(ao 0)⟩)))) c9))))
abbrev BJ:eG:=rE 20
abbrev Tw:List Str:=["one","other"]
def OT:bM Tw ["one","other"] (aB BJ):=eV ∎
abbrev IN(e:En):=FN e "joined" 1 2 xu
def OU(D:iN e.K e.mg "joined" BJ)(B:Bi e.mg):IN e:=sU (k:=0) (g:=xt) D OT b2 λ_ _ _ _ _ _ _ a=>by unfold xt;exact(aZ (bZ (fX (jx rfl) rfl B.tuple bv (bD (JE.bor (B0 rfl (YS (KN rfl (aj 0) rfl B.set) (KN rfl (aj 1) rfl B.set)) rfl B.sorted)) c9))))
abbrev uQ:eG:=rE 21
abbrev Ed:List Str:=["thing"]
def Ls:bM Ed ["thing"] (aB uQ):=eV ∎
abbrev yO(e:En):=FN e "is_word" 1 1 r9
def Lu(D:iN e.K e.mg "is_word" uQ)(B:Bi e.mg)(a:Cn e.mg "MOST_LETTERS" 6):yO e:=sU (k:=0) (g:=uC) D Ls b1 λ_ _ _ _ _ _ _ h=>by unfold uC;exact(aJ (gS (JW.t (ng (g6 (eJ (oj (aj 0) rfl B.isinstance rfl B.str Aw ⋯))) (l_ (g6 (R4 (Dw) (Dw) (JE.bor aH) (JE.bor (bV jw rfl B.len cz (bD (aj 0) c9))) (JE.bor (wZ rfl a))))))) (aZ (bZ kQ)) dn) (aZ (bZ (bV (qv rfl) rfl B.all cO (bD (JE.bor (JN.je (eO (N':=["sign"]) (ix:=[]) 1 ⋯ rfl (bJ (so:=aB uQ) (N:=Ed) ∎) (ed (aj 0)) (λb l c d j f=>⟨cj (i:=0) (by show(["sign"]:List Str).Nodup;decide +kernel) rfl (.inl rfl),dW,(Hr (Dw) (Dw) (JE.bor tM) (aj 0) (JE.bor tM))⟩)))) c9)))))
abbrev gU:eG:=rE 22
abbrev kJ:List Str:=["thing"]
def v7:bM kJ ["thing"] (aB gU):=eV ∎
abbrev kL(e:En):=FN e "are_rising_words" 2 1 gT
def v8(D:iN e.K e.mg "are_rising_words" gU)(B:Bi e.mg)(a:yO e):kL e:=sU (k:=1) (g:=iO) D v7 b1 λ_ _ _ _ _ _ _ f=>by unfold iO;exact(aJ (gS (JW.t (ng (g6 (eJ (oj (aj 0) rfl B.isinstance rfl B.tuple bv ⋯))) (l_ (g6 (eJ (bV (qv rfl) rfl B.all cO (bD (JE.bor (JN.je (eO (N':=["word"]) (ix:=[]) 1 ⋯ rfl (bJ (so:=aB gU) (N:=kJ) ∎) (ed (aj 0)) (λb l c d j h=>⟨cj (i:=0) (by show(["word"]:List Str).Nodup;decide +kernel) rfl (.inl rfl),dW,(jc a f eL (ac (ao 0) aL))⟩)))) c9))))))) (aZ (bZ kQ)) dn) (aZ (bZ (bV (qv rfl) rfl B.all cO (bD (JE.bor (JN.je (eO (N':=["low","high"]) (ix:=[]) 2 ⋯ rfl (bJ (so:=aB gU) (N:=kJ) ∎) (KJ.i (V9 rfl B.zip (ac (ao 0) (ac (qU (aj 0) (rL aH) xa) aL)))) (λb l c d j h=>⟨yi rfl (js (cj (i:=0) (by show(["low","high"]:List Str).Nodup;decide +kernel) rfl (.inl rfl)) (js (cj (i:=1) (by show(["low","high"]:List Str).Nodup;decide +kernel) rfl (.inl rfl)) uo)),dW,(j8 (Dv) (aj 0) (aj 1))⟩)))) c9)))))
abbrev qd:eG:=rE 23
abbrev zw:List Str:=["book_facts","thing"]
def FV:bM zw ["book_facts","thing"] (aB qd):=eV ∎
abbrev u4(e:En):=FN e "are_facts" 3 2 kW
def FW(D:iN e.K e.mg "are_facts" qd)(B:Bi e.mg)(a:kL e):u4 e:=sU (k:=2) (g:=pO) D FV b2 λ_ _ _ _ _ _ _ b=>by unfold pO;exact(aZ (bZ (tN (jc a b px (ac (ao 1) aL)) (qu (bV (qv rfl) rfl B.all cO (bD (JE.bor (JN.je (eO (N':=["fact","book_facts"]) (ix:=[0]) 1 ⋯ rfl (bJ (so:=aB qd) (N:=zw) ∎) (ed (aj 1)) (λc l d f j h=>⟨cj (i:=0) (by show(["fact","book_facts"]:List Str).Nodup;decide +kernel) rfl (.inl rfl),dW,(j8 (og) (aj 0) (aj 1))⟩)))) c9))))))
abbrev w9:eG:=rE 24
abbrev Lv:List Str:=["thing","least","most"]
def IP:bM Lv ["thing","least","most"] (aB w9):=eV ∎
abbrev BK(e:En):=FN e "is_whole" 1 3 rW
def IQ(D:iN e.K e.mg "is_whole" w9)(B:Bi e.mg):BK e:=sU (k:=0) (g:=rV) D IP b3 λ_ _ _ _ _ _ _ a=>by unfold rV;exact(aJ (gS (JW.t (ng (g6 (eJ (oj (aj 0) rfl B.isinstance rfl B.int PyProof.Rows.boot_int ⋯))) (l_ (eJ (oj (aj 0) rfl B.isinstance rfl B.bool A7 ⋯))))) (aZ (bZ kQ)) dn) (aZ (bZ (Hr (Dw) (Dw) (aj 1) (aj 0) (aj 2)))))
abbrev qf:eG:=rE 25
abbrev zx:List Str:=["book_facts","thing","name","needs","bars","makes","ends","price"]
def iS:bM zx ["book_facts","thing"] (aB qf):=eV ∎
abbrev zy(e:En):=FN e "is_errand" 4 2 pQ
def FX(D:iN e.K e.mg "is_errand" qf)(B:Bi e.mg)(d:yO e)(h:BK e)(f:u4 e)(c:nI e)(j:Cn e.mg "MOST_PRICE" 9):zy e:=sU (k:=3) (g:=pP) D iS b2 λ_ _ _ _ _ _ _ a=>by have b:=a.units;unfold pP;exact(aJ (gS (JW.t (ng (g6 (eJ (oj (aj 1) rfl B.isinstance rfl B.tuple bv ⋯))) (l_ (eT (zi b) (JE.bor (bV jw rfl B.len cz (bD (aj 1) c9))) (JE.bor aH))))) (aZ (bZ kQ)) dn) (aJ (AU (ao 1) (tR rfl (dJ (dC 2 iS.nd) (dJ (dC 3 iS.nd) (dJ (dC 4 iS.nd) (dJ (dC 5 iS.nd) (dJ (dC 6 iS.nd) (dJ (dC 7 iS.nd) pH)))))))) (aJ (gS (JW.t (ng (g6 (eJ (jc d a px (ac (ao 2) aL)))) (l_ (g6 (eJ (jc h a px (ac (ao 7) (ac aH (ac (wZ rfl j) aL))))))))) (aZ (bZ kQ)) dn) (aJ (gS (g6 (eJ (bV (qv rfl) rfl B.all cO (bD (JE.bor (JN.je (eO (N':=["facts","book_facts"]) (ix:=[0]) 1 ⋯ rfl (bJ (so:=aB qf) (N:=zx) ∎) (ed (JE.bor (j9 (ac (ao 3) (ac (ao 4) (ac (ao 5) (ac (ao 6) aL))))))) (λl q m n o p=>⟨cj (i:=0) (by show(["facts","book_facts"]:List Str).Nodup;decide +kernel) rfl (.inl rfl),dW,(jc f a eL (ac (ao 1) (ac (ao 0) aL)))⟩)))) c9)))) (aZ (bZ kQ)) dn) (aZ (bZ (tN (jc c a px (ac (ao 3) (ac (ao 4) aL))) (qu (jc c a px (ac (ao 5) (ac (ao 6) aL)))))))))))
abbrev rh:eG:=rE 26
abbrev yP:List Str:=["thing","facts","errands"]
def wc:bM yP ["thing"] (aB rh):=eV ∎
abbrev Ee(e:En):=FN e "is_book" 5 1 uE
def Lw(D:iN e.K e.mg "is_book" rh)(B:Bi e.mg)(d:kL e)(o:zy e)(j:Cn e.mg "MOST_FACTS" 6)(p:Cn e.mg "MOST_ERRANDS" 6):Ee e:=sU (k:=4) (g:=uD) D wc b1 λ_ _ _ _ _ _ _ b=>by have c:=kP b;have a:=b.units;unfold uD;exact(aJ (gS (JW.t (ng (g6 (eJ (oj (aj 0) rfl B.isinstance rfl B.tuple bv ⋯))) (l_ (eT (zi a) (JE.bor (bV jw rfl B.len cz (bD (aj 0) c9))) (JE.bor aH))))) (aZ (bZ kQ)) dn) (aJ (AU (ao 0) (tR rfl (dJ (dC 1 wc.nd) (dJ (dC 2 wc.nd) pH)))) (aJ (gS (JW.t (ng (g6 (eJ (jc d b px (ac (ao 1) aL)))) (l_ (eT (QS) (JE.bor (bV jw rfl B.len cz (bD (aj 1) c9))) (JE.bor (wZ rfl j)))))) (aZ (bZ kQ)) dn) (aJ (gS (JW.t (ng (g6 (eJ (oj (aj 2) rfl B.isinstance rfl B.tuple bv ⋯))) (l_ (eT (QS) (JE.bor (bV jw rfl B.len cz (bD (aj 2) c9))) (JE.bor (wZ rfl p)))))) (aZ (bZ kQ)) dn) (aJ (gS (g6 (eJ (bV (qv rfl) rfl B.all cO (bD (JE.bor (JN.je (eO (N':=["errand","facts"]) (ix:=[1]) 1 ⋯ rfl (bJ (so:=aB rh) (N:=yP) ∎) (ed (aj 2)) (λf q h l n m=>⟨cj (i:=0) (by show(["errand","facts"]:List Str).Nodup;decide +kernel) rfl (.inl rfl),dW,(jc o b eL (ac (ao 1) (ac (ao 0) aL)))⟩)))) c9)))) (aZ (bZ kQ)) dn) (aZ (bZ (j8 (vm a) (JE.bor (O8 (R5 (N':=["errand"]) (ix:=[]) 1 ⋯ rfl (bJ (so:=aB rh) (N:=yP) ∎) (ed (aj 2)) (λf q h l n m=>⟨cj (i:=0) (by show(["errand"]:List Str).Nodup;decide +kernel) rfl (.inl rfl),dW,(b_ c (aj 0) (JE.bor aH))⟩)) rfl B.len)) (JE.bor (bV jw rfl B.len cz (bD (aj 2) c9)))))))))))
abbrev qA:eG:=rE 27
abbrev CO:List Str:=["book","state"]
def BL:bM CO ["book","state"] (aB qA):=eV ∎
abbrev vy(e:En):=FN e "check_state" 4 2 ms
def BM(D:iN e.K e.mg "check_state" qA)(c:u4 e):vy e:=sU (k:=3) (g:=mq) D BL b2 λ_ _ _ _ _ _ _ b=>by have a:=kP b;unfold mq;exact(aZ (gS (g6 (eJ (jc c b px (ac (b_ a (aj 0) (JE.bor aH)) (ac (ao 1) aL))))) (aZ HI) dn))
abbrev uR:eG:=rE 28
abbrev Ef:List Str:=["state","want","must","bars"]
def we:bM Ef ["state","want"] (aB uR):=eV ∎
abbrev Eg(e:En):=FN e "fulfils" 2 2 uG
def Lx(D:iN e.K e.mg "fulfils" uR)(B:Bi e.mg)(a:nI e):Eg e:=sU (k:=1) (g:=uF) D we b2 λ_ _ _ _ _ _ _ b=>by unfold uF;exact(aJ (AU (ao 1) (tR rfl (dJ (dC 2 we.nd) (dJ (dC 3 we.nd) pH)))) (aZ (bZ (tN (bV (qv rfl) rfl B.all cO (bD (JE.bor (JN.je (eO (N':=["fact","state"]) (ix:=[0]) 1 ⋯ rfl (bJ (so:=aB uR) (N:=Ef) ∎) (ed (aj 2)) (λc l d f j h=>⟨cj (i:=0) (by show(["fact","state"]:List Str).Nodup;decide +kernel) rfl (.inl rfl),dW,(j8 (og) (aj 0) (aj 1))⟩)))) c9)) (qu (jc a b px (ac (ao 3) (ac (ao 0) aL))))))))
abbrev u6:eG:=rE 29
abbrev IR:List Str:=["errand","state"]
def FY:bM IR ["errand","state"] (aB u6):=eV ∎
abbrev zz(e:En):=FN e "is_doable" 3 2 pS
def FZ(D:iN e.K e.mg "is_doable" u6)(c:Eg e):zz e:=sU (k:=2) (g:=pR) D FY b2 λ_ _ _ _ _ _ _ b=>by have a:=kP b;unfold pR;exact(aZ (bZ (jc c b px (ac (ao 1) (ac (j9 (ac (b_ a (aj 0) (JE.bor aH)) (ac (b_ a (aj 0) (JE.bor aH)) aL))) aL)))))
abbrev oK:eG:=rE 30
abbrev BN:List Str:=["errand","state","makes","ends"]
def sO:bM BN ["errand","state"] (aB oK):=eV ∎
abbrev u7(e:En):=FN e "state_behind" 2 2 lI
def z_(D:iN e.K e.mg "state_behind" oK)(d:yN e)(c:IN e):u7 e:=sU (k:=1) (g:=lH) D sO b2 λ_ _ _ _ _ _ _ b=>by have a:=kP b;unfold lH;exact(aJ (YT 2 3 rfl sO.nd (ac (b_ a (aj 0) (JE.bor aH)) (ac (b_ a (aj 0) (JE.bor aH)) aL))) (aZ (bZ (jc c b px (ac (jc d b px (ac (ao 1) (ac (ao 3) aL))) (ac (ao 2) aL))))))
abbrev yR:eG:=rE 31
abbrev OV:List Str:=["book"]
def Ly:bM OV ["book"] (aB yR):=eV ∎
abbrev Eh(e:En):=FN e "checked" 6 1 uI
def Lz(D:iN e.K e.mg "checked" yR)(a:Ee e):Eh e:=sU (k:=5) (g:=uH) D Ly b1 λ_ _ _ _ _ _ _ b=>by unfold uH;exact(aJ (gS (g6 (eJ (jc a b px (ac (ao 0) aL)))) (aZ HI) dn) (aZ (bZ (ao 0))))
abbrev qB:eG:=rE 32
abbrev CQ:List Str:=["book","state"]
def BP:bM CQ ["book","state"] (aB qB):=eV ∎
abbrev mC(e:En):=FN e "check_place" 7 2 cX
def BQ(D:iN e.K e.mg "check_place" qB)(b:Eh e)(c:vy e):mC e:=sU (k:=6) (g:=mx) D BP b2 λ_ _ _ _ _ _ _ a=>by unfold mx;exact(aJ (xb (jc b a px (ac (ao 0) aL))) (aZ (xb (jc c a px (ac (ao 0) (ac (ao 1) aL))))))
abbrev qg:eG:=rE 34
abbrev zA:List Str:=["facts"]
def F_:bM zA ["facts"] (aB qg):=eV ∎
abbrev zB(e:En):=FN e "all_pairs" 1 1 iC
def G0(D:iN e.K e.mg "all_pairs" qg)(B:Bi e.mg):zB e:=sU (k:=0) (g:=pT) D F_ b1 λ_ _ _ _ _ _ _ f=>by unfold pT;exact(aZ (bZ (JN.je (Sg (N':=["at","low","high","facts"]) (ix:=[0]) 2 ⋯ rfl (bJ (so:=aB qg) (N:=zA) ∎) (KJ.i (xc rfl B.enumerate (ac (ao 0) aL))) (λa j b c h d=>⟨yi rfl (js (cj (i:=0) (by show(["at","low","high","facts"]:List Str).Nodup;decide +kernel) rfl (.inl rfl)) (js (cj (i:=1) (by show(["at","low","high","facts"]:List Str).Nodup;decide +kernel) rfl (.inl rfl)) uo)),dW,(ed (JE.bor (qU (aj 3) (rL (ao 0)) xa))),cj (i:=2) (by show(["at","low","high","facts"]:List Str).Nodup;decide +kernel) rfl (.inl rfl),dW,(j9 (ac (ao 1) (ac (ao 2) aL)))⟩)))))
abbrev u9:eG:=rE 35
abbrev IS:List Str:=["pair","facts"]
def G1:bM IS ["pair","facts"] (aB u9):=eV ∎
abbrev qh(e:En):=FN e "stands_in" 1 2 fP
def G3(D:iN e.K e.mg "stands_in" u9):qh e:=sU (k:=0) (g:=pU) D G1 b2 λ_ _ _ _ _ _ _ b=>by have a:=kP b;unfold pU;exact(aZ (bZ (tN (j8 (og) (JE.bor (b_ a (aj 0) (JE.bor aH))) (aj 1)) (qu (j8 (og) (JE.bor (b_ a (aj 0) (JE.bor aH))) (aj 1))))))
abbrev xH:eG:=rE 36
abbrev IT:List Str:=["errand","pair","pairs","needs","bars","makes","ends","unmade","ahead"]
def mf:bM IT ["errand","pair","pairs"] (aB xH):=eV ∎
abbrev IU(e:En):=FN e "brings" 2 3 xw
def OW(D:iN e.K e.mg "brings" xH)(B:Bi e.mg)(f:yN e)(c:nI e)(d:qh e):IU e:=sU (k:=1) (g:=xv) D mf b3 λ_ _ _ _ _ _ _ a=>by have b:=a.units;unfold xv;exact(aJ (AU (qU (aj 0) (rL aH) (rL aH)) (tR rfl (dJ (dC 3 mf.nd) (dJ (dC 4 mf.nd) (dJ (dC 5 mf.nd) (dJ (dC 6 mf.nd) pH)))))) (aJ (g9 7 (jc f a px (ac (ao 1) (ac (ao 5) aL))) mf.nd) (aJ (gS (JW.t (ng (eT (vm b) (JE.bor (bV jw rfl B.len cz (bD (aj 7) c9))) (JE.bor aH)) (ng (g6 (eJ (jc c a px (ac (ao 1) (ac (ao 6) aL))))) (l_ (g6 (eJ (jc c a px (ac (ao 7) (ac (ao 4) aL))))))))) (aZ (bZ kQ)) dn) (aJ (g9 8 (cc cS (aj 3) (aj 7)) mf.nd) (aZ (bZ (F6 (bV (rM rfl) rfl B.any dg (bD (JE.bor (JN.je (eO (N':=["other","ahead"]) (ix:=[8]) 1 ⋯ rfl (bJ (so:=aB xH) (N:=IT) ∎) (ed (aj 2)) (λh o j l m n=>⟨cj (i:=0) (by show(["other","ahead"]:List Str).Nodup;decide +kernel) rfl (.inl rfl),dW,(jc d a eL (ac (ao 0) (ac (ao 1) aL)))⟩)))) c9)))))))))
abbrev nJ:eG:=rE 37
abbrev xI:List Str:=["book","pair","pairs"]
def CS:bM xI ["book","pair","pairs"] (aB nJ):=eV ∎
abbrev su(e:En):=FN e "is_brought" 3 3 eF
def CT(D:iN e.K e.mg "is_brought" nJ)(B:Bi e.mg)(c:IU e):su e:=sU (k:=2) (g:=nw) D CS b3 λ_ _ _ _ _ _ _ b=>by have a:=kP b;unfold nw;exact(aZ (bZ (bV (rM rfl) rfl B.any dg (bD (JE.bor (JN.je (eO (N':=["errand","pair","pairs"]) (ix:=[1,2]) 1 ⋯ rfl (bJ (so:=aB nJ) (N:=xI) ∎) (ed (JE.bor (b_ a (aj 0) (JE.bor aH)))) (λd m f h l j=>⟨cj (i:=0) (by show(["errand","pair","pairs"]:List Str).Nodup;decide +kernel) rfl (.inl rfl),dW,(jc c b eL (ac (ao 0) (ac (ao 1) (ac (ao 2) aL))))⟩)))) c9))))
abbrev uS:eG:=rE 38
abbrev Ei:List Str:=["book","thing"]
def LA:bM Ei ["book","thing"] (aB uS):=eV ∎
abbrev Ej(e:En):=FN e "is_pair" 1 2 j4
def LB(D:iN e.K e.mg "is_pair" uS)(B:Bi e.mg):Ej e:=sU (k:=0) (g:=uJ) D LA b2 λ_ _ _ _ _ _ _ c=>by have b:=kP c;have a:=c.units;unfold uJ;exact(aJ (gS (JW.t (ng (g6 (eJ (oj (aj 1) rfl B.isinstance rfl B.tuple bv ⋯))) (l_ (eT (zi a) (JE.bor (bV jw rfl B.len cz (bD (aj 1) c9))) (JE.bor aH))))) (aZ (bZ kQ)) dn) (aZ (bZ (bV (qv rfl) rfl B.all cO (bD (JE.bor (JN.je (eO (N':=["fact","book"]) (ix:=[0]) 1 ⋯ rfl (bJ (so:=aB uS) (N:=Ei) ∎) (ed (aj 1)) (λd m f h l j=>⟨cj (i:=0) (by show(["fact","book"]:List Str).Nodup;decide +kernel) rfl (.inl rfl),dW,(tN (oj (aj 0) rfl B.isinstance rfl B.str Aw ⋯) (qu (j8 (og) (aj 0) (JE.bor (b_ b (aj 1) (JE.bor aH))))))⟩)))) c9)))))
abbrev uT:eG:=rE 39
abbrev Al:List Str:=["book","state","pairs","kept"]
def ua:bM Al ["book","state"] (aB uT):=eV ∎
abbrev Ng(e:En):=FN e "apart" 8 2 rX
def Tx(D:iN e.K e.mg "apart" uT)(p:mC e)(q:zB e)(o:qh e)(d:su e):Ng e:=sU (k:=7) (g:=Ae) D ua b2 λ_ _ _ _ _ _ _ a=>by have c:=kP a;have b:=a.units;unfold Ae;exact(aJ (xb (jc p a px (ac (ao 0) (ac (ao 1) aL)))) (aJ (nu 2 (eO (N':=["pair","state"]) (ix:=[1]) 1 ⋯ rfl (bJ (so:=aB uT) (N:=Al) ∎) (ed (JE.bor (jc q a px (ac (b_ c (aj 0) (JE.bor aH)) aL)))) (λf n h j m l=>⟨cj (i:=0) (by show(["pair","state"]:List Str).Nodup;decide +kernel) rfl (.inl rfl),(ml (g6 (eJ (jc o a eL (ac (ao 0) (ac (ao 1) aL)))))),(ao 0)⟩)) ua.nd) (aJ (rP 2 (iL 3 (N':=["pair","book","pairs"]) (ix:=[0,2]) 1 ⋯ ua.nd rfl (bJ (so:=aB uT) (N:=Al) ∎) (ed (aj 2)) (λf n h j m l=>⟨cj (i:=0) (by show(["pair","book","pairs"]:List Str).Nodup;decide +kernel) rfl (.inl rfl),(ml (g6 (eJ (jc d a eL (ac (ao 1) (ac (ao 0) (ac (ao 2) aL))))))),(ao 0)⟩))) (aJ (Ho 100000 (eT (zi b) (aj 3) (aj 2)) (aJ (rP 3 (g9 2 (ao 3) ua.nd)) (aZ (rP 2 (iL 3 (N':=["pair","book","pairs"]) (ix:=[0,2]) 1 ⋯ ua.nd rfl (bJ (so:=aB uT) (N:=Al) ∎) (ed (aj 2)) (λf n h j m l=>⟨cj (i:=0) (by show(["pair","book","pairs"]:List Str).Nodup;decide +kernel) rfl (.inl rfl),(ml (g6 (eJ (jc d a eL (ac (ao 1) (ac (ao 0) (ac (ao 2) aL))))))),(ao 0)⟩)))))) (aZ (bZ (ao 3)))))))
abbrev j5:eG:=rE 40
abbrev mD:List Str:=["book","state","pairs","unlike"]
def uc:bM mD ["book","state","pairs"] (aB j5):=eV ∎
abbrev CU(e:En):=FN e "keeps_apart" 8 3 dv
def BS(D:iN e.K e.mg "keeps_apart" j5)(B:Bi e.mg)(q:mC e)(m:Ej e)(o:qh e)(n:su e)(p:ER e "NoPaper"):CU e:=sU (k:=7) (g:=my) D uc b3 λ_ _ _ _ _ _ _ b=>by have a:=b.units;unfold my;exact(aJ (xb (jc q b px (ac (ao 0) (ac (ao 1) aL)))) (aJ (gS (JW.t (ng (g6 (eJ (oj (aj 2) rfl B.isinstance rfl B.list ku ⋯))) (l_ (g6 (eJ (bV (qv rfl) rfl B.all cO (bD (JE.bor (JN.je (eO (N':=["pair","book"]) (ix:=[0]) 1 ⋯ rfl (bJ (so:=aB j5) (N:=mD) ∎) (ed (aj 2)) (λc l d f j h=>⟨cj (i:=0) (by show(["pair","book"]:List Str).Nodup;decide +kernel) rfl (.inl rfl),dW,(jc m b eL (ac (ao 1) (ac (ao 0) aL)))⟩)))) c9))))))) (aZ (R7 p rfl (ac tM aL))) dn) (aJ (g9 3 (Ih rfl a (Ou (N':=["pair"]) (ix:=[]) 1 ⋯ rfl a (bJ (so:=aB j5) (N:=mD) ∎) (ed (aj 2)) (λc l d f j h=>⟨cj (i:=0) (by show(["pair"]:List Str).Nodup;decide +kernel) rfl (.inl rfl),dW,(fX (jx rfl) rfl B.tuple bv (bD (JE.bor (bV L5 rfl B.sorted g_ (bD (aj 0) c9))) c9))⟩)) rfl B.sorted) uc.nd) (aZ (bZ (F6 (bV (rM rfl) rfl B.any dg (bD (JE.bor (JN.je (eO (N':=["pair","state","book","unlike"]) (ix:=[1,0,3]) 1 ⋯ rfl (bJ (so:=aB j5) (N:=mD) ∎) (ed (aj 3)) (λc l d f j h=>⟨cj (i:=0) (by show(["pair","state","book","unlike"]:List Str).Nodup;decide +kernel) rfl (.inl rfl),dW,(X1 (jc o b eL (ac (ao 0) (ac (ao 1) aL))) (qu (jc n b eL (ac (ao 2) (ac (ao 0) (ac (ao 3) aL))))))⟩)))) c9))))))))
abbrev nK:eG:=rE 42
abbrev xJ:List Str:=["book","state"]
def CV:bM xJ ["book","state"] (aB nK):=eV ∎
abbrev xK(e:En):=FN e "steps_from" 4 2 lJ
def CW(D:iN e.K e.mg "steps_from" nK)(d:zz e)(c:u7 e):xK e:=sU (k:=3) (g:=ny) D CV b2 λ_ _ _ _ _ _ _ b=>by have a:=kP b;unfold ny;exact(aZ (bZ (JN.je (eO (N':=["errand","state"]) (ix:=[1]) 1 ⋯ rfl (bJ (so:=aB nK) (N:=xJ) ∎) (ed (JE.bor (b_ a (aj 0) (JE.bor aH)))) (λf n h j m l=>⟨cj (i:=0) (by show(["errand","state"]:List Str).Nodup;decide +kernel) rfl (.inl rfl),(ml (eJ (jc d b eL (ac (ao 0) (ac (ao 1) aL))))),(j9 (ac (ao 0) (ac (jc c b eL (ac (ao 0) (ac (ao 1) aL))) aL)))⟩)))))
abbrev sv:eG:=rE 43
abbrev G4:List Str:=["book","state","rows","ring","next_ring","at","errand","behind"]
def gH:bM G4 ["book","state"] (aB sv):=eV ∎
abbrev xL(e:En):=FN e "first_rows" 5 2 nA
def CY(D:iN e.K e.mg "first_rows" sv)(c:xK e):xL e:=sU (k:=4) (g:=nz) D gH b2 λ_ _ _ _ _ _ _ b=>by have a:=kP b;unfold nz;exact(aJ (nu 2 (S3 a (ao 1) (jZ aL)) gH.nd) (aJ (nu 3 (AV (ac (ao 1) aL)) gH.nd) (aJ (Ho 100000 (Z0 (aj 3)) (aJ (nu 4 (AV aL) gH.nd) (aJ (Vb 3 rfl (dC 5 gH.nd) (aZ (rO rfl (Ab (jc c b eL (ac (ao 0) (ac (ao 5) aL)))) (tR rfl (dJ (dC 6 gH.nd) (dJ (dC 7 gH.nd) pH))) (aZ (gS (eT (Oe a) (aj 7) (aj 2)) (aJ (S2 2 (cc cS (JE.bor (YZ a (aj 2) (aj 5))) (JE.bor (jZ (ac (b_ a (aj 6) (JE.bor aH)) aL)))) (ao 7) a) (aZ (uu 4 (ao 7)))) dn))))) (aZ (rP 4 (g9 3 (ao 4) gH.nd)))))) (aZ (Z1 2 (bZ (ao 2)))))))
abbrev yW:eG:=rE 44
abbrev OX:List Str:=["book","state"]
def LC:bM OX ["book","state"] (aB yW):=eV ∎
abbrev Ek(e:En):=FN e "reached" 8 2 m6
def LD(D:iN e.K e.mg "reached" yW)(B:Bi e.mg)(c:mC e)(d:xL e):Ek e:=sU (k:=7) (g:=uK) D LC b2 λ_ _ _ _ _ _ _ b=>by have a:=b.units;unfold uK;exact(aJ (xb (jc c b px (ac (ao 0) (ac (ao 1) aL)))) (aZ (bZ (bV (KU rfl a) rfl B.sorted g_ (bD (JE.bor (jc d b px (ac (ao 0) (ac (ao 1) aL)))) c9)))))
abbrev qD:eG:=rE 46
abbrev CZ:List Str:=["_law_script","_law_k"]
def BU:bM CZ ["_law_script","_law_k"] (aB qD):=eV ∎
abbrev vz(e:En):=FN e "_law_cell_at" 1 2 mB
def BV(D:iN e.K e.mg "_law_cell_at" qD)(B:Bi e.mg):vz e:=sU (k:=0) (g:=mz) D BU b2 λ_ _ _ _ _ _ _ c=>by have b:=kP c;have a:=c.units;unfold mz;exact(aJ (gS (eT (Dv) (aj 1) (JE.bor (bV jw rfl B.len cz (bD (aj 0) c9)))) (aZ (bZ (b_ b (aj 0) (aj 1)))) dn) (aJ (gS (eT (vm a) (aj 0) (JE.bor (jZ aL))) (aZ (bZ aH)) dn) (aZ (bZ (cc cS (JE.bor (cc tP (JE.bor (b_ b (aj 0) (JE.bor (cc F7 (aj 1) (JE.bor (bV jw rfl B.len cz (bD (aj 0) c9))))))) (JE.bor aH))) (aj 1))))))
abbrev ue:eG:=rE 47
abbrev IV:List Str:=["_law_script","_law_k","_law_many","_law_drawn"]
def xM:bM IV ["_law_script","_law_k","_law_many"] (aB ue):=eV ∎
abbrev gI(e:En):=FN e "_law_mixed" 2 3 aY
def G5(D:iN e.K e.mg "_law_mixed" ue)(a:vz e):gI e:=sU (k:=1) (g:=pV) D xM b3 λ_ _ _ _ _ _ _ b=>by unfold pV;exact(aJ (g9 3 (cc F7 (JE.bor (cc tP (JE.bor (cc cS (JE.bor (cc cS (JE.bor (jc a b px (ac (ao 0) (ac (ao 1) aL)))) (JE.bor (cc tP (JE.bor aH) (aj 1))))) (JE.bor aH))) (JE.bor aH))) (JE.bor aH)) xM.nd) (aZ (bZ (cc F7 (JE.bor (cc F7 (JE.bor (cc cS (JE.bor (cc cS (JE.bor (cc tP (aj 3) (aj 3))) (JE.bor (cc tP (JE.bor aH) (aj 3))))) (aj 1))) (JE.bor aH))) (aj 2)))))
abbrev wg:eG:=rE 48
abbrev LF:List Str:=["_law_script","_law_at","_law_made","_law_k"]
def qi:bM LF ["_law_script","_law_at"] (aB wg):=eV ∎
abbrev wj(e:En):=FN e "_law_word" 3 2 m7
def IW(D:iN e.K e.mg "_law_word" wg)(B:Bi e.mg)(c:gI e):wj e:=sU (k:=2) (g:=rY) D qi b2 λ_ _ _ _ _ _ _ b=>by have a:=kP b;unfold rY;exact(aJ (g9 2 tM qi.nd) (aJ (rO rfl (vP rfl B.range (bD (JE.bor (b_ a (JE.bor (jZ (ac aH (ac aH (ac aH (ac aH (ac aH (ac aH aL)))))))) (JE.bor (jc c b eL (ac (ao 0) (ac (ao 1) (ac aH aL))))))) c9)) (dC 3 qi.nd) (aZ (g9 2 (cc cS (aj 2) (JE.bor (b_ a (JE.bor tM) (JE.bor (jc c b eL (ac (ao 0) (ac (cc cS (JE.bor (cc cS (aj 1) (JE.bor aH))) (aj 3)) (ac aH aL)))))))) qi.nd))) (aZ (bZ (ao 2)))))
abbrev uf:eG:=rE 49
abbrev IX:List Str:=["_law_script","_law_at","_law_most","_law_found","_law_k"]
def sy:bM IX ["_law_script","_law_at","_law_most"] (aB uf):=eV ∎
abbrev zC(e:En):=FN e "_law_facts" 4 3 pX
def G6(D:iN e.K e.mg "_law_facts" uf)(B:Bi e.mg)(d:wj e)(c:gI e):zC e:=sU (k:=3) (g:=pW) D sy b3 λ_ _ _ _ _ _ _ b=>by have a:=kP b;unfold pW;exact(aJ (nu 3 Mi sy.nd) (aJ (rO rfl (vP rfl B.range (bD (JE.bor (jc c b eL (ac (ao 0) (ac (ao 1) (ac (cc cS (aj 2) (JE.bor aH)) aL))))) c9)) (dC 4 sy.nd) (aZ (Mk 3 kQ (jc d b eL (ac (ao 0) (ac (cc cS (JE.bor (cc cS (aj 1) (JE.bor aH))) (JE.bor (cc tP (JE.bor aH) (aj 4)))) aL))) a))) (aZ (bZ (fX (jx rfl) rfl B.tuple bv (bD (JE.bor (bV O6 rfl B.sorted g_ (bD (JE.bor (fX (A_ rfl) rfl B.list ku (bD (aj 3) c9))) c9))) c9))))))
abbrev sA:eG:=rE 50
abbrev BW:List Str:=["_law_script","_law_at","_law_facts_here","_law_part"]
def IY:bM BW ["_law_script","_law_at","_law_facts_here","_law_part"] (aB sA):=eV ∎
abbrev BX(e:En):=FN e "_law_some" 3 4 r_
def IZ(D:iN e.K e.mg "_law_some" sA)(B:Bi e.mg)(b:gI e):BX e:=sU (k:=2) (g:=rZ) D IY b4 λ_ _ _ _ _ _ _ a=>by unfold rZ;exact(aZ (bZ (fX (jx rfl) rfl B.tuple bv (bD (JE.bor (JN.je (eO (N':=["_law_k","_law_fact","_law_script","_law_at","_law_part"]) (ix:=[0,1,3]) 2 ⋯ rfl (bJ (so:=aB sA) (N:=BW) ∎) (KJ.i (xc rfl B.enumerate (ac (ao 2) aL))) (λc l d f j h=>⟨yi rfl (js (cj (i:=0) (by show(["_law_k","_law_fact","_law_script","_law_at","_law_part"]:List Str).Nodup;decide +kernel) rfl (.inl rfl)) (js (cj (i:=1) (by show(["_law_k","_law_fact","_law_script","_law_at","_law_part"]:List Str).Nodup;decide +kernel) rfl (.inl rfl)) uo)),(ml (eT (Dv) (JE.bor (jc b a eL (ac (ao 2) (ac (cc cS (aj 3) (aj 0)) (ac aH aL))))) (aj 4))),(ao 1)⟩)))) c9))))
abbrev mi:eG:=rE 51
abbrev sB:List Str:=["_law_script","_law_at","_law_facts_here","_law_name","_law_one","_law_two","_law_goal","_law_needs","_law_bars","_law_ends","_law_parts"]
def iE:bM sB ["_law_script","_law_at","_law_facts_here","_law_name"] (aB mi):=eV ∎
abbrev BY(e:En):=FN e "_law_thin" 3 4 se
def I_(D:iN e.K e.mg "_law_thin" mi)(B:Bi e.mg)(d:gI e):BY e:=sU (k:=2) (g:=sd) D iE b4 λ_ _ _ _ _ _ _ c=>by have a:=kP c;have b:=c.units;unfold sd;exact(aJ (g9 4 (b_ a (aj 2) (JE.bor (jc d c px (ac (ao 0) (ac (cc cS (aj 1) (JE.bor aH)) (ac (bV jw rfl B.len cz (bD (aj 2) c9)) aL)))))) iE.nd) (aJ (g9 5 (b_ a (aj 2) (JE.bor (jc d c px (ac (ao 0) (ac (cc cS (aj 1) (JE.bor aH)) (ac (bV jw rfl B.len cz (bD (aj 2) c9)) aL)))))) iE.nd) (aJ (g9 6 (b_ a (aj 2) (JE.bor (jc d c px (ac (ao 0) (ac (cc cS (aj 1) (JE.bor aH)) (ac (bV jw rfl B.len cz (bD (aj 2) c9)) aL)))))) iE.nd) (aJ (g9 7 (qU (JE.bor (jZ (ac (ao 4) (ac (ao 5) aL)))) xa (rL (cc cS (JE.bor aH) (JE.bor (cc V3 (JE.bor (jc d c px (ac (ao 0) (ac (cc cS (aj 1) (JE.bor aH)) (ac aH aL))))) (JE.bor aH)))))) iE.nd) (aJ (iL 8 (N':=["_law_fact","_law_needs","_law_script","_law_at"]) (ix:=[7,0,1]) 1 ⋯ iE.nd rfl (bJ (so:=aB mi) (N:=sB) ∎) (ed (JE.bor (jZ (ac (ao 6) aL)))) (λf n h j m l=>⟨cj (i:=0) (by show(["_law_fact","_law_needs","_law_script","_law_at"]:List Str).Nodup;decide +kernel) rfl (.inl rfl),(ml (JW.t (F5 (eT (AS) (aj 0) (aj 1)) (Aa (eT (vm b) (JE.bor (jc d c eL (ac (ao 2) (ac (cc cS (aj 3) (JE.bor aH)) (ac aH aL))))) (JE.bor aH)))))),(ao 0)⟩)) (aJ (iL 9 (N':=["_law_fact","_law_goal","_law_script","_law_at"]) (ix:=[6,0,1]) 1 ⋯ iE.nd rfl (bJ (so:=aB mi) (N:=sB) ∎) (ed (JE.bor (jZ (ac (ao 4) aL)))) (λf n h j m l=>⟨cj (i:=0) (by show(["_law_fact","_law_goal","_law_script","_law_at"]:List Str).Nodup;decide +kernel) rfl (.inl rfl),(ml (JW.t (F5 (eT (zi b) (aj 0) (aj 1)) (Aa (eT (vm b) (JE.bor (jc d c eL (ac (ao 2) (ac (cc cS (aj 3) (JE.bor aH)) (ac aH aL))))) (JE.bor aH)))))),(ao 0)⟩)) (aJ (rP 8 (rP 9 (iL 10 (N':=["_law_part"]) (ix:=[]) 1 ⋯ iE.nd rfl (bJ (so:=aB mi) (N:=sB) ∎) (ed (JE.bor (j9 (ac (ao 7) (ac (ao 8) (ac (jZ (ac (ao 6) aL)) (ac (ao 9) aL))))))) (λf n h j m l=>⟨cj (i:=0) (by show(["_law_part"]:List Str).Nodup;decide +kernel) rfl (.inl rfl),dW,(fX (jx rfl) rfl B.tuple bv (bD (JE.bor (B0 rfl (KN rfl (aj 0) rfl B.set) rfl B.sorted)) c9))⟩)))) (aZ (bZ (j9 (ac (ao 3) (ac (b_ a (aj 10) (JE.bor aH)) (ac (b_ a (aj 10) (JE.bor aH)) (ac (b_ a (aj 10) (JE.bor aH)) (ac (b_ a (aj 10) (JE.bor aH)) (ac (jc d c px (ac (ao 0) (ac (ao 1) (ac aH aL)))) aL))))))))))))))))
abbrev nL:eG:=rE 52
abbrev xN:List Str:=["_law_script","_law_at","_law_facts_here","_law_name","_law_parts","_law_k","_law_fact","_law_way","_law_some_here"]
def im:bM xN ["_law_script","_law_at","_law_facts_here","_law_name"] (aB nL):=eV ∎
abbrev xO(e:En):=FN e "_law_errand" 4 4 jM
def C_(D:iN e.K e.mg "_law_errand" nL)(B:Bi e.mg)(d:gI e)(f:BY e):xO e:=sU (k:=3) (g:=jL) D im b4 λ_ _ _ _ _ _ _ c=>by have a:=kP c;have b:=c.units;unfold jL;exact(aJ (gS (JW.t (F5 (eT (zi b) (aj 2) (JE.bor (j9 aL))) (Aa (eT (vm b) (JE.bor (jc d c px (ac (ao 0) (ac aH (ac aH aL))))) (JE.bor aH))))) (aZ (bZ (jc f c px (ac (ao 0) (ac (ao 1) (ac (ao 2) (ac (ao 3) aL))))))) dn) (aJ (YF 4 im.nd) (aJ (rO rfl (xc rfl B.enumerate (ac (ao 2) aL)) (tR rfl (dJ (dC 5 im.nd) (dJ (dC 6 im.nd) pH))) (aJ (g9 7 (jc d c eL (ac (ao 0) (ac (cc cS (JE.bor (cc cS (aj 1) (JE.bor aH))) (aj 5)) (ac aH aL)))) im.nd) (aJ (gS (eT (Dv) (aj 7) (JE.bor aH)) (aZ (B7 4 (b_ a (JE.bor (jZ (ac aH (ac aH (ac aH aL))))) (aj 7)) (ao 6))) dn) (aJ (g9 7 (jc d c eL (ac (ao 0) (ac (cc cS (JE.bor (cc cS (aj 1) (JE.bor aH))) (aj 5)) (ac aH aL)))) im.nd) (aZ (gS (eT (Dv) (aj 7) (JE.bor aH)) (aZ (B7 4 (b_ a (JE.bor (jZ (ac aH (ac aH (ac aH (ac aH aL)))))) (aj 7)) (ao 6))) dn)))))) (aJ (R6 (iL 8 (N':=["_law_part"]) (ix:=[]) 1 ⋯ im.nd rfl (bJ (so:=aB nL) (N:=xN) ∎) (ed (aj 4)) (λh o j l n m=>⟨cj (i:=0) (by show(["_law_part"]:List Str).Nodup;decide +kernel) rfl (.inl rfl),dW,(fX (jx rfl) rfl B.tuple bv (bD (aj 0) c9))⟩))) (aZ (bZ (j9 (ac (ao 3) (ac (b_ a (aj 8) (JE.bor aH)) (ac (b_ a (aj 8) (JE.bor aH)) (ac (b_ a (aj 8) (JE.bor aH)) (ac (b_ a (aj 8) (JE.bor aH)) (ac (jc d c px (ac (ao 0) (ac (ao 1) (ac aH aL)))) aL)))))))))))))
abbrev sC:eG:=rE 53
abbrev BZ:List Str:=["_law_script","_law_at","_law_most","_law_many","_law_facts_here","_law_made","_law_k","_law_name","_law_names","_law_turn"]
def jA:bM BZ ["_law_script","_law_at","_law_most","_law_many"] (aB sC):=eV ∎
abbrev B_(e:En):=FN e "_law_book" 5 4 oB
def J4(D:iN e.K e.mg "_law_book" sC)(B:Bi e.mg)(d:zC e)(h:wj e)(f:xO e)(c:gI e):B_ e:=sU (k:=4) (g:=oA) D jA b4 λ_ _ _ _ _ _ _ a=>by have b:=kP a;unfold oA;exact(aJ (g9 4 (jc d a px (ac (ao 0) (ac (ao 1) (ac (ao 2) aL)))) jA.nd) (aJ (nu 5 Mi jA.nd) (aJ (rO rfl (vP rfl B.range (bD (JE.bor (jc c a eL (ac (ao 0) (ac (cc cS (aj 1) (JE.bor aH)) (ac (cc cS (aj 3) (JE.bor aH)) aL))))) c9)) (dC 6 jA.nd) (aJ (g9 7 (jc h a eL (ac (ao 0) (ac (cc cS (JE.bor (cc cS (aj 1) (JE.bor aH))) (JE.bor (cc tP (JE.bor aH) (aj 6)))) aL))) jA.nd) (aZ (Mk 5 (jc f a eL (ac (ao 0) (ac (cc cS (JE.bor (cc cS (aj 1) (JE.bor aH))) (JE.bor (cc tP (JE.bor aH) (aj 6)))) (ac (ao 4) (ac (ao 7) aL))))) (ao 7) b)))) (aJ (g9 8 (fX (A_ rfl) rfl B.list ku (bD (aj 5) c9)) jA.nd) (aJ (g9 9 (jc c a px (ac (ao 0) (ac (cc cS (aj 1) (JE.bor aH)) (ac (cc cS (JE.bor (bV jw rfl B.len cz (bD (aj 8) c9))) (JE.bor aH)) aL)))) jA.nd) (aZ (bZ (j9 (ac (ao 4) (ac (fX (jx rfl) rfl B.tuple bv (bD (JE.bor (JN.je (eO (N':=["_law_name","_law_made"]) (ix:=[5]) 1 ⋯ rfl (bJ (so:=aB sC) (N:=BZ) ∎) (ed (JE.bor (cc cS (JE.bor (qU (aj 8) (rL (ao 9)) xa)) (JE.bor (qU (aj 8) xa (rL (ao 9))))))) (λl j m n o p=>⟨cj (i:=0) (by show(["_law_name","_law_made"]:List Str).Nodup;decide +kernel) rfl (.inl rfl),dW,(b_ b (aj 1) (aj 0))⟩)))) c9)) aL))))))))))
abbrev wl:eG:=rE 54
abbrev LG:List Str:=["_law_script","_law_at","_law_facts_here","_law_must","_law_bars","_law_k","_law_fact","_law_way"]
def kZ:bM LG ["_law_script","_law_at","_law_facts_here"] (aB wl):=eV ∎
abbrev C0(e:En):=FN e "_law_want" 3 3 vW
def J5(D:iN e.K e.mg "_law_want" wl)(B:Bi e.mg)(c:gI e):C0 e:=sU (k:=2) (g:=oC) D kZ b3 λ_ _ _ _ _ _ _ b=>by have a:=b.units;unfold oC;exact(aJ (nu 3 (AV aL) kZ.nd) (aJ (nu 4 (AV aL) kZ.nd) (aJ (rO rfl (xc rfl B.enumerate (ac (ao 2) aL)) (tR rfl (dJ (dC 5 kZ.nd) (dJ (dC 6 kZ.nd) pH))) (aJ (g9 7 (jc c b eL (ac (ao 0) (ac (cc cS (aj 1) (aj 5)) (ac aH aL)))) kZ.nd) (aZ (gS (eT (Dv) (aj 7) (JE.bor aH)) (aZ (uu 3 (ao 6))) (aZ (gS (eT (vm a) (aj 7) (JE.bor aH)) (aZ (uu 4 (ao 6))) dn)))))) (aZ (bZ (j9 (ac (fX (jx rfl) rfl B.tuple bv (bD (aj 3) c9)) (ac (fX (jx rfl) rfl B.tuple bv (bD (aj 4) c9)) aL))))))))
abbrev wn:eG:=rE 55
abbrev LH:List Str:=["_law_script","_law_most","_law_many","_law_book_here","_law_state"]
def uh:bM LH ["_law_script","_law_most","_law_many"] (aB wn):=eV ∎
abbrev C1(e:En):=FN e "_law_case" 6 3 kH
def J6(D:iN e.K e.mg "_law_case" wn)(h:B_ e)(f:gI e)(d:BX e)(c:C0 e):C1 e:=sU (k:=5) (g:=sf) D uh b3 λ_ _ _ _ _ _ _ b=>by have a:=kP b;unfold sf;exact(aJ (g9 3 (jc h b px (ac (ao 0) (ac aH (ac (ao 1) (ac (ao 2) aL))))) uh.nd) (aJ (g9 4 (jc d b px (ac (ao 0) (ac aH (ac (b_ a (aj 3) (JE.bor aH)) (ac (b_ a (JE.bor (jZ (ac aH (ac aH aL)))) (JE.bor (jc f b px (ac (ao 0) (ac aH (ac aH aL)))))) aL))))) uh.nd) (aZ (bZ (j9 (ac (ao 3) (ac (ao 4) (ac (jc c b px (ac (ao 0) (ac aH (ac (b_ a (aj 3) (JE.bor aH)) aL)))) aL))))))))
abbrev jO:eG:=rE 58
abbrev nM:List Str:=["_law_errand_here","_law_one","_law_two","_law_pairs","_law_rest","_law_here"]
def qG:bM nM ["_law_errand_here","_law_one","_law_two","_law_pairs"] (aB jO):=eV ∎
abbrev xP(e:En):=FN e "_law_brings" 1 4 iP
def D0(D:iN e.K e.mg "_law_brings" jO)(B:Bi e.mg):xP e:=sU (k:=0) (g:=nC) D qG b4 λ_ _ _ _ _ _ _ h=>by have a:=kP h;have b:=h.units;unfold nC;exact(aJ (iL 4 (N':=["_law_fact","_law_errand_here"]) (ix:=[0]) 1 ⋯ qG.nd rfl (bJ (so:=aB jO) (N:=nM) ∎) (ed (JE.bor (j9 (ac (ao 1) (ac (ao 2) aL))))) (λc m d f l j=>⟨cj (i:=0) (by show(["_law_fact","_law_errand_here"]:List Str).Nodup;decide +kernel) rfl (.inl rfl),(ml (eT (AS) (aj 0) (JE.bor (b_ a (aj 1) (JE.bor aH))))),(ao 0)⟩)) (aJ (gS (JW.t (ng (eT (vm b) (JE.bor (bV jw rfl B.len cz (bD (aj 4) c9))) (JE.bor aH)) (ng (eT (og) (aj 1) (JE.bor (b_ a (aj 0) (JE.bor aH)))) (ng (eT (og) (aj 2) (JE.bor (b_ a (aj 0) (JE.bor aH)))) (l_ (eJ (bV (rM rfl) rfl B.any dg (bD (JE.bor (JN.je (eO (N':=["_law_fact","_law_errand_here"]) (ix:=[0]) 1 ⋯ rfl (bJ (so:=aB jO) (N:=nM) ∎) (ed (aj 4)) (λc m d f l j=>⟨cj (i:=0) (by show(["_law_fact","_law_errand_here"]:List Str).Nodup;decide +kernel) rfl (.inl rfl),dW,(j8 (og) (aj 0) (JE.bor (b_ a (aj 1) (JE.bor aH))))⟩)))) c9)))))))) (aZ (bZ kQ)) dn) (aJ (g9 5 (cc cS (JE.bor (fX (A_ rfl) rfl B.list ku (bD (JE.bor (b_ a (aj 0) (JE.bor aH))) c9))) (aj 4)) qG.nd) (aZ (bZ (F6 (bV (rM rfl) rfl B.any dg (bD (JE.bor (JN.je (eO (N':=["_law_pair","_law_here"]) (ix:=[5]) 1 ⋯ rfl (bJ (so:=aB jO) (N:=nM) ∎) (ed (aj 3)) (λc m d f l j=>⟨cj (i:=0) (by show(["_law_pair","_law_here"]:List Str).Nodup;decide +kernel) rfl (.inl rfl),dW,(tN (j8 (og) (JE.bor (b_ a (aj 0) (JE.bor aH))) (aj 1)) (qu (j8 (og) (JE.bor (b_ a (aj 0) (JE.bor aH))) (aj 1))))⟩)))) c9))))))))
abbrev mM:eG:=rE 59
abbrev ui:List Str:=["_law_book_here","_law_state","_law_pairs","_law_errand_here"]
def xQ:bM ui ["_law_book_here","_law_state","_law_pairs"] (aB mM):=eV ∎
abbrev zD(e:En):=FN e "_law_keeps" 2 3 kX
def G7(D:iN e.K e.mg "_law_keeps" mM)(B:Bi e.mg)(j:xP e):zD e:=sU (k:=1) (g:=pY) D xQ b3 λ_ _ _ _ _ _ _ b=>by have a:=kP b;unfold pY;exact(aJ (gS (eJ (bV (rM rfl) rfl B.any dg (bD (JE.bor (JN.je (eO (N':=["_law_pair","_law_state"]) (ix:=[1]) 1 ⋯ rfl (bJ (so:=aB mM) (N:=ui) ∎) (ed (aj 2)) (λc m d f l h=>⟨cj (i:=0) (by show(["_law_pair","_law_state"]:List Str).Nodup;decide +kernel) rfl (.inl rfl),dW,(tN (j8 (og) (JE.bor (b_ a (aj 0) (JE.bor aH))) (aj 1)) (qu (j8 (og) (JE.bor (b_ a (aj 0) (JE.bor aH))) (aj 1))))⟩)))) c9))) (aZ (bZ kQ)) dn) (aJ (rO rfl (Ab (b_ a (aj 0) (JE.bor aH))) (dC 3 xQ.nd) (aZ (gS (eJ (bV (rM rfl) rfl B.any dg (bD (JE.bor (JN.je (eO (N':=["_law_pair","_law_errand_here","_law_pairs"]) (ix:=[3,2]) 1 ⋯ rfl (bJ (so:=aB mM) (N:=ui) ∎) (ed (aj 2)) (λc m d f l h=>⟨cj (i:=0) (by show(["_law_pair","_law_errand_here","_law_pairs"]:List Str).Nodup;decide +kernel) rfl (.inl rfl),dW,(jc j b eL (ac (ao 1) (ac (b_ a (aj 0) (JE.bor aH)) (ac (b_ a (aj 0) (JE.bor aH)) (ac (ao 2) aL)))))⟩)))) c9))) (aZ (bZ kQ)) dn))) (aZ (bZ kQ))))
abbrev sP:eG:=rE 60
abbrev J7:List Str:=["_law_script","_law_book_here","_law_state","_law_want_here","_law_told","_law_pairs","_law_one","_law_answer","_law_bad"]
def oN:bM J7 ["_law_script"] (aB sP):=eV ∎
def ZD{f:ak}{q:gW}(F:GJ e.K "law" "law" sP f q)(B:Bi e.mg)(z:C1 e)(y:Ng e)(h:gI e)(x:zD e)(u:Ek e)(a:FT e "_law_told_three" "keeps_apart" 9 3 (vn Pl dv)):u_ e.P e.w e.K e.mg e.base (oS e.P e.w) 10 f q ["_law_script"] (X6 e.K e.cls 1 F_law):=by
 refine X9 (k:=9) (g:=MY) F oN λv A outer s H E d=>?_
 have b:=kP d
 have c:=d.units
 unfold MY
 exact(aJ (AU (jc z d px (ac (ao 0) (ac aH (ac aH aL)))) (tR rfl (dJ (dC 1 oN.nd) (dJ (dC 2 oN.nd) (dJ (dC 3 oN.nd) pH))))) (aJ (g9 4 (jc y d px (ac (ao 1) (ac (ao 2) aL))) oN.nd) (aJ (iL 5 (N':=["_law_k","_law_pair","_law_script"]) (ix:=[0]) 2 ⋯ oN.nd rfl (bJ (so:=aB sP) (N:=J7) ∎) (KJ.i (DG rfl B.enumerate (ac (ao 4) aL))) (λj n o m p l=>⟨yi rfl (js (cj (i:=0) (by show(["_law_k","_law_pair","_law_script"]:List Str).Nodup;decide +kernel) rfl (.inl rfl)) (js (cj (i:=1) (by show(["_law_k","_law_pair","_law_script"]:List Str).Nodup;decide +kernel) rfl (.inl rfl)) uo)),(ml (eT (QS) (JE.bor (jc h d eL (ac (ao 2) (ac (cc cS (JE.bor aH) (aj 0)) (ac aH aL))))) (JE.bor aH))),(ao 1)⟩)) (aJ (gS (JW.t (F5 (eT (zi c) (JE.bor (b_ b (aj 1) (JE.bor aH))) (JE.bor (j9 aL))) (Aa (eT (vm c) (JE.bor (jc h d px (ac (ao 0) (ac aH (ac aH aL))))) (JE.bor aH))))) (aJ (g9 6 (b_ b (JE.bor (b_ b (aj 1) (JE.bor aH))) (JE.bor (jc h d px (ac (ao 0) (ac aH (ac (bV jw rfl B.len cz (bD (JE.bor (b_ b (aj 1) (JE.bor aH))) c9)) aL)))))) oN.nd) (aZ (uu 5 (j9 (ac (ao 6) (ac (b_ b (JE.bor (b_ b (aj 1) (JE.bor aH))) (JE.bor (jc h d px (ac (ao 0) (ac aH (ac (bV jw rfl B.len cz (bD (JE.bor (b_ b (aj 1) (JE.bor aH))) c9)) aL)))))) aL)))))) dn) (aJ (rP 5 (iL 5 (N':=["_law_k","_law_pair","_law_script"]) (ix:=[0]) 2 ⋯ oN.nd rfl (bJ (so:=aB sP) (N:=J7) ∎) (KJ.i (DG rfl B.enumerate (ac (ao 5) aL))) (λj n o m p l=>⟨yi rfl (js (cj (i:=0) (by show(["_law_k","_law_pair","_law_script"]:List Str).Nodup;decide +kernel) rfl (.inl rfl)) (js (cj (i:=1) (by show(["_law_k","_law_pair","_law_script"]:List Str).Nodup;decide +kernel) rfl (.inl rfl)) uo)),dW,(b_ b (JE.bor (jZ (ac (ao 1) (ac (RS (aj 1)) aL)))) (JE.bor (jc h d eL (ac (ao 2) (ac (cc cS (JE.bor aH) (aj 0)) (ac aH aL))))))⟩))) (aJ (rP 5 (g9 7 (jd a d px (ac (ao 1) (ac (ao 2) (ac (ao 5) aL)))) oN.nd)) (aJ (rP 5 (gS (JW.t (ng (g6 (eJ (oj (aj 7) rfl B.isinstance rfl B.bool A7 ⋯))) (l_ (eT (zi c) (aj 7) (JE.bor (jc x d px (ac (ao 1) (ac (ao 2) (ac (ao 5) aL))))))))) (aZ (bZ kQ)) dn)) (aJ (gS (eJ (ao 7)) (aJ (gS (g6 (eJ (bV (qv rfl) rfl B.all cO (bD (JE.bor (JN.je (eO (N':=["_law_pair","_law_told"]) (ix:=[4]) 1 ⋯ rfl (bJ (so:=aB sP) (N:=J7) ∎) (ed (aj 5)) (λj n o m p l=>⟨cj (i:=0) (by show(["_law_pair","_law_told"]:List Str).Nodup;decide +kernel) rfl (.inl rfl),dW,(X1 (j8 (Sc c) (aj 0) (aj 1)) (qu (j8 (Sc c) (JE.bor (RS (aj 0))) (aj 1))))⟩)))) c9)))) (aZ (bZ kQ)) dn) (aZ (rO rfl (Ab (jc u d eL (ac (ao 1) (ac (ao 2) aL)))) (dC 6 oN.nd) (aZ (gS (eJ (bV (rM rfl) rfl B.any dg (bD (JE.bor (JN.je (eO (N':=["_law_pair","_law_one"]) (ix:=[6]) 1 ⋯ rfl (bJ (so:=aB sP) (N:=J7) ∎) (ed (aj 5)) (λj n o m p l=>⟨cj (i:=0) (by show(["_law_pair","_law_one"]:List Str).Nodup;decide +kernel) rfl (.inl rfl),dW,(tN (j8 (og) (JE.bor (b_ b (aj 0) (JE.bor aH))) (aj 1)) (qu (j8 (og) (JE.bor (b_ b (aj 0) (JE.bor aH))) (aj 1))))⟩)))) c9))) (aZ (bZ kQ)) dn))))) dn) (aJ (nu 8 (AV (ac QM (ac (fX (jx rfl) rfl B.tuple bv (bD (aj 5) c9)) (ac (cc cS (aj 5) (JE.bor (jZ (ac QM aL)))) (ac (cc cS (aj 5) (JE.bor (jZ (ac (j9 (ac tM (ac tM aL))) aL)))) (ac (cc cS (aj 5) (JE.bor (jZ (ac (j9 aL) aL)))) (ac (cc cS (aj 5) (JE.bor (jZ (ac (j9 (ac aH (ac aH aL))) aL)))) (ac aH aL)))))))) oN.nd) (aZ (bZ (j8 (vm c) (JE.bor (jd a d px (ac (ao 1) (ac (ao 2) (ac (b_ b (aj 8) (JE.bor (jc h d px (ac (ao 0) (ac aH (ac aH aL)))))) aL))))) (JE.bor (j9 (ac tM (ac aH aL))))))))))))))))
end
def all_mk{l:zI}{w:bz}{K:a8}{h:bP}{b:Str->Option ag}{Y A:ak}{x:ak}{i:ak}{t:ak}{m:ak}{p:ak}{u:ak}{f:ak}{z:ak}{N:ak}{O:ak}{H:ak}{E:ak}{od an:Option ak}{sl:Array (Option ag)}{oc kV dc pm n ct:ag}(X:K.In h)(G:h.Ns bX b)(M:b "law"=some (.ref Y))
  (Zz:Zs K zn)
  (oI:Cn b "MOST_LETTERS" 6)
  (sk:Cn b "MOST_PRICE" 9)
  (sr:Cn b "MOST_FACTS" 6)
  (oJ:Cn b "MOST_ERRANDS" 6)
  (T:Vr K IM [x,i,t,m,p,u,f,z,N,O,H])
  (El:TopC K "NoPaper" f)
  (g:TopC K "PlanError" E)
  (c:Wy K f E [(x,false),(i,false),(t,false),(m,false),(p,false),(u,false),(f,true),(z,false),(N,false),(O,false),(H,false)])
  (J8:iN K b "_law_which" u0)
  (z0:iN K b "_law_told_three" iy)
  (Gb:iN K b "share_none" nG)
  (OY:iN K b "without" uP)
  (Tz:iN K b "joined" BJ)
  (OZ:iN K b "is_word" uQ)
  (ww:iN K b "are_rising_words" gU)
  (J9:iN K b "are_facts" qd)
  (LJ:iN K b "is_whole" w9)
  (Ja:iN K b "is_errand" qf)
  (O_:iN K b "is_book" rh)
  (D1:iN K b "check_state" qA)
  (P0:iN K b "fulfils" uR)
  (Jb:iN K b "is_doable" u6)
  (C5:iN K b "state_behind" oK)
  (P1:iN K b "checked" yR)
  (D2:iN K b "check_place" qB)
  (Jc:iN K b "all_pairs" qg)
  (Jd:iN K b "stands_in" u9)
  (TC:iN K b "brings" xH)
  (Gc:iN K b "is_brought" nJ)
  (P4:iN K b "is_pair" uS)
  (WC:iN K b "apart" uT)
  (D3:iN K b "keeps_apart" j5)
  (Gd:iN K b "steps_from" nK)
  (Ge:iN K b "first_rows" sv)
  (P5:iN K b "reached" yW)
  (D4:iN K b "_law_cell_at" qD)
  (Je:iN K b "_law_mixed" ue)
  (LK:iN K b "_law_word" wg)
  (Jf:iN K b "_law_facts" uf)
  (LL:iN K b "_law_some" sA)
  (LM:iN K b "_law_thin" mi)
  (Gf:iN K b "_law_errand" nL)
  (LN:iN K b "_law_book" sC)
  (LO:iN K b "_law_want" wl)
  (LP:iN K b "_law_case" wn)
  (Gg:iN K b "_law_brings" jO)
  (Jg:iN K b "_law_keeps" mM)
  (l0:iI K bX "law"=some (some (.ref A)))
  (l1:K.lookup A=some ⟨oc,od,.func (fH "law" "law" (pB sP) (jG sP) (aB sP) .none kV dc pm an n ct),sl⟩)
  (l2:lv K n "law"=true)
  (l3:f6 K (.ref A)=true)
  :∃U:gW,(∀(s:aq) (v:ag),C7 s U ⟨[v],[]⟩ [("_law_script",v)])/\∀base:bP,K.In base->base.Ns bX b->u_ l.prog w K b base (oS l.prog w) 10 Y U ["_law_script"] (spO K F_law):=by
 have q:=M.symm.trans (mj X G l0)
 cases q
 refine⟨fH "law" "law" (pB sP) (jG sP) (aB sP) .none kV dc pm an n ct,λs v=>.of_eq rfl,λbase X G=>?_⟩
 let e:En:=⟨l.prog,w,K,b,base,q0z [("NoBook",x),("NoState",i),("NoWant",t),("NoErrand",m),("NoRow",p),("NoWay",u),("NoPaper",f),("NoFacts",z),("NoNumber",N),("Nothing",O),("NoText",H),("PlanError",E)]⟩
 have B:Bi e.mg:=q0U X G Zz
 have yV:ER e "NoPaper":=El.er X G rfl
 obtain⟨fw,a0,I,mw⟩:=J8.ex
 have W:Wh e.P e.w e.K e.mg e.base e.cls "_law_which" IM Pl:=by
  refine⟨⟨_,_,_,CL (e:=e) I B (q0V X G Zz) (q0W X G T rfl),mw,I.kp,b1 I⟩,mj X G g.ns,?_,λy j h=>?_⟩
  ·obtain⟨bm,o,_⟩:=(KQ X G g.ns g.ex g.mb).2
   exact⟨bm,o⟩
  unfold Pl at h
  by_cases hy:y="NoPaper"
  ·subst hy
   simp at h
   subst h
   exact q0X X G El c T rfl rfl rfl rfl rfl ⋯ ⋯
  rw[if_neg hy] at h
  cases h
 have S:=CN (e:=e) Gb B
 have nX:=Lr (e:=e) OY B
 have BO:=OU (e:=e) Tz B
 have nW:=Lu (e:=e) OZ B oI
 have fD:=v8 (e:=e) ww B nW
 have kY:=FW (e:=e) J9 B fD
 have wa:=IQ (e:=e) LJ B
 have u5:=FX (e:=e) Ja B nW wa kY S sk
 have yS:=Lw (e:=e) O_ B fD u5 sr oJ
 have qC:=BM (e:=e) D1 kY
 have yQ:=Lx (e:=e) P0 B S
 have ud:=FZ (e:=e) Jb yQ
 have oM:=z_ (e:=e) C5 nX BO
 have yT:=Lz (e:=e) P1 yS
 have L:=BQ (e:=e) D2 yT qC
 have ub:=G0 (e:=e) Jc B
 have Q:=G3 (e:=e) Jd
 have BR:=OW (e:=e) TC B nX S Q
 have iT:=CT (e:=e) Gc B BR
 have yU:=LB (e:=e) P4 B
 have G8:=Tx (e:=e) WC L ub Q iT
 have D5:=BS (e:=e) D3 B L yU Q iT yV
 have sw:=CW (e:=e) Gd ud oM
 have sx:=CY (e:=e) Ge sw
 have yX:=LD (e:=e) P5 B L sx
 have qF:=BV (e:=e) D4 B
 have d:=G5 (e:=e) Je qF
 have mh:=IW (e:=e) LK B d
 have ug:=G6 (e:=e) Jf B mh d
 have wp:=IZ (e:=e) LL B d
 have wk:=I_ (e:=e) LM B d
 have sD:=C_ (e:=e) Gf B d wk
 have wo:=J4 (e:=e) LN B ug mh sD d
 have wq:=J5 (e:=e) LO B d
 have wt:=J6 (e:=e) LP wo d wp wq
 have sF:=D0 (e:=e) Gg B
 have uj:=G7 (e:=e) Jg B sF
 have a:=xF (e:=e) (k:=8) z0 W D5 ⋯ ⋯
 exact(ZD (e:=e) (Qc l1 l2 l3) B wt G8 d uj yX a).imp YI
end Z
section
open PySem PySem.W PyProof.Rows
namespace PySem.W.Fast
def tw10383712089728763098:Nat:=0
def tw1226221598206650241:Nat:=0
def tw13184780604186239259:Nat:=0
def tw4480533857214645333:Nat:=0
def tw15932902920297047804:Nat:=0
def tw15637460038837909609:Nat:=0
def tw1989629187925126149:Nat:=0
def tw9048438722593990475:Nat:=0
def tw2741965371209450857:Nat:=0
def tw15130862689742878697:Nat:=0
def tw5577963389899457684:Nat:=0
def tw13908947261428304006:Nat:=0
def tw5258755937580874684:Nat:=0
def tw12278817272431169811:Nat:=0
def tw9736348184440602110:Nat:=0
def tw3996829998858174176:Nat:=0
def tw10562063694467291228:Nat:=0
def tw14871724976804828549:Nat:=0
def tw8203392431478497517:Nat:=0
def tw12423139159320608292:Nat:=0
def tw10532174710627416086:Nat:=0
def tw8160147447401417749:Nat:=0
def tw9320115517844812343:Nat:=0
def tw2391814316312219803:Nat:=0
def tw18332002600048970404:Nat:=0
def tw14313853732153955948:Nat:=0
def tw18057752579708432905:Nat:=0
def tw11557304266601661810:Nat:=0
def tw3304585315717554755:Nat:=0
def tw15911561154825782360:Nat:=0
def tw6259356552299729925:Nat:=0
def tw16254179122298646372:Nat:=0
def tw13112273599967776450:Nat:=0
def tw12286613230369268481:Nat:=0
def tw6494250359203654393:Nat:=0
def tw5626279726684885729:Nat:=0
def tw7809191228299421047:Nat:=0
def tw3037170047444766649:Nat:=0
def tw13640572404982957394:Nat:=0
def tw4360963916247229554:Nat:=0
def tw9812258632728274750:Nat:=0
def tw7580068552354887320:Nat:=0
def tw2011709679079403222:Nat:=0
def tw15997701146452453906:Nat:=0
def tw5678841690217505295:Nat:=0
def tw10416981751528010952:Nat:=0
def tw12974758781419840671:Nat:=0
def tw7897728180479547809:Nat:=0
def tw4002157197766350647:Nat:=0
def tw16748574504843330192:Nat:=0
def tw12433311434936221243:Nat:=0
def tw13049579893166391841:Nat:=0
def tw11927999315627091479:Nat:=0
def tw3999373520775135707:Nat:=0
def tw8623786570498073995:Nat:=0
def tw16748733893095324323:Nat:=0
def tw6383121347088181420:Nat:=0
def tw10287795651382325752:Nat:=0
def tw15029270531063619288:Nat:=0
def tw13193984860273304593:Nat:=0
def tw9259613179155118807:Nat:=0
def tw901332969307545036:Nat:=0
def tw17871063452132685090:Nat:=0
def tw1145746167709014289:Nat:=0
def tw4232223381835884796:Nat:=0
def tw11680786109840804649:Nat:=0
def tw11020366954654354286:Nat:=0
def tw11943904412562726761:Nat:=0
def tw15273306396345121772:Nat:=0
def tw9612085394239414418:Nat:=0
def tw17705966585457728642:Nat:=0
def tw13799730059100255677:Nat:=0
def tw13469697989404435700:Nat:=0
def tw5840558400026322397:Nat:=0
def tw6653632030185369555:Nat:=0
def tw14306558416270123038:Nat:=0
def tw4044673548502584888:Nat:=0
def tw1837983097927971916:Nat:=0
def tw8073666675288394546:Nat:=0
def tw13516584877027615428:Nat:=0
def tw14144276309421118068:Nat:=0
def tw896835588860768157:Nat:=0
def tw7087504089739110492:Nat:=0
def tw3867068183624053077:Nat:=0
def tw2201194882301310130:Nat:=0
def tw18160264724760123246:Nat:=0
def tw12972778220711114509:Nat:=0
def tw518827955950267786:Nat:=0
def tw8556661888894860913:Nat:=0
def tw12441598330121184306:Nat:=0
def tw10606325959326802452:Nat:=0
def tw3072407455046189270:Nat:=0
def tw5319354658166271306:Nat:=0
def tw11965930243916342013:Nat:=0
def tw4354229045702343445:Nat:=0
def tw2449445236653048157:Nat:=0
def tw6060394335772912485:Nat:=0
def tw14262921100607891621:Nat:=0
def tw9393862925065984114:Nat:=0
def tw6917859941396064774:Nat:=0
def tw13170327307864481303:Nat:=0
def tw2020039672727347469:Nat:=0
def tw14125428245654210700:Nat:=0
def tw4232255771563881468:Nat:=0
def tw3996778373564613260:Nat:=0
def tw6980127644110274325:Nat:=0
def tw335279773258443161:Nat:=0
def tw14059869918611870928:Nat:=0
def tw2728204833034171698:Nat:=0
def tw17577635997245112138:Nat:=0
def tw10442770086981278483:Nat:=0
def tw13469400657688169997:Nat:=0
def tw2020287128559378764:Nat:=0
def tw14994297258326279670:Nat:=0
def tw2880081232205550263:Nat:=0
def tw16876096334050917385:Nat:=0
def tw17795285526044701099:Nat:=0
def tw16995985285368745901:Nat:=0
def tw15516446752710209840:Nat:=0
end PySem.W.Fast
end
theorem PySem.Challenge.cw_errands_k14_whole_keeps_apart_holds : PySem.Challenge.rw_errands_k14_whole_keeps_apart.Holds := by
 w_on;o_law;k_head;(case hw=>w_witness2)
 k_fill
 refine J.walkF (l:=PySem.Challenge.rw_errands_k14_whole_keeps_apart) (k:=10) (x:="_law_script") (F0:=Z.F_law) rfl rfl ⟨rfl,by decide,by decide⟩ (λw h Y=>by first|exact PySem.W.kIn_of Y|exact PySem.W.km_in_of Y) ?F (λns _=>Z.law_true ns)
 case F =>
  intro w c d h b G a
  refine' Z.all_mk b G a ?_ ?_ ?_ ?_ ?_ ?_ ?_ ?_ ?_ ?_ ?_ ?_ ?_ ?_ ?_ ?_ ?_ ?_ ?_ ?_ ?_ ?_ ?_ ?_ ?_ ?_ ?_ ?_ ?_ ?_ ?_ ?_ ?_ ?_ ?_ ?_ ?_ ?_ ?_ ?_ ?_ ?_ ?_ ?_ ?_ ?_ ?_ ?_ ?_ ?_ ?_ ?_
  all_goals first
   |(refine' J.d_in b G ?_ ?_ ?_ ?_<;>try k_is)
   |(refine' J.cn_in b G ?_<;>try k_is)
   |k_is
   |(refine' J.TopC.mk ?_ ?_ ?_<;>try (first|k_is|k_exc))
   |(refine' J.topN ?_ ?_ ?_ ?_ ?_ ?_ ?_ ?_ ?_ ?_ ?_ ?_ ?_ ?_ ?_ ?_ ?_ ?_ ?_ ?_ ?_ ?_ ?_<;>try (first|k_is|rfl|exact λ_ _=>⟨_,rfl,rfl⟩|decide +kernel))
   |((refine' J.Wy.mk ?_ ?_ ?_ ?_ ?_ ?_ ?_ ?_ ?_ ?_)<;>try (first|k_is|decide|((repeat' (first|exact .nil|refine' .cons ?_ ?_ ?_))<;>try (first|k_is|decide))))
   |((repeat' (first|exact .nil|refine' .cons ?_ ?_))<;>try (first|(refine' J.cw_in ?_ ?_ ?_<;>try k_is)|k_is))
   |skip
end
