import PyProof.Rows.All
import Wide.All
import OpenK.AllK
import Wide.FinOn
import Lean
import PyProof.EqAt
import PyProof.EqKinds
import PyProof.TupleCall
import KE.KDictOf
import PyProof.AttrMissHeap
import KE.KRevIter
import PyProof.DictWalks
import PyProof.MinMaxWalk
import PyProof.SeqI3
import PyProof.WalkInts
import PyProof.ExcInit
import PyProof.InstStoreFacts
import PyProof.DictCompW
import PySem.Challenge.RW_errands_k19_idle
set_option Elab.async false
set_option linter.all false
set_option maxRecDepth 100000
set_option maxHeartbeats 0
open PySem renaming wpAny_bind->a7,wpAny_pure->a9,Value->aa,Shared->ae,Addr->ai,wpAny->au,model->ay,Program->aH,starEach->aK,Around->aU,Expr->aX,World->aZ,cellsFrom->bh,wpAny_setState_of->bx,Heap->bB,wpAny_call_entry->bF,wpAny_mono->bH,compareOp->bK,mainGlobals->bL,wpAny_newObj_type->bM,rawInt->c7,wpAny_callSpecial?_slot->cc,boot_len->cJ,wpAny_rule->cU,wpAny_truthy_bool->cW,wpAny_holding->de,mem_of_lookup->df,wpAny_field->dw,Stmt->dz,foldedSetIterable->e7,eval->eh,FuncData->eG,sysModules->eJ,wpAny_of_eq->eO,wpAny_seqItems->eP,fits_of_scanBound->e_,wpAny_isInstance->fQ,Scope->fZ,wpAny_pyIter_tuple->f_,binaryOp->g6,wpAny_setField->g9,cLine->gz,letOwnedTupleGo->gH,codeAny_builtin->gJ,sizeLine_eq->gK,behindInMarks->gO,swapsWith->hW,wpAny_askSetting->hX,setField->hZ,strIterType->ig,wpAny_typeNameOfWhole_keyiter->ij,bootBuiltins->il,assignEach->im,wpAny_setField_rec->ip,wpAny_passesOwn->iC,wpAny_standAt->iJ,scanBound->iM,wpAny_storeSet_of->iV,backTo->j8,SetTable->j9,codeAny->jo,Builtin->jr,wpAny_attempt->jM,IsPair->jX,pyNext->kU,NameKind->kW,firstArgMember->kY,DictEntry->lM,sliceBounds->mh,pickOrder->nO,tupleKind_room_in1->nV,wpAny_pyIter_list->pp,getItem->pq,assign->pE,wpAny_comprehension_free->pH,plainId_quiet->pJ,tupleKind->r9,raiseNew->rc,Result->rZ,codeAny_mono->r_,wpAny_typeOf->sd,newExc->se,wpAny_execs_nil->tm,pushCells_keeps->tq,isTrue->uI,IsPart->uJ,newFunctionEnv->uL,relayAll->uM,unsupported->uN,isSubtype_stop->uO,IsZip->uP,wpAny_updateSeq_pair->uQ,standAt->vw,callerA->vy,swapsWithSole->wp,swappedStores->wq,wpAny_onRaise->wx,pyIter->wQ,wpAny_Call_Name_kw->wS,Model->yu,BindsTo->yw,Keyword->yx,concat_meets->yy,valueAt->yz,wpAny_pyIter_slot->yB,collect->yD,wpAny_dictEntries->yI,wpAny_eqBool_str->Am,noFill_tuple_add->An,PyData->Ar,subscripted->BV,codeAny_of_tree->B_,wpAny_dictEpoch->C1,Paired->Ee,GenState->Eg,atKey->Ek,wpAny_runValue->El,entryFor_alias->Em,isSubtype_type->Eo,wpAny_fieldsOf->Ep,field->Es,assignInOrder->Hv,seq_tuple_add->Hy,attributeBase->HA,call->HB,wpAny_handled->HE,wpAny_newList->HF,Drawn->Jp,CmpOp->Jq,lastMarks->Jr,bindL->Jt,bindC->Ju,seqItems?->Jw,sub_set_self->JU,setNext->JV,wpAny_isTrue_Compare1->Nk,builtinLookup_eq_fast->Nm,wpAny_isOneOf_keyiter->Np,bindName->Nz,again->NA,bindArgs->NB,keywordEach->NC,wpAny_alloc->NE,Walks->NF,entryFor->NI,newTuple->NJ,wpAny_throw->NK,ZipApart->NL,wpAny_letGo->NN,wpAny_pyIter_keyiter->NW
open PySem.W renaming Frag->a8,kia_one->cF,mroIn->dh,nsMap_none_of_in->eA,keepIn->f9,fnOf->fP,nsIn->fR,cellsFrom_some->gQ,findIn->lK,codeIn->lL,isNs_of_in->lN,mg_of->mU,kitOne->pF,clsIn->rE,methodObj->tK,kitx_list->tL,instObj->vS,OpenLaw->vU,lookIn->wR,excIn->yG,hideAll_get->E4,of_hideAll->Ef,kitx_tuple->Eh,codeRec_of->Ei,specialIn->FR,kitx_dict->FS,plainGet->Hx,hideAll->Jo,takesIn->Js,typeIn->K0,nsOkIn->K1,WalkO->Nl,subIn->No
open PySem.Heap renaming get?_push_of_some->ac,lt_size->aq,get?_push_size->av,SameBut->bJ,size_push->bY,get?_update_other->eY,get?_update_self->fG,size_update->wz,IsTuple->E6,ExtBut->FU,get?_push_ne->K4
open List renaming mem_cons_of_mem->ah,getElem?_set_ne->aj,length_map->ak,mem_cons_self->am,map_cons->aw,getElem?_set_self->aC,mem_append_right->aF,getElem?_map->aN,size_toArray->aQ,length_append->aR,getElem?_eq_getElem->aV,mem_cons->aY,map_append->bc,getElem?_append_left->bd,mem_append_left->bg,getElem?_append_right->bq,not_mem_nil->br,length_cons->bw,mem_map_of_mem->bC,range->bD,find?_cons->bX,mem_singleton->bZ,getElem?_replicate->b_,append_nil->cf,all_eq_true->cg,map_map->cn,getElem?_eq_none->cy,length_nil->cB,lookup_cons->cP,length_replicate->cS,foldl_cons->cY,length_singleton->dn,mem_of_getElem?->dA,any_cons->dJ,append_assoc->dQ,extract_eq_drop_take'->dS,mem_append->d_,length_range->eL,map_nil->eZ,nodup_nil->fz,getD_eq_getElem?_getD->fB,take_append_drop->fJ,pairwise_append->gx,map_congr_left->gL,mem_filter->i5,length->iL,perm_ext_iff_of_nodup->iN,getElem_mem->iU,sublist_append_left->jh,forIn_cons->jq,nodup_cons->jv,pairwise_cons->jy,getElem?_cons_succ->jz,mem_map->jQ,take_of_length_le->jR,all_map->jS,mem_iff_getElem?->kz,pairwise_reverse->kA,length_filter_le->kC,any_eq_true->kQ,getElem_map->kR,mem_reverse->kS,nil_append->lF,filterMap_cons->lJ,filterMap_map->ms,forIn_nil->mv,getElem?_eq_some_iff->nj,pairwise_iff_getElem->nl,reverse_perm->nu,any_map->pB,length_zip->pK,replicate->rz,map->rJ,getElem_of_mem->tE,reverse_append->tG,filter_sublist->tH,all_cons->tO,getElem?_drop->uE,zip_cons_cons->uF,set_cons_zero->uG,set_cons_succ->uH,ext_getElem?->vA,pairwise_of_forall_mem_list->vC,length_filterMap_eq_countP->vX,length_take->wt,length_drop->wu,ext_getElem->wv,zipIdx_cons->ww,lookup->wU,of_mem_zip->yp,filter_nil->yt,length_eraseIdx_of_lt->zo,drop_drop->zr,drop_eq_getElem_cons->Ao,length_erase_of_mem->BY,getElem?_cons_zero->C0,pairwise_singleton->C2,reverse_singleton->E9,length_pos_of_mem->Eb,mem_erase_of_ne->FY,getElem?_range->HG,replicate_succ->HL,replicate_zero->HM,lookup_append->Jv,map_inj_right->JA,contains_cons->JC,getElem_range->JD,getElem?_take->JF,any_eq_false->JM,nodup_append->JR,take_add_one->K2,mapM_toArray->K3,getElem_inj->Nj,countP_cons->Nq,map_snd_zip->Nr,cons_append->Nt,zipIdx_nil->NM
open Array renaming length_toList->ao,getElem?_toList->aE,getElem?_eq_getElem->bt,toList_append->c6,getElem?_eq_none->cj,getElem?_eq_some_iff->fw,toList_extract->gd,getElem?_extract->g_,toList_push->i8,getD_eq_getD_getElem?->ii,size_map->jN,eq_empty_of_size_eq_zero->kw,toList_reverse->rh,all_toList->vY,toList_inj->vZ,replicate->wV,toList_setIfInBounds->yH,size_setIfInBounds->As,toArray_toList->Et,append_assoc->Hu,find?_toList->Hw,forIn_toList->HI,size_extract->HJ,toList_zip->K5
open Nat renaming le_refl->ar,lt_of_lt_of_le->aA,ne_of_lt->aD,lt_irrefl->bP,le_trans->bV,le_of_lt->bW,zero_le->cA,lt_or_ge->cG,lt_succ_of_lt->dU,zero_add->dW,lt_succ_self->eC,ne_of_gt->eF,lt_trans->eI,eq_zero_or_pos->fH,le_succ->jL,lt_succ_of_le->jW,not_lt_zero->lO,min_eq_left->lP,add_zero->mi,lt_of_le_of_lt->uK,lt_asymm->vV,le_of_lt_succ->vW,le_succ_of_le->v_,min_le_right->wT,mod_lt->Ap,mul_comm->Eu,succ_pos->Ev,lt_of_succ_lt_succ->Ew,min_self->Ey,add_lt_add_right->HH,le_of_not_lt->ND,le_add_right->NO,reduceLeDiff->N_,reduceEqDiff->O0
open PyProof.Rows renaming wpS_bind->ax,arrOf->aJ,wpS_pure->aL,boot_tuple->bn,pendingOf->bN,Keyed->cq,boot_all->cE,wpS_forRange->cK,SortSt->dX,wpS_mono->e8,slot_tuple_getitem->fF,callWith_type1->gP,seqObj->iR,boot_list->j5,boot_sorted->lD,wpS_get->mf,SortKind->mj,boot_any->nq,wpS_modify->nW,AllBare->pj,StrsAre->pv,wpS_lift->rg,envOfC->s9,failedOf->uS,assignInOrder_cons->wP,mem_zip_self->yJ,minRun'->Ea,mirror->Ex,subscriptTail->Hz,listUpdate_at->HK,subscriptTail_builtinR->JP,IntsAre->JQ,seqEpoch_at->NY
open Bool renaming and_eq_true->aO,false_ne_true->bu,false_eq_true->bv,not_false->iO,not_true->jg,or_eq_true->ju,eq_iff_iff->lC,and_self->nP,beq_eq_decide_eq->qu,and_false->rF,false_or->tP,true_and->tQ,noConfusion->wy,false_and->zm,or_eq_false_iff->FW,not_eq_true'->JY
open PySem.PyData renaming str->aS,eqv->a_,bool->cC,canLayAll0->dE,tuple->dG,eqvAll->eV,list->eW,canLay0->fu,int->gq,depth->oV,depthAll->wA,dict->E8
open PySem.Value renaming ref->bj,none->dI,type->iB,str->jx,int->nR,isStrOf->tj,bool->Ht
open PySem.Heap.SameBut renaming update->bG
open Option.some renaming inj->bI,injEq->BX
open PySem.NameKind renaming free->ck,cell->dB,«local»->pA
open PySem.SetTable renaming sizeAbove->cm,grown->i9,below->ic,fits->mw,bits->mz,turns->pz,layClean->tw,laid->yq,orStandIn->E5,relaid->HC,fill->JZ,road->J_
open PySem.Builtin.SmallTypes renaming nextOf->cw,ownedTupleIsFree->eu,ownedTupleHandOut->my
open Option renaming map_some->cH,getD_none->gI,getD_some->kg,isSome_map->uD,bind_some->vB,isSome_some->FT
open Ne renaming symm->cQ
open PySem.SetTable.layClean renaming free->dq
open PySem.Obj renaming mapFields->dR,mapSeq->gE,putSet->pI,data_mapFields->JX
open Int renaming toNat_of_nonneg->dY,toNat_natCast->jV,emod_lt_of_pos->mV,emod_nonneg->qv,reduceLT->Ez
open List.Sublist renaming refl->eB
open PySem.Around renaming under_plainId->eE
open PySem.F renaming slot_dict_keyiterator_next->fc,slot_tuple_iterator_next->iX,args_tuple_add_2->mS,entry_tuple_add->nr,slot_tuple_add->nU,plain_list_iadd->oU,args_dict_keyiterator_next_1->rf,slot_zip_next->rA,entry_dict_keyiterator_next->rG,slot_tuple_lt->rH,slot_list_append->yE,type_list_append->yF,plainAttrs_list->zq,args_tuple_iterator_next_1->Aq,slot_dict_iter->At,entry_tuple_iterator_next->BW,entry_proto_collect->Jx,plain_proto_collect->Jy,slot_enumerate_next->Jz
open Or renaming inr->ft,inl->iT
open ForInStep renaming yield->fA
open PySem.AutoSeq1 renaming wpAny_loadPart'->fO
open PySem.Str renaming ofString->gy
open Sum renaming inr->hV,inl->vR
open PySem.Builtin.Slice renaming slicePlaces->i3,sliceAdjust->kX,sliceApplied->tM
open PyProof.Rows.F renaming plain_set_update_loop->i4,entry_set_update_loop->nN
open PySem.Builtin.Tuple renaming tupleExact->io,tupleItemsOf->tN
open False renaming elim->iD
open True renaming intro->iK
open PySem.Paired renaming length->j0
open PySem.Builtin.Frozenset renaming updateFrom->jt,isAnySet->re,sizeOf->sf,copyOf->sg,newClass->NG,oneOther->NQ,addrOf->NR,slot1->NS,baseOf->NT,merge->NU,unchanged->NV
open PySem.Builtin.List renaming listExtendWith->ke,listSameRef->vz
open PySem.Heap.FunFrames renaming mem->kf
open PySem.Builtin.Dict_items renaming ownsTuple->lE
open PySem.Calls renaming call_function_entry->mT,Name_function_global->yv,evalArgs_plain->Ej
open List.Perm renaming trans->nQ,of_eq->FX
open List.Pairwise renaming nil->pG
open And renaming intro->tF
open PySem.PassesOwn renaming never->uR
open List.cons renaming injEq->uT,inj->wW
open PyProof.Rows.IsTup renaming new->vT
open Classical renaming propDecidable->yr
open PySem.pickOrder renaming go->yA
open PySem.SetTable.below renaming go->yC
open PySem.SeqAt.EqAt renaming int_str->BS,str_int->BU
open PySem.Shared renaming heap->E7,TypeIs->NH
open PySem.Value.type renaming inj->FV
open PySem.Walks renaming list->HD
open Eq renaming refl->NX
section
namespace L2
open PySem PySem.Spec PyProof.Rows
abbrev fD:=Sum Int Str
def wX:fD->aa->Bool
 | .inl k,v=>Value.isInt k v
 | .inr x,v=>tj x v
def V6 (w:aZ):fD->Int
 | .inl k=>hashInt k
 | .inr x=>hashStr w x
theorem eS:∀ {k:fD}{v:aa},wX k v=true->(∃ i t,k=vR i/\v=nR i t)\/(∃ x t,k=hV x/\v=jx x t)
 | .inl i,v,h=>by
  obtain ⟨t,e⟩:=Value.isInt_shape (k:=i) (v:=v) h
  exact .inl ⟨i,t,rfl,e⟩
 | .inr x,v,h=>by
  obtain ⟨t,e⟩:=Value.isStrOf_shape (x:=x) (v:=v) h
  exact .inr ⟨x,t,rfl,e⟩
theorem HN (i:Int) (t:Tok):wX (.inl i) (.int i t)=true:=by simp [wX,Value.isInt]
theorem HQ (x:Str) (t:Tok):wX (.inr x) (.str x t)=true:=by simp [wX,tj]
theorem QM (a b:Int):decide ((vR a:fD)=vR b)=(a == b):=by
 by_cases e:a=b
 ·subst e;simp
 ·have h:¬ (vR a:fD)=vR b:=fun q=>e (Sum.inl.inj q)
  rw [decide_eq_false h]
  exact (beq_eq_false_iff_ne.mpr e).symm
theorem QN (a b:Str):decide ((hV a:fD)=hV b)=decide (a=b):=by
 by_cases e:a=b
 ·subst e;simp
 ·have h:¬ (hV a:fD)=hV b:=fun q=>e (Sum.inr.inj q)
  rw [decide_eq_false h,decide_eq_false e]
theorem QO (a:Int) (b:Str):decide ((vR a:fD)=hV b)=false:=decide_eq_false (fun q=>nomatch q)
theorem QP (a:Str) (b:Int):decide ((hV a:fD)=vR b)=false:=decide_eq_false (fun q=>nomatch q)
def fS (prog:aH) (w:aZ):PySem.KeyKind prog w fD where
 is:=wX
 hash:=V6 w
 inj:=fun v a b ha hb=>by
  rcases eS ha with ⟨i,t,rfl,rfl⟩ | ⟨x,t,rfl,rfl⟩
  ·rcases eS hb with ⟨j,u,rfl,e⟩ | ⟨y,u,rfl,e⟩
   ·injection e with e1 _;rw [e1]
   ·exact nomatch e
  ·rcases eS hb with ⟨j,u,rfl,e⟩ | ⟨y,u,rfl,e⟩
   ·exact nomatch e
   ·injection e with e1 _;rw [e1]
 byValue:=fun k v h=>by
  rcases eS h with ⟨i,t,rfl,rfl⟩ | ⟨x,t,rfl,rfl⟩<;>rfl
 pyHash:=fun hv h=>by
  rcases eS hv with ⟨i,t,rfl,rfl⟩ | ⟨x,t,rfl,rfl⟩
  ·exact wpAny_pyHash_int h
  ·exact wpAny_pyHash_str h
 eqBool:=fun hu hv h=>by
  rcases eS hu with ⟨i,t,rfl,rfl⟩ | ⟨x,t,rfl,rfl⟩
  ·rcases eS hv with ⟨j,u,rfl,rfl⟩ | ⟨y,u,rfl,rfl⟩
   ·rw [QM] at h;exact wpAny_eqBool_int h
   ·rw [QO] at h;exact BS i t y u _ _ _ _ h
  ·rcases eS hv with ⟨j,u,rfl,rfl⟩ | ⟨y,u,rfl,rfl⟩
   ·rw [QP] at h;exact BU x t j u _ _ _ _ h
   ·rw [QN] at h;exact Am h
 «strs»:=fun k x t v h=>by
  rcases eS h with ⟨i,u,rfl,e⟩ | ⟨y,u,rfl,e⟩
  ·exact nomatch e
  ·injection e with e1 _
   subst e1
   cases v<;>rfl
theorem C3 (prog:aH) (w:aZ) (i:Int) (t:Tok):(fS prog w).is (.inl i) (.int i t)=true:=HN i t
theorem C4 (prog:aH) (w:aZ) (x:Str) (t:Tok):(fS prog w).is (.inr x) (.str x t)=true:=HQ x t
end L2
namespace L2
open PySem PySem.Spec PyProof.Rows
inductive V where
 | non | bl (b:Bool) | int (i:Int) | str (x:Str) | byt (b:Array UInt8) | flt (b:UInt64) | ref (a:ai) | ty (n:String)
 deriving DecidableEq
def dg:V->aa->Prop
 | .non,u=>u=dI
 | .bl b,u=>u=Ht b
 | .int i,u=>∃ t,u=nR i t
 | .str x,u=>∃ t,u=jx x t
 | .byt b,u=>∃ t,u=Value.bytes b t
 | .flt b,u=>∃ t,u=Value.float b t
 | .ref a,u=>u=bj a
 | .ty n,u=>u=iB n
abbrev du:List V->List aa->Prop:=Ee dg
theorem du.length {xs:List V}{us:List aa} (r:du xs us):xs.length=us.length:=j0 r
theorem du.get {xs:List V}{us:List aa} (h:du xs us):∀ {i:Nat}{x:V},xs[i]?=some x->∃ u,us[i]?=some u/\dg x u:=by
 induction h with
 | nil=>intro i x e;cases e
 | cons r t ih =>
  intro i x e
  cases i with
  | zero=>cases e;exact ⟨_,rfl,r⟩
  | succ i=>have q:=ih (i:=i) e;exact q
theorem du.append {xs ys:List V}{us ws:List aa} (h:du xs us) (s:du ys ws):du (xs++ys) (us++ws):=by
 induction h with
 | nil=>exact s
 | cons r t ih=>exact .cons r ih
theorem du.take:∀ {xs:List V}{us:List aa} (n:Nat),du xs us->du (xs.take n) (us.take n)
 | _,_,0,_=>.nil
 | _,_,_ + 1,.nil=>.nil
 | _,_,n + 1,.cons r t=>.cons r (du.take n t)
theorem du.drop:∀ {xs:List V}{us:List aa} (n:Nat),du xs us->du (xs.drop n) (us.drop n)
 | _,_,0,r=>r
 | _,_,_ + 1,.nil=>.nil
 | _,_,n + 1,.cons _ t=>du.drop n t
def wY:Option V->Option aa->Prop
 | some v,some u=>dg v u
 | none,none=>True
 | _,_=>False
def KV {κ:Type}:List (κ×V)->List (κ×aa)->Prop:=Ee fun (p:κ×V) (q:κ×aa)=>p.1=q.1/\dg p.2 q.2
def kV:fD->V
 | .inl i=>.int i
 | .inr x=>.str x
inductive HO where
 | lst (xs:List V)
 | tup (xs:List V)
 | dK (kvs:List (fD×V)) | dT (kvs:List (List fD×V))
 | set (S:Int->Bool) (n:Nat)
 | ins (C dx:ai) (fs:List (Str×V))
 | own (x:ai)
 | xd (fs:List (Str×V))
 | met (f x:ai)
 | rng (lo hi:Int)
 | frz (o:Obj) (u:HO)
 | tbl (ps:Array aa)
 | ext (φ:bB->Prop)
abbrev Hp:=ai->Option HO
def upd (H:Hp) (a:ai) (o:HO):Hp:=fun b=>if b=a then some o else H b
theorem b9 {H:Hp}{a:ai}{o:HO}:upd H a o a=some o:=by unfold upd;rw [if_pos rfl]
theorem bf {H:Hp}{a b:ai}{o:HO} (h:b≠a):upd H a o b=H b:=by unfold upd;rw [if_neg h]
theorem K6 {H:Hp}{a b:ai}{o u:HO} (h:H a=some o) (h':H b=some u) (d:o≠u):a≠b:=by
 intro e;subst e;rw [h] at h';exact d (bI h')
theorem bR {H:Hp}{a b:ai}{o:HO} (h:H a=some o) (h':H b=none):a≠b:=by
 intro e;subst e;rw [h] at h';cases h'
section
variable (P:aH) (w:aZ)
def c_ (H:Hp) (h:bB) (a:ai):HO->Prop
 | .lst xs=>xs.length<=sizeLine/\∃ (its:List aa) (n:Nat),du xs its/\h.get? a=some { cls:=.type "list",data:=.seq its.toArray n }
 | .tup xs=>xs.length<=sizeLine/\∃ its:List aa,du xs its/\IsTup h a its.toArray
 | .dK kvs=>kvs.length<=sizeLine/\(a == eJ)=false/\∃ vs,KV kvs vs/\h.DictOf (fS P w) a vs
 | .dT kvs=>kvs.length<=sizeLine/\(a == eJ)=false/\∃ xs:List (List fD×ai×aa),
   Ee (fun (p:List fD×V) (q:List fD×ai×aa)=>p.1=q.1/\H q.2.1=some (.tup (p.1.map kV))/\dg p.2 q.2.2) kvs xs /\
   ∃ o es ep,h.get? a=some o/\o.ExactDict/\o.data=.dict es ep/\es.toList=xs.map (entryOfKey (r9 (fS P w)))/\(xs.map (·.1)).Nodup
 | .set S n=>h.SetOf (intKind P w) a S n
 | .ins C dx fs=>H dx=some (.own a)/\fs.length<=1000/\dx≠a/\h.get? a=some (vS C dx) /\
   ∃ mA,h.Ns1 dx mA/\(∀ f,wY (fs.lookup f) (mA f))/\PySem.Within mA (fs.map (·.1))
 | .own _=>∃ o,h.get? a=some o
 | .xd fs=>∃ mA,h.Ns1 a mA/\∀ f,wY (fs.lookup f) (mA f)
 | .rng lo hi=>∃ t u v,h.get? a=some { cls:=.type "range",data:=.fields #[.int lo t,.int hi u,.int 1 v] }
 | .frz o u=>h.get? a=some o/\c_ H h a u
 | .tbl ps=>h.get? a=some { cls:=.none,data:=.fields ps }
 | .met f x=>h.get? a=some (tK (.ref f) (.ref x))
 | .ext φ=>φ h/\(∃ o,h.get? a=some o)/\∀ h1 h2:bB,φ h1->(∀ o,h1.get? a=some o->h2.get? a=some o)->φ h2
def pd (H:Hp) (h:bB):Prop:=∀ a o,H a=some o->c_ P w H h a o
end
section
variable {P:aH}{w:aZ}{H H':Hp}{h h':bB}{a:ai}{o:HO}
theorem c_.lt (x:c_ P w H h a o):a<h.objs.size:=by
 cases o with
 | lst xs=>obtain ⟨_,_,_,_,e⟩:=x;exact aq e
 | tup xs=>obtain ⟨_,_,_,p⟩:=x;exact p.lt
 | dK kvs=>obtain ⟨_,_,_,_,o,_,_,e,_⟩:=x;exact aq e
 | dT kvs=>obtain ⟨_,_,_,_,o,_,_,e,_⟩:=x;exact aq e
 | set S n=>obtain ⟨o,_,_,_,e,_⟩:=x;exact aq e
 | ins C dx fs=>obtain ⟨_,_,_,e,_⟩:=x;exact aq e
 | own y=>obtain ⟨_,e⟩:=x;exact aq e
 | xd fs=>obtain ⟨_,⟨_,_,_,e,_⟩,_⟩:=x;exact aq e
 | rng lo hi=>obtain ⟨_,_,_,e⟩:=x;exact aq e
 | frz ob u=>obtain ⟨e,_⟩:=x;exact aq e
 | tbl ps=>exact aq (show h.get? a=some _ from x)
 | met f y=>exact aq (show h.get? a=some _ from x)
 | ext φ=>obtain ⟨_,⟨_,e⟩,_⟩:=x;exact aq e
theorem Paired.mapP {α β:Type}{F G:α->β->Prop}{l₁:List α}{l₂:List β} (h:Ee F l₁ l₂) (f:∀ a b,F a b->G a b):Ee G l₁ l₂:=by
 induction h with
 | nil=>exact .nil
 | cons r t ih=>exact .cons (f _ _ r) ih
theorem c_.stay (x:c_ P w H h a o) (k:∀ b u,(b=a\/H b=some (.own a))->h.get? b=some u->h'.get? b=some u)
  (ho:∀ b,H b=some (.own a)->H' b=some (.own a)) (ht:∀ b xs,H b=some (.tup xs)->H' b=some (.tup xs)):c_ P w H' h' a o:=by
 induction o with
 | lst xs=>obtain ⟨z,its,n,r,e⟩:=x;exact ⟨z,its,n,r,k _ _ (.inl rfl) e⟩
 | tup xs=>obtain ⟨z,its,r,ob,e,c⟩:=x;exact ⟨z,its,r,ob,k _ _ (.inl rfl) e,c⟩
 | dK kvs=>obtain ⟨z,y,vs,r,ob,es,ep,e,c⟩:=x;exact ⟨z,y,vs,r,ob,es,ep,k _ _ (.inl rfl) e,c⟩
 | dT kvs =>
  obtain ⟨z,y,xs,r,ob,es,ep,e,c⟩:=x
  exact ⟨z,y,xs,Paired.mapP r fun p q z=>⟨z.1,ht _ _ z.2.1,z.2.2⟩,ob,es,ep,k _ _ (.inl rfl) e,c⟩
 | set S n=>obtain ⟨ob,es,ep,t,e,c⟩:=x;exact ⟨ob,es,ep,t,k _ _ (.inl rfl) e,c⟩
 | ins C dx fs =>
  obtain ⟨d,z,ne,e,mA,⟨od,es,ep,e2,c⟩,r⟩:=x
  exact ⟨ho _ d,z,ne,k _ _ (.inl rfl) e,mA,⟨od,es,ep,k _ _ (.inr d) e2,c⟩,r⟩
 | own y=>obtain ⟨ob,e⟩:=x;exact ⟨ob,k _ _ (.inl rfl) e⟩
 | xd fs=>obtain ⟨mA,⟨od,es,ep,e,c⟩,r⟩:=x;exact ⟨mA,⟨od,es,ep,k _ _ (.inl rfl) e,c⟩,r⟩
 | rng lo hi=>obtain ⟨t,u,v,e⟩:=x;exact ⟨t,u,v,k _ _ (.inl rfl) e⟩
 | frz ob u ih=>obtain ⟨e,q⟩:=x;exact ⟨k _ _ (.inl rfl) e,ih q⟩
 | tbl ps =>
  have e:h.get? a=some { cls:=.none,data:=.fields ps }:=x
  show h'.get? a=some { cls:=.none,data:=.fields ps }
  exact k a _ (.inl rfl) e
 | met f y =>
  have e:h.get? a=some (tK (.ref f) (.ref y)):=x
  show h'.get? a=some (tK (.ref f) (.ref y))
  exact k a _ (.inl rfl) e
 | ext φ=>obtain ⟨p,⟨o,e⟩,st⟩:=x;exact ⟨st _ _ p fun o q=>k _ _ (.inl rfl) q,⟨o,k _ _ (.inl rfl) e⟩,st⟩
theorem pd.lt (x:pd P w H h) (e:H a=some o):a<h.objs.size:=(x a o e).lt
theorem pd.fresh (x:pd P w H h) (e:h.objs.size<=a):H a=none:=by
 cases q:H a with
 | none=>rfl
 | some u=>exact absurd (aA (x.lt q) e) (bP _)
theorem pd.kept (x:pd P w H h) (k:∀ b u,h.get? b=some u->h'.get? b=some u):pd P w H h':=fun a o e =>
 (x a o e).stay (fun b u _ q=>k b u q) (fun _ q=>q) fun _ _ q=>q
theorem pd.laid (x:pd P w H h) (k:∀ b u,h.get? b=some u->h'.get? b=some u) (hp:h.objs.size<=a) (new:c_ P w (upd H a o) h' a o):pd P w (upd H a o) h':=fun b u e=>by
 have hn:=x.fresh hp
 by_cases hb:b=a
 ·subst hb;rw [b9] at e;cases e;exact new
 ·rw [bf hb] at e
  exact (x b u e).stay (fun c v _ q=>k c v q) (fun c q=>by rw [bf (bR q hn)];exact q) fun c xs q=>by rw [bf (bR q hn)];exact q
end
def Rd (H:Hp) (a:ai) (u:HO):Prop:=H a=some u\/∃ o,H a=some (.frz o u)
theorem Rd.of {H:Hp}{a:ai}{u:HO} (h:H a=some u):Rd H a u:=.inl h
theorem Rd.ok {P:aH}{w:aZ}{H:Hp}{h:bB}{a:ai}{u:HO} (r:Rd H a u) (x:pd P w H h):c_ P w H h a u:=by
 rcases r with r | ⟨o,r⟩
 ·exact x a u r
 ·obtain ⟨_,q⟩:=x a _ r
  exact q
def SC:Option HO->Prop
 | some (.lst _)=>True
 | some (.dK _)=>True
 | some (.dT _)=>True
 | some (.set _ _)=>True
 | some (.ins _ _ _)=>True
 | some (.ext _)=>True
 | _=>False
section
variable {P:aH}{w:aZ}{H:Hp}{h h':bB}{x e:ai}{o':HO}
theorem pd.write (ok:pd P w H h) (mu:SC (H x)) (he:e=x\/H e=some (.own x)) (k:∀ b u,b≠e->h.get? b=some u->h'.get? b=some u) (heo:∃ u,h'.get? e=some u)
  (new:c_ P w (upd H x o') h' x o'):pd P w (upd H x o') h':=fun b u q=>by
 have nown:∀ c y,H c=some (.own y)->c≠x:=fun c y r z=>by subst z;rw [r] at mu;exact mu
 have ntup:∀ c xs,H c=some (.tup xs)->c≠x:=fun c xs r z=>by subst z;rw [r] at mu;exact mu
 by_cases hb:b=x
 ·subst hb;rw [b9] at q;cases q;exact new
 ·rw [bf hb] at q
  by_cases hbe:b=e
  ·have q':H b=some (.own x):=by
    rcases he with z | z
    ·exact absurd (hbe.trans z) hb
    ·rw [hbe];exact z
   rw [q] at q';cases q'
   obtain ⟨v,hv⟩:=heo
   exact ⟨v,by rw [hbe];exact hv⟩
  ·refine (ok b u q).stay (fun c v hc r=>k c v ?_ r) (fun c r=>by rw [bf (nown c b r)];exact r) fun c xs r=>by rw [bf (ntup c xs r)];exact r
   rcases hc with rfl | hc
   ·exact hbe
   ·rintro rfl
    rcases he with z | z
    ·exact nown c b hc z
    ·rw [hc] at z;cases z;exact hb rfl
end
structure Un (fs ex:List ai) (H H':Hp) (h h':bB):Prop where
 keep:∀ b o,h.get? b=some o->H b=none->b∉fs->b∉ex->h'.get? b=some o
 slot:∀ b o,h.get? b=some o->H b=none->b∈fs->b∉ex->∃ sl,h'.get? b=some { o with slots:=sl }
 free:∀ b o,h.get? b=some o->H b=none->b∉ex->H' b=none
 there:∀ b o,h.get? b=some o->b∉ex->∃ o',h'.get? b=some o'
 tups:∀ b xs,H b=some (.tup xs)->H' b=some (.tup xs)
 frzs:∀ b o u,H b=some (.frz o u)->H' b=some (.frz o u)
 tbls:∀ b ps,H b=some (.tbl ps)->∃ more,H' b=some (.tbl (ps++more))
section
variable {fs fs' ex ex':List ai}{H H1 H2:Hp}{h h1 h2 h':bB}{a x e:ai}{o:HO}
theorem Un.any (u:Un fs ex H H1 h h1) {b:ai}{ob:Obj} (q:h.get? b=some ob) (n:H b=none) (hx:b∉ex):∃ sl,h1.get? b=some { ob with slots:=sl }:=by
 by_cases hb:b∈fs
 ·exact u.slot b ob q n hb hx
 ·exact ⟨ob.slots,u.keep b ob q n hb hx⟩
theorem Un.kept (k:∀ b u,h.get? b=some u->h'.get? b=some u):Un fs ex H H h h' :=
 ⟨fun b ob q _ _ _=>k b ob q,fun b ob q _ _ _=>⟨ob.slots,k b ob q⟩,fun _ _ _ n _=>n,fun b ob q _=>⟨ob,k b ob q⟩,fun _ _ q=>q,fun _ _ _ q=>q,fun _ ps q=>⟨#[],by rw [q];simp⟩⟩
theorem Un.refl:Un fs ex H H h h:=Un.kept fun _ _ q=>q
theorem Un.laid (k:∀ b u,h.get? b=some u->h'.get? b=some u) (hp:h.objs.size<=a) (hn:H a=none):Un fs ex H (upd H a o) h h' where
 keep:=fun b u q _ _ _=>k b u q
 slot:=fun b u q _ _ _=>⟨u.slots,k b u q⟩
 free:=fun b u q n _=>by rw [bf (aD (aA (aq q) hp))];exact n
 there:=fun b u q _=>⟨u,k b u q⟩
 tups:=fun b xs q=>by rw [bf (bR q hn)];exact q
 frzs:=fun b u xs q=>by rw [bf (bR q hn)];exact q
 tbls:=fun b ps q=>⟨#[],by rw [bf (bR q hn),q];simp⟩
theorem Un.write (mu:SC (H x)) (he:e=x\/H e=some (.own x)) (k:∀ b u,b≠e->h.get? b=some u->h'.get? b=some u) (heo:∃ u,h'.get? e=some u):Un fs ex H (upd H x o) h h':=by
 have hx:∀ b,H b=none->b≠x:=fun b n z=>by subst z;rw [n] at mu;exact mu
 have hb:∀ b,H b=none->b≠e:=fun b n z=>by
  subst z
  rcases he with r | r
  ·exact hx b n r
  ·rw [n] at r;cases r
 have hm:∀ b u,H b=some u->¬ SC (some u)->b≠x:=fun b u q nm z=>by subst z;rw [q] at mu;exact nm mu
 refine ⟨fun b u q n _ _=>k b u (hb b n) q,fun b u q n _ _=>⟨u.slots,k b u (hb b n) q⟩,fun b u q n _=>by rw [bf (hx b n)];exact n,fun b u q _=>?_,
  fun b xs q=>by rw [bf (hm b _ q fun z=>z)];exact q,fun b u xs q=>by rw [bf (hm b _ q fun z=>z)];exact q,fun b ps q=>⟨#[],by rw [bf (hm b _ q fun z=>z),q];simp⟩⟩
 by_cases hbe:b=e
 ·subst hbe;exact heo
 ·exact ⟨u,k b u hbe q⟩
end
def UP (h:bB) (H:Hp):List ai:=(bD h.objs.size).filter fun a=>(H a).isSome
def Au (h:bB) (H:Hp):bB:=Jo h (UP h H)
theorem HR (h:bB) (H:Hp):(Au h H).objs.size=h.objs.size:=PySem.W.hideAll_size _ _
theorem K7 {h:bB}{H:Hp}{b:ai}{o:Obj} (e:h.get? b=some o) (n:H b=none):(Au h H).get? b=some o :=
 E4 _ e fun hm=>by
  have q:(H b).isSome=true:=(List.mem_filter.mp hm).2
  rw [n] at q;simp at q
theorem O1 {h:bB}{H:Hp}{b:ai}{o:Obj} (e:(Au h H).get? b=some o):h.get? b=some o/\H b=none:=by
 have e':h.get? b=some o:=Ef (UP h H) e
 refine ⟨e',?_⟩
 cases q:H b with
 | none=>rfl
 | some x =>
  have hm:b∈UP h H:=List.mem_filter.mpr ⟨List.mem_range.mpr (aq e'),by simp [q]⟩
  have z:(Au h H).get? b=none:=PySem.W.hideAll_none (UP h H) hm
  rw [z] at e;cases e
def O3 (g h:bB) (L:ai):List (ai×Obj):=(bD h.objs.size).filterMap fun a=>if a=L\/(g.get? a).isSome=true then none else (h.get? a).map fun o=>(a,o)
def bS (g h:bB) (L d:ai):List (ai×Obj):=(O3 g h L).filter fun p=>decide (p.1≠d)
end L2
namespace L2
open PySem PySem.Spec PyProof.Rows
structure Mod (K:a8) (mg:Str->Option aa) (base:bB):Prop where
 kin:K.In base
 glob:base.Ns bL mg
 blt:∃ mb,base.Ns builtinsNs mb/\∀ x:Str,x≠"__name__"->mb x=il x
 nolimit:base.NoLimit
structure Cx where
 prog:aH
 w:aZ
 K:a8
 mg:Str->Option aa
 base:bB
 A:aU
 N:List Str
 s₀:ae
 H₀:Hp
 env:Env
 outer:List Env
 stack:List Env
 ex:List ai
 fn:Str->Bool
 calm:Bool
 pn:List (ai×Obj)
 xe:aa->ae->Prop
def rK (l:List Env):List ai:=l.filterMap (·.frame)
abbrev Cx.fs (X:Cx):List ai:=rK X.outer
def O4 (sc:fZ) (x:Str):Prop:=sc.names.lookup x=some .local\/sc.names.lookup x=some .cell\/sc.names.lookup x=some .free
def Py (sc:fZ) (x:Str):Prop:=sc.names.lookup x=some .local\/sc.names.lookup x=some .cell
def V7 (env:Env) (h:bB) (m:Str->Option aa) (x:Str) (u:aa):Prop :=
 (env.kindOf x=some .local/\m x=some u)\/((env.kindOf x=some .cell\/env.kindOf x=some .free)/\∃ c,env.cells.lookup x=some c/\h.IsCell c (some u))
structure Cx.Ok (X:Cx):Prop where
 mod:Mod X.K X.mg X.base
 kind:X.env.scope.kind=.function
 glob:X.env.globals=bL
 blt:X.env.builtins=builtinsNs
 above:X.s₀.heap.objs.size<=X.env.locals
 inj:∀ x y c,X.env.cells.lookup x=some c->X.env.cells.lookup y=some c->x=y
 has:∀ x,(X.env.kindOf x=some .cell\/X.env.kindOf x=some .free)->∃ c,X.env.cells.lookup x=some c
 cab:∀ x c,X.fn x=true->X.env.cells.lookup x=some c->X.s₀.heap.objs.size<=c
 hd:X.calm=true->X.A.handled=none
 frames:X.A.frames=some X.stack
 stk:X.stack=X.outer\/(X.stack=X.env::X.outer/\X.env.frame=some X.env.locals)
 exf:∀ b∈X.ex,b≠X.env.locals/\∀ x c,X.env.cells.lookup x=some c->c≠b
 bs:∀ b o,X.base.get? b=some o->X.s₀.heap.get? b=some o/\X.H₀ b=none
 bsz:X.base.objs.size<=X.s₀.heap.objs.size
 noex:∀ b o,X.base.get? b=some o->b∉X.ex
 exfs:∀ b∈X.ex,b∉X.fs
 funs:X.s₀.heap.FunFrames X.base X.outer
 frf:∀ b∈X.fs,X.H₀ b=none
structure bQ (X:Cx) (pins:List (ai×Obj)) (σ:List (Option V)) (H:Hp) (s:ae):Prop where
 ok:X.Ok
 os:s.os=X.s₀.os
 bare:pj s.gens
 base:Un X.fs X.ex X.H₀ H X.s₀.heap s.heap
 loc:∃ m,s.heap.Ns X.env.locals m/\∀ (i:Nat) (x:Str) (v:V),X.N[i]?=some x->σ[i]?=some (some v)->O4 X.env.scope x->∃ u,dg v u/\V7 X.env s.heap m x u
 cell:∀ x c,X.env.cells.lookup x=some c->∃ v,s.heap.IsCell c v
 free:H X.env.locals=none
 freeC:∀ x c,X.env.cells.lookup x=some c->H c=none
 pin:∀ p∈X.pn++pins,s.heap.get? p.1=some p.2/\H p.1=none/\p.1≠X.env.locals/\p.1∉X.fs/\∀ v,p.2.data≠.cell v
 hok:pd X.prog X.w H s.heap
 len:σ.length=X.N.length
section
variable {X:Cx}{pins:List (ai×Obj)}{σ:List (Option V)}{H H':Hp}{s:ae}{h':bB}
theorem Cx.Ok.nofr (ok:X.Ok) {b:ai}{o:Obj} (e:X.base.get? b=some o):b∉X.fs:=fun hb=>by
 have:=(ok.funs.mem hb).1
 rw [e] at this;cases this
theorem bQ.bs (I:bQ X pins σ H s):∀ b o,X.base.get? b=some o->s.heap.get? b=some o/\H b=none:=fun b o e =>
 ⟨I.base.keep b o (I.ok.bs b o e).1 (I.ok.bs b o e).2 (I.ok.nofr e) (I.ok.noex b o e),I.base.free b o (I.ok.bs b o e).1 (I.ok.bs b o e).2 (I.ok.noex b o e)⟩
theorem bQ.bk (I:bQ X pins σ H s):∀ b o,X.base.get? b=some o->s.heap.get? b=some o:=fun b o e=>(I.bs b o e).1
theorem bQ.mod (I:bQ X pins σ H s):Mod X.K X.mg X.base:=I.ok.mod
theorem bQ.kIn (I:bQ X pins σ H s):X.K.In s.heap:=I.ok.mod.kin.keeps I.bk
theorem bQ.fr (I:bQ X pins σ H s):∃ m,Fr X.base X.env.locals s.heap m :=
 let ⟨m,hn,_⟩:=I.loc
 ⟨m,hn,I.bk,bV I.ok.bsz I.ok.above⟩
theorem bQ.lt (I:bQ X pins σ H s):X.env.locals<s.heap.objs.size:=let ⟨_,hn,_⟩:=I.loc;hn.lt
theorem bQ.sz (I:bQ X pins σ H s):X.s₀.heap.objs.size<=s.heap.objs.size:=bV I.ok.above (bW I.lt)
theorem bQ.nofs (I:bQ X pins σ H s) {a:ai} (h:s.heap.objs.size<=a):a∉X.fs:=fun hb=>by
 obtain ⟨_,o,ho,_⟩:=I.ok.funs.mem hb
 exact absurd (aA (aq ho) (bV I.sz h)) (bP _)
theorem bQ.cne (I:bQ X pins σ H s):∀ x c,X.env.cells.lookup x=some c->c≠X.env.locals:=fun x c e z=>by
 obtain ⟨v,o,ho,hd⟩:=I.cell x c e
 obtain ⟨m,⟨o',es,ep,ho',hd',_⟩,_⟩:=I.loc
 rw [z,ho'] at ho;cases ho;rw [hd'] at hd;cases hd
theorem bQ.funs (I:bQ X pins σ H s):s.heap.FunFrames X.base X.outer:=by
 have all:∀ (l:List Env),(∀ b∈rK l,b∈X.fs)->X.s₀.heap.FunFrames X.base l->s.heap.FunFrames X.base l:=by
  intro l
  induction l with
  | nil=>intro _ _;trivial
  | cons env r ih =>
   intro hs hl
   obtain ⟨hk,⟨L,o,hf,hn,ho,hd⟩,hr⟩:=hl
   have hL:L∈X.fs:=hs L (by unfold rK;rw [lJ,hf];exact am)
   obtain ⟨sl,e⟩:=I.base.slot L o ho (I.ok.frf L hL) hL fun z=>I.ok.exfs L z hL
   exact ⟨hk,⟨L,_,hf,hn,e,hd⟩,ih (fun b hb=>hs b (by unfold rK;rw [lJ,hf];exact ah _ hb)) hr⟩
 exact all X.outer (fun _ hb=>hb) I.ok.funs
theorem bQ.stack (I:bQ X pins σ H s):s.heap.FunFrames X.base X.stack:=by
 rcases I.ok.stk with e | ⟨e,hf⟩
 ·rw [e];exact I.funs
 ·rw [e]
  obtain ⟨m,hn,_⟩:=I.loc
  refine .cons (by rw [I.ok.kind];decide) hf hn ?_ I.funs
  exact Heap.get?_none_of_le (bV I.ok.bsz I.ok.above)
theorem bQ.stkSub (I:bQ X pins σ H s):∀ b∈rK X.stack,b∈X.env.locals::X.fs:=fun b hb=>by
 rcases I.ok.stk with e | ⟨e,hf⟩
 ·rw [e] at hb;exact ah _ hb
 ·rw [e] at hb
  unfold rK at hb
  rw [lJ,hf] at hb
  exact hb
theorem bQ.stkFree (I:bQ X pins σ H s):∀ b∈rK X.stack,H b=none:=fun b hb=>by
 rcases List.mem_cons.mp (I.stkSub b hb) with e | hb
 ·rw [e];exact I.free
 ·obtain ⟨_,o,ho,_⟩:=I.ok.funs.mem hb
  exact I.base.free b o ho (I.ok.frf b hb) fun z=>I.ok.exfs b z hb
theorem bQ.step {g':Array Eg}{t':Nat}{d':Jp}{ch:List ai} (I:bQ X pins σ H s)
  (hch:∀ b∈ch,(b∈X.ex\/X.s₀.heap.objs.size<=b)/\b≠X.env.locals/\(∀ x c,X.env.cells.lookup x=some c->c≠b)/\∀ p∈X.pn++pins,p.1≠b)
  (keep:∀ b o,b≠X.env.locals->b∉X.fs->b∉ch->s.heap.get? b=some o->H b=none->h'.get? b=some o)
  (slot:∀ b o,b≠X.env.locals->b∈X.fs->b∉ch->s.heap.get? b=some o->H b=none->∃ sl,h'.get? b=some { o with slots:=sl }) (free:∀ b o,b∉ch->s.heap.get? b=some o->H b=none->H' b=none)
  (there:∀ b o,b∉ch->s.heap.get? b=some o->∃ o',h'.get? b=some o')
  (tups:∀ b xs,H b=some (.tup xs)->H' b=some (.tup xs)) (frzs:∀ b o u,H b=some (.frz o u)->H' b=some (.frz o u)) (tbls:∀ b ps,H b=some (.tbl ps)->∃ more,H' b=some (.tbl (ps++more)))
  (ns:∀ m,s.heap.Ns X.env.locals m->h'.Ns X.env.locals m) (hok:pd X.prog X.w H' h') (hg:pj g') :
  bQ X pins σ H' { s with heap:=h',gens:=g',drawn:=d',toks:=t' }:=by
 have neL:∀ b o,X.s₀.heap.get? b=some o->b≠X.env.locals:=fun b o e=>aD (aA (aq e) I.ok.above)
 have neC:∀ b o,X.s₀.heap.get? b=some o->b∉X.ex->b∉ch:=fun b o e hx hb=>by
  rcases (hch b hb).1 with z | z
  ·exact hx z
  ·exact absurd (aA (aq e) z) (bP _)
 have cellK:∀ x c,X.env.cells.lookup x=some c->∀ v,s.heap.IsCell c v->h'.IsCell c v:=fun x c e v h_0=>by
  obtain ⟨o,ho,hd⟩:=h_0
  have nch:c∉ch:=fun z=>(hch c z).2.2.1 x c e rfl
  by_cases hc:c∈X.fs
  ·obtain ⟨sl,q⟩:=slot c o (I.cne x c e) hc nch ho (I.freeC x c e)
   exact ⟨_,q,hd⟩
  ·exact ⟨o,keep c o (I.cne x c e) hc nch ho (I.freeC x c e),hd⟩
 refine ⟨I.ok,I.os,hg,⟨fun b o e n hb hx=>?_,fun b o e n hb hx=>?_,fun b o e n hx=>?_,fun b o e hx=>?_,fun b xs e=>tups b xs (I.base.tups b xs e),fun b o xs e=>frzs b o xs (I.base.frzs b o xs e),fun b ps e=>?_⟩,?_,fun x c e=>?_,?_,fun x c e=>?_,fun p hp=>?_,hok,I.len⟩
 ·exact keep b o (neL b o e) hb (neC b o e hx) (I.base.keep b o e n hb hx) (I.base.free b o e n hx)
 ·obtain ⟨sl,e1⟩:=I.base.slot b o e n hb hx
  obtain ⟨sl',e2⟩:=slot b _ (neL b o e) hb (neC b o e hx) e1 (I.base.free b o e n hx)
  exact ⟨sl',e2⟩
 ·obtain ⟨o',e1⟩:=I.base.there b o e hx
  exact free b o' (neC b o e hx) e1 (I.base.free b o e n hx)
 ·obtain ⟨o',e1⟩:=I.base.there b o e hx
  exact there b o' (neC b o e hx) e1
 ·obtain ⟨m1,e1⟩:=I.base.tbls b ps e
  obtain ⟨m2,e2⟩:=tbls b _ e1
  exact ⟨m1++m2,by rw [e2,Hu]⟩
 ·obtain ⟨m,hn,hl⟩:=I.loc
  refine ⟨m,ns m hn,fun i x v e1 e2 e3=>?_⟩
  obtain ⟨u,r,l⟩:=hl i x v e1 e2 e3
  refine ⟨u,r,?_⟩
  rcases l with l | ⟨k,c,e,z⟩
  ·exact .inl l
  ·exact .inr ⟨k,c,e,cellK x c e _ z⟩
 ·obtain ⟨v,z⟩:=I.cell x c e
  exact ⟨v,cellK x c e v z⟩
 ·obtain ⟨m,⟨o,_,_,ho,_⟩,_⟩:=I.loc
  exact free _ o (fun z=>(hch _ z).2.1 rfl) ho I.free
 ·obtain ⟨v,o,ho,hd⟩:=I.cell x c e
  exact free c o (fun z=>(hch c z).2.2.1 x c e rfl) ho (I.freeC x c e)
 ·obtain ⟨e,n,ne,nf,d⟩:=I.pin p hp
  have nch:p.1∉ch:=fun z=>(hch p.1 z).2.2.2 p hp rfl
  exact ⟨keep p.1 p.2 ne nf nch e n,free p.1 p.2 nch e n,ne,nf,d⟩
theorem bQ.un {t':Nat} (I:bQ X pins σ H s) (u:Un X.fs [] H H' s.heap h') (hok:pd X.prog X.w H' h'):bQ X pins σ H' { s with heap:=h',toks:=t' }:=by
 obtain ⟨m,⟨o,es,ep,ho,r⟩,_⟩:=id I.loc
 obtain ⟨sl,hL⟩:=u.any ho I.free (by simp)
 exact I.step (g':=s.gens) (d':=s.drawn) (ch:=[]) (fun _ z=>nomatch z) (fun b o _ hb _ e n=>u.keep b o e n hb (by simp)) (fun b o _ hb _ e n=>u.slot b o e n hb (by simp)) (fun b o _ e n=>u.free b o e n (by simp)) (fun b o _ e=>u.there b o e (by simp)) u.tups u.frzs u.tbls (fun m' hm=>by
  obtain ⟨o',es',ep',ho',r'⟩:=hm
  rw [ho] at ho';cases ho'
  exact ⟨_,es',ep',hL,r'⟩) hok I.bare
theorem bQ.call {g':Array Eg}{t':Nat}{d':Jp}{ch:List ai} (I:bQ X pins σ H s) (u:Un (rK X.stack) ch H H' s.heap h') (hok:pd X.prog X.w H' h') (hg:pj g')
  (hch:∀ b∈ch,(b∈X.ex\/X.s₀.heap.objs.size<=b)/\b≠X.env.locals/\(∀ x c,X.env.cells.lookup x=some c->c≠b)/\∀ p∈X.pn++pins,p.1≠b) :
  bQ X pins σ H' { s with heap:=h',gens:=g',drawn:=d',toks:=t' }:=by
 obtain ⟨m,⟨o,es,ep,ho,r⟩,_⟩:=id I.loc
 obtain ⟨sl,hL⟩:=u.any ho I.free fun z=>(hch _ z).2.1 rfl
 exact I.step (ch:=ch) hch (fun b o hL hb hc e n=>u.keep b o e n (fun z=>(List.mem_cons.mp (I.stkSub b z)).elim hL hb) hc) (fun b o _ _ hc e n=>u.any e n hc) (fun b o hc e n=>u.free b o e n hc) (fun b o hc e=>u.there b o e hc) u.tups u.frzs u.tbls (fun m' hm=>by
  obtain ⟨o',es',ep',ho',r'⟩:=hm
  rw [ho] at ho';cases ho'
  exact ⟨_,es',ep',hL,r'⟩) hok hg
theorem bQ.turned {t':Nat}{it:ai} (I:bQ X pins σ H s) (k:∀ b o,b≠it->s.heap.get? b=some o->h'.get? b=some o) (hn:H it=none) (hL:it≠X.env.locals)
  (h1:it∈X.ex\/X.s₀.heap.objs.size<=it) (h2:∀ x c,X.env.cells.lookup x=some c->c≠it) (h3:∀ p∈X.pn++pins,p.1≠it):bQ X pins σ H { s with heap:=h',toks:=t' }:=by
 have nit:∀ b u,H b=some u->b≠it:=fun b u e z=>by rw [z,hn] at e;cases e
 refine I.step (g':=s.gens) (d':=s.drawn) (ch:=[it]) (fun b hb=>?_) (fun b o _ _ hc e _=>k b o (fun z=>hc (by simp [z])) e) (fun b o _ _ hc e _=>⟨o.slots,k b o (fun z=>hc (by simp [z])) e⟩) (fun _ _ _ _ n=>n)
  (fun b o hc e=>⟨o,k b o (fun z=>hc (by simp [z])) e⟩) (fun _ _ e=>e) (fun _ _ _ e=>e) (fun b ps e=>⟨#[],by rw [e];simp⟩) (fun m hm=>?_) (fun b u e=>?_) I.bare
 ·have e:b=it:=by simpa using hb
  subst e
  exact ⟨h1,hL,h2,h3⟩
 ·obtain ⟨o,es,ep,ho,r⟩:=hm
  exact ⟨o,es,ep,k _ o (cQ hL) ho,r⟩
 ·refine (I.hok b u e).stay (fun c v hc q=>k c v ?_ q) (fun _ q=>q) fun _ _ q=>q
  rcases hc with z | z
  ·rw [z];exact nit b u e
  ·exact nit c _ z
theorem bQ.tok (I:bQ X pins σ H s) (t:Nat):bQ X pins σ H { s with toks:=t }:=I.un (h':=s.heap) (t':=t) Un.refl I.hok
theorem bQ.kept {t':Nat} (I:bQ X pins σ H s) (k:∀ b u,s.heap.get? b=some u->h'.get? b=some u):bQ X pins σ H { s with heap:=h',toks:=t' }:=I.un (Un.kept k) (I.hok.kept k)
theorem bQ.laid {a:ai}{o:HO}{t':Nat} (I:bQ X pins σ H s) (k:∀ b u,s.heap.get? b=some u->h'.get? b=some u) (hp:s.heap.objs.size<=a) (new:c_ X.prog X.w (upd H a o) h' a o) :
  bQ X pins σ (upd H a o) { s with heap:=h',toks:=t' }:=I.un (Un.laid k hp (I.hok.fresh hp)) (I.hok.laid k hp new)
theorem bQ.write {x e:ai}{o:HO}{t':Nat} (I:bQ X pins σ H s) (mu:SC (H x)) (he:e=x\/H e=some (.own x)) (k:∀ b u,b≠e->s.heap.get? b=some u->h'.get? b=some u) (heo:∃ u,h'.get? e=some u)
  (new:c_ X.prog X.w (upd H x o) h' x o):bQ X pins σ (upd H x o) { s with heap:=h',toks:=t' }:=I.un (Un.write mu he k heo) (I.hok.write mu he k heo new)
theorem bQ.weak {σ':List (Option V)} (I:bQ X pins σ H s) (hl:σ'.length=σ.length) (w:∀ (i:Nat) v,σ'[i]?=some (some v)->σ[i]?=some (some v)):bQ X pins σ' H s :=
 ⟨I.ok,I.os,I.bare,I.base,let ⟨m,hn,hl'⟩:=I.loc;⟨m,hn,fun i x v e1 e2 e3=>hl' i x v e1 (w i v e2) e3⟩,I.cell,I.free,I.freeC,I.pin,I.hok,hl.trans I.len⟩
theorem bQ.pins_of {pins':List (ai×Obj)} (I:bQ X pins σ H s) (h:∀ p∈pins',s.heap.get? p.1=some p.2/\H p.1=none/\p.1≠X.env.locals/\p.1∉X.fs/\∀ v,p.2.data≠.cell v):bQ X pins' σ H s :=
 ⟨I.ok,I.os,I.bare,I.base,I.loc,I.cell,I.free,I.freeC,fun p hp=>(List.mem_append.mp hp).elim (fun z=>I.pin p (bg _ z)) (h p),I.hok,I.len⟩
theorem C5 {N:List Str} (hN:N.Nodup) {i j:Nat}{x:Str} (a:N[i]?=some x) (b:N[j]?=some x):i=j:=by
 obtain ⟨h1,e1⟩:=List.getElem?_eq_some_iff.mp a
 obtain ⟨h2,e2⟩:=List.getElem?_eq_some_iff.mp b
 exact (Nj hN).mp (e1.trans e2.symm)
theorem zt {M:yu}{A:aU}{E:aa->ae->Prop}{i:Nat}{x:Str}{v:V}{u:aa}{Q:Unit->ae->Prop} (I:bQ X pins σ H s) (hN:X.N.Nodup) (hi:X.N[i]?=some x) (hx:Py X.env.scope x) (r:dg v u)
  (h:∀ s',bQ X pins (σ.set i (some v)) H s'->(∃ a,bJ a s.heap s'.heap/\(a=X.env.locals\/X.env.cells.lookup x=some a))->Q () s') (hf:X.fn x=true\/X.env.scope.names.lookup x=some .local:=by first | exact .inl rfl | exact .inr rfl | assumption):au M A (storeName X.env x u) Q E s:=by
 obtain ⟨m,hn,hl⟩:=id I.loc
 have hcls:(X.env.scope.kind == .class || (X.env.scope.kind == .module && X.env.locals != X.env.globals))=false:=by rw [I.ok.kind];rfl
 have hiσ:i<σ.length:=by rw [I.len];exact (List.getElem?_eq_some_iff.mp hi).1
 have cne:=I.cne
 have tracked:∀ {a:ai}{h':bB},(∃ o,s.heap.get? a=some o/\H a=none)->bJ a s.heap h'->pd X.prog X.w H h':=fun {a h'} ha hs b ob e=>by
  obtain ⟨_,_,hfree⟩:=ha
  refine (I.hok b ob e).stay (fun c w' hc q=>(hs.2 c ?_).trans q) (fun _ q=>q) fun _ _ q=>q
  rintro rfl
  rcases hc with rfl | hc
  ·rw [hfree] at e;cases e
  ·rw [hfree] at hc;cases hc
 rcases hx with hk | hk
 ·refine wpAny_storeName_local hk hn (fun h' hn' hs=>?_) hcls
  obtain ⟨oL,_,_,hoL,_⟩:=id hn
  refine h _ ⟨I.ok,I.os,I.bare,⟨fun b o e n hb hx=>?_,fun b o e n hb hx=>?_,I.base.free,fun b o e hx=>?_,I.base.tups,I.base.frzs,I.base.tbls⟩,⟨_,hn',fun j y v' e1 e2 e3=>?_⟩,fun y c e=>?_,I.free,I.freeC,fun p hp=>?_,tracked ⟨oL,hoL,I.free⟩ hs,by simpa using I.len⟩ ⟨_,hs,.inl rfl⟩
  ·exact (hs.2 b (aD (aA (aq e) I.ok.above))).trans (I.base.keep b o e n hb hx)
  ·obtain ⟨sl,e1⟩:=I.base.slot b o e n hb hx
   exact ⟨sl,(hs.2 b (aD (aA (aq e) I.ok.above))).trans e1⟩
  ·obtain ⟨o',e1⟩:=I.base.there b o e hx
   exact ⟨o',(hs.2 b (aD (aA (aq e) I.ok.above))).trans e1⟩
  ·by_cases hj:j=i
   ·subst hj
    rw [hi] at e1;cases e1
    rw [aC hiσ] at e2
    cases e2
    exact ⟨u,r,.inl ⟨hk,by simp⟩⟩
   ·rw [aj (cQ hj)] at e2
    obtain ⟨u',r',q⟩:=hl j y v' e1 e2 e3
    refine ⟨u',r',?_⟩
    rcases q with ⟨k,e⟩ | ⟨k,c,e,z⟩
    ·refine .inl ⟨k,?_⟩
     have:y≠x:=fun e=>hj (C5 hN e1 (e ▸ hi))
     simp [this,e]
    ·exact .inr ⟨k,c,e,z.sameBut hs (cne y c e)⟩
  ·obtain ⟨w',z⟩:=I.cell y c e
   exact ⟨w',z.sameBut hs (cne y c e)⟩
  ·obtain ⟨e,n,ne,nf,d⟩:=I.pin p hp
   exact ⟨(hs.2 p.1 ne).trans e,n,ne,nf,d⟩
 ·have hfn:X.fn x=true:=by
   rcases hf with z | z
   ·exact z
   ·rw [z] at hk;cases hk
  obtain ⟨c,hc⟩:=I.ok.has x (.inl hk)
  obtain ⟨w',z⟩:=I.cell x c hc
  refine wpAny_storeName_cell I.ok.kind hk hc z (fun h' hc' hs=>?_)
  obtain ⟨oc,hoc,hocd⟩:=id z
  refine h { s with heap:=h' } ⟨I.ok,I.os,I.bare,⟨fun b o e n hb hx=>?_,fun b o e n hb hx=>?_,I.base.free,fun b o e hx=>?_,I.base.tups,I.base.frzs,I.base.tbls⟩,⟨m,hn.sameBut hs (cQ (cne x c hc)),fun j y v' e1 e2 e3=>?_⟩,fun y c' e=>?_,I.free,I.freeC,fun p hp=>?_,tracked ⟨oc,hoc,I.freeC x c hc⟩ hs,by simpa using I.len⟩ ⟨c,hs,.inr hc⟩
  ·exact (hs.2 b (aD (aA (aq e) (I.ok.cab x c hfn hc)))).trans (I.base.keep b o e n hb hx)
  ·obtain ⟨sl,e1⟩:=I.base.slot b o e n hb hx
   exact ⟨sl,(hs.2 b (aD (aA (aq e) (I.ok.cab x c hfn hc)))).trans e1⟩
  ·obtain ⟨o',e1⟩:=I.base.there b o e hx
   exact ⟨o',(hs.2 b (aD (aA (aq e) (I.ok.cab x c hfn hc)))).trans e1⟩
  ·by_cases hj:j=i
   ·subst hj
    rw [hi] at e1;cases e1
    rw [aC hiσ] at e2
    cases e2
    exact ⟨u,r,.inr ⟨.inl hk,c,hc,hc'⟩⟩
   ·rw [aj (cQ hj)] at e2
    obtain ⟨u',r',q⟩:=hl j y v' e1 e2 e3
    refine ⟨u',r',?_⟩
    rcases q with q | ⟨k,c',e,z'⟩
    ·exact .inl q
    ·refine .inr ⟨k,c',e,z'.sameBut hs ?_⟩
     rintro rfl
     exact hj (C5 hN e1 (I.ok.inj _ _ _ e hc ▸ hi))
  ·by_cases hcc:c'=c
   ·subst hcc;exact ⟨_,hc'⟩
   ·obtain ⟨w2,z2⟩:=I.cell y c' e
    exact ⟨w2,z2.sameBut hs hcc⟩
  ·obtain ⟨e,n,ne,nf,d⟩:=I.pin p hp
   refine ⟨(hs.2 p.1 ?_).trans e,n,ne,nf,d⟩
   intro q
   rw [q,hoc] at e
   have q':oc=p.2:=bI e
   exact d w' (by rw [<- q'];exact hocd)
theorem tR {M:yu}{A:aU}{E:aa->ae->Prop}{i:Nat}{x:Str}{v:V}{u:aa}{Q:Unit->ae->Prop} (I:bQ X pins σ H s) (hN:X.N.Nodup) (hi:X.N[i]?=some x) (hx:Py X.env.scope x) (r:dg v u)
  (h:∀ s',bQ X pins (σ.set i (some v)) H s'->Q () s') (hf:X.fn x=true\/X.env.scope.names.lookup x=some .local:=by first | exact .inl rfl | exact .inr rfl | assumption):au M A (storeName X.env x u) Q E s :=
 zt I hN hi hx r (fun s' I' _=>h s' I') hf
theorem bQ.call' {s':ae}{ch:List ai} (I:bQ X pins σ H s) (ho:s'.os=s.os) (u:Un (rK X.stack) ch H H' s.heap s'.heap) (hok:pd X.prog X.w H' s'.heap) (hg:pj s'.gens)
  (hch:∀ b∈ch,(b∈X.ex\/X.s₀.heap.objs.size<=b)/\b≠X.env.locals/\(∀ x c,X.env.cells.lookup x=some c->c≠b)/\∀ p∈X.pn++pins,p.1≠b):bQ X pins σ H' s':=by
 obtain ⟨h',g',d',t',o'⟩:=s'
 have e:o'=s.os:=ho
 subst e
 exact I.call (g':=g') (t':=t') (d':=d') u hok hg hch
end
abbrev XK:=aa->Option ai->Hp->Prop
abbrev St:=List (Option V)
abbrev VK:=V->Hp->Prop
abbrev TE:=St->Hp->VK->Prop
abbrev TT:=St->Hp->(Bool->Hp->Prop)->Prop
abbrev TA:=St->Hp->(List V->Hp->Prop)->Prop
structure Av where
 nx:St->Hp->Prop
 rt:VK
 bk:St->Hp->Prop:=fun _ _=>False
 ct:St->Hp->Prop:=fun _ _=>False
abbrev TS:=Av->St->Hp->Prop
inductive EP (X:Cx) (pins:List (ai×Obj)) (σ:St) (Q:VK) (u:aa) (s':ae):Prop
 | mk (v H':_) (h0:bQ X pins σ H' s') (h1:dg v u) (h2:Q v H'):EP X pins σ Q u s'
inductive TP (X:Cx) (pins:List (ai×Obj)) (σ:St) (Q:Bool->Hp->Prop) (b:Bool) (s':ae):Prop
 | mk (H':_) (h0:bQ X pins σ H' s') (h1:Q b H'):TP X pins σ Q b s'
inductive AP (X:Cx) (pins:List (ai×Obj)) (σ:St) (Q:List V->Hp->Prop) (us:List aa) (s':ae):Prop
 | mk (vs H':_) (h0:bQ X pins σ H' s') (h1:du vs us) (h2:Q vs H'):AP X pins σ Q us s'
inductive SN (X:Cx) (pins:List (ai×Obj)) (k:St->Hp->Prop) (s':ae):Prop
 | mk (σ':St) (H':Hp) (I:bQ X pins σ' H' s') (q:k σ' H'):SN X pins k s'
inductive SV (X:Cx) (pins:List (ai×Obj)) (k:V->Hp->Prop) (u:aa) (s':ae):Prop
 | mk (v:V) (σ':St) (H':Hp) (I:bQ X pins σ' H' s') (r:dg v u) (q:k v H'):SV X pins k u s'
def SP (X:Cx) (pins:List (ai×Obj)) (D:Av) (f:Flow) (s':ae):Prop :=
 match f with
 | .next=>SN X pins D.nx s'
 | .brk=>SN X pins D.bk s'
 | .cont=>SN X pins D.ct s'
 | .ret u=>SV X pins D.rt u s'
def PE (X:Cx) (e:aX) (t:TE):Prop :=
 ∀ (pins:List (ai×Obj)) (s:ae) (σ:St) (H:Hp) (Q:VK),bQ X pins σ H s->t σ H Q->au (ay X.prog X.w) X.A (eh e X.env) (EP X pins σ Q) X.xe s
def PT (X:Cx) (e:aX) (t:TT):Prop :=
 ∀ (pins:List (ai×Obj)) (s:ae) (σ:St) (H:Hp) (Q:Bool->Hp->Prop),bQ X pins σ H s->t σ H Q->au (ay X.prog X.w) X.A (uI e X.env (eh e X.env)) (TP X pins σ Q) X.xe s
def PW (X:Cx) (e:aX) (t:TT):Prop :=
 ∀ (whole:Sem aa) (pins:List (ai×Obj)) (s:ae) (σ:St) (H:Hp) (Q:Bool->Hp->Prop),bQ X pins σ H s->t σ H Q->au (ay X.prog X.w) X.A (uI e X.env whole) (TP X pins σ Q) X.xe s
theorem PW.pt {X:Cx}{e:aX}{t:TT} (h:PW X e t):PT X e t:=h _
def PA (X:Cx) (es:List aX) (t:TA):Prop :=
 ∀ (pos:Pos) (pins:List (ai×Obj)) (s:ae) (σ:St) (H:Hp) (Q:List V->Hp->Prop),bQ X pins σ H s->t σ H Q->au (ay X.prog X.w) X.A (spliced (j8 pos (aK es X.env))) (AP X pins σ Q) X.xe s
def PS (X:Cx) (st:dz) (t:TS):Prop :=
 ∀ (pins:List (ai×Obj)) (s:ae) (σ:St) (H:Hp) (D:Av),bQ X pins σ H s->t D σ H->au (ay X.prog X.w) X.A (exec st X.env) (SP X pins D) X.xe s
def FZ (X:Cx) (st:List dz) (t:TS):Prop :=
 ∀ (pins:List (ai×Obj)) (s:ae) (σ:St) (H:Hp) (D:Av),bQ X pins σ H s->t D σ H->au (ay X.prog X.w) X.A (execs st X.env) (SP X pins D) X.xe s
theorem fK {α:Type}{t:Sem α}{Q Q':α->ae->Prop}{M:yu}{A:aU}{E:aa->ae->Prop}{s:ae} (h:au M A t Q E s) (hQ:∀ a s,Q a s->Q' a s):au M A t Q' E s:=bH h hQ fun _ _ x=>x
end L2
namespace L2
open PySem PySem.Spec PyProof.Rows
section
variable {X:Cx}
inductive Pz (i:Nat) (σ:St) (H:Hp) (Q:VK):Prop
 | mk (v:_) (h0:σ[i]?=some (some v)) (h1:Q v H):Pz i σ H Q
def SD (i:Nat):TE:=Pz i
def tC (v:V):TE:=fun _ H Q=>Q v H
theorem si {i:Nat}{x:Str}{pos:Pos} (hN:X.N[i]?=some x) (hv:O4 X.env.scope x) (hd:(x == ("__debug__" : Str))=false:=by decide) (hcd:(x == ("__classdict__" : Str))=false:=by decide):PE X (.Name x pos) (SD i):=by
 intro pins s σ H Q I h
 obtain ⟨v,e,h⟩:=h
 obtain ⟨m,hn,hl⟩:=I.loc
 obtain ⟨u,r,l⟩:=hl i x v hN e hv
 have fin:EP X pins σ Q u s:=⟨v,H,I,r,h⟩
 rcases l with ⟨hk,hm⟩ | ⟨hk,c,hc,hcell⟩
 ·exact wpAny_Name (wpAny_loadName_local I.ok.kind hk hn hm fin) hd
 ·rcases hk with hk | hk
  ·exact wpAny_Name (wpAny_loadName_cell I.ok.kind hk hc hcell fin) hd
  ·exact wpAny_Name (wpAny_loadName_free I.ok.kind hk hc hcell fin hcd) hd
theorem QQ {i j pos}:PE X (.Constant (.int i) j pos) (tC (.int i)):=fun _ _ _ H _ I h=>wpAny_Constant_int ⟨.int i,H,I.tok _,⟨_,rfl⟩,h⟩
theorem SE {b j pos}:PE X (.Constant (.bool b) j pos) (tC (.bl b)):=fun _ _ _ H _ I h=>Constant_bool ⟨.bl b,H,I,rfl,h⟩
theorem QR {j pos}:PE X (.Constant .none j pos) (tC .non):=fun _ _ _ H _ I h=>Constant_none ⟨.non,H,I,rfl,h⟩
theorem QS {x j pos}:PE X (.Constant (.str x) j pos) (tC (.str x)):=fun _ _ _ H _ I h=>Calls.Constant_str ⟨.str x,H,I.tok _,⟨_,rfl⟩,h⟩
def Gl (X:Cx) (x:Str):Prop:=X.env.kindOf x=some .globalImplicit
theorem Aw {E:aa->ae->Prop}{pins:List (ai×Obj)}{s:ae}{σ:St}{H:Hp}{x:Str}{u:aa}{pos:Pos}{Q:aa->ae->Prop} (I:bQ X pins σ H s) (hg:Gl X x) (hm:X.mg x=some u) (h:Q u s)
  (hd:(x == ("__debug__" : Str))=false:=by decide):au (ay X.prog X.w) X.A (eh (.Name x pos) X.env) Q E s :=
 yv I.ok.kind hg (Calls.loadGlobal_global (by rw [I.ok.glob];exact I.mod.glob.keeps I.bk) hm h) hd
theorem uU {E:aa->ae->Prop}{pins:List (ai×Obj)}{s:ae}{σ:St}{H:Hp}{x:Str}{u:aa}{pos:Pos}{Q:aa->ae->Prop} (I:bQ X pins σ H s) (hg:Gl X x) (hm:X.mg x=none) (hv:il x=some u) (h:Q u s)
  (hn:x≠"__name__":=by decide) (hd:(x == ("__debug__" : Str))=false:=by decide):au (ay X.prog X.w) X.A (eh (.Name x pos) X.env) Q E s:=by
 obtain ⟨mb,h1,h2⟩:=I.mod.blt
 exact yv I.ok.kind hg (Calls.loadGlobal_builtin (by rw [I.ok.glob];exact I.mod.glob.keeps I.bk) hm (by rw [I.ok.blt];exact h1.keeps I.bk) ((h2 x hn).trans hv) h) hd
theorem O5 {x:Str}{v:V}{u:aa}{pos:Pos} (hg:Gl X x) (hm:X.mg x=some u) (r:dg v u) (hd:(x == ("__debug__" : Str))=false:=by decide):PE X (.Name x pos) (tC v) :=
 fun _ _ _ H _ I h=>Aw I hg hm ⟨v,H,I,r,h⟩ hd
theorem O6 {x:Str}{v:V}{u:aa}{pos:Pos} (hg:Gl X x) (hm:X.mg x=none) (hv:il x=some u) (r:dg v u) (hn:x≠"__name__":=by decide) (hd:(x == ("__debug__" : Str))=false:=by decide):PE X (.Name x pos) (tC v) :=
 fun _ _ _ H _ I h=>uU I hg hm hv ⟨v,H,I,r,h⟩ hn hd
variable {a b:aX}{ta tb:TE}{pos:Pos}
def PC (X:Cx) (op:Jq) (a b:aX) (t:TE):Prop :=
 ∀ (pins:List (ai×Obj)) (s:ae) (σ:St) (H:Hp) (Q:VK),bQ X pins σ H s->t σ H Q ->
  au (ay X.prog X.w) X.A (eh a X.env) (fun v s₁=>au (ay X.prog X.w) X.A (eh b X.env) (fun u s₂=>au (ay X.prog X.w) X.A (bK op v u) (EP X pins σ Q) X.xe s₂) X.xe s₁) X.xe s
theorem K8 (b:aX) {op:Jq} (h:op≠.In) (h2:op≠.NotIn):gO op b=false:=by
 have e1:(op == CmpOp.In)=false:=by cases op<;>first | rfl | exact absurd rfl h
 have e2:(op == CmpOp.NotIn)=false:=by cases op<;>first | rfl | exact absurd rfl h2
 cases b<;>simp [gO,e1,e2]
def tB (t:TE):TT:=fun σ H Q=>t σ H fun x H1=>∃ c,x=.bl c/\Q c H1
theorem V8 {op:Jq}{t:TE} (h:PC X op a b t) (h1:gO op b=false:=by first | exact K8 _ (by decide) (by decide) | rfl):PT X (.Compare a [op] [b] pos) (tB t):=by
 intro pins s σ H Q I hw
 refine Nk (fK (h pins s σ H _ I hw) fun v s1 h1=>fK h1 fun u s2 h2=>fK h2 fun c s3 ⟨x,H1,I1,r1,q1⟩=>?_) h1
 obtain ⟨d,rfl,q⟩:=q1
 cases r1
 exact cW ⟨H1,I1,q⟩
theorem QT {e:aX}{t:TE} (h:PE X e t) (he:∀ whole,uI e X.env whole=(do let v <- whole;vw e.pos;holding [v] (truthy v)):=by intro _;rfl):PT X e (tB t):=by
 intro pins s σ H Q I hw
 refine isTrue_plain (fK (h pins s σ H _ I hw) fun v s1 ⟨x,H1,I1,r1,q1⟩=>?_) (he _)
 obtain ⟨d,rfl,q⟩:=q1
 cases r1
 exact cW ⟨H1,I1,q⟩
variable {tA tB':TT}{bS:List aX}
def V9 (t u:TT):TT:=fun σ H Q=>t σ H fun c H1=>if c=true then u σ H1 Q else Q false H1
def WE (t u:TT):TT:=fun σ H Q=>t σ H fun c H1=>if c=true then Q true H1 else u σ H1 Q
def Va (t:TT):TT:=fun σ H Q=>t σ H fun c H1=>Q (!c) H1
theorem O7 (ha:PT X a tA):PW X (.BoolOp .And [a] pos) tA:=by
 intro wh pins s σ H Q I h
 refine isTrue_and (fK (ha pins s σ H Q I h) fun c s1 e=>?_)
 cases c with
 | true=>exact isTrue_and_nil e
 | false=>exact e
theorem QU (ha:PT X a tA):PW X (.BoolOp .Or [a] pos) tA:=by
 intro wh pins s σ H Q I h
 refine isTrue_or (fK (ha pins s σ H Q I h) fun c s1 e=>?_)
 cases c with
 | false=>exact isTrue_or_nil e
 | true=>exact e
theorem QV (ha:PT X a tA) (hb:PW X (.BoolOp .And (b::bS) pos) tB'):PW X (.BoolOp .And (a::b::bS) pos) (V9 tA tB'):=by
 intro wh pins s σ H Q I h
 refine isTrue_and (fK (ha pins s σ H _ I h) fun c s1 ⟨H1,I1,q1⟩=>?_)
 cases c with
 | true=>exact hb wh pins s1 σ H1 Q I1 q1
 | false=>exact ⟨H1,I1,q1⟩
theorem SF (ha:PT X a tA) (hb:PW X (.BoolOp .Or (b::bS) pos) tB'):PW X (.BoolOp .Or (a::b::bS) pos) (WE tA tB'):=by
 intro wh pins s σ H Q I h
 refine isTrue_or (fK (ha pins s σ H _ I h) fun c s1 ⟨H1,I1,q1⟩=>?_)
 cases c with
 | true=>exact ⟨H1,I1,q1⟩
 | false=>exact hb wh pins s1 σ H1 Q I1 q1
theorem QW (ha:PT X a tA):PT X (.UnaryOp .Not a pos) (Va tA):=by
 intro pins s σ H Q I h
 exact isTrue_not (fK (ha pins s σ H (fun c H1=>Q (!c) H1) I h) fun _ _ x=>by obtain ⟨a,b,c⟩:=x;exact ⟨a,b,c⟩)
def SG (ta tb:TE):TE:=fun σ H Q=>ta σ H fun x H1=>∃ c,x=.bl c/\if c=true then tb σ H1 Q else Q (.bl false) H1
def SH (ta:TE):TE:=fun σ H Q=>ta σ H fun x H1=>∃ c,x=.bl c/\Q (.bl (!c)) H1
theorem QX {op}{t:TE} (h:PE X a t):PE X (.BoolOp op [a] pos) t:=fun pins s σ H Q I hw=>BoolOp_one (h pins s σ H Q I hw)
theorem QY (ha:PE X a ta) (hb:PE X (.BoolOp .And (b::bS) pos) tb):PE X (.BoolOp .And (a::b::bS) pos) (SG ta tb):=by
 intro pins s σ H Q I h
 refine BoolOp_and (fK (ha pins s σ H _ I h) fun v s1 ⟨x,H1,I1,r1,q1⟩=>?_)
 obtain ⟨c,rfl,q1⟩:=q1
 cases r1
 refine cW ?_
 cases c with
 | true=>exact hb pins s1 σ H1 Q I1 q1
 | false=>exact ⟨.bl false,H1,I1,rfl,q1⟩
theorem QZ (ha:PE X a ta):PE X (.UnaryOp .Not a pos) (SH ta):=by
 intro pins s σ H Q I h
 refine UnaryOp_ (fK (ha pins s σ H _ I h) fun v s1 ⟨x,H1,I1,r1,q1⟩=>?_)
 obtain ⟨c,rfl,q1⟩:=q1
 cases r1
 exact not_of (cW ⟨.bl (!c),H1,I1,rfl,q1⟩)
end
end L2
namespace L2
open PySem PySem.Spec PyProof.Rows
inductive W9 (K:a8) (a:ai) (xs:List V):Prop
 | mk (o:Obj) (its:Array aa) (n:Nat) (h0:K.lookup a=some o) (h1:o.cls=.type "list") (h2:o.dict=none) (h3:o.data=.seq its n) (h4:its.size<=sizeLine) (h5:du xs its.toList):W9 K a xs
def oW (K:a8) (H:Hp) (a:ai) (xs:List V):Prop :=
 Rd H a (.lst xs)\/W9 K a xs
inductive Wa (K:a8) (a:ai) (xs:List V):Prop
 | mk (o:Obj) (its:Array aa) (n:Nat) (h0:K.lookup a=some o) (h1:o.cls=.type "tuple") (h3:o.data=.seq its n) (h4:its.size<=sizeLine) (h5:du xs its.toList):Wa K a xs
def kE (K:a8) (H:Hp) (a:ai) (xs:List V):Prop :=
 Rd H a (.tup xs)\/Wa K a xs
def Vb:aa->Option V
 | .none=>some .non
 | .bool b=>some (.bl b)
 | .int i _=>some (.int i)
 | .str x _=>some (.str x)
 | .bytes b _=>some (.byt b)
 | .float b _=>some (.flt b)
 | .ref a=>some (.ref a)
 | .type n=>some (.ty n)
 | _=>none
theorem dg.abs {x:V}{u:aa} (r:dg x u):Vb u=some x:=by
 cases x with
 | non=>cases r;rfl
 | bl _=>cases r;rfl
 | int _=>obtain ⟨t,rfl⟩:=r;rfl
 | str _=>obtain ⟨t,rfl⟩:=r;rfl
 | byt _=>obtain ⟨t,rfl⟩:=r;rfl
 | flt _=>obtain ⟨t,rfl⟩:=r;rfl
 | ref _=>cases r;rfl
 | ty _=>cases r;rfl
theorem dg.inj {x y:V}{u:aa} (r:dg x u) (q:dg y u):x=y:=bI (r.abs.symm.trans q.abs)
theorem du.inj {xs:List V}{us:List aa} (h:du xs us):∀ {ys:List V},du ys us->xs=ys:=by
 induction h with
 | nil=>intro ys k;cases k;rfl
 | cons r t ih=>intro ys k;cases k with | cons r' t'=>rw [r.inj r',ih t']
section
variable {X:Cx}{pins:List (ai×Obj)}{σ:St}{H:Hp}{s:ae}{a:ai}{xs ys:List V}
theorem oW.of {K:a8} (h:H a=some (.lst xs)):oW K H a xs:=.inl (.inl h)
theorem kE.of {K:a8} (h:H a=some (.tup xs)):kE K H a xs:=.inl (.inl h)
inductive Wb (h:bB) (a:ai) (xs:List V):Prop
 | mk (its:List aa) (r:du xs its) (p:PlainL h a its.toArray) (z:xs.length<=sizeLine):Wb h a xs
inductive Wc (h:bB) (a:ai) (xs:List V):Prop
 | mk (its:List aa) (r:du xs its) (p:IsTup h a its.toArray) (z:xs.length<=sizeLine):Wc h a xs
inductive Wd (h:bB) (l:ai) (xs:List V):Prop
 | mk (z:xs.length<=sizeLine) (its:List aa) (n:Nat) (r:du xs its) (hl:xs.length=its.length) (e:h.get? l=some { cls:=.type "list",data:=.seq its.toArray n }):Wd h l xs
theorem bQ.list (I:bQ X pins σ H s) (h:oW X.K H a xs):Wb s.heap a xs:=by
 rcases h with h | ⟨o,its,n,hk,hc,hd,hs,hz,r⟩
 ·obtain ⟨z,its,n,r,e⟩:=h.ok I.hok
  exact ⟨its,r,⟨_,n,e,rfl,rfl,rfl⟩,z⟩
 ·refine ⟨its.toList,r,⟨o,n,I.kIn a o hk,hc,hd,by simpa using hs⟩,?_⟩
  have e:=r.length
  simp only [ao] at e
  omega
theorem bQ.tuple (I:bQ X pins σ H s) (h:kE X.K H a xs):Wc s.heap a xs:=by
 rcases h with h | ⟨o,its,n,hk,hc,hs,hz,r⟩
 ·obtain ⟨z,its,r,p⟩:=h.ok I.hok
  exact ⟨its,r,p,z⟩
 ·refine ⟨its.toList,r,⟨o,I.kIn a o hk,hc,n,by simpa using hs⟩,?_⟩
  have e:=r.length
  simp only [ao] at e
  omega
theorem bQ.list_inj (I:bQ X pins σ H s) (h:oW X.K H a xs) (h':oW X.K H a ys):xs=ys:=by
 obtain ⟨its,r,⟨o,n,e,_,_,d⟩,_⟩:=I.list h
 obtain ⟨its',r',⟨o',n',e',_,_,d'⟩,_⟩:=I.list h'
 rw [e] at e';cases e'
 rw [d] at d'
 injection d' with d1 _
 have:its=its':=by simpa using congrArg Array.toList d1
 subst this
 exact r.inj r'
theorem bQ.tuple_inj (I:bQ X pins σ H s) (h:kE X.K H a xs) (h':kE X.K H a ys):xs=ys:=by
 obtain ⟨its,r,⟨o,e,_,n,d⟩,_⟩:=I.tuple h
 obtain ⟨its',r',⟨o',e',_,n',d'⟩,_⟩:=I.tuple h'
 rw [e] at e';cases e'
 rw [d] at d'
 injection d' with d1 _
 have:its=its':=by simpa using congrArg Array.toList d1
 subst this
 exact r.inj r'
end
abbrev Cx.wish (X:Cx) (E:aa->ae->Prop):Cx:={ X with xe:=E }
abbrev Cx.nox (X:Cx):Cx:=X.wish fun _ _=>False
theorem Cx.Ok.wish {X:Cx} (ok:X.Ok) (E:aa->ae->Prop):(X.wish E).Ok :=
 ⟨ok.mod,ok.kind,ok.glob,ok.blt,ok.above,ok.inj,ok.has,ok.cab,ok.hd,ok.frames,ok.stk,ok.exf,ok.bs,ok.bsz,ok.noex,ok.exfs,ok.funs,ok.frf⟩
theorem Cx.Ok.unwish {X:Cx}{E:aa->ae->Prop} (ok:(X.wish E).Ok):X.Ok :=
 ⟨ok.mod,ok.kind,ok.glob,ok.blt,ok.above,ok.inj,ok.has,ok.cab,ok.hd,ok.frames,ok.stk,ok.exf,ok.bs,ok.bsz,ok.noex,ok.exfs,ok.funs,ok.frf⟩
section
variable {X:Cx}{pins:List (ai×Obj)}{σ:St}{H:Hp}{s:ae}{E:aa->ae->Prop}
theorem bQ.wish (I:bQ X pins σ H s) (E:aa->ae->Prop):bQ (X.wish E) pins σ H s:=⟨I.ok.wish E,I.os,I.bare,I.base,I.loc,I.cell,I.free,I.freeC,I.pin,I.hok,I.len⟩
theorem bQ.unwish (I:bQ (X.wish E) pins σ H s):bQ X pins σ H s:=⟨I.ok.unwish,I.os,I.bare,I.base,I.loc,I.cell,I.free,I.freeC,I.pin,I.hok,I.len⟩
theorem SP.unwish {D:Av}{f:Flow}{s':ae} (h:SP (X.wish E) pins D f s'):SP X pins D f s':=by
 cases f with
 | next=>obtain ⟨σ',H',I,q⟩:=h;exact ⟨σ',H',I.unwish,q⟩
 | brk=>obtain ⟨σ',H',I,q⟩:=h;exact ⟨σ',H',I.unwish,q⟩
 | cont=>obtain ⟨σ',H',I,q⟩:=h;exact ⟨σ',H',I.unwish,q⟩
 | ret u=>obtain ⟨v,σ',H',I,r,q⟩:=h;exact ⟨v,σ',H',I.unwish,r,q⟩
end
section
variable {X:Cx}{st:dz}{bS:List dz}{t u:TS}{e:aX}{te:TE}{pos:Pos}
def SJ:TS:=fun D σ H=>D.nx σ H
def Vc (t u:TS):TS:=fun D σ H=>t { D with nx:=u D } σ H
theorem O8:FZ X [] SJ:=fun _ _ σ H _ I h=>tm ⟨σ,H,I,h⟩
theorem pL (h1:PS X st t) (h2:FZ X bS u):FZ X (st::bS) (Vc t u):=by
 intro pins s σ H D I h
 refine wpAny_execs_cons (fK (h1 pins s σ H { D with nx:=u D } I h) fun f s1 q=>?_)
 cases f with
 | next =>
  obtain ⟨σ',H',I',q⟩:=q
  exact h2 pins s1 σ' H' D I' q
 | ret v=>exact q
 | brk=>exact q
 | cont=>exact q
theorem O9 (h1:PS X st t):FZ X [st] t:=by
 intro pins s σ H D I h
 refine wpAny_execs_cons (fK (h1 pins s σ H D I h) fun f s1 q=>?_)
 cases f with
 | next=>exact tm q
 | ret v=>exact q
 | brk=>exact q
 | cont=>exact q
theorem bQ.quiet {pins:List (ai×Obj)}{σ:St}{H:Hp}{s:ae} (I:bQ X pins σ H s):interactive X.env=false:=by simp [interactive,I.ok.kind]
def SK (te:TE):TS:=fun D σ H=>te σ H fun _ H1=>D.nx σ H1
theorem Ax (he:PE X e te) (hs:hW e none pos.line X.env=pure false:=by rfl):PS X (.Expr e pos) (SK te):=by
 intro pins s σ H D I h
 exact wpAny_Expr_any (fK (he pins s σ H _ I h) fun v s1 h_7=>by obtain ⟨x,H1,I1,r1,q1⟩:=h_7;exact ⟨σ,H1,I1,q1⟩) I.quiet hs
def Vd (te:TE):TS:=fun D σ H=>te σ H D.rt
theorem Q_ (he:PE X e te):PS X (.Return (some e) pos) (Vd te):=by
 intro pins s σ H D I h
 exact wpAny_Return_some (fK (he pins s σ H _ I h) fun v s1 h_8=>by obtain ⟨x,H1,I1,r1,q1⟩:=h_8;exact ⟨x,σ,H1,I1,r1,q1⟩)
def Ve (c:TT) (t u:TS):TS:=fun D σ H=>c σ H fun b H1=>if b=true then t D σ H1 else u D σ H1
theorem SL {c:aX}{a b:List dz}{tc:TT} (hc:PT X c tc) (ha:FZ X a t) (hb:FZ X b u):PS X (.If c a b pos) (Ve tc t u):=by
 intro pins s σ H D I h
 refine wpAny_If (fK (hc pins s σ H _ I h) fun d s1 ⟨H1,I1,q1⟩=>?_)
 cases d with
 | true=>exact ha pins s1 σ H1 D I1 q1
 | false=>exact hb pins s1 σ H1 D I1 q1
def R1:TS:=fun _ _ _=>False
theorem qw {sts:List dz}:FZ X sts R1:=fun _ _ _ _ _ _ h=>h.elim
end
abbrev TG:=V->St->Hp->(St->Hp->Prop)->Prop
abbrev K9:=List V->St->Hp->(St->Hp->Prop)->Prop
def PG (X:Cx) (target:aX) (t:TG):Prop :=
 ∀ (pins:List (ai×Obj)) (s:ae) (σ:St) (H:Hp) (v:V) (u:aa) (Q:St->Hp->Prop),bQ X pins σ H s->dg v u->t v σ H Q ->
  au (ay X.prog X.w) X.A (pE target X.env u) (fun _ s'=>SN X pins Q s') X.xe s
def PB (X:Cx) (ts:List aX) (t:K9):Prop :=
 ∀ (pins:List (ai×Obj)) (s:ae) (σ:St) (H:Hp) (vs:List V) (us:List aa) (Q:St->Hp->Prop),bQ X pins σ H s->du vs us->t vs σ H Q ->
  au (ay X.prog X.w) X.A (Hv ((im ts X.env).map (·.2)) us) (fun _ s'=>SN X pins Q s') X.xe s
section
variable {X:Cx}{pos:Pos}
def vD (i:Nat):TG:=fun v σ H Q=>Q (σ.set i (some v)) H
theorem cZ {i:Nat}{x:Str} (hN:X.N.Nodup) (hi:X.N[i]?=some x) (hx:Py X.env.scope x) (hf:X.fn x=true\/X.env.scope.names.lookup x=some .local:=by first | exact .inl rfl | exact .inr rfl | assumption):PG X (.Name x pos) (vD i):=by
 intro pins s σ H v u Q I r h
 exact wpAny_assign_Name (tR I hN hi hx r (fun s' I'=>⟨_,H,I',h⟩) hf)
def aT:K9:=fun vs σ H Q=>vs=[]/\Q σ H
inductive Ka (t:TG) (u:K9) (vs:List V) (σ:St) (H:Hp) (Q:St->Hp->Prop):Prop
 | mk (v r:_) (h0:vs=v::r) (h1:t v σ H fun σ' H'=>u r σ' H' Q):Ka t u vs σ H Q
def ag (t:TG) (u:K9):K9:=Ka t u
theorem Ay:PB X [] aT:=by
 intro pins s σ H vs us Q I r h
 obtain ⟨e,h⟩:=h
 subst e
 cases r
 exact assignInOrder_nil ⟨σ,H,I,h⟩
theorem pM {e:aX}{es:List aX}{t:TG}{u:K9} (h1:PG X e t) (h2:PB X es u)
  (hs:(im (e::es) X.env).map (·.2)=pE e X.env::(im es X.env).map (·.2):=by rfl):PB X (e::es) (ag t u):=by
 intro pins s σ H vs us Q I r h
 obtain ⟨v,vr,e1,h⟩:=h
 subst e1
 cases r with
 | cons r rr =>
  rw [hs]
  refine wP (fK (h1 pins s σ H _ _ _ I r h) fun _ s1 ⟨σ1,H1,I1,q1⟩=>?_)
  exact h2 pins s1 σ1 H1 _ _ Q I1 rr q1
inductive PD (K:a8) (n:Nat) (t:K9) (v:V) (σ:St) (H:Hp) (Q:St->Hp->Prop):Prop
 | mk (a xs:_) (h0:v=.ref a) (h1:kE K H a xs) (h2:xs.length=n) (h3:t xs σ H Q):PD K n t v σ H Q
def R4 (K:a8) (n:Nat) (t:K9):TG:=PD K n t
theorem EA {es:List aX}{k:Nat}{t:K9}{n:Nat} (hc:X.calm=true) (h:PB X es t)
  (hn:(im es X.env).length=n:=by rfl) (hst:(im es X.env).findIdx? (·.1)=none:=by rfl):PG X (.Tuple es k pos) (R4 X.K n t):=by
 intro pins s σ H v u Q I r hw
 obtain ⟨a,xs,e1,hq,hl,hw⟩:=hw
 subst e1
 cases r
 obtain ⟨its,rv,ht,hz⟩:=I.tuple hq
 refine assign_Tuple_tuple (I.ok.hd hc) ht (by simp [hn,<- hl,rv.length]) hst fun h' hx=>?_
 have I1:bQ X pins σ H { s with heap:=h' }:=I.kept (t':=s.toks) fun b o e=>hx b o (aD (aq e)) e
 exact h pins _ σ H xs _ Q I1 (by simpa using rv) hw
def SM (te:TE) (g:TG):TS:=fun D σ H=>te σ H fun x H1=>g x σ H1 D.nx
theorem Kb {tg e:aX}{te:TE}{g:TG} (he:PE X e te) (hg:PG X tg g) (hs:wp [tg] e pos.line X.env=pure false:=by rfl) (hw:wq [tg] e X.env=pure none:=by rfl)
  (h1:(im [tg] X.env).map (·.2)=[pE tg X.env]:=by rfl):PS X (.Assign [tg] e pos) (SM te g):=by
 intro pins s σ H D I h
 refine wpAny_Assign_stores (fK (he pins s σ H _ I h) fun v s1 ⟨x,H1,I1,r1,q1⟩=>?_) hs hw
 rw [h1]
 exact fK (hg pins s1 σ H1 x v _ I1 r1 q1) fun _ s2 q=>q
theorem EB {i:Nat}{x:Str}{e:aX}{te:TE}{pos':Pos} (hN:X.N.Nodup) (hi:X.N[i]?=some x) (hx:Py X.env.scope x) (he:PE X e te) (hs:hW e (some (.Name x pos')) pos.line X.env=pure false:=by rfl) (hf:X.fn x=true\/X.env.scope.names.lookup x=some .local:=by first | exact .inl rfl | exact .inr rfl | assumption) :
  PS X (.Assign [.Name x pos'] e pos) (SM te (vD i)):=by
 intro pins s σ H D I h
 refine wpAny_Assign_Name (fK (he pins s σ H _ I h) fun v s1 ⟨y,H1,I1,r1,q1⟩=>?_) hs
 exact tR I1 hN hi hx r1 (fun s2 I2=>⟨_,H1,I2,q1⟩) hf
def Vf (i j:Nat) (ta:TA):TS:=fun D σ H=>ta σ H fun vs H1=>∃ v w,vs=[v,w]/\D.nx ((σ.set i (some v)).set j (some w)) H1
theorem R5 {i j:Nat}{x y:Str}{a b:aX}{ta:TA}{px py pt:Pos}{kt k2 pt2} (hc:X.calm=true) (hN:X.N.Nodup) (hi:X.N[i]?=some x) (hj:X.N[j]?=some y) (hij:i≠j)
  (hx:X.env.scope.names.lookup x=some .local) (hy:X.env.scope.names.lookup y=some .local) (ha:PA X [a,b] ta)
  (hw:wq [.Tuple [.Name x px,.Name y py] kt pt] (.Tuple [a,b] k2 pt2) X.env=pure (some [x,y]))
  (hs:wp [.Tuple [.Name x px,.Name y py] kt pt] (.Tuple [a,b] k2 pt2) pos.line X.env=pure false:=by rfl) :
  PS X (.Assign [.Tuple [.Name x px,.Name y py] kt pt] (.Tuple [a,b] k2 pt2) pos) (Vf i j ta):=by
 intro pins s σ H D I h
 rw [exec_Assign_arm]
 refine a7 (iJ ?_)
 rw [hs]
 refine a7 (a9 ?_)
 rw [if_neg (by decide)]
 refine a7 (Tuple_ (fK (ha _ pins s σ H _ I h) fun us s1 ⟨vs,H1,I1,r1,q1⟩=>?_))
 obtain ⟨v,w,e1,q1⟩:=q1
 subst e1
 obtain ⟨u1,u2,rfl,rv,rw'⟩:∃ u1 u2,us=[u1,u2]/\dg v u1/\dg w u2:=by
  cases r1 with
  | cons p q =>
   cases q with
   | cons p' q' =>
    cases q'
    exact ⟨_,_,rfl,p,p'⟩
 refine bM ?_ (by show 2<=sizeLine;decide)
 have I2:bQ X pins σ H1 { s1 with heap:=s1.heap.push { cls:=.type "tuple",data:=.seq [u1,u2].toArray } }:=I1.kept (t':=s1.toks) fun b o e=>ac _ e
 rw [hw]
 refine a7 (a9 ?_)
 show au (ay X.prog X.w) X.A (do rule "assign.swapped-stores";let items <- unpackItems (.ref s1.heap.objs.size) 2 none;Hv [fun v=>Nz X.env y v,fun v=>Nz X.env x v] items.reverse;pure Flow.next) _ _ _
 refine a7 (cU (a7 (unpackItems_tuple (items:=#[u1,u2]) (I.ok.hd hc) (vT s1.heap _) fun h' hx'=>?_)))
 have I3:=I2.kept (h':=h') (t':=s1.toks) fun b o e=>hx' b o (aD (aq e)) e
 show au _ _ (Hv [fun v=>Nz X.env y v,fun v=>Nz X.env x v] [u2,u1] >>= fun _=>pure Flow.next) _ _ _
 refine a7 (wP (wpAny_bindName (tR I3 hN hj (.inl hy) rw' (fun s2 I4=>?_) (.inr hy))))
 refine wP (wpAny_bindName (tR I4 hN hi (.inl hx) rv (fun s3 I5=>assignInOrder_nil (a9 ?_)) (.inr hx)))
 rw [List.set_comm _ _ (cQ hij)] at I5
 exact ⟨_,H1,I5,q1⟩
end
section
variable {X:Cx}{pos:Pos}
def R6 (c:TT) (tb:TS):TS:=fun D σ H=>∃ W:Nat->St->Hp->Prop,(∃ m,W m σ H)/\∀ m σ H,W m σ H ->
 c σ H fun b H1=>if b=true then ∃ N:St->Hp->Prop,(∀ σ' H',N σ' H'->∃ m',m'<m/\W m' σ' H')/\tb { D with nx:=N,ct:=N,bk:=D.nx } σ H1 else D.nx σ H1
theorem Kc {c:aX}{body:List dz}{tc:TT}{tb:TS} (hp:PassesOwn (ay X.prog X.w) X.A X.env X.xe) (hc:PT X c tc) (hb:FZ X body tb):PS X (.While c body [] pos) (R6 tc tb):=by
 intro pins s σ H D I h
 obtain ⟨W,⟨m0,w0⟩,turn⟩:=h
 refine wpAny_While (codeAny_whileLoop (fun n s'=>∃ σ' H',bQ X pins σ' H' s'/\W n σ' H') ?_ m0 ⟨σ,H,I,w0⟩)
 rintro n s1 ⟨σ1,H1,I1,w1⟩
 refine iC hp (fK (hc pins s1 σ1 H1 _ I1 (turn n σ1 H1 w1)) fun b s2 ⟨H2,I2,q2⟩=>?_)
 cases b with
 | true =>
  obtain ⟨N,hN,q2⟩:=q2
  rw [if_pos rfl]
  refine iC hp (fK (hb pins s2 σ1 H2 _ I2 q2) fun f s3 q3=>?_)
  cases f with
  | next =>
   obtain ⟨σ3,H3,I3,n3⟩:=q3
   obtain ⟨m',hm,w3⟩:=hN σ3 H3 n3
   exact ⟨m',hm,σ3,H3,I3,w3⟩
  | cont =>
   obtain ⟨σ3,H3,I3,n3⟩:=q3
   obtain ⟨m',hm,w3⟩:=hN σ3 H3 n3
   exact ⟨m',hm,σ3,H3,I3,w3⟩
  | brk=>exact q3
  | ret v=>exact q3
 | false =>
  rw [if_neg bu]
  exact tm ⟨σ1,H2,I2,q2⟩
end
structure It where
 go:Nat->Hp->Prop
 yld:Nat->Hp->V->Hp->Prop
 stop:Nat->Hp->Prop
structure pO (X:Cx) (pins:List (ai×Obj)) (H:Hp) (b:ai):Prop where
 f0:H b=none
 f1:b≠X.env.locals
 f2:b∉X.fs
 f3:b∈X.ex\/X.s₀.heap.objs.size<=b
 f4:∀ x c,X.env.cells.lookup x=some c->c≠b
 f5:∀ p∈X.pn++pins,p.1≠b
theorem bQ.fpOk {X:Cx}{pins:List (ai×Obj)}{σ:St}{H H':Hp}{s:ae}{b:ai} (I:bQ X pins σ H s) (hb:s.heap.objs.size<=b) (hn:H' b=none):pO X pins H' b:=by
 refine ⟨hn,eF (aA I.lt hb),I.nofs hb,.inr (bV I.sz hb),fun x c e z=>?_,fun p hp z=>?_⟩
 ·obtain ⟨v,q⟩:=I.cell x c e
  exact absurd (aA q.lt (by rw [z];exact hb)) (bP _)
 ·exact absurd (aA (aq (I.pin p hp).1) (by rw [z];exact hb)) (bP _)
structure yK (P:aH) (w:aZ) (K:a8) (tg:aX) (J:It) (fp:List ai) (it:ai) (tn:Nat->bB->Prop):Prop where
 mem:it∈fp
 obj:∀ i h,tn i h->∀ b∈fp,∃ o,h.get? b=some o/\∀ v,o.data≠.cell v
 keep:∀ i h h',tn i h->(∀ b∈fp,∀ o,h.get? b=some o->h'.get? b=some o)->tn i h'
 item:∀ (X:Cx),X.prog=P->X.w=w->X.K=K->X.calm=true->∀ (i:Nat) (pins:List (ai×Obj)) (s:ae) (σ:St) (H:Hp) (E:aa->ae->Prop),bQ X pins σ H s->(∀ b∈fp,pO X pins H b)->tn i s.heap->J.go i H ->
  au (ay P w) X.A (kU (.ref it)) (fun r s1=>∃ u,r=some u /\
   au (ay P w) X.A (gH tg (.ref it) u) (fun _ s2=>∃ x H',bQ X pins σ H' s2/\dg x u/\J.yld i H x H'/\tn (i + 1) s2.heap/\∀ b∈fp,H' b=none) E s1) E s
 done:∀ (X:Cx),X.prog=P->X.w=w->X.K=K->X.calm=true->∀ (i:Nat) (pins:List (ai×Obj)) (s:ae) (σ:St) (H:Hp) (E:aa->ae->Prop),bQ X pins σ H s->(∀ b∈fp,pO X pins H b)->tn i s.heap->J.stop i H ->
  au (ay P w) X.A (kU (.ref it)) (fun r s1=>r=none/\bQ X pins σ H s1) E s
 self:∀ (A:aU) (i:Nat) (s:ae) (Q:aa->ae->Prop) (E:aa->ae->Prop),tn i s.heap->Q (.ref it) s->au (ay P w) A (wQ (.ref it)) Q E s
abbrev TI:=St->Hp->(It->Hp->Prop)->Prop
inductive Vg (X:Cx) (pins:List (ai×Obj)) (σ:St) (tg:aX) (R:It->Hp->Prop) (itv:aa) (s2:ae):Prop
 | mk (it:ai) (fp:List ai) (tn:Nat->bB->Prop) (J:It) (H':Hp) (h0:itv=.ref it) (I:bQ X pins σ H' s2) (T:yK X.prog X.w X.K tg J fp it tn) (t0:tn 0 s2.heap) (f:∀ b∈fp,pO X pins H' b) (q:R J H'):Vg X pins σ tg R itv s2
inductive Vh (X:Cx) (pins:List (ai×Obj)) (tn:Nat->bB->Prop) (fp:List ai) (W:Nat->Nat->St->Hp->Prop) (n:Nat) (s':ae):Prop
 | mk (i:Nat) (σ':St) (H':Hp) (I:bQ X pins σ' H' s') (t:tn i s'.heap) (f:∀ b∈fp,H' b=none) (q:W i n σ' H'):Vh X pins tn fp W n s'
def PI (X:Cx) (tg iter:aX) (wi:TI):Prop :=
 ∀ (pins:List (ai×Obj)) (s:ae) (σ:St) (H:Hp) (R:It->Hp->Prop),bQ X pins σ H s->wi σ H R ->
  au (ay X.prog X.w) X.A (eh iter X.env) (fun v s1=>au (ay X.prog X.w) X.A (wQ v) (Vg X pins σ tg R) X.xe s1) X.xe s
theorem F_ {M : yu} {A : aU} {E : aa -> ae -> Prop} {s : ae} {tg : aX} {it : ai} {u : aa} {o : Obj} {n : String} {vs : Array aa} {Q : Unit -> ae -> Prop} (ho : s.heap.get? it = some o) (hc : o.cls = .type n) (hd : o.data = .fields vs)
    (hn : ["enumerate", "zip", "dict_itemiterator", "dict_reverseitemiterator", "odict_iterator", "itertools.zip_longest", "itertools.pairwise"].contains n = false) (hQ : Q () s) : au M A (gH tg (.ref it) u) Q E s := by
  unfold gH
  cases tg <;> first
    | exact a9 hQ
    | (cases u <;> first
        | exact a9 hQ
        | (refine a7 (wpAny_load ho ?_)
           rw [hc, hd]
           show au M A (if (["enumerate", "zip", "dict_itemiterator", "dict_reverseitemiterator", "odict_iterator", "itertools.zip_longest", "itertools.pairwise"].contains n && vs[0]? == some (c7 _)) = true then _ else _) Q E s
           rw [if_neg (by intro h; rw [hn, zm] at h; cases h)]
           exact a9 hQ))
def Vi (K:a8) (a:ai):It :=
 ⟨fun i H=>∃ xs x,oW K H a xs/\xs[i]?=some x,fun i H x H'=>H'=H/\∀ xs,oW K H a xs->xs[i]?=some x,fun i H=>∃ xs,oW K H a xs/\xs.length<=i⟩
def Vj (K:a8) (a:ai):It :=
 ⟨fun i H=>∃ xs x,kE K H a xs/\xs[i]?=some x,fun i H x H'=>H'=H/\∀ xs,kE K H a xs->xs[i]?=some x,fun i H=>∃ xs,kE K H a xs/\xs.length<=i⟩
def UQ (lo:Int) (n:Nat):It:=⟨fun i _=>i<n,fun i H x H'=>H'=H/\x=.int (lo + i),fun i _=>n<=i⟩
theorem HS {P:aH}{w:aZ}{K:a8}{tg:aX} (a it:ai):yK P w K tg (Vi K a) [it] it (fun i h=>h.IsListIter it a i) where
 mem:=by simp
 obj:=fun i h st b hb=>by
  have e:b=it:=by simpa using hb
  subst e
  obtain ⟨o,e,c,d⟩:=st
  exact ⟨o,e,fun v z=>by rw [d] at z;cases z⟩
 keep:=fun i h h' st k=>st.at fun o e=>k it (by simp) o e
 item:=by
  intro X hP hw hK hc i pins s σ H E I hf st hg
  subst hP hw hK
  obtain ⟨xs,x,hq,hx⟩:=hg
  obtain ⟨its,rv,p,hz⟩:=I.list hq
  obtain ⟨u,hu,ru⟩:=rv.get hx
  obtain ⟨f0,f1,f2,f3,f4,f5⟩:=hf it (by simp)
  refine wpAny_pyNext_list_item st p.isList (x:=u) (by simpa using hu) fun h' st' sb=>?_
  have I1:bQ X pins σ H { s with heap:=h' }:=I.turned (t':=s.toks) (fun b o hb e=>(sb.2 b hb).trans e) f0 f1 f3 f4 f5
  obtain ⟨o,e,c,d⟩:=id st'
  exact ⟨u,rfl,F_ (s:={ s with heap:=h' }) e c d (by decide) ⟨x,H,I1,ru,⟨rfl,fun ys hy=>by rw [I.list_inj hy hq];exact hx⟩,st',fun b hb=>(hf b hb).1⟩⟩
 done:=by
  intro X hP hw hK hc i pins s σ H E I hf st hg
  subst hP hw hK
  obtain ⟨xs,hq,hx⟩:=hg
  obtain ⟨its,rv,p,hz⟩:=I.list hq
  obtain ⟨f0,f1,f2,f3,f4,f5⟩:=hf it (by simp)
  have hl:=rv.length
  exact wpAny_pyNext_list_end (I.ok.hd hc) st p.isList (by simp;omega) fun h' eb=>⟨rfl,I.turned (t':=s.toks) (fun b o hb e=>eb b o hb e) f0 f1 f3 f4 f5⟩
 self:=fun _ _ _ _ _ st h=>wpAny_pyIter_listiter st h
theorem EC {P:aH}{w:aZ}{K:a8}{tg:aX} (a it:ai):yK P w K tg (Vj K a) [it] it (fun i h=>h.IsTupleIter it a i) where
 mem:=by simp
 obj:=fun i h st b hb=>by
  have e:b=it:=by simpa using hb
  subst e
  obtain ⟨o,e,c,d⟩:=st
  exact ⟨o,e,fun v z=>by rw [d] at z;cases z⟩
 keep:=fun i h h' st k=>st.at fun o e=>k it (by simp) o e
 item:=by
  intro X hP hw hK hc i pins s σ H E I hf st hg
  subst hP hw hK
  obtain ⟨xs,x,hq,hx⟩:=hg
  obtain ⟨its,rv,p,hz⟩:=I.tuple hq
  obtain ⟨u,hu,ru⟩:=rv.get hx
  obtain ⟨f0,f1,f2,f3,f4,f5⟩:=hf it (by simp)
  refine wpAny_pyNext_tuple_item st (show s.heap.IsTuple a its.toArray from p) (x:=u) (by simpa using hu) fun h' st' sb=>?_
  have I1:bQ X pins σ H { s with heap:=h' }:=I.turned (t':=s.toks) (fun b o hb e=>(sb.2 b hb).trans e) f0 f1 f3 f4 f5
  obtain ⟨o,e,c,d⟩:=id st'
  exact ⟨u,rfl,F_ (s:={ s with heap:=h' }) e c d (by decide) ⟨x,H,I1,ru,⟨rfl,fun ys hy=>by rw [I.tuple_inj hy hq];exact hx⟩,st',fun b hb=>(hf b hb).1⟩⟩
 done:=by
  intro X hP hw hK hc i pins s σ H E I hf st hg
  subst hP hw hK
  obtain ⟨xs,hq,hx⟩:=hg
  obtain ⟨its,rv,p,hz⟩:=I.tuple hq
  obtain ⟨f0,f1,f2,f3,f4,f5⟩:=hf it (by simp)
  have hl:=rv.length
  exact wpAny_pyNext_tuple_end (I.ok.hd hc) st (show s.heap.IsTuple a its.toArray from p) (by simp;omega) fun h' eb=>⟨rfl,I.turned (t':=s.toks) (fun b o hb e=>eb b o hb e) f0 f1 f3 f4 f5⟩
 self:=fun _ _ _ _ _ st h=>wpAny_pyIter_tupleiter st h
theorem ED {P:aH}{w:aZ}{K:a8}{tg:aX} (it:ai) (lo:Int) (n:Nat):yK P w K tg (UQ lo n) [it] it (fun i h=>IsRangeIter h it (lo + (i:Nat) * 1) ((n:Int) - (i:Nat)) 1) where
 mem:=by simp
 obj:=fun i h st b hb=>by
  have e:b=it:=by simpa using hb
  subst e
  exact ⟨_,st,fun v z=>by
   have z':Data.fields _=Data.cell v:=z
   cases z'⟩
 keep:=fun i h h' st k=>k it (by simp) _ st
 item:=by
  intro X hP hw hK hc i pins s σ H E I hf st hg
  subst hP hw hK
  obtain ⟨f0,f1,f2,f3,f4,f5⟩:=hf it (by simp)
  have W:=Walks.range (prog:=X.prog) (w:=X.w) (I.ok.hd hc) it lo 1 n
  refine W.item i s _ _ hg st fun v h' tk hv st' kk=>?_
  obtain ⟨t,rfl⟩:=hv
  have I1:bQ X pins σ H { s with heap:=h',toks:=tk }:=I.turned (fun b o hb e=>kk b o (by simpa using hb) e) f0 f1 f3 f4 f5
  refine ⟨_,rfl,F_ (s:={ s with heap:=h',toks:=tk }) (n:="range_iterator") st' rfl rfl (by decide) ⟨.int (lo + i),H,I1,⟨t,?_⟩,⟨rfl,rfl⟩,st',fun b hb=>(hf b hb).1⟩⟩
  rw [Int.mul_one]
 done:=by
  intro X hP hw hK hc i pins s σ H E I hf st hg
  subst hP hw hK
  obtain ⟨f0,f1,f2,f3,f4,f5⟩:=hf it (by simp)
  exact wpAny_pyNext_range_end (I.ok.hd hc) st (by have:n<=i:=hg;omega) fun h' eb=>⟨rfl,I.turned (t':=s.toks) (fun b o hb e=>eb b o hb e) f0 f1 f3 f4 f5⟩
 self:=fun _ _ _ _ _ st h=>wpAny_pyIter_rangeiter st h
end L2
namespace L2
open PySem PySem.Spec PyProof.Rows
section
variable {X:Cx}{tg:aX}
def SO (K:a8) (tl:TE):TI:=fun σ H R=>tl σ H fun x H1=>∃ a,x=.ref a/\(∃ xs,oW K H1 a xs)/\R (Vi K a) H1
def Vk (K:a8) (tl:TE):TI:=fun σ H R=>tl σ H fun x H1=>∃ a,x=.ref a/\(∃ xs,kE K H1 a xs)/\R (Vj K a) H1
theorem tS {l:aX}{tl:TE} (hl:PE X l tl):PI X tg l (SO X.K tl):=by
 intro pins s σ H R I h
 refine fK (hl pins s σ H _ I h) fun v s1 h_16=>?_
 obtain ⟨x,H1,I1,r1,q1⟩:=h_16
 obtain ⟨a,e,⟨xs,hq⟩,q⟩:=q1
 subst e
 cases r1
 obtain ⟨its,rv,p,hz⟩:=I1.list hq
 refine pp p.isList ?_
 refine ⟨s1.heap.objs.size,[s1.heap.objs.size],_,_,H1,rfl,I1.kept (t':=s1.toks) fun b o e=>ac _ e,HS a _,⟨_,av _ rfl,rfl,rfl⟩,fun b hb=>?_,q⟩
 have e:b=s1.heap.objs.size:=by simpa using hb
 subst e
 exact I1.fpOk (ar _) (I1.hok.fresh (ar _))
theorem Ke {l:aX}{tl:TE} (hl:PE X l tl):PI X tg l (Vk X.K tl):=by
 intro pins s σ H R I h
 refine fK (hl pins s σ H _ I h) fun v s1 h_17=>?_
 obtain ⟨x,H1,I1,r1,q1⟩:=h_17
 obtain ⟨a,e,⟨xs,hq⟩,q⟩:=q1
 subst e
 cases r1
 obtain ⟨its,rv,p,hz⟩:=I1.tuple hq
 refine f_ (show s1.heap.IsTuple a its.toArray from p) ?_
 refine ⟨s1.heap.objs.size,[s1.heap.objs.size],_,_,H1,rfl,I1.kept (t':=s1.toks) fun b o e=>ac _ e,EC a _,⟨_,av _ rfl,rfl,rfl⟩,fun b hb=>?_,q⟩
 have e:b=s1.heap.objs.size:=by simpa using hb
 subst e
 exact I1.fpOk (ar _) (I1.hok.fresh (ar _))
theorem Kf {pins:List (ai×Obj)}{σ:St}{H:Hp}{s:ae}{R:It->Hp->Prop}{E:aa->ae->Prop}{lo hi:Int}{t u v:Tok}{tk:Nat} (I:bQ X pins σ H s) (h1:-(2 ^ 62)<=lo) (h2:lo<2 ^ 62) (h3:-(2 ^ 62)<=hi) (h4:hi<2 ^ 62)
  (q:R (UQ lo (hi - lo).toNat) H):au (ay X.prog X.w) X.A (wQ (.ref s.heap.objs.size)) (Vg X pins σ tg R) E { s with heap:=s.heap.push { cls:=.type "range",data:=.fields #[.int lo t,.int hi u,.int 1 v] },toks:=tk }:=by
 refine wpAny_pyIter_range (IsRange.new ..) (small_one h1 h2 h3 h4) ?_
 have I1:bQ X pins σ H { s with heap:=s.heap.push { cls:=.type "range",data:=.fields #[.int lo t,.int hi u,.int 1 v] },toks:=tk }:=I.kept fun b o e=>ac _ e
 refine ⟨(s.heap.push { cls:=.type "range",data:=.fields #[.int lo t,.int hi u,.int 1 v] }).objs.size,[(s.heap.push { cls:=.type "range",data:=.fields #[.int lo t,.int hi u,.int 1 v] }).objs.size],_,_,H,rfl,
  I1.kept (t':=tk) fun b o e=>ac _ e,ED _ lo (hi - lo).toNat,?_,fun b hb=>?_,q⟩
 ·have e1:lo + ((0:Nat):Int) * 1=lo:=by simp
  have e2:(((hi - lo).toNat:Nat):Int) - ((0:Nat):Int)=Builtin.Range.rangeSize lo hi 1:=by rw [rangeSize_one];split<;>omega
  show IsRangeIter _ _ (lo + ((0:Nat):Int) * 1) ((((hi - lo).toNat:Nat):Int) - ((0:Nat):Int)) 1
  rw [e1,e2]
  exact av _ rfl
 ·have e:b=(s.heap.push { cls:=.type "range",data:=.fields #[.int lo t,.int hi u,.int 1 v] }).objs.size:=by simpa using hb
  subst e
  exact I1.fpOk (ar _) (I1.hok.fresh (ar _))
def SQ (ta:TA):TI:=fun σ H R=>ta σ H fun vs H1=>∃ j:Int,vs=[.int j]/\-(2 ^ 62)<=j/\j<2 ^ 62/\R (UQ 0 j.toNat) H1
theorem HU {a:aX}{ta:TA}{p pos:Pos} (hg:Gl X "range") (hm:X.mg "range"=none) (ha:PA X [a] ta) (hs:aK [a] X.env=[(false,eh a X.env)]:=by rfl):PI X tg (.Call (.Name "range" p) [a] [] pos) (SQ ta):=by
 intro pins s σ H R I h
 refine Call_ (uU I hg hm boot_range (gP (fK (ha pos pins s σ H _ I h) fun us s1 ⟨vs,H1,I1,r1,q1⟩=>?_) hs rfl))
 obtain ⟨j,e,q1,q2,q⟩:=q1
 subst e
 cases r1 with
 | cons r rr =>
  cases rr
  obtain ⟨t,rfl⟩:=r
  exact call_range_1 (Kf I1 (by omega) (by omega) q1 q2 (by simpa using q))
inductive Vl (g:TG) (tb:TS) (D:Av) (σ:St) (J:It) (H1:Hp):Prop
 | mk (W:Nat->Nat->St->Hp->Prop) (w0:∃ m,W 0 m σ H1) (turn:∀ i m σ H,W i m σ H ->
 (J.stop i H/\D.nx σ H)\/(J.go i H/\∃ N:St->Hp->Prop,(∀ σ' H',N σ' H'->∃ m',m'<m/\W (i + 1) m' σ' H')/\∀ x H',J.yld i H x H'->g x σ H' fun σ2 H2=>tb { D with nx:=N,ct:=N,bk:=D.nx } σ2 H2)):Vl g tb D σ J H1
def Vm (wi:TI) (g:TG) (tb:TS):TS:=fun D σ H=>wi σ H (Vl g tb D σ)
def uV (fp:List ai) (h:bB):List (ai×Obj):=fp.filterMap fun b=>(h.get? b).map fun o=>(b,o)
theorem jY {fp:List ai}{h:bB}{b:ai}{o:Obj} (hb:b∈fp) (e:h.get? b=some o):(b,o)∈uV fp h:=List.mem_filterMap.mpr ⟨b,hb,by rw [e];rfl⟩
theorem HV {fp:List ai}{h:bB}{p:ai×Obj} (hp:p∈uV fp h):p.1∈fp/\h.get? p.1=some p.2:=by
 obtain ⟨b,hb,e⟩:=List.mem_filterMap.mp hp
 cases q:h.get? b with
 | none=>rw [q] at e;cases e
 | some o =>
  rw [q] at e
  have e':(b,o)=p:=bI e
  subst e'
  exact ⟨hb,q⟩
theorem bQ.pinned {pins:List (ai×Obj)}{σ:St}{H:Hp}{s:ae}{fp:List ai} (I:bQ X pins σ H s) (hf:∀ b∈fp,pO X pins H b) (ho:∀ b∈fp,∃ o,s.heap.get? b=some o/\∀ v,o.data≠.cell v):bQ X (pins++uV fp s.heap) σ H s :=
 I.pins_of fun p hp=>(List.mem_append.mp hp).elim (fun z=>I.pin p (aF _ z)) fun z=>by
  obtain ⟨hb,e⟩:=HV z
  obtain ⟨f0,f1,f2,_⟩:=hf p.1 hb
  obtain ⟨o,e',d⟩:=ho p.1 hb
  rw [e] at e';cases e'
  exact ⟨e,f0,f1,f2,d⟩
theorem bQ.unpinned {pins pl:List (ai×Obj)}{σ:St}{H:Hp}{s:ae} (I:bQ X (pins++pl) σ H s):bQ X pins σ H s:=I.pins_of fun p hp=>I.pin p (aF _ (bg _ hp))
theorem Kg {iter:aX}{body:List dz}{wi:TI}{g:TG}{tb:TS}{pos:Pos} (hp:PassesOwn (ay X.prog X.w) X.A X.env X.xe) (hc:X.calm=true) (hi:PI X tg iter wi) (hg:PG X tg g) (hb:FZ X body tb)
  (hs:∀ x,e7 iter X.env x=pure x:=by intro _;rfl):PS X (.For tg iter body [] pos) (Vm wi g tb):=by
 intro pins s σ H D I h
 refine wpAny_For (fK (hi pins s σ H _ I h) fun v s1 h1=>fK h1 fun itv s2 h2=>?_) hs
 obtain ⟨it,fp,tn,J,H2,e,I2,T,st2,f2,W,⟨m0,w0⟩,turn⟩:=h2
 subst e
 have stat:∀ {H':Hp},(∀ b∈fp,H' b=none)->∀ b∈fp,pO X pins H' b:=fun hn b hb=>⟨hn b hb,(f2 b hb).f1,(f2 b hb).f2,(f2 b hb).f3,(f2 b hb).f4,(f2 b hb).f5⟩
 refine codeAny_forLoop_any (Vh X pins tn fp W) ?_ m0 ⟨0,σ,H2,I2,st2,fun b hb=>(f2 b hb).1,w0⟩
 rintro n s3 ⟨i,σ3,H3,I3,st3,fr3,w3⟩
 rcases turn i n σ3 H3 w3 with ⟨stop,qn⟩ | ⟨go,N,hN,step⟩
 ·refine iC hp (fK (T.done X rfl rfl rfl hc i pins s3 σ3 H3 X.xe I3 (stat fr3) st3 stop) fun r s4 ⟨hr,I4⟩=>?_)
  subst hr
  exact tm ⟨σ3,H3,I4,qn⟩
 ·refine iC hp (fK (T.item X rfl rfl rfl hc i pins s3 σ3 H3 X.xe I3 (stat fr3) st3 go) fun r s4 ⟨u,hr,h4⟩=>?_)
  subst hr
  refine iC hp (fK h4 fun _ s5 ⟨x,H5,I5,r5,y5,st5,fr5⟩=>?_)
  have I5':=I5.pinned (stat fr5) (T.obj _ _ st5)
  refine iC hp (fK (hg _ s5 σ3 H5 x u _ I5' r5 (step x H5 y5)) fun _ s6 ⟨σ6,H6,I6,q6⟩=>?_)
  refine iC hp (fK (hb _ s6 σ6 H6 _ I6 q6) fun f s7 q7=>?_)
  have NA:∀ {σ7:St}{H7:Hp},bQ X (pins++uV fp s5.heap) σ7 H7 s7->N σ7 H7->∃ m,m<n/\Vh X pins tn fp W m s7:=fun {σ7 H7} I7 n7=>by
   obtain ⟨m',hm,w7⟩:=hN σ7 H7 n7
   refine ⟨m',hm,i + 1,σ7,H7,I7.unpinned,T.keep _ _ _ st5 fun b hb o e=>(I7.pin (b,o) (aF _ (aF _ (jY hb e)))).1,fun b hb=>?_,w7⟩
   obtain ⟨o,e,d⟩:=T.obj _ _ st5 b hb
   exact (I7.pin (b,o) (aF _ (aF _ (jY hb e)))).2.1
  cases f with
  | next=>obtain ⟨σ7,H7,I7,n7⟩:=q7;exact NA I7 n7
  | cont=>obtain ⟨σ7,H7,I7,n7⟩:=q7;exact NA I7 n7
  | brk=>obtain ⟨σ7,H7,I7,q7⟩:=q7;exact ⟨σ7,H7,I7.unpinned,q7⟩
  | ret v=>obtain ⟨x7,σ7,H7,I7,r7,q7⟩:=q7;exact ⟨x7,σ7,H7,I7.unpinned,r7,q7⟩
end
end L2
namespace L2
open PySem PySem.Spec PyProof.Rows
abbrev R2:=V->V->Hp->VK->Prop
def pC (X:Cx) (f:aa->aa->Sem aa) (r:R2):Prop :=
 ∀ (pins:List (ai×Obj)) (s:ae) (σ:St) (H:Hp) (x y:V) (v u:aa) (Q:VK),bQ X pins σ H s->dg x v->dg y u->r x y H Q ->
  au (ay X.prog X.w) X.A (f v u) (EP X pins σ Q) X.xe s
def ji (X:Cx) (f:aa) (r:List V->Hp->VK->Prop):Prop :=
 ∀ (pins:List (ai×Obj)) (s:ae) (σ:St) (H:Hp) (xs:List V) (us:List aa) (Q:VK),bQ X pins σ H s->du xs us->r xs H Q ->
  au (ay X.prog X.w) X.A (call f us) (EP X pins σ Q) X.xe s
def Vn (X:Cx) (r:V->Hp->(Bool->Hp->Prop)->Prop):Prop :=
 ∀ (pins:List (ai×Obj)) (s:ae) (σ:St) (H:Hp) (x:V) (v:aa) (Q:Bool->Hp->Prop),bQ X pins σ H s->dg x v->r x H Q ->
  au (ay X.prog X.w) X.A (truthy v) (TP X pins σ Q) X.xe s
def SS (r:R2) (ta tb:TE):TE:=fun σ H Q=>ta σ H fun x H1=>tb σ H1 fun y H2=>r x y H2 Q
inductive We (C:Int->Int->Prop) (g:Int->Int->V) (x:V) (y:V) (H:Hp) (Q:VK):Prop
 | mk (i j:_) (h0:x=.int i) (h1:y=.int j) (h2:C i j) (h3:Q (g i j) H):We C g x y H Q
def rI (C:Int->Int->Prop) (g:Int->Int->V):R2:=We C g
inductive SU (g:Int->Int->V) (x:V) (y:V) (H:Hp) (Q:VK):Prop
 | mk (i j:_) (h0:x=.int i) (h1:y=.int j) (h2:Q (g i j) H):SU g x y H Q
def R7 (g:Int->Int->V):R2:=SU g
section
variable {X:Cx}{a b c:aX}{ta tb tc:TE}{pos:Pos}
theorem R8 (ha:PE X a ta) (hb:PE X b tb) {pins:List (ai×Obj)}{s:ae}{σ:St}{H:Hp}{R:V->V->Hp->Prop} (I:bQ X pins σ H s)
  (h:ta σ H fun x H1=>tb σ H1 fun y H2=>R x y H2) {Q:aa->ae->Prop}{f:aa->aa->Sem aa}
  (hf:∀ v u s2 x y H2,bQ X pins σ H2 s2->dg x v->dg y u->R x y H2->au (ay X.prog X.w) X.A (f v u) Q X.xe s2) :
  au (ay X.prog X.w) X.A (eh a X.env) (fun v s₁=>au (ay X.prog X.w) X.A (eh b X.env) (fun u s₂=>au (ay X.prog X.w) X.A (f v u) Q X.xe s₂) X.xe s₁) X.xe s:=by
 refine fK (ha pins s σ H _ I h) fun v s1 h_19=>?_
 obtain ⟨x,H1,I1,r1,q1⟩:=h_19
 refine fK (hb pins s1 σ H1 _ I1 q1) fun u s2 h_20=>?_
 obtain ⟨y,H2,I2,r2,q2⟩:=h_20
 exact hf v u s2 x y H2 I2 r1 r2 q2
theorem PF {op:Operator}{r:R2} (ho:pC X (g6 op) r) (ha:PE X a ta) (hb:PE X b tb):PE X (.BinOp a op b pos) (SS r ta tb):=by
 intro pins s σ H Q I h
 exact wpAny_BinOp (R8 ha hb I h fun v u s2 x y H2 I2 rx ry q=>ho pins s2 σ H2 x y v u Q I2 rx ry q)
theorem Vo {f:aa->aa->Sem aa}{C:Int->Int->Prop}{g:Int->Int->Int}
  (rule:∀ (i j:Int) (t u:Tok) (s:ae) (Q:aa->ae->Prop) (E:aa->ae->Prop),C i j->Q (.int (g i j) s.toks) { s with toks:=s.toks + 1 }->au (ay X.prog X.w) X.A (f (.int i t) (.int j u)) Q E s) :
  pC X f (rI C fun i j=>.int (g i j)):=by
 intro pins s σ H x y v u Q I rx ry h
 obtain ⟨i,j,rfl,rfl,hc,q⟩:=h
 obtain ⟨t,rfl⟩:=rx
 obtain ⟨t',rfl⟩:=ry
 exact rule i j t t' s _ _ hc ⟨.int (g i j),H,I.tok _,⟨_,rfl⟩,q⟩
theorem Vp {f:aa->aa->Sem aa}{g:Int->Int->Int}
  (rule:∀ (i j:Int) (t u:Tok) (s:ae) (Q:aa->ae->Prop) (E:aa->ae->Prop),Q (.int (g i j) s.toks) { s with toks:=s.toks + 1 }->au (ay X.prog X.w) X.A (f (.int i t) (.int j u)) Q E s) :
  pC X f (R7 fun i j=>.int (g i j)):=by
 intro pins s σ H x y v u Q I rx ry h
 obtain ⟨i,j,rfl,rfl,q⟩:=h
 obtain ⟨t,rfl⟩:=rx
 obtain ⟨t',rfl⟩:=ry
 exact rule i j t t' s _ _ ⟨.int (g i j),H,I.tok _,⟨_,rfl⟩,q⟩
theorem R9 {f:aa->aa->Sem aa}{g:Int->Int->Bool}
  (rule:∀ (i j:Int) (t u:Tok) (s:ae) (Q:aa->ae->Prop) (E:aa->ae->Prop),Q (.bool (g i j)) s->au (ay X.prog X.w) X.A (f (.int i t) (.int j u)) Q E s) :
  pC X f (R7 fun i j=>.bl (g i j)):=by
 intro pins s σ H x y v u Q I rx ry h
 obtain ⟨i,j,rfl,rfl,q⟩:=h
 obtain ⟨t,rfl⟩:=rx
 obtain ⟨t',rfl⟩:=ry
 exact rule i j t t' s _ _ ⟨.bl (g i j),H,I,rfl,q⟩
def Vq (i j:Int):Prop:=0<j/\j<1073741824
def Ra (i j:Int):Prop:=(-(2 ^ 64)<i/\i<2 ^ 64)\/(-(2 ^ 64)<j/\j<2 ^ 64)
theorem Ra.ok {i j:Int} (h:Ra i j):IntMulOk i j:=by
 rcases h with ⟨h1,h2⟩ | ⟨h1,h2⟩
 ·exact .of_left (intBits_le_64 h1 h2)
 ·exact .of_right (intBits_le_64 h1 h2)
theorem Rb:pC X (g6 .Add) (R7 fun i j=>.int (i + j)):=Vp fun _ _ _ _ _ _ _ q=>add_int q
theorem Rc:pC X (g6 .Mult) (rI Ra fun i j=>.int (i * j)):=Vo fun _ _ _ _ _ _ _ hc q=>mul_int q hc.ok
theorem Oa:pC X (g6 .FloorDiv) (rI Vq fun i j=>.int (i / j)):=Vo fun i j _ _ _ _ _ hc q=>by
 have h1:(0:Int)<j:=hc.1
 have h2:j<1073741824:=hc.2
 exact floordiv_int (by omega) (by rw [Int.fdiv_eq_ediv_of_nonneg i (by omega)];exact q) (.inl (PyProof.noPylong_small (by omega)))
theorem Re:pC X (g6 .Mod) (rI (fun _ j=>0<j) fun i j=>.int (i % j)):=Vo fun i j _ _ _ _ _ hc q=>by
 have h1:(0:Int)<j:=hc
 exact mod_int' (by omega) (by rw [Int.fmod_eq_emod_of_nonneg i (by omega)];exact q)
end
section
variable {X:Cx}{a b c:aX}{ta tb tc:TE}{pos:Pos}
theorem Az {pins:List (ai×Obj)}{σ:St}{H:Hp}{s:ae}{Q:VK}{k k':Bool} (I:bQ X pins σ H s) (q:Q (.bl k) H) (e:k=k'):EP X pins σ Q (.bool k') s:=by
 subst e
 exact ⟨.bl k,H,I,rfl,q⟩
theorem SW:pC X (bK .Lt) (R7 fun i j=>.bl (decide (i<j))):=R9 fun _ _ _ _ _ _ _ q=>lt_int q
theorem SX:pC X (bK .LtE) (R7 fun i j=>.bl (decide (i<=j))):=R9 fun _ _ _ _ _ _ _ q=>le_int q
theorem SY:pC X (bK .Gt) (R7 fun i j=>.bl (decide (j<i))):=R9 fun _ _ _ _ _ _ _ q=>gt_int q
theorem HW:pC X (bK .Lt) (fun x y H Q=>∃ i j,x=.str i/\y=.str j/\Q (.bl (decide (i.cps.toList<j.cps.toList))) H):=by
 intro pins s σ H x y v u Q I rx ry h
 obtain ⟨i,j,rfl,rfl,q⟩:=h
 obtain ⟨t,rfl⟩:=rx
 obtain ⟨t',rfl⟩:=ry
 exact lt_str (Az I q rfl)
theorem Rf:pC X (bK .Is) (fun x y H Q=>y=.non/\Q (.bl (decide (x=.non))) H):=by
 intro pins s σ H x y v u Q I rx ry h
 obtain ⟨rfl,q⟩:=h
 cases ry
 refine is_none_gen (Az I q ?_)
 cases x<;>first
  | (cases rx;rfl)
  | (obtain ⟨t,rfl⟩:=rx;rfl)
theorem Ob:pC X (bK .IsNot) (fun x y H Q=>y=.non/\Q (.bl (!decide (x=.non))) H):=by
 intro pins s σ H x y v u Q I rx ry h
 obtain ⟨rfl,q⟩:=h
 cases ry
 refine isnot_none_gen (Az I q ?_)
 cases x<;>first
  | (cases rx;rfl)
  | (obtain ⟨t,rfl⟩:=rx;rfl)
theorem Kh (b:aX) {op:Jq} (h:op≠.In:=by decide) (h2:op≠.NotIn:=by decide):gO op b=false:=by
 have e1:(op == CmpOp.In)=false:=by cases op<;>first | rfl | exact absurd rfl h
 have e2:(op == CmpOp.NotIn)=false:=by cases op<;>first | rfl | exact absurd rfl h2
 cases b<;>simp [gO,e1,e2]
theorem Oc {op:Jq}{r:R2} (ho:pC X (bK op) r) (ha:PE X a ta) (hb:PE X b tb) (hm:gO op b=false):PE X (.Compare a [op] [b] pos) (SS r ta tb):=by
 intro pins s σ H Q I h
 exact wpAny_Compare1 (R8 ha hb I h fun v u s2 x y H2 I2 rx ry q=>ho pins s2 σ H2 x y v u Q I2 rx ry q) hm
def PH (t:TE):TT:=fun σ H Q=>t σ H fun x H'=>∃ k,x=.bl k/\Q k H'
theorem Od {op:Jq}{r:R2} (ho:pC X (bK op) r) (ha:PE X a ta) (hb:PE X b tb) (hm:gO op b=false):PT X (.Compare a [op] [b] pos) (PH (SS r ta tb)):=by
 intro pins s σ H Q I h
 refine Nk (fK (ha pins s σ H _ I h) fun v s1 ⟨x,H1,I1,r1,q1⟩=>fK (hb pins s1 σ H1 _ I1 q1) fun u s2 ⟨y,H2,I2,r2,q2⟩ =>
  fK (ho pins s2 σ H2 x y v u _ I2 r1 r2 q2) fun c s3 ⟨z,H3,I3,r3,k,e,q3⟩=>?_) hm
 subst e
 cases r3
 exact cW ⟨H3,I3,q3⟩
def EE (r r':R2) (ta tb tc:TE):TE:=fun σ H Q=>ta σ H fun x H1=>tb σ H1 fun y H2=>r x y H2 fun z H3=>∃ k,z=.bl k /\
 (if k=true then tc σ H3 fun w' H4=>r' y w' H4 Q else Q (.bl false) H3)
theorem Ki {op op':Jq}{r r':R2} (ho:pC X (bK op) r) (ho':pC X (bK op') r') (ha:PE X a ta) (hb:PE X b tb) (hc:PE X c tc)
  (hm:Jr [op,op'] [b,c]=false:=by with_unfolding_all rfl):PE X (.Compare a [op,op'] [b,c] pos) (EE r r' ta tb tc):=by
 intro pins s σ H Q I h
 refine Compare_chain (fK (ha pins s σ H _ I h) fun v s1 ⟨x,H1,I1,r1,q1⟩=>chain_link (fK (hb pins s1 σ H1 _ I1 q1) fun u s2 ⟨y,H2,I2,r2,q2⟩ =>
  fK (ho pins s2 σ H2 x y v u _ I2 r1 r2 q2) fun d s3 ⟨z,H3,I3,r3,k,e,q3⟩=>?_)) hm
 subst e
 cases r3
 refine cW ?_
 cases k with
 | false=>exact ite_ff ⟨.bl false,H3,I3,rfl,q3⟩
 | true=>exact ite_tt (chain_last (fK (hc pins s3 σ H3 _ I3 q3) fun w' s4 h_22=>by obtain ⟨z',H4,I4,r4,q4⟩:=h_22;exact ho' pins s4 σ H4 y z' u w' Q I4 r2 r4 q4))
theorem Kj {op op':Jq}{r r':R2} (ho:pC X (bK op) r) (ho':pC X (bK op') r') (ha:PE X a ta) (hb:PE X b tb) (hc:PE X c tc)
  (hm:Jr [op,op'] [b,c]=false:=by with_unfolding_all rfl):PT X (.Compare a [op,op'] [b,c] pos) (PH (EE r r' ta tb tc)):=by
 intro pins s σ H Q I h
 refine isTrue_chain (fK (ha pins s σ H _ I h) fun v s1 ⟨x,H1,I1,r1,q1⟩=>test_link (fK (hb pins s1 σ H1 _ I1 q1) fun u s2 ⟨y,H2,I2,r2,q2⟩ =>
  fK (ho pins s2 σ H2 x y v u _ I2 r1 r2 q2) fun d s3 ⟨z,H3,I3,r3,k,e,q3⟩=>?_)) hm
 subst e
 cases r3
 refine cW ?_
 cases k with
 | false =>
  obtain ⟨k',e',q'⟩:=q3
  cases e'
  exact ite_ff ⟨H3,I3,q'⟩
 | true =>
  refine ite_tt (test_last (fK (hc pins s3 σ H3 _ I3 q3) fun w' s4 ⟨z',H4,I4,r4,q4⟩=>fK (ho' pins s4 σ H4 y z' u w' _ I4 r2 r4 q4) fun d' s5 ⟨z2,H5,I5,r5,k2,e2,q5⟩=>?_))
  subst e2
  cases r5
  exact cW ⟨H5,I5,q5⟩
def SZ (K:a8) (x:V) (H:Hp) (k:Bool):Prop :=
 match x with
 | .non=>k=false
 | .bl b=>k=b
 | .int i=>k=(i != 0)
 | .str y=>y.length<=sizeLine/\k=((y.length:Int) != 0)
 | .byt y=>y.size<=sizeLine/\k=((y.size:Int) != 0)
 | .ref p=>(∃ xs,oW K H p xs/\k=!xs.isEmpty)\/(∃ xs,kE K H p xs/\k=!xs.isEmpty)\/∃ kvs,H p=some (.dK kvs)/\k=!kvs.isEmpty
 | _=>False
theorem EF {κ:Type}{kvs:List (κ×V)}{vs:List (κ×aa)} (r:KV kvs vs):(!vs.isEmpty)=!kvs.isEmpty:=by
 cases r<;>rfl
theorem wZ {xs:List V}{its:List aa} (r:du xs its):(!its.toArray.isEmpty)=!xs.isEmpty:=by
 cases r<;>simp
theorem uW:(sizeLine:Nat)<2 ^ 63:=by rw [gK];decide
theorem Rg:Vn X (fun x H Q=>∃ k,SZ X.K x H k/\Q k H):=by
 intro pins s σ H x v Q I rx h
 obtain ⟨k,e,q⟩:=h
 have hl:=uW
 have hs:sizeLine=16777216:=gK
 cases x with
 | non =>
  cases rx
  have e':k=false:=e
  subst e'
  exact truthy_none ⟨H,I,q⟩
 | bl b =>
  cases rx
  have e':k=b:=e
  subst e'
  exact cW ⟨H,I,q⟩
 | int i =>
  obtain ⟨t,rfl⟩:=rx
  have e':k=(i != 0):=e
  subst e'
  exact PySem.P.truthy_int ⟨H,I,q⟩
 | str y =>
  obtain ⟨t,rfl⟩:=rx
  obtain ⟨hy,e'⟩:y.length<=sizeLine/\k=((y.length:Int) != 0):=e
  subst e'
  exact PySem.P.truthy_str (by omega) ⟨H,I.tok _,q⟩
 | byt y =>
  obtain ⟨t,rfl⟩:=rx
  obtain ⟨hy,e'⟩:y.size<=sizeLine/\k=((y.size:Int) != 0):=e
  subst e'
  exact PySem.W.truthy_bytes (by omega) ⟨H,I.tok _,q⟩
 | ref p =>
  cases rx
  have e':(∃ xs,oW X.K H p xs/\k=!xs.isEmpty)\/(∃ xs,kE X.K H p xs/\k=!xs.isEmpty)\/∃ kvs,H p=some (.dK kvs)/\k=!kvs.isEmpty:=e
  rcases e' with ⟨xs,hx,e'⟩ | ⟨xs,hx,e'⟩ | ⟨kvs,hx,e'⟩
  ·subst e'
   obtain ⟨its,r,pl,hz⟩:=I.list hx
   have hlen:=r.length
   exact wpAny_truthy_list pl.isList (by simp only [aQ];omega) ⟨H,I.tok _,by rw [wZ r];exact q⟩
  ·subst e'
   obtain ⟨its,r,pl,hz⟩:=I.tuple hx
   have hlen:=r.length
   exact truthy_tuple pl (by simp only [aQ];omega) ⟨H,I.tok _,by rw [wZ r];exact q⟩
  ·subst e'
   obtain ⟨hz,hS,vs,r,m⟩:kvs.length<=sizeLine/\(p == eJ)=false/\∃ vs,KV kvs vs/\s.heap.DictOf (fS X.prog X.w) p vs:=I.hok p _ hx
   have hlen:kvs.length=vs.length:=j0 r
   exact wpAny_truthy_dict hS m (by omega) ⟨H,I.tok _,by rw [EF r];exact q⟩
 | _=>exact (show False from e).elim
theorem Kk (ha:PE X a ta) (he:∀ whole,uI a X.env whole=(do let v <- whole;vw a.pos;holding [v] (truthy v))) :
  PT X a (fun σ H Q=>ta σ H fun x H'=>∃ k,SZ X.K x H' k/\Q k H'):=by
 intro pins s σ H Q I h
 exact isTrue_plain (fK (ha pins s σ H _ I h) fun v s1 h_23=>by obtain ⟨x,H1,I1,r1,q1⟩:=h_23;exact Rg pins s1 σ H1 x v Q I1 r1 q1) (he _)
theorem EG:pC X (g6 .Add) (fun x y H Q=>∃ i j,x=.str i/\y=.str j/\i.length + j.length<=sizeLine/\Q (.str (i++j)) H):=by
 intro pins s σ H x y v u Q I rx ry h
 obtain ⟨i,j,rfl,rfl,hz,q⟩:=h
 obtain ⟨t,rfl⟩:=rx
 obtain ⟨t',rfl⟩:=ry
 exact add_str (fun t' tk=>⟨.str (i++j),H,I.tok _,⟨_,rfl⟩,q⟩) hz
theorem kF {x:V}{us:List aa} (r:du [x] us):∃ u,us=[u]/\dg x u:=by
 cases r with
 | cons r1 r2=>cases r2;exact ⟨_,rfl,r1⟩
theorem PJ {x y:V}{us:List aa} (r:du [x,y] us):∃ u w',us=[u,w']/\dg x u/\dg y w':=by
 cases r with
 | cons r1 r2 =>
  cases r2 with
  | cons r3 r4=>cases r4;exact ⟨_,_,rfl,r1,r3⟩
end
end L2
namespace L2
open PySem PySem.Spec PyProof.Rows
structure Rh (h:bB) (x dx C:ai) (mA:Str->Option aa):Prop where
 obj:h.get? x=some (vS C dx)
 ns:h.Ns1 dx mA
 ne:dx≠x
theorem HX {h:bB}{dx:ai}{mA:Str->Option aa} (n:h.Ns1 dx mA):∃ od,h.get? dx=some od/\∀ name,wR name od=some (mA name):=by
 obtain ⟨o,es,ep,ho,hd,hk,_,hm⟩:=n
 refine ⟨o,ho,fun name=>?_⟩
 have e:=hm name
 unfold nsFind findBy at e
 rw [<- Hw] at e
 unfold wR
 rw [hd]
 dsimp only
 split
 ·rename_i y q
  rw [q] at e
  exact congrArg some e
 ·rename_i q
  rw [q] at e
  have a:es.toList.any (·.refKey)=false:=by
   rw [JM]
   intro y hy
   obtain ⟨z,t,hkey⟩:=hk y (Array.mem_toList_iff.mp hy)
   simp [DictEntry.refKey,hkey]
  have a':¬ es.toList.any (·.refKey)=true:=by rw [a];exact bu
  rw [if_neg a']
  exact congrArg some e
theorem Rh.look {h:bB}{x dx C:ai}{mA:Str->Option aa} (I:Rh h x dx C mA):∃ od,PySem.W.InstAt h x (vS C dx) C (some od)/\∀ name,wR name od=some (mA name) :=
 let ⟨od,ho,hl⟩:=HX I.ns
 ⟨od,⟨I.obj,rfl,rfl,ho⟩,hl⟩
section
variable {prog:aH}{w:aZ}{A:aU}{E:aa->ae->Prop}{s:ae}{K:a8}{x dx C f:ai}{mA:Str->Option aa}{name:Str}{v:aa}
end
theorem wY.some_of {v:V}{o:Option aa} (r:wY (some v) o):∃ u,o=some u/\dg v u:=by
 cases o with
 | none=>exact (show False from r).elim
 | some u=>exact ⟨u,rfl,r⟩
section
variable {P:aH}{w:aZ}{H H':Hp}{h h':bB}{a C dx:ai}{fs fs':List (Str×V)}
theorem Oe (hok:pd P w H h) (e:H a=some (.ins C dx fs)):∃ mA,Rh h a dx C mA/\(∀ f,wY (fs.lookup f) (mA f))/\PySem.Within mA (fs.map (·.1))/\fs.length<=1000/\H dx=some (.own a):=by
 obtain ⟨d,z,ne,ob,mA,n,r,q⟩:=(show c_ P w H h a (.ins C dx fs) from hok a _ e)
 exact ⟨mA,⟨ob,n,ne⟩,r,q,z,d⟩
end
structure Vr (K:a8) (C:ai):Prop where
 pg:Hx K C Str.empty=true
 hd:PySem.W.hasDictIn K C=true
 po:PySem.W.plainOver K C=true
 sa:lK K (.ref C) "__setattr__"=some (some (.builtin "object.__setattr__"))
theorem Vr.get {K:a8}{C:ai} (c:Vr K C) (f:Str):Hx K C f=true:=c.pg
section
variable {X:Cx}{pins:List (ai×Obj)}{σ:St}{H:Hp}{s:ae}{a C dx:ai}{fs:List (Str×V)}{f:Str}{v:V}{A:aU}{E:aa->ae->Prop}
end
section
variable {X:Cx}{o e value:aX}{f:Str}{pos pos' tpos:Pos}{ta tv:TE}
end
section
variable {X:Cx}{pins:List (ai×Obj)}{σ:St}{H:Hp}{s:ae}{A:aU}{E:aa->ae->Prop}{Q:aa->ae->Prop}{c:aa}{b:Bool}
inductive w9 (K:a8) (H:Hp):V->aa->Prop where
 | non:w9 K H .non (.type "NoneType")
 | bl (x:Bool):w9 K H (.bl x) (.type "bool")
 | int (i:Int):w9 K H (.int i) (.type "int")
 | str (x:Str):w9 K H (.str x) (.type "str")
 | flt (x:UInt64):w9 K H (.flt x) (.type "float")
 | lst {a:ai}{xs:List V} (e:H a=some (.lst xs)):w9 K H (.ref a) (.type "list")
 | frz {a:ai}{o:Obj}{xs:List V} (e:H a=some (.frz o (.lst xs))):w9 K H (.ref a) (.type "list")
 | tup {a:ai}{xs:List V} (e:H a=some (.tup xs)):w9 K H (.ref a) (.type "tuple")
 | dK {a:ai}{kvs:List (fD×V)} (e:H a=some (.dK kvs)):w9 K H (.ref a) (.type "dict")
 | dT {a:ai}{kvs:List (List fD×V)} (e:H a=some (.dT kvs)):w9 K H (.ref a) (.type "dict")
 | ins {a C dx:ai}{fs:List (Str×V)} (e:H a=some (.ins C dx fs)) (cl:Vr K C) (ha:lK K (.ref C) "__class__"=some (some (.builtin "object.__class__")))
   (hn:FR K (.builtin "object.__class__") "__get__"=some (some (.builtin "getset_descriptor.__get__"))) (htk:Js K (.builtin "object.__class__")=some true)
   (hm:dh K C (.type "object")=some true):w9 K H (.ref a) (.ref C)
theorem qx {x:V}{u t:aa} (I:bQ X pins σ H s) (rx:dg x u) (ty:w9 X.K H x t) (e:pF X.K t c=some b) (h:∀ tk,Q (.bool b) { s with toks:=tk }) :
  au (ay X.prog X.w) A (call (.builtin "isinstance") [u,c]) Q E s:=by
 cases ty with
 | non=>cases (show u=dI from rx);exact cF PySem.W.kitx_none I.kIn iK e (fun z=>nomatch z) h
 | bl y=>cases (show u=Ht y from rx);exact cF PySem.W.kitx_bool I.kIn iK e (fun z=>nomatch z) h
 | int i=>obtain ⟨t,q⟩:=(show ∃ t,u=nR i t from rx);cases q;exact cF PySem.W.kitx_int I.kIn iK e (fun z=>nomatch z) h
 | str y=>obtain ⟨t,q⟩:=(show ∃ t,u=jx y t from rx);cases q;exact cF PySem.W.kitx_str I.kIn iK e (fun z=>nomatch z) h
 | flt y=>obtain ⟨t,q⟩:=(show ∃ t,u=Value.float y t from rx);cases q;exact cF PySem.W.kitx_float I.kIn iK e (fun z=>nomatch z) h
 | @lst a xs ea =>
  cases (show u=bj a from rx)
  obtain ⟨_,_,n,_,h1⟩:=(show c_ X.prog X.w H s.heap a (.lst xs) from I.hok a _ ea)
  exact cF tL I.kIn ⟨_,h1,rfl⟩ e (fun z=>nomatch z) h
 | @frz a ob xs ea =>
  cases (show u=bj a from rx)
  obtain ⟨_,_,_,n,_,h1⟩:=(show c_ X.prog X.w H s.heap a (.frz ob (.lst xs)) from I.hok a _ ea)
  exact cF tL I.kIn ⟨_,h1,rfl⟩ e (fun z=>nomatch z) h
 | @tup a xs ea =>
  cases (show u=bj a from rx)
  obtain ⟨_,_,_,p⟩:=(show c_ X.prog X.w H s.heap a (.tup xs) from I.hok a _ ea)
  obtain ⟨o,h1,h2,_⟩:=p
  exact cF Eh I.kIn ⟨o,h1,h2⟩ e (fun z=>nomatch z) h
 | @dK a kvs ea =>
  cases (show u=bj a from rx)
  obtain ⟨_,_,vs,_,p⟩:=(show c_ X.prog X.w H s.heap a (.dK kvs) from I.hok a _ ea)
  obtain ⟨o,es,ep,h1,h2,_⟩:=p
  exact cF FS I.kIn ⟨o,h1,h2.1⟩ e (fun z=>nomatch z) h
 | @dT a kvs ea =>
  cases (show u=bj a from rx)
  obtain ⟨_,_,xs,_,o,es,ep,h1,h2,_⟩:=(show c_ X.prog X.w H s.heap a (.dT kvs) from I.hok a _ ea)
  exact cF FS I.kIn ⟨o,h1,h2.1⟩ e (fun z=>nomatch z) h
 | @ins a C dx fs ea cl ha hn htk hm =>
  cases (show u=bj a from rx)
  obtain ⟨mA,O,_⟩:=Oe I.hok ea
  obtain ⟨od,J,_⟩:=O.look
  exact cF (PySem.W.kitx_own (cl.get _) cl.hd ha hn htk hm) I.kIn J e (fun z=>nomatch z) h
end
end L2
namespace L2
open PySem PySem.Spec PyProof.Rows
structure kZ (k:Nat) (A:aU):Prop where
 hd:A.handled=none
 dp:A.depth + 3 * k + 5<recursionLimit
 un:A.units + 16 * k + 200<gz
theorem kZ.mono {j k:Nat}{A:aU} (r:kZ k A) (h:j<=k):kZ j A:=⟨r.hd,by have:=r.dp;omega,by have:=r.un;omega⟩
theorem kZ.deeper {k:Nat}{A:aU} (r:kZ (k + 1) A) (env:Env):kZ k (A.deeper env) :=
 ⟨r.hd,by have:=r.dp;show A.depth + 1 + 3 * k + 5<_;omega,by have:=r.un;show A.units + 3 + 16 * k + 200<_;omega⟩
theorem kZ.depth {k:Nat}{A:aU} (r:kZ k A):A.depth<recursionLimit:=by have:=r.dp;omega
theorem kZ.units {k:Nat}{A:aU} (r:kZ k A):A.units + 64<gz:=by have:=r.un;omega
def Ri:TA:=fun _ H Q=>Q [] H
def Kl (ta:TE) (tr:TA):TA:=fun σ H Q=>ta σ H fun x H1=>tr σ H1 fun xs H2=>Q (x::xs) H2
section
variable {X:Cx}{e:aX}{es:List aX}{te:TE}{t:TA}{pos:Pos}
theorem jZ:PA X [] Ri:=fun _ _ _ _ H Q I h=>Calls.spliced_nil ⟨[],H,I,.nil,h⟩
theorem iE (ha:PE X e te) (hr:PA X es t) (hs:aK (e::es) X.env=(false,eh e X.env)::aK es X.env:=by rfl):PA X (e::es) (Kl te t):=by
 intro pos pins s σ H Q I h
 rw [hs]
 show au _ _ (spliced ((false,eh e X.env)::j8 pos (aK es X.env))) _ _ s
 refine Calls.spliced_cons (fK (ha pins s σ H _ I h) fun u s1 ⟨x,H1,I1,r1,q1⟩=>?_)
 exact fK (hr pos pins s1 σ H1 _ I1 q1) fun us s2 h_25=>by obtain ⟨xs,H2,I2,r2,q2⟩:=h_25;exact ⟨x::xs,H2,I2,.cons r1 r2,q2⟩
def Vs (t:TA):TE:=fun σ H Q=>t σ H fun xs H1=>xs.length<=sizeLine/\∀ p,H1 p=none->Q (.ref p) (upd H1 p (.tup xs))
def Vt (t:TA):TE:=fun σ H Q=>t σ H fun xs H1=>xs.length<=sizeLine/\∀ p,H1 p=none->Q (.ref p) (upd H1 p (.lst xs))
theorem Rj {x1} (h:PA X es t):PE X (.Tuple es x1 pos) (Vs t):=by
 intro pins s σ H Q I hq
 refine wpAny_Tuple_spliced (fK (h pos pins s σ H _ I hq) fun us s1 ⟨xs,H1,I1,r,z,q⟩=>⟨by rw [<- r.length];exact z,?_⟩)
 have hf:H1 s1.heap.objs.size=none:=I1.hok.fresh (ar _)
 refine ⟨.ref s1.heap.objs.size,upd H1 s1.heap.objs.size (.tup xs),I1.laid (t':=s1.toks) (fun b u e=>ac _ e) (ar _) ?_,rfl,q _ hf⟩
 exact ⟨z,us,r,⟨_,av _ rfl,rfl,_,rfl⟩⟩
theorem sj (h:PA X es t):PE X (.List es pos) (Vt t):=by
 intro pins s σ H Q I hq
 refine wpAny_List_spliced (fK (h pos pins s σ H _ I hq) fun us s1 ⟨xs,H1,I1,r,z,q⟩=>⟨by rw [<- r.length];exact z,?_⟩)
 have hf:H1 s1.heap.objs.size=none:=I1.hok.fresh (ar _)
 refine ⟨.ref s1.heap.objs.size,upd H1 s1.heap.objs.size (.lst xs),I1.laid (t':=s1.toks) (fun b u e=>ac _ e) (ar _) ?_,rfl,q _ hf⟩
 exact ⟨z,us,0,r,av _ rfl⟩
end
abbrev Sp:=List V->Hp->VK->XK->Prop
abbrev HY:=List Env->Hp->ae->XK->aa->ae->Prop
structure Of (P:aH) (w:aZ) (K:a8) (mg:Str->Option aa) (base:bB) (A:aU) (outer:List Env) (s:ae) (H:Hp):Prop where
 frames:A.frames=some outer
 mod:Mod K mg base
 bs:∀ b o,base.get? b=some o->s.heap.get? b=some o/\H b=none
 bsz:base.objs.size<=s.heap.objs.size
 funs:s.heap.FunFrames base outer
 frf:∀ b∈rK outer,H b=none
 hok:pd P w H s.heap
 bare:pj s.gens
inductive CE (outer:List Env) (P:aH) (w:aZ) (H:Hp) (s:ae) (Q:VK) (u:aa) (s':ae):Prop
 | mk (v H':_) (h0:s'.os=s.os) (h1:pj s'.gens) (h2:Un (rK outer) [] H H' s.heap s'.heap) (h3:pd P w H' s'.heap) (h4:dg v u) (h5:Q v H'):CE outer P w H s Q u s'
def CR (CX:HY) (outer:List Env) (P:aH) (w:aZ) (H:Hp) (s:ae) (Q:VK) (E:XK) (r:rZ) (s':ae):Prop :=
 match r with
 | .ok (.ret u)=>CE outer P w H s Q u s'
 | .ok _=>False
 | .error e=>CX outer H s E e s'
structure rj (P:aH) (w:aZ) (K:a8) (mg:Str->Option aa) (base:bB) (CX:HY) (k:Nat) (f:ai) (fd:eG) (ps:List Str) (sp:Sp):Prop where
 len:∀ vs H Q E,sp vs H Q E->vs.length=ps.length
 run:∀ (A:aU) (outer:List Env) (s:ae) (H:Hp) (args:Args) (us:List aa) (vs:List V) (Q:VK) (E:XK),kZ k A->Of P w K mg base A outer s H->yw s fd args (ps.zip us)->du vs us->sp vs H Q E ->
  jo (ay P w) A (.call (.ref f) args) (CR CX outer P w H s Q E) s
theorem rj.imp {P:aH}{w:aZ}{K:a8}{mg:Str->Option aa}{base:bB}{CX:HY}{k:Nat}{f:ai}{fd:eG}{ps:List Str}{sp sp':Sp} (F:rj P w K mg base CX k f fd ps sp)
  (h:∀ vs H Q E,sp' vs H Q E->sp vs H Q E):rj P w K mg base CX k f fd ps sp' :=
 ⟨fun vs H Q E q=>F.len vs H Q E (h _ _ _ _ q),fun A outer s H args us vs Q E hr he hb hv hs=>F.run A outer s H args us vs Q E hr he hb hv (h _ _ _ _ hs)⟩
section
variable {X:Cx}{pins:List (ai×Obj)}{σ:St}{H:Hp}{s s':ae}
theorem bQ.env0 (I:bQ X pins σ H s):Of X.prog X.w X.K X.mg X.base X.A X.stack s H :=
 ⟨I.ok.frames,I.ok.mod,I.bs,bV I.ok.bsz I.sz,I.stack,I.stkFree,I.hok,I.bare⟩
theorem bQ.after {Q:VK}{u:aa} (I:bQ X pins σ H s) (h:CE X.stack X.prog X.w H s Q u s'):EP X pins σ Q u s':=by
 obtain ⟨v,H',os,bare,un,hok,r,q⟩:=h
 obtain ⟨hh,g,d,t,os'⟩:=s'
 obtain rfl:os'=s.os:=os
 exact ⟨v,H',I.call (h':=hh) (g':=g) (d':=d) (t':=t) (ch:=[]) un hok bare (fun b z=>absurd z (by simp)),r,q⟩
end
def PK (sp:Sp) (dvs:List V) (E:XK) (t:TA):TE:=fun σ H Q=>t σ H fun vs H1=>sp (vs++dvs) H1 Q E
def l7 (K:a8) (fd:eG) (ps:List Str) (ds:List aa):Prop :=
 ∀ (s:ae) (us:List aa),K.In s.heap->(us++ds).length=ps.length->yw s fd ⟨us,[]⟩ (ps.zip (us++ds))
theorem l7.all {K:a8}{fd:eG}{ps:List Str} (h:∀ us:List aa,us.length=ps.length->NB fd ⟨us,[]⟩=pure (ps.zip us)):l7 K fd ps []:=fun s us _ hl=>by
 rw [cf] at hl ⊢
 exact .of_eq (h us hl)
def sk (CX:HY) (X:Cx) (E:XK):Prop:=∀ (pins:List (ai×Obj)) (σ:St) (H:Hp) (s:ae) (e:aa) (s':ae),bQ X pins σ H s->CX X.stack H s E e s'->X.xe e s'
section
variable {X:Cx}{CX:HY}{k:Nat}{f C:ai}{fd:eG}{ps:List Str}{sp:Sp}{dvs:List V}{ds:List aa}{E:XK}{x m:Str}{p pos apos:Pos}{e o:aX}{es:List aX}{ta:TE}{t:TA}
theorem Rk {pins:List (ai×Obj)}{σ:St}{H:Hp}{s:ae}{Q:VK}{us:List aa}{vs:List V} (F:rj X.prog X.w X.K X.mg X.base CX k f fd ps sp) (hr:kZ k X.A) (hb:l7 X.K fd ps ds) (hd:du dvs ds) (hx:sk CX X E)
  (I:bQ X pins σ H s) (r:du vs us) (h:sp (vs++dvs) H Q E):au (ay X.prog X.w) X.A (call (.ref f) us) (EP X pins σ Q) X.xe s:=by
 have r2:du (vs++dvs) (us++ds):=r.append hd
 have hl:(us++ds).length=ps.length:=by rw [<- r2.length];exact F.len _ _ _ _ h
 refine wpAny_call (r_ (F.run X.A X.stack s H ⟨us,[]⟩ (us++ds) (vs++dvs) Q E hr I.env0 (hb s us I.kIn hl) r2 h) fun r s' hq=>?_)
 cases r with
 | error e=>exact hx pins σ H s e s' I hq
 | ok fl =>
  cases fl with
  | ret u=>exact I.after hq
  | next=>exact iD hq
  | brk=>exact iD hq
  | cont=>exact iD hq
theorem Og (F:rj X.prog X.w X.K X.mg X.base CX k f fd ps sp) (hr:kZ k X.A) (hg:Gl X x) (hm:X.mg x=some (.ref f)) (hk:f9 X.K (.ref f)=true) (hb:l7 X.K fd ps ds) (hd:du dvs ds) (hx:sk CX X E)
  (ha:PA X (e::es) t) (hdb:(x == ("__debug__" : Str))=false:=by decide) (he:aK (e::es) X.env=(false,eh e X.env)::aK es X.env:=by rfl) (hpl:(j8 pos (aK es X.env)).any (·.1)=false:=by rfl) :
  PE X (.Call (.Name x p) (e::es) [] pos) (PK sp dvs E t):=by
 intro pins s σ H Q I h
 refine wS (Aw I hg hm ?_ hdb)
 refine PySem.W.callWith_K (h₀:=X.base) I.ok.mod.kin hk (fK (ha pos pins s σ H _ I h) fun us s1 ⟨vs,H1,I1,r,q⟩=>⟨I1.kIn,?_⟩) he hpl
 exact Rk F hr hb hd hx I1 r q
end
section
variable {X:Cx}{CX:HY}{k:Nat}{f C:ai}{fd:eG}{ps ks:List Str}{sp:Sp}{E:XK}{x m:Str}{p pos apos kpos:Pos}{e o:aX}{es:List aX}{kws:List yx}{te ta:TE}{t tk:TA}{nm:Option Str}
variable {g:List aa->List aa->List aa}{gV:List V->List V->List V}
end
structure bU (N P:List Str) (sc:fZ):Prop where
 kind:sc.kind=.function
 co:sc.isCoroutine=false
 gen:sc.isGenerator=false
 nd:N.Nodup
 pre:N.take P.length=P
 par:∀ x∈P,sc.names.lookup x=some .local\/sc.names.lookup x=some .cell
 nofree:∀ y∈sc.names,y.2≠.free
theorem zu {kindOf:Str->Option kW}{x:Str}:∀ {binds:List (Str×aa)}{m:Str->Option aa},(∀ v,(x,v)∉binds)->Jt kindOf binds m x=m x
 | [],_,_=>rfl
 | (n,v)::r,m,h=>by
  unfold Jt
  rw [zu fun w hw=>h w (ah _ hw)]
  split
  ·have:x≠n:=by rintro rfl;exact h v am
   simp [this]
  ·rfl
theorem zv {kindOf:Str->Option kW}{x:Str}:∀ {binds:List (Str×aa)}{m:Str->Option aa},(∀ v,(x,v)∉binds)->Ju kindOf binds m x=m x
 | [],_,_=>rfl
 | (n,v)::r,m,h=>by
  unfold Ju
  rw [zv fun w hw=>h w (ah _ hw)]
  split
  ·rfl
  ·have:x≠n:=by rintro rfl;exact h v am
   simp [this]
theorem zw {kindOf:Str->Option kW}{x:Str}{v:aa}:∀ {P:List Str}{vs:List aa}{i:Nat}{m:Str->Option aa},P.Nodup->P[i]?=some x->vs[i]?=some v->kindOf x=some .local ->
  Jt kindOf (P.zip vs) m x=some v
 | [],_,_,_,_,h,_,_=>by simp at h
 | _::_,[],_,_,_,_,h,_=>by simp at h
 | p::P,w::vs,0,m,nd,h1,h2,hk=>by
  simp at h1 h2;subst h1;subst h2
  show Jt kindOf ((p,w)::P.zip vs) m p=_
  unfold Jt
  rw [zu fun v hv=>(List.nodup_cons.mp nd).1 (yp hv).1,if_pos hk]
  simp
 | p::P,w::vs,i + 1,m,nd,h1,h2,hk=>by
  show Jt kindOf ((p,w)::P.zip vs) m x=_
  unfold Jt
  exact zw (i:=i) (List.nodup_cons.mp nd).2 (by simpa using h1) (by simpa using h2) hk
theorem zx {kindOf:Str->Option kW}{x:Str}{v:aa}:∀ {P:List Str}{vs:List aa}{i:Nat}{m:Str->Option aa},P.Nodup->P[i]?=some x->vs[i]?=some v->kindOf x≠some .local ->
  Ju kindOf (P.zip vs) m x=some v
 | [],_,_,_,_,h,_,_=>by simp at h
 | _::_,[],_,_,_,_,h,_=>by simp at h
 | p::P,w::vs,0,m,nd,h1,h2,hk=>by
  simp at h1 h2;subst h1;subst h2
  show Ju kindOf ((p,w)::P.zip vs) m p=_
  unfold Ju
  rw [zv fun v hv=>(List.nodup_cons.mp nd).1 (yp hv).1,if_neg hk]
  simp
 | p::P,w::vs,i + 1,m,nd,h1,h2,hk=>by
  show Ju kindOf ((p,w)::P.zip vs) m x=_
  unfold Ju
  exact zx (i:=i) (List.nodup_cons.mp nd).2 (by simpa using h1) (by simpa using h2) hk
def start (N:List Str) (vs:List V):St:=vs.map some++rz (N.length - vs.length) none
def jO (CX:HY) (P:aH) (w:aZ) (K:a8) (mg:Str->Option aa) (base:bB) (N:List Str) (qual:Str) (scope:fZ) (f:ai) (cd:aa) (A:aU) (outer:List Env) (s:ae) (H:Hp) (E:XK):Cx where
 prog:=P
 w:=w
 K:=K
 mg:=mg
 base:=base
 A:=A.deeper (s9 qual scope s.heap.objs.size f cd)
 N:=N
 s₀:=s
 H₀:=H
 env:=s9 qual scope s.heap.objs.size f cd
 outer:=outer
 stack:=s9 qual scope s.heap.objs.size f cd::outer
 ex:=[]
 calm:=true
 fn:=fun _=>true
 pn:=[]
 xe:=fun e s'=>au (ay P w) (A.deeper (s9 qual scope s.heap.objs.size f cd)) (leaving (s9 qual scope s.heap.objs.size f cd) e) (fun _ s''=>CX outer H s E e s'') (fun e' s''=>CX outer H s E e' s'') s'
theorem C6 {sc:fZ}{n:Nat}{x:Str} (h:sc.names.lookup x=some .cell):∃ c,(bh n sc.names []).lookup x=some c:=by
 have q:=gQ sc.names n [] (.inl h)
 exact Option.isSome_iff_exists.mp q
theorem HZ {CX:HY}{P:aH}{w:aZ}{K:a8}{mg:Str->Option aa}{base:bB}{N ps:List Str}{qual:Str}{scope:fZ}{f:ai}{cd:aa}{A:aU}{outer:List Env}{s s1:ae}{H:Hp}{E:XK}{us:List aa}{vs:List V}
  (S:bU N ps scope) (hd:A.handled=none) (e0:Of P w K mg base A outer s H) (hl:vs.length=ps.length) (r:du vs us)
  (x:InCallC s s.heap.objs.size (Jt (s9 qual scope s.heap.objs.size f cd).kindOf (ps.zip us) fun _=>none) (bh (s.heap.objs.size + 1) scope.names []) (Ju (s9 qual scope s.heap.objs.size f cd).kindOf (ps.zip us) fun _=>none) s1) :
  bQ (jO CX P w K mg base N qual scope f cd A outer s H E) [] (start N vs) H s1:=by
 have hpl:ps.length<=N.length:=by have:=congrArg iL S.pre;rw [wt] at this;omega
 obtain ⟨h1,tk,rfl,hk⟩:=x.done
 have noA:∀ b:ai,b∉(jO CX P w K mg base N qual scope f cd A outer s H E).ex:=fun b z=>absurd (show b∈([] : List ai) from z) (by simp)
 refine ⟨⟨e0.mod,S.kind,rfl,rfl,ar _,fun y z c h1 h2=>?_,fun y hy=>?_,fun y c _ h=>?_,fun _=>hd,Around.frames_deeper e0.frames,.inr ⟨rfl,rfl⟩,fun b z=>absurd z (noA b),e0.bs,e0.bsz,fun b _ _=>noA b,fun b z=>absurd z (noA b),e0.funs,e0.frf⟩,
  rfl,e0.bare,Un.kept hk,⟨_,x.toInCall.ns,fun i y v h1 h2 h3=>?_⟩,fun y c h=>⟨_,x.cell y c h⟩,e0.hok.fresh (ar _),fun y c h=>?_,fun p hp=>absurd (show p∈([] : List (ai×Obj)) from hp) (by simp),e0.hok.kept hk,?_⟩
 ·exact name_of_addr x.apart (df h1) (df h2)
 ·have hy:scope.names.lookup y=some .cell\/scope.names.lookup y=some .free:=hy
  rcases hy with hy | hy
  ·exact C6 hy
  ·exact absurd rfl (S.nofree _ (df hy))
 ·exact bW (x.above y c (df h))
 ·have hi:i<vs.length:=by
   unfold start at h2
   by_cases hi:i<vs.length
   ·exact hi
   ·rw [bq (by simpa using hi)] at h2
    rw [b_] at h2
    split at h2<;>cases h2
  have ha:vs[i]?=some v:=by
   unfold start at h2
   rw [bd (by simpa using hi),aN] at h2
   cases e:vs[i]? with
   | none=>rw [e] at h2;cases h2
   | some a=>rw [e] at h2;cases h2;rfl
  obtain ⟨u,hu,rv⟩:=r.get ha
  have hp:ps[i]?=some y:=by
   rw [<- S.pre,List.getElem?_take_of_lt (by omega)];exact h1
  have ndP:ps.Nodup:=by rw [<- S.pre];exact S.nd.sublist (List.take_sublist _ _)
  refine ⟨u,rv,?_⟩
  rcases S.par y (dA hp) with k | k
  ·exact .inl ⟨k,zw ndP hp hu k⟩
  ·obtain ⟨c,e⟩:=C6 (n:=s.heap.objs.size + 1) k
   refine .inr ⟨.inl k,c,e,?_⟩
   have q:=x.cell y c e
   rw [zx ndP hp hu (by show scope.names.lookup y≠_;rw [k];decide)] at q
   exact q
 ·exact e0.hok.fresh (bW (x.above y c (df h)))
 ·unfold start
  show _=N.length
  rw [aR,ak,cS]
  omega
theorem S_ {CX:HY}{P:aH}{w:aZ}{K:a8}{mg:Str->Option aa}{base:bB}{k:Nat}{f:ai}{name qual:Str}{params:Arguments}{body:List dz}{scope:fZ}{dV kV doc pm cdv ct oc:aa}{an od:Option ai}
  {osl:Array (Option aa)}{N ps:List Str}{sp:Sp} (lk:K.lookup f=some ⟨oc,od,.func (fP name qual params body scope dV kV doc pm an cdv ct),osl⟩) (hcd:lL K cdv qual=true) (S:bU N ps scope)
  (len:∀ vs H Q E,sp vs H Q E->vs.length=ps.length)
  (hbody:∀ (A:aU) (outer:List Env) (s:ae) (H:Hp) (vs:List V) (Q:VK) (E:XK),kZ k (A.deeper (s9 qual scope s.heap.objs.size f cdv))->sp vs H Q E ->
   ∃ t,FZ (jO CX P w K mg base N qual scope f cdv A outer s H E) body t/\t { nx:=fun _ H'=>Q .non H',rt:=Q } (start N vs) H) :
  rj P w K mg base CX (k + 1) f (fP name qual params body scope dV kV doc pm an cdv ct) ps sp:=by
 refine ⟨len,fun A outer s H args us vs Q E hr e0 hb r hsp=>?_⟩
 have hl:=len _ _ _ _ hsp
 have KX:K.In s.heap:=e0.mod.kin.keeps fun b o e=>(e0.bs b o e).1
 have lim:s.heap.NoLimit:=e0.mod.nolimit.keeps fun b o e=>(e0.bs b o e).1
 have hkind:∀ y∈ps.zip us,scope.names.lookup y.1=some .local\/(scope.names.lookup y.1=some .cell/\((bh (s.heap.objs.size + 1) scope.names []).lookup y.1).isSome=true):=fun ⟨n,v⟩ hy=>by
  rcases S.par n (yp hy).1 with q | q
  ·exact .inl q
  ·exact .inr ⟨q,gQ _ _ _ (.inl q)⟩
 refine codeAny_call_function hr.depth (KX _ _ lk) rfl S.co S.gen rfl (Ei KX hcd) (hb _ _ _ _ ?_)
 refine wpAny_newFunctionEnv_cells S.kind hkind fun env he s1 x=>?_
 subst he
 refine ⟨lim.keeps x.toInCall.keep,codeAny_func ?_⟩
 obtain ⟨t,ht,hq⟩:=hbody A outer s H vs Q E (hr.deeper _) hsp
 have I:bQ (jO CX P w K mg base N qual scope f cdv A outer s H E) [] (start N vs) H s1:=HZ S hr.hd e0 hl r x
 refine bH (ht [] s1 (start N vs) H _ I hq) (fun fl s' hs=>?_) fun e s' hs=>hs
 have fin:∀ {σ':St}{H':Hp}{v:V}{u:aa},bQ (jO CX P w K mg base N qual scope f cdv A outer s H E) [] σ' H' s'->dg v u->Q v H'->CE outer P w H s Q u s' :=
  fun {σ' H' v u} J rv q=>⟨v,H',J.os,J.bare,J.base,J.hok,rv,q⟩
 cases fl with
 | ret u =>
  obtain ⟨v,σ',H',J,rv,q⟩:=hs
  exact fin J rv q
 | next =>
  obtain ⟨σ',H',J,q⟩:=hs
  exact fin (v:=V.non) (u:=dI) J rfl q
 | brk =>
  obtain ⟨_,_,_,q⟩:=hs
  exact iD q
 | cont =>
  obtain ⟨_,_,_,q⟩:=hs
  exact iD q
end L2
namespace L2
open PySem PySem.Spec PyProof.Rows
section
variable {X:Cx}{x:Str}{p pos:Pos}{e:aX}{es:List aX}{t:TA}{id T:String}{r:List V->Hp->VK->Prop}
def T1 (r:List V->Hp->VK->Prop) (t:TA):TE:=fun σ H Q=>t σ H fun vs H1=>r vs H1 Q
theorem tT (hc:ji X (.builtin id) r) (hg:Gl X x) (hm:X.mg x=none) (hv:il x=some (.builtin id)) (ha:PA X (e::es) t) (hn:x≠"__name__":=by decide) (hdb:(x == ("__debug__" : Str))=false:=by decide)
  (he:aK (e::es) X.env=(false,eh e X.env)::aK es X.env:=by rfl) (hpl:(j8 pos (aK es X.env)).any (·.1)=false:=by rfl):PE X (.Call (.Name x p) (e::es) [] pos) (T1 r t):=by
 intro pins s σ H Q I h
 refine wS (uU I hg hm hv ?_ hn hdb)
 exact PyProof.Rows.callWith_builtin1 (fK (ha pos pins s σ H _ I h) fun us s1 h_27=>by obtain ⟨vs,H1,I1,r1,q1⟩:=h_27;exact hc pins s1 σ H1 vs us Q I1 r1 q1) he hpl
theorem zy (hc:ji X (.type T) r) (hg:Gl X x) (hm:X.mg x=none) (hv:il x=some (.type T)) (ha:PA X (e::es) t) (hn:x≠"__name__":=by decide) (hdb:(x == ("__debug__" : Str))=false:=by decide)
  (he:aK (e::es) X.env=(false,eh e X.env)::aK es X.env:=by rfl) (hpl:(j8 pos (aK es X.env)).any (·.1)=false:=by rfl):PE X (.Call (.Name x p) (e::es) [] pos) (T1 r t):=by
 intro pins s σ H Q I h
 refine wS (uU I hg hm hv ?_ hn hdb)
 exact gP (fK (ha pos pins s σ H _ I h) fun us s1 h_28=>by obtain ⟨vs,H1,I1,r1,q1⟩:=h_28;exact hc pins s1 σ H1 vs us Q I1 r1 q1) he hpl
end
end L2
namespace HT
open PySem PyProof.Rows
section
open PySem.SeqAt
open PySem.AutoSeq1 (wpAny_loadPart')
open PySem.MeetsSeq PySem.MeetsSeq2 PySem.MeetsSeq3
end
section
variable {prog:aH}{w:aZ}{A:aU}{E:aa->ae->Prop}{s:ae}
theorem Oh {t b:ai}{vs ws:List aa}{Q:aa->ae->Prop} (ht:IsTup s.heap t vs.toArray) (hb:IsTup s.heap b ws.toArray) (hv:vs≠[])
  (h1:ws=[]->Q (.ref t) s) (h2:ws≠[]->Q (.ref s.heap.objs.size) { s with heap:=s.heap.push { cls:=.type "tuple",data:=.seq (vs++ws).toArray } })
  (hsz:vs.length + ws.length<=sizeLine):au (ay prog w) A (g6 .Add (.ref t) (.ref b)) Q E s:=by
 obtain ⟨⟨cls,dd,data,sl⟩,ho,hc,n,hd⟩:=id ht
 obtain ⟨⟨cls2,dd2,data2,sl2⟩,ho2,hc2,n2,hd2⟩:=id hb
 simp only at hc hd hc2 hd2
 subst hc hd hc2 hd2
 have e:vs.toArray++ws.toArray=(vs++ws).toArray:=by simp
 by_cases hw:ws=[]
 ·exact yy ⟨_,ho,rfl⟩ ⟨_,ho2,rfl⟩ An Hy nU nr (mS _ _)
   (tuple_addW1 t b vs.toArray ws.toArray n n2 dd dd2 sl sl2 (by simpa using hv) (by simp [hw])) ⟨ho,ho2,h1 hw⟩
 ·refine yy ⟨_,ho,rfl⟩ ⟨_,ho2,rfl⟩ An Hy nU nr (mS _ _)
   (tuple_addW2 t b vs.toArray ws.toArray n n2 dd dd2 sl sl2 (by simpa using hv) (by simpa using hw) (by rw [aQ,aQ];exact hsz)) ⟨ho,ho2,?_⟩
  rw [e]
  exact h2 hw
def iP (n d:Nat):Option Int->Nat
 | none=>d
 | some v=>if v<0 then (v + (n:Int)).toNat else min v.toNat n
theorem C7 (n d:Nat):iP n d none=d:=rfl
theorem G0 (n d k:Nat):iP n d (some (k:Int))=min k n:=by
 show (if (k:Int)<0 then ((k:Int) + (n:Int)).toNat else min (k:Int).toNat n)=min k n
 rw [if_neg (by omega),jV]
theorem Rl (n d:Nat) (hd:d<=n) (o:Option Int):iP n d o<=n:=by
 cases o with
 | none=>exact hd
 | some v =>
  show (if v<0 then (v + (n:Int)).toNat else min v.toNat n)<=n
  by_cases hv:v<0
  ·rw [if_pos hv];omega
  ·rw [if_neg hv];exact wT _ _
theorem G1 (v:Int) (n d:Nat):(if v<0 then max (v + (n:Int)) 0 else min v (n:Int))=((iP n d (some v):Nat):Int):=by
 show (if v<0 then max (v + (n:Int)) 0 else min v (n:Int))=(((if v<0 then (v + (n:Int)).toNat else min v.toNat n):Nat):Int)
 by_cases hv:v<0
 ·simp only [if_pos hv];omega
 ·simp only [if_neg hv];omega
theorem EH (lo hi:Option Int) (n:Nat):kX lo hi 1 (n:Int)=(((iP n 0 lo:Nat):Int),((iP n n hi:Nat):Int)):=by
 have h1:¬ ((1:Int)<0):=by omega
 unfold kX
 simp only [h1,if_false]
 refine Prod.ext ?_ ?_
 ·cases lo with
  | none=>rfl
  | some v=>exact G1 v n 0
 ·cases hi with
  | none=>rfl
  | some v=>exact G1 v n n
theorem EI (i j:Nat):i3 (i:Int) (j:Int) 1=j - i:=by
 unfold i3
 have h1:(1:Int) > 0:=by omega
 simp only [h1,if_true,Int.ediv_one]
 split<;>omega
theorem w_ {v:aa}{o:Option Int}{Q:Option Int->ae->Prop} (p:uJ v o) (h:Q o s):au (ay prog w) A (Builtin.Slice.slicePartIndex v) Q E s:=by
 cases p with
 | none=>exact slicePart_none h
 | int i t=>exact slicePart_int h
theorem ny {sl:ai}{vl vu:aa}{lo hi:Option Int}{n:Nat}{Q:Int×Int×Nat->ae->Prop} (hs:s.heap.IsSliceOf sl vl vu .none) (pl:uJ vl lo) (pu:uJ vu hi)
  (h:Q (((iP n 0 lo:Nat):Int),1,iP n n hi - iP n 0 lo) s):au (ay prog w) A (tM (.ref sl) (pure (n:Int))) Q E s:=by
 obtain ⟨os,hos,hcs,hds⟩:=id hs
 unfold tM Builtin.Slice.sliceFields
 refine a7 (a7 (dw hos hds (x:=vl) rfl (a7 (dw hos hds (x:=vu) rfl (a7 (dw hos hds (x:=.none) rfl (a9 ?_)))))))
 refine a7 (slicePart_none ?_)
 show au _ _ (if ((1:Int) == 0)=true then _ else _) _ _ s
 rw [if_neg (by decide)]
 refine a7 (w_ pl (a7 (w_ pu (a7 (a9 ?_)))))
 show au _ _ (match kX lo hi 1 (n:Int) with | (lo,hi)=>pure (lo,(1:Int),i3 lo hi 1)) _ _ s
 rw [EH lo hi n]
 show au _ _ (pure (((iP n 0 lo:Nat):Int),(1:Int),i3 ((iP n 0 lo:Nat):Int) ((iP n n hi:Nat):Int) 1)) _ _ s
 rw [EI]
 exact a9 h
theorem Km (xs:Array aa) (i k:Nat):((bD k).filterMap fun (m:Nat)=>xs[((i:Int) + (m:Int) * 1).toNat]?).toArray=((xs.toList.drop i).take k).toArray:=by
 have e:(fun (m:Nat)=>xs[((i:Int) + (m:Int) * 1).toNat]?)=fun m=>xs[i + m]?:=by
  funext m
  have:((i:Int) + (m:Int) * 1).toNat=i + m:=by omega
  rw [this]
 rw [e]
 have:=pick_run xs i k
 rw [ms] at this
 have e2:((fun x=>xs[x]?)∘fun x=>i + x)=fun m=>xs[i + m]?:=rfl
 rw [e2] at this
 rw [this]
theorem tU {t sl:ai}{items:Array aa}{vl vu:aa}{lo hi:Option Int}{Q:aa->ae->Prop} (ht:IsTup s.heap t items) (hs:s.heap.IsSliceOf sl vl vu .none) (pl:uJ vl lo) (pu:uJ vu hi)
  (hw:¬ (iP items.size 0 lo=0/\iP items.size items.size hi=items.size))
  (h:Q (.ref s.heap.objs.size) { s with heap:=s.heap.push { cls:=.type "tuple",data:=.seq ((items.toList.drop (iP items.size 0 lo)).take (iP items.size items.size hi - iP items.size 0 lo)).toArray } })
  (hsz:items.size<=sizeLine):au (ay prog w) A (pq (.ref t) (.ref sl)) Q E s:=by
 have htake:sizeOk (.seq ((items.toList.drop (iP items.size 0 lo)).take (iP items.size items.size hi - iP items.size 0 lo)).toArray):=by
  show ((items.toList.drop (iP items.size 0 lo)).take (iP items.size items.size hi - iP items.size 0 lo)).toArray.size<=sizeLine
  rw [aQ,wt,wu,ao]
  omega
 have hj:iP items.size items.size hi<=items.size:=Rl _ _ (ar _) hi
 obtain ⟨os,hos,hcs,hds⟩:=id hs
 have hTs:s.TypeIs (.ref sl) "slice":=⟨os,hos,hcs⟩
 unfold pq
 try with_reducible refine de ?_
 first | refine a7 (a9 ?_) | skip
 refine a7 (wpAny_sequenceKey ht.typeIs (by decide) ?_)
 refine a7 (cc (name:=gy "__getitem__") ht.typeIs fF
  (bF fF ht.typeIs entry_tuple_getitem ?_ (args_tuple_getitem _ _)))
 show au _ _ (tN (.ref t) >>= _) _ _ s
 refine a7 (tupleItemsOf_ ht ?_)
 refine a7 (sd hTs ?_)
 rw [if_pos (by decide)]
 refine a7 (ny hs pl pu ?_)
 have hno:¬ ((((iP items.size 0 lo:Nat):Int) == 0 && (1:Int) == 1 && (iP items.size items.size hi - iP items.size 0 lo) == items.size)=true):=by
  intro q
  rw [aO,aO] at q
  have q1:((iP items.size 0 lo:Nat):Int)=0:=eq_of_beq q.1.1
  have q2:iP items.size items.size hi - iP items.size 0 lo=items.size:=eq_of_beq q.2
  exact hw ⟨by omega,by omega⟩
 show au _ _ (if (((iP items.size 0 lo:Nat):Int) == 0 && (1:Int) == 1 && (iP items.size items.size hi - iP items.size 0 lo) == items.size)=true then _ else _) _ _ s
 rw [if_neg hno,Km]
 first
  | exact a7 (m:=io _) (bM (a9 ⟨_,rfl,a9 h⟩) htake)
  | exact a7 (m:=io _) (bM (a7 (a9 (a9 ⟨_,rfl,a9 h⟩))) htake)
  | exact a7 (a7 (m:=io _) (bM (a9 (a9 ⟨_,rfl,a9 h⟩)) htake))
  | exact a7 (a7 (m:=io _) (bM (a9 ⟨_,rfl,a9 h⟩) htake))
end
end HT
namespace L2
open PySem PySem.Spec PyProof.Rows
abbrev TO:=St->Hp->(Option Int->Hp->Prop)->Prop
def PO (X:Cx) (e:Option aX) (t:TO):Prop :=
 ∀ (pins:List (ai×Obj)) (s:ae) (σ:St) (H:Hp) (Q:Option Int->Hp->Prop),bQ X pins σ H s->t σ H Q ->
  au (ay X.prog X.w) X.A (evalPart e X.env) (fun u s'=>∃ o H',bQ X pins σ H' s'/\uJ u o/\Q o H') X.xe s
def Oi:TO:=fun _ H Q=>Q none H
def T2 (t:TE):TO:=fun σ H Q=>t σ H fun x H1=>∃ i,x=.int i/\Q (some i) H1
section
variable {X:Cx}{e:aX}{te:TE}{lo hi:Option aX}{tl th:TO}{pos p2:Pos}
theorem Oj:PO X none Oi:=by
 intro pins s σ H Q I h
 rw [evalPart_none]
 exact a9 ⟨none,H,I,.none,h⟩
theorem Ol (h:PE X e te):PO X (some e) (T2 te):=by
 intro pins s σ H Q I hw
 rw [evalPart_some]
 refine fK (h pins s σ H _ I hw) fun u s1 h_29=>?_
 obtain ⟨x,H1,I1,r1,q1⟩:=h_29
 obtain ⟨i,rfl,q⟩:=q1
 obtain ⟨t,rfl⟩:=r1
 exact ⟨some i,H1,I1,.int i t,q⟩
def T3 (X:Cx) (r:V->Option Int->Option Int->Hp->VK->Prop):Prop :=
 ∀ (pins:List (ai×Obj)) (s:ae) (σ:St) (H:Hp) (x:V) (v vl vu:aa) (lo hi:Option Int) (sl:ai) (Q:VK),bQ X pins σ H s->dg x v->s.heap.IsSliceOf sl vl vu .none->uJ vl lo->uJ vu hi->r x lo hi H Q ->
  ∃ T id,typeLookup (.type T) "__getitem__"=pure (some (.builtin id))/\s.TypeIs v T/\au (ay X.prog X.w) X.A (pq v (.ref sl)) (EP X pins σ Q) X.xe s
def WF (r:V->Option Int->Option Int->Hp->VK->Prop) (te:TE) (tl th:TO):TE:=fun σ H Q=>te σ H fun x H1=>tl σ H1 fun l H2=>th σ H2 fun u H3=>r x l u H3 Q
theorem Kn {r:V->Option Int->Option Int->Hp->VK->Prop} (hr:T3 X r) (he:PE X e te) (hl:PO X lo tl) (hu:PO X hi th):PE X (.Subscript e (.Slice lo hi none p2) pos) (WF r te tl th):=by
 intro pins s σ H Q I h
 refine Subscript_ (fK (he pins s σ H _ I h) fun v s1 ⟨x,H1,I1,r1,q1⟩=>?_)
 refine wpAny_Slice (fK (hl pins s1 σ H1 _ I1 q1) fun vl s2 ⟨l,H2,I2,pl,q2⟩=>fK (hu pins s2 σ H2 _ I2 q2) fun vu s3 ⟨u,H3,I3,pu,q3⟩=>?_)
 rw [evalPart_none]
 refine a9 ?_
 have I4:bQ X pins σ H3 { s3 with heap:=s3.heap.push { cls:=.type "slice",data:=.fields #[vl,vu,.none] } }:=I3.kept (t':=s3.toks) fun b ob q=>ac _ q
 obtain ⟨T,id,hT,ht,hg⟩:=hr pins { s3 with heap:=s3.heap.push { cls:=.type "slice",data:=.fields #[vl,vu,.none] } } σ H3 x v vl vu l u s3.heap.objs.size Q I4 r1 (Heap.IsSliceOf.new ..) pl pu q3
 show au (ay X.prog X.w) X.A (Hz e (.Slice lo hi none p2) v (.ref s3.heap.objs.size)) (EP X pins σ Q) X.xe { s3 with heap:=s3.heap.push { cls:=.type "slice",data:=.fields #[vl,vu,.none] } }
 exact tail_any (ops:=[.ref s3.heap.objs.size,v]) ht hT hg (by with_unfolding_all rfl)
def C8 (xs:List V) (lo hi:Option Int):List V:=(xs.drop (HT.iP xs.length 0 lo)).take (HT.iP xs.length xs.length hi - HT.iP xs.length 0 lo)
theorem vE (xs:List V) (lo hi:Option Int):(C8 xs lo hi).length<=xs.length:=by
 unfold C8
 rw [wt,wu]
 omega
def Vu (K:a8):V->Option Int->Option Int->Hp->VK->Prop:=fun x lo hi H Q=>∃ a xs,x=.ref a/\kE K H a xs /\
 ¬ (HT.iP xs.length 0 lo=0/\HT.iP xs.length xs.length hi=xs.length)/\∀ p,H p=none->Q (.ref p) (upd H p (.tup (C8 xs lo hi)))
theorem Rm:T3 X (Vu X.K):=by
 intro pins s σ H x v vl vu lo hi sl Q I rx hs pl pu h
 obtain ⟨a,xs,rfl,hx,hw,q⟩:=h
 cases rx
 obtain ⟨its,r,ht,hz⟩:=I.tuple hx
 have hlen:its.toArray.size=xs.length:=by rw [aQ];exact r.length.symm
 refine ⟨"tuple",_,PyProof.Rows.slot_tuple_getitem.lookup,ht.typeIs,?_⟩
 refine HT.tU ht hs pl pu (by rw [hlen];exact hw) ?_ (by rw [hlen];exact hz)
 rw [hlen]
 refine ⟨.ref s.heap.objs.size,_,I.laid (t':=s.toks) (o:=.tup (C8 xs lo hi)) (fun b ob q=>ac _ q) (ar _) ?_,rfl,q _ (I.hok.fresh (ar _))⟩
 exact ⟨bV (vE xs lo hi) hz,_,(r.drop (HT.iP xs.length 0 lo)).take (HT.iP xs.length xs.length hi - HT.iP xs.length 0 lo),vT _ _⟩
inductive Ko (K:a8) (x:V) (y:V) (H:Hp) (Q:VK):Prop
 | mk (a b xs ys:_) (h0:x=.ref a) (h1:y=.ref b) (h2:kE K H a xs) (h3:kE K H b ys) (h4:xs≠[]) (h5:xs.length + ys.length<=sizeLine) (h6:(ys=[]->Q (.ref a) H)) (h7:(ys≠[]->∀ p,H p=none->Q (.ref p) (upd H p (.tup (xs++ys))))):Ko K x y H Q
def T4 (K:a8):R2:=Ko K
theorem du.nil_iff {xs:List V}{us:List aa} (r:du xs us):us=[]↔xs=[]:=by
 cases r with
 | nil=>simp
 | cons _ _=>simp
theorem Om:pC X (g6 .Add) (T4 X.K):=by
 intro pins s σ H x y v u Q I rx ry h
 obtain ⟨a,b,xs,ys,rfl,rfl,ha,hb,hx,hz,q1,q2⟩:=h
 cases rx
 cases ry
 obtain ⟨its,r1,p1,_⟩:=I.tuple ha
 obtain ⟨its2,r2,p2,_⟩:=I.tuple hb
 refine HT.Oh p1 p2 (fun z=>hx (r1.nil_iff.mp z)) (fun z=>⟨.ref a,H,I,rfl,q1 (r2.nil_iff.mp z)⟩) (fun z=>?_) (by rw [<- r1.length,<- r2.length];exact hz)
 refine ⟨.ref s.heap.objs.size,_,I.laid (t':=s.toks) (o:=.tup (xs++ys)) (fun b ob q=>ac _ q) (ar _) ?_,rfl,q2 (fun w=>z (r2.nil_iff.mpr w)) _ (I.hok.fresh (ar _))⟩
 exact ⟨by rw [aR];exact hz,_,r1.append r2,vT _ _⟩
end
end L2
namespace L2
open PySem PySem.Spec PyProof.Rows
def Rn (n:Nat) (i:Int):Option Nat:=if 0<=i then (if i<n then some i.toNat else none) else if -(n:Int)<=i then some (i + n).toNat else none
def Ec {α:Type} (xs:List α) (i:Int):Option α:=(Rn xs.length i).bind fun j=>xs[j]?
theorem On {n:Nat}{i:Int}{j:Nat} (h:Rn n i=some j):seqIndex? i n=some j/\j<n/\-(n:Int)<=i/\i<n:=by
 unfold Rn at h
 by_cases h0:0<=i
 ·rw [if_pos h0] at h
  by_cases h1:i<n
  ·rw [if_pos h1] at h
   have e:i.toNat=j:=bI h
   exact ⟨by rw [seqIndex_of h0 h1,e],by omega,by omega,h1⟩
  ·rw [if_neg h1] at h;cases h
 ·rw [if_neg h0] at h
  by_cases h1:-(n:Int)<=i
  ·rw [if_pos h1] at h
   have e:(i + n).toNat=j:=bI h
   exact ⟨by rw [seqIndex_neg (by omega) h1,e],by omega,h1,by omega⟩
  ·rw [if_neg h1] at h;cases h
theorem AA {α:Type}{xs:List α}{i:Int}{v:α} (h:Ec xs i=some v):∃ j,seqIndex? i xs.length=some j/\xs[j]?=some v/\j<xs.length/\-(xs.length:Int)<=i/\i<xs.length:=by
 unfold Ec at h
 cases e:Rn xs.length i with
 | none=>rw [e] at h;cases h
 | some j =>
  rw [e] at h
  obtain ⟨h1,h2,h3,h4⟩:=On e
  exact ⟨j,h1,h,h2,h3,h4⟩
theorem qy {α:Type}{xs:List α}{j:Nat}{v:α} (h:xs[j]?=some v):Ec xs (j:Int)=some v:=by
 have hj:j<xs.length:=(List.getElem?_eq_some_iff.mp h).1
 have e:Rn xs.length (j:Int)=some j:=by
  unfold Rn
  rw [if_pos (by omega),if_pos (by omega)];simp
 unfold Ec;rw [e];exact h
def tV (b:aX):Prop:=∀ o i,BV b false o i=operate [o,i] (pq o i)
def T5 (X:Cx) (r:R2):Prop :=
 ∀ (value slice:aX) (pins:List (ai×Obj)) (s:ae) (σ:St) (H:Hp) (x y:V) (v u:aa) (Q:VK),bQ X pins σ H s->dg x v->dg y u->r x y H Q ->
  BV slice false v u=operate [v,u] (pq v u)->au (ay X.prog X.w) X.A (Hz value slice v u) (EP X pins σ Q) X.xe s
def WG (X:Cx) (id:String) (r:V->List V->Hp->VK->Prop):Prop :=
 ∀ (pins:List (ai×Obj)) (s:ae) (σ:St) (H:Hp) (x:V) (xs:List V) (v:aa) (us:List aa) (Q:VK),bQ X pins σ H s->dg x v->du xs us->r x xs H Q ->
  au (ay X.prog X.w) X.A (call (.builtin id) (v::us)) (EP X pins σ Q) X.xe s
section
variable {X:Cx}{a b:aX}{ta tb:TE}{pos:Pos}
theorem PL {r:R2} (hr:T5 X r) (ha:PE X a ta) (hb:PE X b tb) (hs:tV b):PE X (.Subscript a b pos) (SS r ta tb):=by
 intro pins s σ H Q I h
 exact Subscript_ (R8 ha hb I h fun v u s2 x y H2 I2 rx ry q=>hr a b pins s2 σ H2 x y v u Q I2 rx ry q (hs _ _))
inductive PM (K:a8) (x:V) (y:V) (H:Hp) (Q:VK):Prop
 | mk (p xs i v:_) (h0:x=.ref p) (h1:y=.int i) (h2:oW K H p xs) (h3:Ec xs i=some v) (h4:Q v H):PM K x y H Q
def T6 (K:a8):R2:=PM K
inductive PN (K:a8) (x:V) (y:V) (H:Hp) (Q:VK):Prop
 | mk (p xs i v:_) (h0:x=.ref p) (h1:y=.int i) (h2:kE K H p xs) (h3:Ec xs i=some v) (h4:Q v H):PN K x y H Q
def Vv (K:a8):R2:=PN K
inductive PP (x:V) (y:V) (H:Hp) (Q:VK):Prop
 | mk (z i c:_) (h0:x=.str z) (h1:y=.int i) (h2:z.length<=sizeLine) (h3:Ec z.cps.toList i=some c) (h4:Q (.str ⟨#[c]⟩) H):PP  x y H Q
def Vw:R2:=PP
theorem wB:T5 X (T6 X.K):=by
 intro value slice pins s σ H x y v u Q I rx ry h hs
 obtain ⟨p,xs,i,z,rfl,rfl,hq,he,q⟩:=h
 cases rx
 obtain ⟨t,rfl⟩:=ry
 obtain ⟨its,r,pl,hz⟩:=I.list hq
 obtain ⟨j,h1,h2,h3,h4,h5⟩:=AA he
 obtain ⟨w,ew,rw'⟩:=r.get h2
 have hl:=r.length
 have hn:=uW
 have fin:EP X pins σ Q w s:=⟨z,H,I,rw',q⟩
 by_cases h0:0<=i
 ·have hj:i.toNat=j:=by
   rw [seqIndex_of h0 h5] at h1
   exact bI h1
  exact item_listR pl.isList h0 (by omega) (by rw [hj];simpa using ew) fin hs
 ·have hj:(i + (its.toArray.size:Int)).toNat=j:=by
   rw [seqIndex_neg (by omega) h4] at h1
   rw [aQ,<- hl]
   exact bI h1
  exact JP (x:=w) pl.isList.typeIs slot_list_getitem.lookup
   (wpAny_getItem_list_neg (Q:=fun r s'=>r=w/\EP X pins σ Q r s') pl.isList (by omega) (by rw [aQ]<;>omega) (by omega) (by rw [hj];simpa using ew) ⟨rfl,fin⟩) hs
theorem Ro:T5 X (Vv X.K):=by
 intro value slice pins s σ H x y v u Q I rx ry h hs
 obtain ⟨p,xs,i,z,rfl,rfl,hq,he,q⟩:=h
 cases rx
 obtain ⟨t,rfl⟩:=ry
 obtain ⟨its,r,pl,hz⟩:=I.tuple hq
 obtain ⟨j,h1,h2,h3,h4,h5⟩:=AA he
 obtain ⟨w,ew,rw'⟩:=r.get h2
 have hl:=r.length
 have hn:=uW
 have fin:EP X pins σ Q w s:=⟨z,H,I,rw',q⟩
 exact JP (x:=w) pl.typeIs slot_tuple_getitem.lookup
  (getItem_tuple (j:=j) (Q:=fun r s'=>r=w/\EP X pins σ Q r s') pl (by omega) (by omega) (by rw [aQ,<- hl];exact h1) (by simpa using ew) ⟨rfl,fin⟩) hs
theorem Rp:T5 X Vw:=by
 intro value slice pins s σ H x y v u Q I rx ry h hs
 obtain ⟨z,i,c,rfl,rfl,hz,he,q⟩:=h
 obtain ⟨t,rfl⟩:=rx
 obtain ⟨t',rfl⟩:=ry
 obtain ⟨j,h1,h2,h3,h4,h5⟩:=AA he
 have hl:z.cps.toList.length=z.length:=by simp [Str.length]
 rw [hl] at h1 h4 h5
 have hn:=uW
 exact tail_any (typeIs_str s z t) slot_str_getitem.lookup (getItem_str (c:=c) (by
  have e1:decide (i < -(2 ^ 63:Int))=false:=decide_eq_false (by omega)
  have e2:decide (i ≥ 2 ^ 63)=false:=decide_eq_false (by omega)
  rw [e1,e2,Bool.or_false]) (by rw [h1];simpa using h2) ⟨.str ⟨#[c]⟩,H,I.tok _,⟨_,rfl⟩,q⟩) hs
theorem AB (lo hi:Option Int) (n:Nat):(mh lo hi none n).1=((HT.iP n 0 lo:Nat):Int)/\(mh lo hi none n).2.1=((HT.iP n n hi:Nat):Int)/\(mh lo hi none n).2.2=1:=by
 refine ⟨?_,?_,rfl⟩
 ·cases lo with
  | none=>simp [mh,HT.iP]
  | some i =>
   simp only [mh,HT.iP,gI,show (1:Int) > 0 by decide,if_true]
   by_cases h:i<0
   ·simp only [h,if_true]<;>omega
   ·simp only [h,if_false]<;>omega
 ·cases hi with
  | none=>simp [mh,HT.iP]
  | some i =>
   simp only [mh,HT.iP,gI,show (1:Int) > 0 by decide,if_true]
   by_cases h:i<0
   ·simp only [h,if_true]<;>omega
   ·simp only [h,if_false]<;>omega
theorem yL (its:List aa) (lo hi:Option Int):slicePick its.toArray lo hi none=((its.drop (HT.iP its.length 0 lo)).take (HT.iP its.length its.length hi - HT.iP its.length 0 lo)).toArray:=by
 obtain ⟨h1,h2,h3⟩:=AB lo hi its.toArray.size
 unfold slicePick
 rw [h1,h2,h3]
 simp only [sliceRange_one,pick_run,aQ]<;>rfl
def Vx (K:a8):V->Option Int->Option Int->Hp->VK->Prop:=fun x lo hi H Q=>∃ a xs,x=.ref a/\oW K H a xs/\∀ p,H p=none->Q (.ref p) (upd H p (.lst (C8 xs lo hi)))
theorem Oo:T3 X (Vx X.K):=by
 intro pins s σ H x v vl vu lo hi sl Q I rx hs pl pu h
 obtain ⟨a,xs,rfl,hx,q⟩:=h
 cases rx
 obtain ⟨its,r,ht,hz⟩:=I.list hx
 have hlen:=r.length
 refine ⟨"list",_,slot_list_getitem.lookup,ht.isList.typeIs,?_⟩
 refine wpAny_getItem_list_slice ht.isList hs pl pu .none (by simp) ?_ (by rw [aQ]<;>omega)
 rw [yL,<- hlen]
 refine ⟨.ref s.heap.objs.size,_,I.laid (t':=s.toks) (o:=.lst (C8 xs lo hi)) (fun b ob q=>ac _ q) (ar _) ?_,rfl,q _ (I.hok.fresh (ar _))⟩
 exact ⟨bV (vE xs lo hi) hz,_,0,(r.drop (HT.iP xs.length 0 lo)).take (HT.iP xs.length xs.length hi - HT.iP xs.length 0 lo),av _ rfl⟩
def pP:V->Bool
 | .non=>true
 | .bl _=>true
 | .int _=>true
 | .str _=>true
 | _=>false
def Op:V->V->Bool
 | .non,.non=>true
 | .bl a,.bl b=>a == b
 | .bl a,.int b=>(if a then 1 else 0) == b
 | .int a,.bl b=>a == (if b then 1 else 0)
 | .int a,.int b=>a == b
 | .str a,.str b=>a == b
 | _,_=>false
theorem Rq {A:aU}{s:ae}{y x:V}{u v:aa} (ry:dg y u) (rx:dg x v) (fy:pP y=true) (fx:pP x=true):SeqAt.EqAt A s u v (Op y x):=by
 cases y with
 | non =>
  cases ry
  cases x with
  | non=>cases rx;exact SeqAt.EqAt.same _
  | bl b=>cases rx;exact SeqAt.EqAt.none_bool b
  | int b=>obtain ⟨t,rfl⟩:=rx;exact SeqAt.EqAt.none_int b t
  | str b=>obtain ⟨t,rfl⟩:=rx;exact SeqAt.EqAt.none_str b t
  | _=>exact absurd (show false=true from fx) bu
 | bl a =>
  cases ry
  cases x with
  | non=>cases rx;exact SeqAt.EqAt.bool_none a
  | bl b=>cases rx;exact SeqAt.EqAt.bool_bool a b
  | int b=>obtain ⟨t,rfl⟩:=rx;exact SeqAt.EqAt.bool_int a b t
  | str b=>obtain ⟨t,rfl⟩:=rx;exact SeqAt.EqAt.bool_str a b t
  | _=>exact absurd (show false=true from fx) bu
 | int a =>
  obtain ⟨t',rfl⟩:=ry
  cases x with
  | non=>cases rx;exact SeqAt.EqAt.int_none a t'
  | bl b=>cases rx;exact SeqAt.EqAt.int_bool a t' b
  | int b=>obtain ⟨t,rfl⟩:=rx;exact SeqAt.EqAt.int_int a t' b t
  | str b=>obtain ⟨t,rfl⟩:=rx;exact BS a t' b t
  | _=>exact absurd (show false=true from fx) bu
 | str a =>
  obtain ⟨t',rfl⟩:=ry
  cases x with
  | non=>cases rx;exact SeqAt.EqAt.str_none a t'
  | bl b=>cases rx;exact SeqAt.EqAt.str_bool a t' b
  | int b=>obtain ⟨t,rfl⟩:=rx;exact BU a t' b t
  | str b=>obtain ⟨t,rfl⟩:=rx;exact SeqAt.EqAt.str_str a t' b t
  | _=>exact absurd (show false=true from fx) bu
 | _=>exact absurd (show false=true from fy) bu
def EJ (x:V) (u:aa):Bool:=match u with
 | .none=>Op .non x
 | .bool b=>Op (.bl b) x
 | .int i _=>Op (.int i) x
 | .str z _=>Op (.str z) x
 | _=>false
theorem Kq {x y:V}{u:aa} (r:dg y u) (f:pP y=true):EJ x u=Op y x:=by
 cases y with
 | non=>cases r;rfl
 | bl b=>cases r;rfl
 | int i=>obtain ⟨t,rfl⟩:=r;rfl
 | str z=>obtain ⟨t,rfl⟩:=r;rfl
 | _=>exact absurd (show false=true from f) bu
theorem tW {x:V}:∀ {xs:List V}{us:List aa},du xs us->xs.all pP=true->us.any (EJ x)=xs.any fun y=>Op y x
 | _,_,.nil,_=>rfl
 | y::xs,u::us,.cons r t,f=>by
  rw [tO,aO] at f
  rw [dJ,dJ,Kq r f.1,tW t f.2]
theorem pQ {A:aU}{s:ae}{x:V}{v:aa} (rx:dg x v) (fx:pP x=true):∀ {xs:List V}{us:List aa},du xs us->xs.all pP=true->∀ u∈us,SeqAt.EqAt A s u v (EJ x u)
 | _,_,.nil,_=>fun u hu=>by cases hu
 | y::xs,u::us,.cons r t,f=>fun u' hu=>by
  rw [tO,aO] at f
  rcases List.mem_cons.mp hu with rfl | hu
  ·rw [Kq r f.1];exact Rq r rx f.1 fx
  ·exact pQ rx fx t f.2 u' hu
def UR (x:V) (xs:List V):Bool:=xs.any fun y=>Op y x
inductive T7 (K:a8) (neg:Bool) (x:V) (y:V) (H:Hp) (Q:VK):Prop
 | mk (p xs:_) (h0:y=.ref p) (h1:(oW K H p xs\/kE K H p xs)) (h2:pP x=true) (h3:xs.all pP=true) (h4:Q (.bl (if neg then !UR x xs else UR x xs)) H):T7 K neg x y H Q
def Vy (K:a8) (neg:Bool):R2:=T7 K neg
theorem H_:pC X (bK .In) (Vy X.K false):=by
 intro pins s σ H x y v u Q I rx ry h
 obtain ⟨p,xs,rfl,hq,fx,fs,q⟩:=h
 cases ry
 rcases hq with hq | hq
 ·obtain ⟨its,r,pl,hz⟩:=I.list hq
  refine SeqAt.in_listAt (EJ x) pl.isList (fun w hw=>pQ rx fx r fs w (by simpa using hw)) ⟨.bl _,H,I,rfl,?_⟩
  rw [show its.toArray.any (EJ x)=its.any (EJ x) by simp,tW r fs]
  exact q
 ·obtain ⟨its,r,pl,hz⟩:=I.tuple hq
  refine SeqAt.in_tupleAt (EJ x) pl (fun w hw=>pQ rx fx r fs w (by simpa using hw)) ⟨.bl _,H,I,rfl,?_⟩
  rw [show its.toArray.any (EJ x)=its.any (EJ x) by simp,tW r fs]
  exact q
theorem AC:pC X (bK .NotIn) (Vy X.K true):=by
 intro pins s σ H x y v u Q I rx ry h
 obtain ⟨p,xs,rfl,hq,fx,fs,q⟩:=h
 cases ry
 rcases hq with hq | hq
 ·obtain ⟨its,r,pl,hz⟩:=I.list hq
  refine SeqAt.notIn_listAt (EJ x) pl.isList (fun w hw=>pQ rx fx r fs w (by simpa using hw)) ⟨.bl _,H,I,rfl,?_⟩
  rw [show its.toArray.any (EJ x)=its.any (EJ x) by simp,tW r fs]
  exact q
 ·obtain ⟨its,r,pl,hz⟩:=I.tuple hq
  refine SeqAt.notIn_tupleAt (EJ x) pl (fun w hw=>pQ rx fx r fs w (by simpa using hw)) ⟨.bl _,H,I,rfl,?_⟩
  rw [show its.toArray.any (EJ x)=its.any (EJ x) by simp,tW r fs]
  exact q
theorem tX:ji X (.builtin "len") (fun xs H Q=>∃ p ys,xs=[.ref p]/\(oW X.K H p ys\/kE X.K H p ys)/\Q (.int ys.length) H):=by
 intro pins s σ H xs us Q I r h
 obtain ⟨p,ys,rfl,hq,q⟩:=h
 obtain ⟨u,rfl,rx⟩:=kF r
 cases rx
 have hn:=uW
 rcases hq with hq | hq
 ·obtain ⟨its,r',pl,hz⟩:=I.list hq
  have hlen:=r'.length
  exact Calls.call_len_list pl.isList (by simp only [aQ]<;>omega) ⟨.int ys.length,H,I.tok _,⟨s.toks + 1,by rw [aQ,hlen]⟩,q⟩
 ·obtain ⟨its,r',pl,hz⟩:=I.tuple hq
  have hlen:=r'.length
  exact len_tuple pl (by simp only [aQ]<;>omega) ⟨.int ys.length,H,I.tok _,⟨s.toks + 1,by rw [aQ,hlen]⟩,q⟩
theorem AD:ji X (.builtin "len") (fun xs H Q=>∃ z,xs=[.str z]/\z.length<=sizeLine/\Q (.int z.length) H):=by
 intro pins s σ H xs us Q I r h
 obtain ⟨z,rfl,hz,q⟩:=h
 obtain ⟨u,rfl,t,rfl⟩:=kF r
 have hn:=uW
 exact len_str (by omega) ⟨.int z.length,H,I.tok _,⟨_,rfl⟩,q⟩
theorem tY:ji X (.type "list") (fun xs H Q=>∃ p ys,xs=[.ref p]/\(oW X.K H p ys\/kE X.K H p ys)/\∀ l,H l=none->Q (.ref l) (upd H l (.lst ys))):=by
 intro pins s σ H xs us Q I r h
 obtain ⟨p,ys,rfl,hq,q⟩:=h
 obtain ⟨u,rfl,rx⟩:=kF r
 cases rx
 have fin:∀ (its:List aa),du ys its->ys.length<=sizeLine->∀ (h':bB) (c':Nat),(∀ b o',s.heap.get? b=some o'->h'.get? b=some o') ->
   h'.get? s.heap.objs.size=some { cls:=.type "list",dict:=none,data:=.seq its.toArray c',slots:=#[] }->EP X pins σ Q (.ref s.heap.objs.size) { s with heap:=h' }:=fun its r' hz h' c' kp e =>
  ⟨.ref s.heap.objs.size,_,I.laid (t':=s.toks) kp (ar _) (show c_ X.prog X.w _ h' _ (.lst ys) from ⟨hz,its,c',r',e⟩),rfl,q _ (I.hok.fresh (ar _))⟩
 rcases hq with hq | hq
 ·obtain ⟨its,r',pl,hz⟩:=I.list hq
  have hlen:=r'.length
  obtain ⟨o,ho,hc,n,hd⟩:=pl.isList
  exact call_list_seq p (.inl rfl) ho hc hd (fun h' c' kp e=>fin its r' hz h' c' kp e) (by simp only [aQ]<;>omega)
 ·obtain ⟨its,r',pl,hz⟩:=I.tuple hq
  have hlen:=r'.length
  obtain ⟨o,ho,hc,n,hd⟩:=pl
  exact call_list_seq p (.inr rfl) ho hc hd (fun h' c' kp e=>fin its r' hz h' c' kp e) (by simp only [aQ]<;>omega)
theorem rL:ji X (.type "tuple") (fun xs H Q=>∃ p ys,xs=[.ref p]/\((oW X.K H p ys/\∀ l,H l=none->Q (.ref l) (upd H l (.tup ys)))\/(kE X.K H p ys/\Q (.ref p) H))):=by
 intro pins s σ H xs us Q I r h
 obtain ⟨p,ys,rfl,h⟩:=h
 obtain ⟨u,rfl,rx⟩:=kF r
 cases rx
 rcases h with ⟨hq,q⟩ | ⟨hq,q⟩
 ·obtain ⟨its,r',pl,hz⟩:=I.list hq
  have hlen:=r'.length
  refine call_tuple_list pl.isList (fun h' kp=>?_) (by simp only [aQ]<;>omega)
  have I1:bQ X pins σ H { s with heap:=h' }:=I.kept (t':=s.toks) kp
  have I2:bQ X pins σ (upd H h'.objs.size (.tup ys)) { s with heap:=h'.push { cls:=.type "tuple",data:=.seq its.toArray } } :=
   I1.laid (t':=s.toks) (fun b o e=>ac _ e) (ar _) (show c_ X.prog X.w _ _ _ (.tup ys) from ⟨hz,its,r',vT _ _⟩)
  exact ⟨.ref h'.objs.size,_,I2,rfl,q _ (I1.hok.fresh (ar _))⟩
 ·obtain ⟨its,r',pl,hz⟩:=I.tuple hq
  exact call_tuple_same pl ⟨.ref p,H,I,rfl,q⟩
def Wf (K:a8) (T:String) (x:V) (H:Hp):Prop:=match x with
 | .str _=>T="str"
 | .int _=>T="int"
 | .ref p=>(T="list"/\∃ xs,oW K H p xs)\/(T="tuple"/\∃ o,K.lookup p=some o/\o.cls=.type "tuple"/\o.dict=none) \/
   (T="dict"/\((∃ kvs,H p=some (.dK kvs))\/∃ kvs,H p=some (.dT kvs)))\/(T="set"/\∃ S n,H p=some (.set S n))
 | _=>False
theorem Rr {pins:List (ai×Obj)}{σ:St}{H:Hp}{s:ae}{T:String}{x:V}{v:aa} (I:bQ X pins σ H s) (r:dg x v) (ty:Wf X.K T x H) :
  s.TypeIs v T/\∀ a,v=.ref a->∃ ob,s.heap.get? a=some ob/\ob.dict=none:=by
 cases x with
 | str z =>
  obtain ⟨t,rfl⟩:=r
  cases (show T="str" from ty)
  exact ⟨typeIs_str s z t,fun _ e=>nomatch e⟩
 | int i =>
  obtain ⟨t,rfl⟩:=r
  cases (show T="int" from ty)
  exact ⟨typeIs_int s i t,fun _ e=>nomatch e⟩
 | ref p =>
  cases r
  rcases ty with ⟨rfl,xs,hq⟩ | ⟨rfl,o,hk,hc,hd⟩ | ⟨rfl,hk⟩ | ⟨rfl,S,n,hk⟩
  ·obtain ⟨its,_,pl,_⟩:=I.list hq
   refine ⟨pl.isList.typeIs,fun a e=>?_⟩
   cases e
   obtain ⟨o,n,e,c,hd,_⟩:=pl
   exact ⟨o,e,hd⟩
  ·refine ⟨⟨o,I.kIn p o hk,hc⟩,fun a e=>?_⟩
   cases e
   exact ⟨o,I.kIn _ o hk,hd⟩
  ·have z:∃ o,s.heap.get? p=some o/\o.ExactDict:=by
    rcases hk with ⟨kvs,hk⟩ | ⟨kvs,hk⟩
    ·obtain ⟨_,_,_,_,o,_,_,e,ex,_⟩:=I.hok p _ hk
     exact ⟨o,e,ex⟩
    ·obtain ⟨_,_,_,_,o,_,_,e,ex,_⟩:=I.hok p _ hk
     exact ⟨o,e,ex⟩
   obtain ⟨o,e,ex⟩:=z
   refine ⟨⟨o,e,ex.1⟩,fun a e2=>?_⟩
   cases e2
   exact ⟨o,e,ex.2.1⟩
  ·obtain ⟨o,_,_,_,e,ex,_⟩:=I.hok p _ hk
   refine ⟨⟨o,e,ex.1⟩,fun a e2=>?_⟩
   cases e2
   exact ⟨o,e,ex.2.1⟩
 | _=>exact iD ty
def WH (K:a8) (T:String) (r:V->List V->Hp->VK->Prop) (to:TE) (t:TA):TE:=fun σ H Q=>to σ H fun x H1=>Wf K T x H1/\t σ H1 fun xs H2=>r x xs H2 Q
variable {o e:aX}{es:List aX}{to:TE}{t:TA}{name:Str}{apos cpos:Pos}{T id:String}{r:V->List V->Hp->VK->Prop}
theorem PQ (pa:PlainAttrs T) (slot:Slot T name id) (hty:typeOf (.builtin id)=pure (.type "method_descriptor")) (hm:WG X id r) (ho:PE X o to) (ha:PA X (e::es) t)
  (hbase:HA o name X.env (eh o X.env)=eh o X.env:=by rfl)
  (hfew:((j8 cpos (aK (e::es) X.env)).all (fun x=>!x.1) && (backToKw cpos (NC [] X.env)).all (fun x=>x.1.isSome)
   && decide ((e::es).length + ([] : List yx).length + (if ([] : List yx).isEmpty then 0 else 1)<30))=true:=by rfl)
  (hline:(apos.endLine == cpos.line)=true:=by rfl) (hs:aK (e::es) X.env=(false,eh e X.env)::aK es X.env:=by rfl) (hplain:(j8 cpos (aK es X.env)).any (·.1)=false:=by rfl) :
  PE X (.Call (.Attribute o name apos) (e::es) [] cpos) (WH X.K T r to t):=by
 intro pins s σ H Q I h
 refine wpAny_Call_method_late hbase hfew hline rfl (fK (ho pins s σ H _ I h) fun v s1 ⟨x,H1,I1,r1,ty,q1⟩=>?_)
 obtain ⟨h1,h2⟩:=Rr I1 r1 ty
 refine ⟨T,id,pa,slot,hty,h1,h2,?_⟩
 have hA:=ha cpos pins s1 σ H1 _ I1 q1
 rw [hs] at hA ⊢
 refine Calls.callWith_builtin (by show (false || (j8 cpos (aK es X.env)).any (·.1))=false;rw [hplain]<;>rfl) (Ej ?_)
 exact fK hA fun us s2 h_30=>by obtain ⟨vs,H2,I2,r2,q2⟩:=h_30;exact hm pins s2 σ H2 x vs v us Q I2 r1 r2 q2
end
end L2
namespace L2
open PySem PySem.Spec PyProof.Rows
def WI (X:Cx) (id:String) (r:V->List V->Hp->VK->Prop):Prop :=
 ∀ (pins:List (ai×Obj)) (s:ae) (σ:St) (H:Hp) (x:V) (xs:List V) (v:aa) (us:List aa) (Q:VK),bQ X pins σ H s->dg x v->du xs us->r x xs H Q ->
  au (ay X.prog X.w) X.A (call (.builtin id) (v::us)) (EP X pins σ Q) X.xe s
theorem du.one {x:V}{us:List aa} (h:du [x] us):∃ u,us=[u]/\dg x u:=by
 cases h with | cons r t=>cases t;exact ⟨_,rfl,r⟩
section
variable {X:Cx}{pins:List (ai×Obj)}{σ:St}{H:Hp}{s:ae}{l b:ai}{xs ys zs:List V}
theorem bQ.lset {its its':List aa}{n:Nat}{f:Array aa->Array aa}{t':Nat} (I:bQ X pins σ H s) (hH:H l=some (.lst xs))
  (e:s.heap.get? l=some { cls:=.type "list",data:=.seq its.toArray n }) (hf:f its.toArray=its'.toArray) (hv:du ys its') (hz:ys.length<=sizeLine) :
  bQ X pins σ (upd H l (.lst ys)) { s with heap:=s.heap.update l (gE f),toks:=t' }:=by
 have q:=PySem.IsL.update e f
 rw [hf] at q
 refine I.write (x:=l) (e:=l) (by rw [hH];exact trivial) (.inl rfl) (fun b' u hb hu=>(eY s.heap (gE f) (cQ hb)).trans hu) ⟨_,q⟩ ?_
 exact ⟨hz,its',_,hv,q⟩
theorem bQ.lnew {its:List aa}{t':Nat} (I:bQ X pins σ H s) (hv:du ys its) (hz:ys.length<=sizeLine) :
  bQ X pins σ (upd H s.heap.objs.size (.lst ys)) { s with heap:=s.heap.push { cls:=.type "list",data:=.seq its.toArray },toks:=t' } :=
 I.laid (fun _ _ q=>ac _ q) (ar _) ⟨hz,its,0,hv,av _ rfl⟩
theorem bQ.fresh (I:bQ X pins σ H s):H s.heap.objs.size=none:=I.hok.fresh (ar _)
theorem bQ.lstM (I:bQ X pins σ H s) (hH:H l=some (.lst xs)):Wd s.heap l xs:=by
 obtain ⟨z,its,n,r,e⟩:=I.hok l _ hH
 exact ⟨z,its,n,r,r.length,e⟩
end
section
variable {X:Cx}
inductive C9 (x:V) (vs:List V) (H:Hp) (Q:VK):Prop
 | mk (l xs y:_) (h0:x=.ref l) (h1:vs=[y]) (h2:H l=some (.lst xs)) (h3:xs.length<sizeLine) (h4:Q .non (upd H l (.lst (xs++[y])))):C9  x vs H Q
def Oq:V->List V->Hp->VK->Prop:=C9
theorem zz:WI X "list.append" Oq:=by
 intro pins s σ H x vs v us Q I rx rv h
 obtain ⟨l,xs,y,rfl,rfl,hH,hz,q⟩:=h
 cases rx
 obtain ⟨u,rfl,ru⟩:=rv.one
 obtain ⟨z,its,n,r,hl,e⟩:=I.lstM hH
 refine call_meets F.slot_list_append ⟨_,e,rfl⟩ F.entry_list_append (F.args_list_append_2 _ _) (PySem.list_append l its.toArray n u (by rw [aQ];omega)) ⟨e,?_⟩
 refine ⟨.non,_,I.lset (its':=its++[u]) hH e (by simp) (r.append (.cons ru .nil)) ?_,rfl,q⟩
 rw [aR,dn]
 omega
end
section
variable {prog:aH}{w:aZ}{A:aU}{E:aa->ae->Prop}{s:ae}
end
section
variable {X:Cx}
end
end L2
namespace Att
open PySem PySem.W PySem.Calls PyProof.Rows
theorem wa {P:Params}{h:bB}:∀ (ns:List Int) (vs:List aa),WellAll P h vs (ns.map WData.int)->JQ vs ns:=by
 intro ns
 induction ns with
 | nil =>
  intro vs w
  rw [eZ] at w
  cases w
  exact .nil
 | cons n ns ih =>
  intro vs w
  rw [aw] at w
  cases w with
  | cons a b =>
   cases a
   exact .cons _ _ (ih _ b)
theorem Ic {l:OpenLaw}{n:Nat} (hn:l.most=some n) {P:Params}{h:bB}{args:List WData}{vals:List aa}
  (hpre:l.row.toRowW.claim.pre args=true) (hwl:WellAll P h vals args) :
  ∃ a vs ns,vals=[bj a]/\args=[WData.list (ns.map WData.int)]/\h.get? a=some { cls:=.type "list",data:=.seq vs.toArray }/\JQ vs ns/\ns.length<=n:=by
 have hsh:WShape.hasAll [] args [.list .int]=true:=(pre_splitW hpre).1
 have hc:l.pre.holds [] { args:=args }=true:=(pre_splitW hpre).2
 obtain ⟨d,r,rfl,h1,h2⟩:=hasAllW_cons hsh
 obtain rfl:=hasAllW_nil h2
 obtain ⟨xs,rfl,h3⟩:=hasW_list h1
 obtain ⟨ns,rfl⟩:=items_int h3
 have hlen:ns.length<=n:=by
  unfold OpenLaw.pre at hc
  have h4:(WTm.not (.lt (.lit (.int (n:Int))) (.len (.arg 0)))).holds [] { args:=[.list (ns.map .int)] }=true:=by
   have h4:=(holds_andW hc).1
   rw [hn] at h4
   exact h4
  have h5:=condW_of h4 (w_not (w_lt w_lit (w_len_list (w_arg rfl))))
  rw [ak] at h5
  refine ND fun q=>?_
  have q':(n:Int)<((ns.length:Nat):Int):=by omega
  first
   | (rw [decide_eq_true q'] at h5;exact absurd h5 (by decide))
   | (simp at h5;omega)
 cases hwl with
 | cons w1 w2 =>
  cases w2
  cases w1 with
  | list ho hall=>exact ⟨_,_,ns,rfl,rfl,ho,wa ns _ hall,hlen⟩
theorem Ie (l:OpenLaw) (args:List WData):l.row.toRowW.claim.post args (.bool true) args=true :=
 postW_of (r:=l.row.toRowW) (X:=(true == true))
  (show WShape.has [] (.bool true) .bool=true by first | rfl | decide | simp [WShape.has,WShape.arms,WShape.armsAll])
  (show (WTm.eq .res (.lit (.bool true))).value [] { args:=args,res:=some (.bool true),after:=args }=some (.bool (true == true)) from w_eq_bool (w_res rfl) w_lit) rfl
theorem attach_call {l:OpenLaw}{n:Nat}{q:aH}{loose:List Str}{XP:(Str->Option aa)->bB->Prop}{YP:aZ->bB->Prop}{d:DefRec}
  (hn:l.most=some n) (hdf:d.params.defaults=[])
  (call:∀ (w:aZ) (s₀ s₁:ae) (mg mb:Str->Option aa) (fa:ai) (o:Obj) (pm cd doc:aa) (a:ai) (vs:List aa) (ns:List Int),
   Ground q loose [] XP w s₀ mg mb s₁.heap->YP w s₁.heap ->
   s₁.heap.get? fa=some o->o.data=.func (docDef d.name d.params d.body d.scope pm cd doc)->s₁.heap.CodeRec cd d.name->mg d.name=some (.ref fa) ->
   s₁.heap.get? a=some { cls:=.type "list",data:=.seq vs.toArray }->JQ vs ns->ns.length<=n->s₁.gens=#[] ->
   jo (ay l.prog w) vy (.call (.ref fa) ⟨[.ref a],[]⟩) (fun r s'=>r=.ok (.ret (.bool true))/\OldK s₁.heap s'.heap/\s'.os=s₁.os/\pj s'.gens) s₁) :
  WalkO q loose XP YP l.row.toRowW d [] (fun f vs=>HB f vs):=by
 intro w s₀ s₁ mg mb G Y fa o pm cd doc dV kV ho hd hcd hD hmg hg args vals as hpre hlay hrd hwl hlo
 obtain rfl:dV=.none:=Dflts.none hD hdf
 obtain rfl:kV=.none:=Dflts.noKw hD
 obtain ⟨a,vs,ns,rfl,rfl,hobj,hints,hlen⟩:=Ic hn hpre hwl
 refine enter_call (r_ (call w s₀ s₁ mg mb fa o pm cd doc a vs ns G Y ho (fd_plain hd) hcd hmg hobj hints hlen hg) fun r s' hq=>?_)
 obtain ⟨rfl,h2,h3,h4⟩:=hq
 exact ⟨.inl ⟨.bool true,.bool true,[],rfl,fun _=>rfl,.bool true,Ie l _,fun _=>⟨pG,fun _ hm=>(nomatch hm)⟩⟩,h2,h3,h4⟩
section
variable {prog:aH}{w:aZ}{A:aU}{E:aa->ae->Prop}{s:ae}{K:Frag}
def Vz (h:bB) (L d:ai):List (ai×Obj):=(bD h.objs.size).filterMap fun a=>if a=L\/a=d then none else (h.get? a).map fun o=>(a,o)
end
end Att
namespace L2
open PySem PySem.Spec PyProof.Rows
theorem Ig {vs:List aa}{ns:List Int} (h:JQ vs ns):du (ns.map V.int) vs:=by
 induction h with
 | nil=>exact .nil
 | cons n t h ih=>exact .cons ⟨t,rfl⟩ ih
def Rs (H:Hp):Prop:=∀ b,H b=none\/∃ o xs,H b=some (.frz o (.lst xs))
theorem Kr {P:aH}{w:aZ}{K:a8}{mg mb:Str->Option aa}{CX:HY}{k:Nat}{fa a:ai}{fd:eG}{x:Str}{sp:Sp}{s₁:ae}{vs:List aa}{ns:List Int}
  (KX:K.In s₁.heap) (hns:s₁.heap.Ns bL mg) (hb:s₁.heap.Ns builtinsNs mb) (hbb:∀ x:Str,x≠"__name__"->mb x=il x) (hlim:s₁.heap.NoLimit) (hg:s₁.gens=#[])
  (ha:s₁.heap.get? a=some { cls:=.type "list",data:=.seq vs.toArray }) (hi:JQ vs ns) (hl:ns.length<=sizeLine) (hr:kZ k vy)
  (F:∀ base:bB,K.In base->base.Ns bL mg->rj P w K mg base CX k fa fd [x] sp) (hbind:∀ (s:ae) (u:aa),yw s fd ⟨[u],[]⟩ [(x,u)])
  (hsp:∀ H:Hp,Rs H->oW K H a (ns.map V.int)->sp [.ref a] H (fun v _=>v=.bl true) fun _ _ _=>False)
  (hCX:∀ H e s',CX [] H s₁ (fun _ _ _=>False) e s'->False) :
  jo (ay P w) vy (.call (.ref fa) ⟨[.ref a],[]⟩) (fun r s'=>r=.ok (.ret (.bool true))/\OldK s₁.heap s'.heap/\s'.os=s₁.os/\pj s'.gens) s₁:=by
 have rv:=Ig hi
 have lenV:=hi.length
 have core:∀ H:Hp,Rs H->oW K H a (ns.map V.int)->pd P w H s₁.heap->(∀ b,H b≠none->b=a)->(H a≠none->K.lookup a=none) ->
   jo (ay P w) vy (.call (.ref fa) ⟨[.ref a],[]⟩) (fun r s'=>r=.ok (.ret (.bool true))/\OldK s₁.heap s'.heap/\s'.os=s₁.os/\pj s'.gens) s₁:=by
  intro H hO hS hok hA hK
  have base_of:∀ {b:ai}{o:Obj},s₁.heap.get? b=some o->H b=none->(Au s₁.heap H).get? b=some o:=fun e n=>K7 e n
  have noA:∀ {b:ai}{o:Obj}{es:Array lM}{ep:Nat},s₁.heap.get? b=some o->o.data=.dict es ep->H b=none:=fun {b o es ep} e d=>by
   cases q:H b with
   | none=>rfl
   | some u =>
    have e':b=a:=hA b (by rw [q];simp)
    subst e'
    rw [ha] at e;cases e
    have d':Data.seq vs.toArray _=Data.dict es ep:=d
    cases d'
  have nsK:∀ {b:ai}{m:Str->Option aa},s₁.heap.Ns b m->(Au s₁.heap H).Ns b m:=fun {b m} ⟨o,es,ep,e,d,r⟩=>⟨o,es,ep,base_of e (noA e d),d,r⟩
  have hKb:K.In (Au s₁.heap H):=fun b o e=>base_of (KX b o e) (by
   cases q:H b with
   | none=>rfl
   | some u =>
    have e':b=a:=hA b (by rw [q];simp)
    subst e'
    rw [hK (by rw [q];simp)] at e;cases e)
  have hM:Mod K mg (Au s₁.heap H):=⟨hKb,nsK hns,⟨mb,nsK hb,hbb⟩,let ⟨mc,h1,h2⟩:=hlim;⟨mc,nsK h1,h2⟩⟩
  have e0:Of P w K mg (Au s₁.heap H) vy [] s₁ H:=⟨rfl,hM,fun b o e=>O1 e,Nat.le_of_eq (HR _ _),trivial,fun b hb=>absurd (show b∈([] : List ai) from hb) (by simp),hok,.of_eq hg⟩
  refine r_ ((F _ hKb (nsK hns)).run vy [] s₁ H ⟨[.ref a],[]⟩ [.ref a] [.ref a] _ _ hr e0 (hbind s₁ (.ref a)) (.cons rfl .nil) (hsp H hO hS)) fun r s' h=>?_
  cases r with
  | error e=>exact (hCX H e s' h).elim
  | ok fl =>
   cases fl with
   | next=>exact iD h
   | brk=>exact iD h
   | cont=>exact iD h
   | ret u =>
    obtain ⟨v,H',os,bare,un,hok',r',q⟩:=h
    have q':v=.bl true:=q
    subst q'
    obtain rfl:u=Ht true:=r'
    refine ⟨rfl,OldK.of_keep fun b o e=>?_,os,bare⟩
    cases q:H b with
    | none=>exact un.keep b o e q (by intro z;exact absurd (show b∈([] : List ai) from z) (by simp)) (by simp)
    | some u =>
     rcases hO b with z | ⟨ob,xs,z⟩
     ·rw [q] at z;cases z
     ·have z2:=un.frzs b ob _ z
      obtain ⟨e1,_⟩:=hok b _ z
      obtain ⟨e2,_⟩:=hok' b _ z2
      rw [e] at e1;cases e1
      exact e2
 cases hk:K.lookup a with
 | some o =>
  have e:=KX a o hk
  rw [ha] at e
  cases e
  refine core (fun _=>none) (fun _=>.inl rfl) (.inr ⟨_,vs.toArray,_,hk,rfl,rfl,rfl,by rw [aQ,lenV];exact hl,by simpa using rv⟩) (fun b u z=>by have z':(none:Option HO)=some u:=z;cases z') (fun b z=>absurd rfl z) fun z=>absurd rfl z
 | none =>
  refine core (fun b=>if b=a then some (.frz { cls:=.type "list",data:=.seq vs.toArray } (.lst (ns.map V.int))) else none) (fun b=>?_) (.inl (.inr ⟨{ cls:=.type "list",data:=.seq vs.toArray },if_pos rfl⟩)) (fun b u z=>?_) (fun b z=>?_) fun _=>hk
  ·by_cases hb:b=a
   ·exact .inr ⟨_,_,if_pos hb⟩
   ·exact .inl (if_neg hb)
  ·by_cases hb:b=a
   ·have z':=(if_pos hb).symm.trans z
    cases z'
    subst hb
    exact ⟨ha,by rw [ak];exact hl,vs,_,rv,ha⟩
   ·have z':=(if_neg hb).symm.trans z
    cases z'
  ·by_cases hb:b=a
   ·exact hb
   ·exact absurd (if_neg hb) z
end L2
namespace L2
open PySem PySem.Spec PyProof.Rows
abbrev WQ {K:a8}{h:bB} (_:K.In h):a8:=K
theorem Os {l:vU}{n k:Nat}{q:aH}{loose:List Str}{XP:(Str->Option aa)->bB->Prop}{YP:aZ->bB->Prop}{d:DefRec}{K:Params->a8}{CX:aZ->HY}{sp:aZ->Sp}{x:Str}
  (hn:l.most=some n) (hn2:n<=sizeLine) (hdf:d.params.defaults=[]) (hr:kZ k vy)
  (hY:∀ (w:aZ) (h:bB),YP w h->(K w.params).In h)
  (F:∀ (w:aZ) (mg:Str->Option aa) (fa:ai) (h:bB),(K w.params).In h->h.Ns bL mg->mg d.name=some (.ref fa) ->
   ∃ fd:eG,(∀ (s:ae) (u:aa),yw s fd ⟨[u],[]⟩ [(x,u)]) /\
    ∀ base:bB,(K w.params).In base->base.Ns bL mg->rj l.prog w (K w.params) mg base (CX w) k fa fd [x] (sp w))
  (hsp:∀ (w:aZ) (H:Hp) (a:ai) (ns:List Int),ns.length<=n->Rs H->oW (K w.params) H a (ns.map V.int)->sp w [.ref a] H (fun v _=>v=.bl true) fun _ _ _=>False)
  (hCX:∀ (w:aZ) (H:Hp) (s:ae) (e:aa) (s':ae),CX w [] H s (fun _ _ _=>False) e s'->False) :
  Nl q loose XP YP l.row.toRowW d [] (fun f vs=>HB f vs):=by
 refine Att.attach_call hn hdf fun w s₀ s₁ mg mb fa o pm cd doc a vs ns G Y ho hd hcd hmg hobj hints hlen hg=>?_
 have KX:=hY w _ Y
 obtain ⟨fd,hb,hF⟩:=F w mg fa _ KX G.T.g hmg
 exact Kr KX G.T.g G.T.b G.T.builtins G.T.nolimit hg hobj hints (bV hlen hn2) hr hF hb (fun H hO hS=>hsp w H a ns hlen hO hS) fun H e s'=>hCX w H s₁ e s'
end L2
namespace L2
open PySem PySem.Spec PyProof.Rows
def kh (s:dz):Arguments:=match s with
 | .FunctionDef _ a _ _ _ _ _ _ _ _=>a
 | _=>{ posonlyargs:=[],args:=[],vararg:=none,kwonlyargs:=[],kw_defaults:=[],kwarg:=none,defaults:=[] }
def i6 (s:dz):List dz:=match s with
 | .FunctionDef _ _ b _ _ _ _ _ _ _=>b
 | _=>[]
def aB (s:dz):fZ:=match s with
 | .FunctionDef _ _ _ _ _ _ sc _ _ _=>sc
 | _=>{ kind:=.function,names:=[],isGenerator:=false,isCoroutine:=false }
abbrev E0:XK:=fun _ _ _=>False
structure Ih (K:a8) (x qual:Str) (st:dz) (f:ai) (fd:eG):Prop where
 ex:∃ (oc:aa) (od:Option ai) (kV doc pm:aa) (an:Option ai) (cdv ct:aa) (osl:Array (Option aa)),
  fd=fP x qual (kh st) (i6 st) (aB st) .none kV doc pm an cdv ct/\K.lookup f=some ⟨oc,od,.func fd,osl⟩/\lL K cdv qual=true
 kp:f9 K (.ref f)=true
section
variable {P:aH}{w:aZ}{K:a8}{mg:Str->Option aa}{base:bB}
theorem Ih.binds {x qual:Str}{st:dz}{f:ai}{fd:eG}{ps:List Str} (F:Ih K x qual st f fd)
  (h:∀ (kV doc pm:aa) (an:Option ai) (cdv ct:aa) (us:List aa),us.length=ps.length->NB (fP x qual (kh st) (i6 st) (aB st) .none kV doc pm an cdv ct) ⟨us,[]⟩=pure (ps.zip us)):l7 K fd ps []:=by
 obtain ⟨oc,od,kV,doc,pm,an,cdv,ct,osl,rfl,lk,hcd⟩:=F.ex
 exact .all (h kV doc pm an cdv ct)
theorem Ks {x qual:Str}{st:dz}{f:ai}{oc:aa}{od an:Option ai}{osl:Array (Option aa)}{kV doc pm cdv ct:aa} (l:K.lookup f=some ⟨oc,od,.func (fP x qual (kh st) (i6 st) (aB st) .none kV doc pm an cdv ct),osl⟩)
  (c:lL K cdv qual=true) (k:f9 K (.ref f)=true):Ih K x qual st f (fP x qual (kh st) (i6 st) (aB st) .none kV doc pm an cdv ct):=⟨⟨oc,od,kV,doc,pm,an,cdv,ct,osl,rfl,l,c⟩,k⟩
end
theorem jT {A:aU}{k:Nat} (hr:kZ k A):A.units + 1<gz:=uK (Nat.add_le_add_left (by decide:1<=64) _) hr.units
theorem dH {n:Nat} (h:n<=1000):n<sizeLine:=uK h (by decide)
section
variable {X:Cx}
end
theorem Ca {A B:Prop} (h:B):if false=true then A else B:=by
 rw [if_neg bu]
 exact h
theorem Cb {A B:Prop} (h:A):if true=true then A else B:=by
 rw [if_pos rfl]
 exact h
def dk (H H':Hp):Prop:=∀ b o,H b=some o->H' b=some o
theorem dk.refl (H:Hp):dk H H:=fun _ _ h=>h
theorem dk.trans {H H1 H2:Hp} (a:dk H H1) (b:dk H1 H2):dk H H2:=fun c o h=>b c o (a c o h)
theorem dk.free {H H':Hp} (e:dk H H') {l:ai} (h:H' l=Option.none):H l=Option.none:=by
 cases q:H l with
 | none=>rfl
 | some o =>
  rw [e l o q] at h
  cases h
theorem dk.seq {K:a8}{H H':Hp}{a:ai}{xs:List V} (e:dk H H') (h:oW K H a xs):oW K H' a xs:=by
 rcases h with (h | ⟨o,h⟩) | h
 ·exact .inl (.inl (e _ _ h))
 ·exact .inl (.inr ⟨o,e _ _ h⟩)
 ·exact .inr h
end L2
end
section
namespace L2
open PySem PySem.Spec PyProof.Rows
section
variable {κ:Type} [DecidableEq κ]
def nz (kvs:List (κ×V)) (k:κ):Option V:=(kvs.find? fun kv=>decide (kv.1=k)).map (·.2)
def ml (kvs:List (κ×V)) (k:κ) (v:V):List (κ×V) :=
 if (kvs.any fun kv=>decide (kv.1=k))=true then kvs.map (fun kv=>if kv.1=k then (kv.1,v) else kv) else kvs++[(k,v)]
def Kt (kvs:List (κ×V)) (k:κ):List (κ×V):=kvs.filter fun kv=>decide (kv.1≠k)
theorem x0 {p:κ×V}{r:List (κ×V)}{k:κ} (e:p.1=k):nz (p::r) k=some p.2:=by simp [nz,bX,e]
theorem xa {p:κ×V}{r:List (κ×V)}{k:κ} (e:¬ p.1=k):nz (p::r) k=nz r k:=by simp [nz,bX,e]
theorem Cc (k:κ):∀ kvs:List (κ×V),(kvs.any fun kv=>decide (kv.1=k))=(nz kvs k).isSome
 | []=>rfl
 | p::r=>by
  rw [dJ]
  by_cases e:p.1=k
  ·simp only [x0 e,decide_eq_true e,Bool.true_or,FT]
  ·rw [xa e,decide_eq_false e,tP];exact Cc k r
theorem pR (kvs:List (κ×V)) (k:κ) (v:V):(ml kvs k v).length<=kvs.length + 1:=by
 unfold ml
 split
 ·rw [ak];omega
 ·rw [aR,bw,cB];omega
theorem wY.isSome_eq  (r:wY o u):o.isSome=u.isSome:=by
 cases o with
 | none=>cases u with
  | none=>rfl
  | some _=>exact (show False from r).elim
 | some _=>cases u with
  | none=>exact (show False from r).elim
  | some _=>rfl
theorem KV.val {kvs:List (κ×V)}{vs:List (κ×aa)} (r:KV kvs vs) (k:κ):wY (nz kvs k) (yz vs k):=by
 unfold KV at r
 induction r with
 | nil=>exact iK
 | @cons p q ps qs h t ih =>
  obtain ⟨h1,h2⟩:=h
  by_cases e:p.1=k
  ·have e':q.1=k:=h1.symm.trans e
   have b:yz (q::qs) k=some q.2:=by simp [yz,bX,e']
   rw [x0 e,b];exact h2
  ·have e':¬ q.1=k:=fun z=>e (h1.trans z)
   have b:yz (q::qs) k=yz qs k:=by simp [yz,bX,e']
   rw [xa e,b];exact ih
theorem KV.any  (r:KV kvs vs) (k:κ):(kvs.any fun kv=>decide (kv.1=k))=vs.any fun kv=>decide (kv.1=k):=by
 unfold KV at r
 induction r with
 | nil=>rfl
 | cons h t ih=>rw [dJ,dJ,ih,h.1]
theorem KV.repl  (r:KV kvs vs) (k:κ)  (ry:dg y u) :
  KV (kvs.map fun kv=>if kv.1=k then (kv.1,y) else kv) (vs.map fun kv=>if kv.1=k then (kv.1,u) else kv):=by
 unfold KV at r ⊢
 induction r with
 | nil=>exact .nil
 | @cons p q ps qs h t ih =>
  rw [aw,aw]
  refine .cons ?_ ih
  obtain ⟨h1,h2⟩:=h
  by_cases e:p.1=k
  ·rw [if_pos e,if_pos (h1.symm.trans e)];exact ⟨h1,ry⟩
  ·rw [if_neg e,if_neg (fun z=>e (h1.trans z))];exact ⟨h1,h2⟩
theorem KV.put  (r:KV kvs vs) (k:κ)  (ry:dg y u):KV (ml kvs k y) (stored vs k u):=by
 unfold ml stored
 rw [r.any k]
 by_cases e:(vs.any fun kv=>decide (kv.1=k))=true
 ·rw [if_pos e,if_pos e];exact r.repl k ry
 ·rw [if_neg e,if_neg e];exact Paired.snoc r ⟨rfl,ry⟩
theorem KV.length  (r:KV kvs vs):kvs.length=vs.length:=j0 r
end
theorem Cd    (r:dg (kV k) u):(fS P w).is k u=true:=by
 cases k with
 | inl i=>obtain ⟨t,e⟩:=(show ∃ t,u=nR i t from r);subst e;exact C3 P w i t
 | inr x=>obtain ⟨t,e⟩:=(show ∃ t,u=jx x t from r);subst e;exact C4 P w x t
theorem zA  : ∀ {ks:List fD}{us:List aa},du (ks.map kV) us->ItemsAre (fS P w) ks us
 | [],_,r=>by rw [eZ] at r;cases r;exact .nil
 | k::ks,_,r=>by
  rw [aw] at r
  cases r with
  | cons h t=>exact .cons (Cd h) (zA t)
abbrev KT (H:Hp):List (List fD×V)->List (List fD×ai×aa)->Prop:=Ee fun p q=>p.1=q.1/\H q.2.1=some (.tup (p.1.map kV))/\dg p.2 q.2.2
theorem KT.val {H:Hp}{kvs:List (List fD×V)}{xs:List (List fD×ai×aa)} (r:KT H kvs xs) (k:List fD):wY (nz kvs k) ((Ek xs k).map (·.2)):=by
 induction r with
 | nil=>exact iK
 | @cons p q ps qs h t ih =>
  obtain ⟨h1,_,h2⟩:=h
  by_cases e:p.1=k
  ·have e':q.1=k:=h1.symm.trans e
   have b:Ek (q::qs) k=some q.2:=by simp [Ek,bX,e']
   rw [x0 e,b];exact h2
  ·have e':¬ q.1=k:=fun z=>e (h1.trans z)
   have b:Ek (q::qs) k=Ek qs k:=by simp [Ek,bX,e']
   rw [xa e,b];exact ih
theorem KT.repl   (r:KT H kvs xs) (k:List fD)  (ry:dg y u) :
  KT H (kvs.map fun kv=>if kv.1=k then (kv.1,y) else kv) (xs.map (putAt k u)):=by
 induction r with
 | nil=>exact .nil
 | @cons p q ps qs h t ih =>
  rw [aw,aw]
  refine .cons ?_ ih
  obtain ⟨h1,h2,h3⟩:=h
  unfold putAt
  by_cases e:p.1=k
  ·rw [if_pos e,if_pos (h1.symm.trans e)];exact ⟨h1,h2,ry⟩
  ·rw [if_neg e,if_neg (fun z=>e (h1.trans z))];exact ⟨h1,h2,h3⟩
theorem KT.put   (r:KT H kvs xs) (k:List fD)   (hb:H b=some (.tup (k.map kV))) (ry:dg y u) :
  KT H (ml kvs k y) (storedH xs k b u):=by
 have e:(kvs.any fun kv=>decide (kv.1=k))=(Ek xs k).isSome:=by
  rw [Cc,(r.val k).isSome_eq,uD]
 unfold ml storedH
 rw [e]
 by_cases q:(Ek xs k).isSome=true
 ·rw [if_pos q,if_pos q];exact r.repl k ry
 ·rw [if_neg q,if_neg q];exact Paired.snoc r ⟨rfl,hb,ry⟩
theorem KT.keeps   (r:KT H kvs xs) (ht:∀ b ys,H b=some (.tup ys)->H' b=some (.tup ys)):KT H' kvs xs :=
 Paired.mapP r fun _ _ z=>⟨z.1,ht _ _ z.2.1,z.2.2⟩
section
variable {P:aH}{w:aZ}{H:Hp}{h:bB}{a:ai}
theorem PR (ok:pd P w H h) (e:Rd H a u):c_ P w H h a u:=e.ok ok
theorem Ce (ok:pd P w H h) (e:Rd H a (.dK kvs)):kvs.length<=sizeLine/\(a == eJ)=false/\∃ vs,KV kvs vs/\h.DictOf (fS P w) a vs :=
 show c_ P w H h a (.dK kvs) from PR ok e
theorem T8 (ok:pd P w H h) (e:H a=some (.dK kvs)):kvs.length<=sizeLine/\(a == eJ)=false/\∃ vs,KV kvs vs/\h.DictOf (fS P w) a vs:=Ce ok (.inl e)
theorem uX (ok:pd P w H h) (e:H a=some (.tup (ks.map kV))):(r9 (fS P w)).is h ks a:=by
 obtain ⟨_,its,r,o,h1,h2,n,h3⟩:=(show c_ P w H h a (.tup (ks.map kV)) from ok a _ e)
 exact ⟨o,its.toArray,n,h1,h2,h3,by simpa using zA r⟩
theorem Cf (ok:pd P w H h) (e:Rd H a (.dT kvs)):kvs.length<=sizeLine/\(a == eJ)=false /\
  ∃ xs,KT H kvs xs/\h.DictOfH (r9 (fS P w)) a xs:=by
 obtain ⟨z,y,xs,r,o,es,ep,h1,h2,h3,h4,h5⟩:=(show c_ P w H h a (.dT kvs) from PR ok e)
 refine ⟨z,y,xs,r,o,es,ep,h1,h2,h3,h4,fun x hx=>?_,h5⟩
 have all:∀ {l:List (List fD×V)}{m:List (List fD×ai×aa)},KT H l m->∀ x∈m,(r9 (fS P w)).is h x.1 x.2.1:=by
  intro l m q
  induction q with
  | nil=>intro x hx;exact nomatch hx
  | @cons p q ps qs hq t ih =>
   intro x hx
   rcases List.mem_cons.mp hx with e | hx
   ·subst e
    exact uX ok (by rw [<- hq.1];exact hq.2.1)
   ·exact ih x hx
 exact all r x hx
theorem PU (ok:pd P w H h) (e:H a=some (.dT kvs)):kvs.length<=sizeLine/\(a == eJ)=false /\
  ∃ xs,KT H kvs xs/\h.DictOfH (r9 (fS P w)) a xs:=Cf ok (.inl e)
end
def wc (H:Hp) (a:ai) (y:V) (r:Option V):Prop :=
 (∃ kvs k,Rd H a (.dK kvs)/\y=kV k/\r=nz kvs k)\/∃ kvs k b,Rd H a (.dT kvs)/\y=.ref b/\H b=some (.tup (k.map kV))/\r=nz kvs k
def Cg (H:Hp) (a:ai) (y v:V) (H':Hp):Prop :=
 (∃ kvs k,H a=some (.dK kvs)/\y=kV k/\kvs.length<sizeLine/\H'=upd H a (.dK (ml kvs k v))) \/
 ∃ kvs k b,H a=some (.dT kvs)/\y=.ref b/\H b=some (.tup (k.map kV))/\kvs.length<sizeLine/\H'=upd H a (.dT (ml kvs k v))
theorem wc.k {H:Hp}{a:ai}{kvs:List (fD×V)}{k:fD} (e:H a=some (.dK kvs)):wc H a (kV k) (nz kvs k):=.inl ⟨kvs,k,.inl e,rfl,rfl⟩
theorem wc.t {H:Hp}{a b:ai}{kvs:List (List fD×V)}{k:List fD} (e:H a=some (.dT kvs)) (eb:H b=some (.tup (k.map kV))):wc H a (.ref b) (nz kvs k):=.inr ⟨kvs,k,b,.inl e,rfl,eb,rfl⟩
theorem Cg.k {H:Hp}{a:ai}{kvs:List (fD×V)}{k:fD}{v:V} (e:H a=some (.dK kvs)) (hl:kvs.length<sizeLine):Cg H a (kV k) v (upd H a (.dK (ml kvs k v))):=.inl ⟨kvs,k,e,rfl,hl,rfl⟩
theorem Cg.t {H:Hp}{a b:ai}{kvs:List (List fD×V)}{k:List fD}{v:V} (e:H a=some (.dT kvs)) (eb:H b=some (.tup (k.map kV))) (hl:kvs.length<sizeLine) :
  Cg H a (.ref b) v (upd H a (.dT (ml kvs k v))):=.inr ⟨kvs,k,b,e,rfl,eb,hl,rfl⟩
section
variable {X:Cx}{pins:List (ai×Obj)}{σ:St}{H:Hp}{s:ae}{a:ai}{y v:V}{u r:aa}{o:Option V}{A:aU}{E:aa->ae->Prop}
theorem bQ.big (I:bQ X pins σ H s):eJ<s.heap.objs.size:=by
 have h:bL<s.heap.objs.size:=(I.mod.glob.keeps I.bk).lt
 exact eI (by decide) h
theorem Ii (hu:A.units + 1<gz) (I:bQ X pins σ H s) (g:wc H a y (some v)) (ry:dg y u) (h:∀ w' s',bQ X pins σ H s'->dg v w'->Q w' s') :
  au (ay X.prog X.w) A (pq (.ref a) u) Q E s:=by
 rcases g with ⟨kvs,k,e,ey,l⟩ | ⟨kvs,k,b,e,ey,eb,l⟩
 ·subst ey
  obtain ⟨z,hd,vs,rel,dd⟩:=Ce I.hok e
  obtain ⟨w',hw,rw'⟩:=wY.some_of (v:=v) (o:=yz vs k) (by rw [l];exact rel.val k)
  exact wpAny_getItem_of (Cd ry) dd.mapOf hw (h w' _ (I.tok _) rw')
 ·subst ey
  cases (show u=bj b from ry)
  obtain ⟨z,hd,xs,rel,dd⟩:=Cf I.hok e
  obtain ⟨w',hw,rw'⟩:=wY.some_of (v:=v) (o:=(Ek xs k).map (·.2)) (by rw [l];exact rel.val k)
  obtain ⟨p,hp,hp2⟩:=Option.map_eq_some_iff.mp hw
  refine wpAny_getItem_heap (nV hu) (uX I.hok eb) dd hp ?_
  rw [hp2]
  exact h w' _ (I.tok _) rw'
theorem d_in (hu:A.units + 1<gz) (I:bQ X pins σ H s) (g:wc H a y o) (ry:dg y u) (h:∀ s',bQ X pins σ H s'->Q (.bool o.isSome) s') :
  au (ay X.prog X.w) A (bK .In u (.ref a)) Q E s:=by
 rcases g with ⟨kvs,k,e,ey,l⟩ | ⟨kvs,k,b,e,ey,eb,l⟩
 ·subst ey
  obtain ⟨z,hd,vs,rel,dd⟩:=Ce I.hok e
  refine wpAny_in_of (Cd ry) hd dd.mapOf ?_
  rw [<- (rel.val k).isSome_eq,<- l]
  exact h _ (I.tok _)
 ·subst ey
  cases (show u=bj b from ry)
  obtain ⟨z,hd,xs,rel,dd⟩:=Cf I.hok e
  refine wpAny_in_heap (nV hu) (uX I.hok eb) hd dd ?_
  have q:=(rel.val k).isSome_eq
  rw [uD] at q
  rw [<- q,<- l]
  exact h _ (I.tok _)
theorem Ot (hu:A.units + 1<gz) (I:bQ X pins σ H s) (g:wc H a y o) (ry:dg y u) (h:∀ s',bQ X pins σ H s'->Q (.bool (!o.isSome)) s') :
  au (ay X.prog X.w) A (bK .NotIn u (.ref a)) Q E s:=by
 rcases g with ⟨kvs,k,e,ey,l⟩ | ⟨kvs,k,b,e,ey,eb,l⟩
 ·subst ey
  obtain ⟨z,hd,vs,rel,dd⟩:=Ce I.hok e
  refine wpAny_notIn_of (Cd ry) hd dd.mapOf ?_
  rw [<- (rel.val k).isSome_eq,<- l]
  exact h _ (I.tok _)
 ·subst ey
  cases (show u=bj b from ry)
  obtain ⟨z,hd,xs,rel,dd⟩:=Cf I.hok e
  refine wpAny_notIn_heap (nV hu) (uX I.hok eb) hd dd ?_
  have q:=(rel.val k).isSome_eq
  rw [uD] at q
  rw [<- q,<- l]
  exact h _ (I.tok _)
theorem AE   (I:bQ X pins σ H s) (mu:SC (H a)) (hs:bJ a s.heap h') (he:∃ q,h'.get? a=some q) (new:c_ X.prog X.w (upd H a ob) h' a ob) :
  bQ X pins σ (upd H a ob) { s with heap:=h',toks:=t' } :=
 I.write (x:=a) (e:=a) mu (.inl rfl) (fun b q hb z=>(hs.2 b hb).trans z) he new
theorem Rt      (z:kvs.length<=sizeLine) (hd:(a == eJ)=false) (rel:KV kvs vs) (dd:h'.DictOf (fS P w) a vs) :
  c_ P w H' h' a (.dK kvs):=⟨z,hd,vs,rel,dd⟩
theorem Ij  (hu:A.units + 1<gz) (I:bQ X pins σ H s) (g:Cg H a y v H') (ry:dg y u) (rv:dg v r) (h:∀ s',bQ X pins σ H' s'->Q () s') :
  au (ay X.prog X.w) A (setItem (.ref a) u r) Q E s:=by
 rcases g with ⟨kvs,k,e,ey,l,eH⟩ | ⟨kvs,k,b,e,ey,eb,l,eH⟩
 ·subst ey eH
  obtain ⟨z,hd,vs,rel,dd⟩:=T8 I.hok e
  have hz:vs.length<=sizeLine:=by rw [<- rel.length];exact z
  have hl:(ml kvs k v).length<=sizeLine:=by have:=pR kvs k v;omega
  refine wpAny_setItem_pairs (hsz:=hz) (Cd ry) dd fun h' dd' hs=>h _ ?_
  have he:∃ q,h'.get? a=some q:=let ⟨q,_,_,hq,_⟩:=dd';⟨q,hq⟩
  exact AE I (by rw [e];exact iK) hs he (Rt hl hd (rel.put k rv) dd')
 ·subst ey eH
  cases (show u=bj b from ry)
  obtain ⟨z,hd,xs,rel,dd⟩:=PU I.hok e
  have hz:xs.length<=sizeLine:=by rw [<- j0 rel];exact z
  have hl:(ml kvs k v).length<=sizeLine:=by have:=pR kvs k v;omega
  refine wpAny_setItem_heap (hsz:=hz) (nV hu) (uX I.hok eb) dd fun h' dd' hs=>h _ ?_
  obtain ⟨q,es,ep,hq,h2,h3,h4,_,h5⟩:=dd'
  refine AE I (by rw [e];exact iK) hs ⟨q,hq⟩ ⟨hl,hd,_,(rel.put k eb rv).keeps fun c ys ec=>?_,q,es,ep,hq,h2,h3,h4,h5⟩
  rw [bf (K6 ec e (fun z=>nomatch z))]
  exact ec
end
section
variable {X:Cx}{pins:List (ai×Obj)}{σ:St}{H:Hp}{s:ae}{a:ai}{kvs:List (fD×V)}{k:fD}{u:aa}{A:aU}{E:aa->ae->Prop}
end
def T9 (i:aX):Prop:=∀ ov iv,BV i false ov iv=operate [ov,iv] (pq ov iv)
theorem Ou {prog:aH}{w:aZ}{A:aU}{E:aa->ae->Prop}{s:ae}{env:Env}{value slice:aX}{pos:Pos}{T id:String}{Q:aa->ae->Prop}
  (hl:typeLookup (.type T) "__getitem__"=pure (some (.builtin id))) (hs:T9 slice)
  (h:au (ay prog w) A (eh value env) (fun o s₁=>au (ay prog w) A (eh slice env) (fun i s₂=>s₂.TypeIs o T/\au (ay prog w) A (pq o i) Q E s₂) E s₁) E s) :
  au (ay prog w) A (eh (.Subscript value slice pos) env) Q E s:=by
 refine Subscript_ (bH h (fun o s₁ h₁=>bH h₁ (fun i s₂ h₂=>?_) fun _ _ x=>x) fun _ _ x=>x)
 obtain ⟨hT,h₂⟩:=h₂
 unfold Hz
 refine a7 ?_
 rw [getitemInPython_of_ne hT.not_modules]
 refine a7 (wpAny_specialOf hT hl ?_)
 have fin:au (ay prog w) A (BV slice false o i) (fun r s₃=>au (ay prog w) A (letTemporaryGo value o r >>= fun _=>pure r) Q E s₃) E s₂:=by
  rw [hs o i]
  exact wpAny_operating (bH h₂ (fun r s₃ h₃=>a7 (wpAny_letTemporaryGo (a9 h₃))) fun _ _ x=>x)
 first
  | exact a9 (a7 fin)
  | exact a7 (a9 (a7 fin))
  | exact a7 fin
theorem Ch        (I:bQ X pins σ H s) (g:wc H a y o):s.TypeIs (.ref a) "dict":=by
 rcases g with ⟨kvs,k,e,_,_⟩ | ⟨kvs,k,b,e,_,_,_⟩
 ·obtain ⟨_,_,vs,_,dd⟩:=Ce I.hok e
  exact dd.typeIs
 ·obtain ⟨_,_,xs,_,dd⟩:=Cf I.hok e
  exact dd.typeIs
def Ta (td ty:TE):TE:=fun σ H Q=>td σ H fun x H1=>ty σ H1 fun y H2=>∃ a v,x=.ref a/\wc H2 a y (some v)/\Q v H2
def PV (td ty tv:TE):TS:=fun D σ H=>tv σ H fun v H1=>td σ H1 fun x H2=>ty σ H2 fun y H3=>∃ a H4,x=.ref a/\Cg H3 a y v H4/\D.nx σ H4
section
variable {X:Cx}{o i e value:aX}{pos pos' tpos:Pos}{td ty tv:TE}
theorem G3 (hu:X.A.units + 1<gz) (ho:PE X o td) (hi:PE X i ty) (hs:T9 i):PE X (.Subscript o i pos) (Ta td ty):=by
 intro pins s σ H Q I h
 refine Ou PySem.F.slot_dict_getitem.lookup hs (fK (ho pins s σ H _ I h) fun u s1 ⟨x,H1,I1,rx,q1⟩=>fK (hi pins s1 σ H1 _ I1 q1) fun iv s2 ⟨y,H2,I2,ry,a,v,ex,g,q2⟩=>?_)
 subst ex
 obtain rfl:u=bj a:=rx
 exact ⟨Ch I2 g,Ii hu I2 g ry fun w' s3 I3 rw'=>⟨v,H2,I3,rw',q2⟩⟩
theorem G4 (hu:X.A.units + 1<gz) (ho:PE X o td) (hi:PE X i ty) (hv:PE X value tv) (hs:hW value (some (.Subscript o i pos')) pos.line X.env=pure false) :
  PS X (.Assign [.Subscript o i pos'] value pos) (PV td ty tv):=by
 intro pins s σ H D I h
 refine wpAny_Assign_Subscript (fK (hv pins s σ H _ I h) fun r s1 ⟨v,H1,I1,rv,q1⟩=>fK (ho pins s1 σ H1 _ I1 q1) fun u s2 ⟨x,H2,I2,rx,q2⟩=>fK (hi pins s2 σ H2 _ I2 q2) fun iv s3 ⟨y,H3,I3,ry,a,H4,ex,g,q3⟩=>?_) hs
 subst ex
 obtain rfl:u=bj a:=rx
 exact Ij hu I3 g ry rv fun s4 I4=>⟨σ,H4,I4,q3⟩
end
theorem Ku   (h:bB) (hb:eJ<h.objs.size):c_ P w H (h.push { cls:=.type "dict",data:=.dict #[] }) h.objs.size (.dK []) :=
 ⟨cA _,beq_eq_false_iff_ne.mpr (cQ (aD hb)),[],.nil,Heap.DictOf.new h⟩
theorem Kv   (h:bB) (hb:eJ<h.objs.size):c_ P w H (h.push { cls:=.type "dict",data:=.dict #[] }) h.objs.size (.dT []) :=
 ⟨cA _,beq_eq_false_iff_ne.mpr (cQ (aD hb)),[],.nil,_,#[],0,av _ rfl,⟨rfl,rfl,rfl⟩,rfl,rfl,fz⟩
def Ru:TE:=fun _ H Q=>∀ p,H p=none->Q (.ref p) (upd H p (.dK []))
section
variable {X:Cx}{pos:Pos}
theorem Kw:PE X (.Dict [] [] pos) Ru:=fun pins s σ H Q I h =>
 wpAny_Dict_empty ⟨.ref s.heap.objs.size,_,I.laid (a:=s.heap.objs.size) (o:=.dK []) (t':=s.toks) (fun _ _ q=>ac _ q) (ar _) (Ku s.heap I.big),rfl,h _ (I.hok.fresh (ar _))⟩
end
section
variable {X:Cx}{pins:List (ai×Obj)}{σ:St}{H:Hp}{s:ae}{a:ai}{y d:V}{u r:aa}{o:Option V}{A:aU}{E:aa->ae->Prop}
end
section
variable {X:Cx}{o e f:aX}{apos cpos:Pos}{td ty tx:TE}
end
section
variable {X:Cx}{pins:List (ai×Obj)}{σ:St}{H:Hp}{s:ae}{a:ai}{kvs:List (fD×V)}{A:aU}{E:aa->ae->Prop}
end
section
variable {X:Cx}{pins:List (ai×Obj)}{σ:St}{H:Hp}{s:ae}{a:ai}{y:V}{u:aa}{A:aU}{E:aa->ae->Prop}
end
end L2
namespace L2
open PySem PySem.Spec PyProof.Rows
section
variable {X:Cx}
end
section
variable {κ:Type} [DecidableEq κ]
theorem wC:∀ {l:List κ}{k:κ},l.Nodup->¬ k∈l->(l++[k]).Nodup
 | [],k,_,_=>by simp
 | a::r,k,h,hk=>by
  obtain ⟨h1,h2⟩:=List.nodup_cons.mp h
  show (a::(r++[k])).Nodup
  refine List.nodup_cons.mpr ⟨fun m=>?_,wC h2 fun m=>hk (List.mem_cons.mpr (ft m))⟩
  rcases List.mem_append.mp m with q | q
  ·exact h1 q
  ·exact hk (List.mem_cons.mpr (iT (List.mem_singleton.mp q).symm))
end
end L2
end
namespace L2
open PySem PySem.Spec PyProof.Rows
section
section
variable {prog:aH}{w:aZ}{A:aU}{R:rZ->ae->Prop}{s:ae}
theorem AF      (I:Nat->ae->Prop)
  (turn:∀ n s,I n s->au (ay prog w) A (kU it) (fun r s₁=>match r with
   | none=>R (.ok .next) s₁
   | some v=>au (ay prog w) A (gH target it v) (fun _ s₁'=>au (ay prog w) A (pE target env v) (fun _ s₂ =>
     au (ay prog w) A (forIn ifs true fun c r=>if r=true then do let ok <- uI c env (eh c env);pure (fA ok) else pure (fA r)) (fun ok s₃ =>
      if ok=true then au (ay prog w) A (eh elt env) (fun x s₄ =>
       au (ay prog w) A (call (.builtin "list.append") [acc,x]) (fun _ s₅=>∃ m,m<n/\I m s₅) (fun _ _=>False) s₄) (fun _ _=>False) s₃
      else ∃ m,m<n/\I m s₃) (fun _ _=>False) s₂) (fun _ _=>False) s₁') (fun _ _=>False) s₁) (fun _ _=>False) s)
  (n:Nat) (h:I n s) :
  jo (ay prog w) A (.compLoop (.ListComp elt [⟨target,iter,ifs,0⟩] scope pos) 0 it acc env) R s:=by
 refine codeAny_loop rfl I (fun n s hI=>?_) n h
 show au _ A ((compTurn (.ListComp elt [⟨target,iter,ifs,0⟩] scope pos) 0 it acc env).onRaise (fun x=>do noteFrame x env;theTreesLotGoes x)) _ _ s
 refine wpAny_noted ?_
 rw [compTurn_list]
 have nf:∀ {α:Type}{t:Sem α}{Q:α->ae->Prop}{E':aa->ae->Prop}{s:ae},au (ay prog w) A t Q (fun _ _=>False) s->au (ay prog w) A t Q E' s :=
  fun h=>bH h (fun _ _ q=>q) fun _ _ f=>f.elim
 refine a7 (iJ (a7 (nf (bH (turn n s hI) (fun r s₁ h₁=>?_) fun _ _ h'=>h'))))
 cases r with
 | none=>exact a9 h₁
 | some v =>
  refine a7 (nf (bH h₁ (fun _ s₁' h₁'=>?_) fun _ _ h'=>h'))
  refine a7 (nf (bH h₁' (fun _ s₂ h₂=>a7 (nf (bH h₂ (fun ok s₃ h₃=>?_) fun _ _ h'=>h'))) fun _ _ h'=>h'))
  cases ok with
  | false=>exact a9 ⟨rfl,h₃⟩
  | true =>
   exact a7 (a7 (nf (bH h₃ (fun x s₄ h₄=>a7 (nf (bH h₄ (fun _ s₅ h₅=>a9 (a9 ⟨rfl,h₅⟩)) fun _ _ h'=>h'))) fun _ _ h'=>h')))
end
theorem EK (names : List (Str × kW)) : ∀ (cs : List (Str × ai)), (∀ y ∈ names, y.2 = .free -> ∃ c, env.cells.lookup y.1 = some c) ->
    (∀ x c, cs.lookup x = some c -> env.cells.lookup x = some c) ->
    ∃ cl, (forIn names cs fun (x : Str × kW) (cs : List (Str × ai)) => match x with
        | (name, kind) => if (kind == ck) = true then do let a <- cellOf env name; pure (fA ((name, a) :: cs)) else pure (fA cs) : Sem (List (Str × ai))) = pure cl /\
      (∀ x c, cl.lookup x = some c -> env.cells.lookup x = some c) /\ (∀ y ∈ names, y.2 = .free -> ∃ c, cl.lookup y.1 = some c) /\ (∀ x c, cs.lookup x = some c -> ∃ c', cl.lookup x = some c') := by
  induction names with
  | nil => intro cs _ h2; exact ⟨cs, rfl, h2, fun _ h => absurd h (by simp), fun x c h => ⟨c, h⟩⟩
  | cons nk r ih =>
    obtain ⟨n, k⟩ := nk
    intro cs h1 h2
    by_cases hk : k = .free
    · subst hk
      obtain ⟨a, ha⟩ := h1 (n, .free) am rfl
      have h2' : ∀ x c, ((n, a) :: cs).lookup x = some c -> env.cells.lookup x = some c := fun x c h => by
        rw [cP] at h
        cases e : x == n with
        | true => rw [e] at h; have : x = n := by simpa using e
                  subst this; cases h; exact ha
        | false => rw [e] at h; exact h2 x c h
      obtain ⟨cl, e1, e2, e3, e4⟩ := ih ((n, a) :: cs) (fun y hy => h1 y (ah _ hy)) h2'
      refine ⟨cl, ?_, e2, fun y hy hf => ?_, fun x c h => ?_⟩
      · rw [jq]
        have hc : cellOf env n = pure a := by unfold cellOf; rw [ha]
        simp only [beq_self_eq_true, if_true, hc]
        exact e1
      · rcases List.mem_cons.mp hy with rfl | hy
        · exact e4 n a (by simp)
        · exact e3 y hy hf
      · cases e : x == n with
        | true => exact e4 x a (by rw [cP, e])
        | false => exact e4 x c (by rw [cP, e]; exact h)
    · obtain ⟨cl, e1, e2, e3, e4⟩ := ih cs (fun y hy => h1 y (ah _ hy)) h2
      refine ⟨cl, ?_, e2, fun y hy hf => ?_, e4⟩
      · rw [jq]
        have hk' : (k == ck) = false := by simpa using hk
        simp only [hk', bv, if_false]
        exact e1
      · rcases List.mem_cons.mp hy with rfl | hy
        · exact absurd hf hk
        · exact e3 y hy hf
theorem sr  (h:∀ y∈scope.names,y.2=.free->∃ c,env.cells.lookup y.1=some c):∃ cl,closureFor scope env=pure cl /\
  (∀ x c,cl.lookup x=some c->env.cells.lookup x=some c)/\(∀ y∈scope.names,y.2=.free->∃ c,cl.lookup y.1=some c):=by
 obtain ⟨cl,e1,e2,e3,_⟩:=EK (env:=env) scope.names [] h (fun x c h=>by simp at h)
 refine ⟨cl,?_,e2,e3⟩
 simp only [closureFor]
 rw [show (forIn scope.names ([] : List (Str×ai)) fun x r=>_)=(pure cl:Sem (List (Str×ai))) from e1]
 rfl
end
section
def cL (X:Cx) (N':List Str) (scope:fZ) (cl:List (Str×ai)) (C:ai) (s₀:ae) (H₀:Hp) (ex:List ai) (pn:List (ai×Obj)):Cx :=
 { X with N:=N',s₀:=s₀,H₀:=H₀,env:=compEnvC scope cl C X.env,outer:=X.stack,stack:=X.stack,ex:=ex,fn:=fun y=>scope.names.lookup y == some .cell,pn:=pn,xe:=fun _ _=>False }
def Nu (X:Cx) (ifs:List aX) (t:TT):Prop :=
 ∀ (pins:List (ai×Obj)) (s:ae) (σ:St) (H:Hp) (Q:Bool->Hp->Prop),bQ X pins σ H s->t σ H Q ->
  au (ay X.prog X.w) X.A (forIn ifs true fun c r=>if r=true then do let ok <- uI c X.env (eh c X.env);pure (fA ok) else pure (fA r)) (TP X pins σ Q) X.xe s
def VA:TT:=fun _ H Q=>Q true H
theorem Ov:Nu X [] VA:=fun pins s σ H Q I h=>wpAny_tests_nil ⟨H,I,h⟩
theorem Ow   (h:PT X c t):Nu X [c] t:=fun pins s σ H Q I hw=>wpAny_tests_one (h pins s σ H Q I hw)
structure mW (X:Cx) (scope:fZ) (N':List Str) (nt:Nat) (ix:List Nat):Prop where
 kind:scope.kind=.function
 cel:∀ y∈scope.names,y.2=.cell->scope.names.lookup y.1=some .cell
 loc:∀ y∈scope.names,y.2=.local->scope.names.lookup y.1=some .local
 free:∀ y∈scope.names,y.2=.free->X.env.scope.names.lookup y.1=some .cell\/X.env.scope.names.lookup y.1=some .free
 cap:∀ k i,ix[k]?=some i->∃ x,X.N[i]?=some x/\N'[nt + k]?=some x/\scope.names.lookup x=some .free
 len:N'.length=nt + ix.length
def jw (nt:Nat) (ix:List Nat) (σ:St):St:=rz nt none++ix.map fun i=>(σ[i]?).join
theorem rm {env:Env}{x:Str}{names:List (Str×kW)}:names.lookup x=some .free ->
  (names.map fun (n,k)=>if (k == ck && env.scope.kind == .function && env.kindOf n == some .cell) then (n,dB) else (n,k)).lookup x=some .free \/
  (names.map fun (n,k)=>if (k == ck && env.scope.kind == .function && env.kindOf n == some .cell) then (n,dB) else (n,k)).lookup x=some .cell:=by
 induction names with
 | nil=>intro h;simp at h
 | cons nk r ih =>
  obtain ⟨n,k⟩:=nk
  intro h
  show wU x ((if (k == ck && env.scope.kind == .function && env.kindOf n == some .cell)=true then (n,dB) else (n,k))::_)=_ \/
   wU x ((if (k == ck && env.scope.kind == .function && env.kindOf n == some .cell)=true then (n,dB) else (n,k))::_)=_
  cases hx:x == n with
  | true =>
   simp only [cP,hx] at h
   cases h
   by_cases hc:(ck == ck && env.scope.kind == .function && env.kindOf n == some .cell)=true
   ·rw [if_pos hc];right;simp [cP,hx]
   ·rw [if_neg hc];left;simp [cP,hx]
  | false =>
   simp only [cP,hx] at h
   by_cases hc:(k == ck && env.scope.kind == .function && env.kindOf n == some .cell)=true
   ·rw [if_pos hc];simp only [cP,hx];exact ih h
   ·rw [if_neg hc];simp only [cP,hx];exact ih h
theorem tZ {env:Env}{x:Str}{names:List (Str×kW)} :
  ((names.map fun (n,k)=>if (k == ck && env.scope.kind == .function && env.kindOf n == some .cell) then (n,dB) else (n,k)).lookup x=some .free \/
  (names.map fun (n,k)=>if (k == ck && env.scope.kind == .function && env.kindOf n == some .cell) then (n,dB) else (n,k)).lookup x=some .cell) ->
  (x,ck)∈names\/(x,dB)∈names:=by
 induction names with
 | nil=>intro h;simp at h
 | cons nk r ih =>
  obtain ⟨n,k⟩:=nk
  intro h
  have h:wU x ((if (k == ck && env.scope.kind == .function && env.kindOf n == some .cell)=true then (n,dB) else (n,k))::_)=_ \/
   wU x ((if (k == ck && env.scope.kind == .function && env.kindOf n == some .cell)=true then (n,dB) else (n,k))::_)=_:=h
  cases hx:x == n with
  | true =>
   have e:x=n:=by simpa using hx
   subst e
   by_cases hc:(k == ck && env.scope.kind == .function && env.kindOf x == some .cell)=true
   ·have:k=.free:=by simp at hc;exact hc.1.1
    subst this;left;exact am
   ·rw [if_neg hc] at h;simp only [cP,hx] at h
    rcases h with h | h
    ·cases h;left;exact am
    ·cases h;right;exact am
  | false =>
   have h':=ih (by
    by_cases hc:(k == ck && env.scope.kind == .function && env.kindOf n == some .cell)=true
    ·rw [if_pos hc] at h;simp only [cP,hx] at h;exact h
    ·rw [if_neg hc] at h;simp only [cP,hx] at h;exact h)
   rcases h' with h' | h'
   ·left;exact ah _ h'
   ·right;exact ah _ h'
inductive PX (nt:Nat) (ix:List Nat) (g:TG) (tt:TT) (te:TE) (σ:St) (Q:VK) (J:It) (H1:Hp):Prop
 | mk (W:Nat->Nat->List V->Hp->Prop) (w0:∃ m,W 0 m [] H1) (turn:∀ i m acc H,W i m acc H ->
 (J.stop i H/\∀ p,H p=none->Q (.ref p) (upd H p (.lst acc))) \/
 (J.go i H/\acc.length<sizeLine/\∀ x H',J.yld i H x H'->g x (jw nt ix σ) H' fun σ2 H2=>tt σ2 H2 fun b H3 =>
  if b=true then te σ2 H3 fun y H4=>∃ m',m'<m/\W (i + 1) m' (acc++[y]) H4 else ∃ m',m'<m/\W (i + 1) m' acc H3)):PX nt ix g tt te σ Q J H1
def Kx (nt:Nat) (ix:List Nat) (wi:TI) (g:TG) (tt:TT) (te:TE):TE:=fun σ H Q=>wi σ H (PX nt ix g tt te σ Q)
theorem iY:∀ (names:List (Str×kW)) (n:Nat) (acc:List (Str×ai)),bh n names acc=bh n names []++acc
 | [],_,_=>rfl
 | (y,k)::r,n,acc=>by
  unfold bh
  split
  ·rw [iY r (n + 1) ((y,n)::acc),iY r (n + 1) [(y,n)],dQ];rfl
  ·exact iY r n acc
theorem mX  : ∀ (names:List (Str×kW)) (n:Nat) (acc:List (Str×ai)),(x,c)∈bh n names acc->(x,dB)∈names\/(x,c)∈acc
 | [],_,_,h=>.inr h
 | (y,k)::r,n,acc,h=>by
  unfold bh at h
  split at h
  ·rename_i hk
   have hk:k=.cell:=by simpa using hk
   rcases mX r _ _ h with z | z
   ·exact .inl (ah _ z)
   ·rcases List.mem_cons.mp z with z | z
    ·cases z;subst hk;exact .inl am
    ·exact .inr z
  ·exact (mX r _ _ h).imp (ah _) id
theorem kG     (h:(bh n names cl).lookup x=some c) :
  (x,c)∈bh n names []\/((bh n names []).lookup x=none/\cl.lookup x=some c):=by
 rw [iY,Jv] at h
 cases e:(bh n names []).lookup x with
 | some d=>rw [e] at h;cases h;exact .inl (df e)
 | none=>rw [e] at h;exact .inr ⟨rfl,h⟩
theorem G5 {M:yu}{A:aU}{E:aa->ae->Prop}{s:ae}{scope:fZ}{globals:ai}{cl:List (Str×ai)}{qual:Str}{func:Option ai}{code:aa}{outer:Env}{builtins:ai}{Q:Env->ae->Prop}
  (hQ:∀ h₁,h₁=pushCells (s.heap.push { cls:=.type "dict",data:=.dict #[] }) scope.names->Q (newEnv scope s.heap.objs.size globals (bh (s.heap.objs.size + 1) scope.names cl) qual func code (some outer) builtins) { s with heap:=h₁ }) :
  au M A (uL scope globals cl [] qual func code (some outer) builtins) Q E s:=by
 simp only [uL,FT,if_true]
 refine a7 (NE ?_)
 refine a7 (wpAny_layCells _ (fun name kind cells=>by cases hkc:kind == dB<;>simp [hkc]) _ _ _ _ ?_)
 rw [show ({ s with heap:=s.heap.push { cls:=.type "dict",data:=.dict #[] } }:ae).heap.objs.size=s.heap.objs.size + 1 from bY ..]
 refine a7 ?_
 rw [mv]
 exact a9 (a9 (hQ _ rfl))
theorem zB (h:bB) (names:List (Str×kW)):CellsOk (pushCells (h.push { cls:=.type "dict",data:=.dict #[] }) names) (h.objs.size + 1) (bh (h.objs.size + 1) names []):=by
 have ok:=cellsFrom_ok names (h.push { cls:=.type "dict",data:=.dict #[] }) (h.objs.size + 1) [] ⟨fun _ _ hm=>(nomatch hm),pG⟩ (by rw [bY];exact ar _)
 rw [bY] at ok
 exact ok
section
variable {X:Cx}{pins:List (ai×Obj)}{σ:St}{H:Hp}{s:ae}
theorem Ci {scope:fZ}{N':List Str}{nt:Nat}{ix:List Nat}{cl:List (Str×ai)}{C:ai}{fp:List ai}{h₁:bB}{t':Nat}{m:Str->Option aa}
  (S:mW X scope N' nt ix) (I:bQ X pins σ H s) (c1:∀ x c,cl.lookup x=some c->X.env.cells.lookup x=some c) (c2:∀ y∈scope.names,y.2=.free->∃ c,cl.lookup y.1=some c)
  (hf:∀ b∈fp,pO X pins H b) (ff:∀ b∈fp,b<s.heap.objs.size) (hC:s.heap.objs.size<=C) (hns:h₁.Ns C m) (old:∀ b o,s.heap.get? b=some o->h₁.get? b=some o) (ok:CellsOk h₁ (C + 1) (bh (C + 1) scope.names [])) :
  bQ (cL X N' scope (bh (C + 1) scope.names cl) C s H fp (X.pn++pins)) [] (jw nt ix σ) H { s with heap:=h₁,toks:=t' }:=by
 have cellOld:∀ {c v},s.heap.IsCell c v->h₁.IsCell c v:=fun {c v} ⟨o,ho,hd⟩=>⟨o,old _ _ ho,hd⟩
 have up:∀ {x c},(x,c)∈bh (C + 1) scope.names []->s.heap.objs.size<c:=fun {x c} h=>aA (jW hC) (ok.empty x c h).2
 have low:∀ {x c},cl.lookup x=some c->c<s.heap.objs.size:=fun {x c} h=>by
  obtain ⟨v,q⟩:=I.cell x c (c1 x c h)
  exact q.lt
 refine ⟨⟨I.ok.mod,S.kind,I.ok.glob,I.ok.blt,hC,fun x y c h1 h2=>?_,fun x hx=>?_,fun x c h h2=>?_,I.ok.hd,I.ok.frames,.inl rfl,fun b hb=>⟨?_,fun x c h=>?_⟩,I.bs,bV I.ok.bsz I.sz,fun b o h hb=>?_,fun b hb z=>?_,I.stack,I.stkFree⟩,
  rfl,I.bare,Un.kept old,⟨m,hns,fun i x v h1 h2 h3=>?_⟩,fun x c h=>?_,I.hok.fresh hC,fun x c h=>?_,fun p hp=>?_,I.hok.kept old,?_⟩
 ·rcases kG h1 with a | ⟨_,a⟩<;>rcases kG h2 with b | ⟨_,b⟩
  ·exact name_of_addr ok.apart a b
  ·exact absurd (up a) (vV (low b))
  ·exact absurd (up b) (vV (low a))
  ·exact I.ok.inj x y c (c1 x c a) (c1 y c b)
 ·have hx':(x,ck)∈scope.names\/(x,dB)∈scope.names:=tZ (env:=X.env) (hx.elim .inr .inl)
  have hs:((bh (C + 1) scope.names cl).lookup x).isSome=true:=by
   rcases hx' with z | z
   ·obtain ⟨c,e⟩:=c2 _ z rfl
    exact gQ _ _ _ (.inr (by rw [e];rfl))
   ·exact gQ _ _ _ (.inl (S.cel _ z rfl))
  exact Option.isSome_iff_exists.mp hs
 ·rcases kG h2 with a | ⟨a,_⟩
  ·exact bW (up a)
  ·have:=gQ (x:=x) scope.names (C + 1) [] (.inl (by simpa [cL] using h))
   rw [a] at this;cases this
 ·exact aD (aA (ff b hb) hC)
 ·rcases kG h with a | ⟨_,a⟩
  ·exact eF (eI (ff b hb) (up a))
  ·exact (hf b hb).f4 x c (c1 x c a)
 ·rcases (hf b hb).f3 with z | z
  ·exact I.ok.noex b o h z
  ·exact absurd (aA (aq h) (bV I.ok.bsz z)) (bP _)
 ·rcases List.mem_cons.mp (I.stkSub b z) with e | e
  ·exact (hf b hb).f1 e
  ·exact (hf b hb).f2 e
 ·have hnt:nt<=i:=by
   refine ND fun hlt=>?_
   have h2':(jw nt ix σ)[i]?=some (some v):=h2
   unfold jw at h2'
   rw [bd (by simpa using hlt),b_,if_pos hlt] at h2'
   cases h2'
  have h2':(jw nt ix σ)[i]?=some (some v):=h2
  unfold jw at h2'
  rw [bq (by simpa using hnt),cS,aN] at h2'
  cases e:ix[i - nt]? with
  | none=>rw [e] at h2';cases h2'
  | some j =>
   rw [e] at h2'
   have hj:σ[j]?=some (some v):=by
    have q:(σ[j]?).join=some v:=bI h2'
    cases e3:σ[j]? with
    | none=>rw [e3] at q;cases q
    | some o=>rw [e3] at q;cases o with
     | none=>cases q
     | some v'=>cases q;rfl
   obtain ⟨x',n1,n2,fr⟩:=S.cap _ _ e
   rw [Nat.add_sub_cancel' hnt] at n2
   have h1':N'[i]?=some x:=h1
   rw [h1'] at n2
   cases n2
   obtain ⟨mm,hn,hl⟩:=I.loc
   have hfree:=S.free (x,.free) (df fr) rfl
   obtain ⟨u,r,l⟩:=hl j x v n1 hj (hfree.elim (fun z=>.inr (.inl z)) fun z=>.inr (.inr z))
   refine ⟨u,r,?_⟩
   rcases l with ⟨k,_⟩ | ⟨k,c,hc,hcell⟩
   ·have k:X.env.scope.names.lookup x=some .local:=k
    rcases hfree with z | z<;>(rw [z] at k;cases k)
   ·obtain ⟨c',hc'⟩:=c2 _ (df fr) rfl
    have:=c1 x c' hc'
    rw [hc] at this
    cases this
    have hno:(bh (C + 1) scope.names []).lookup x=none:=by
     cases e:(bh (C + 1) scope.names []).lookup x with
     | none=>rfl
     | some d =>
      rcases mX _ _ _ (df e) with z | z
      ·have q:=S.cel _ z rfl
       rw [fr] at q;cases q
      ·cases z
    refine .inr ⟨?_,c,by show (bh (C + 1) scope.names cl).lookup x=some c;rw [iY,Jv,hno];exact hc',cellOld hcell⟩
    rcases rm (env:=X.env) fr with z | z
    ·exact .inr z
    ·exact .inl z
 ·rcases kG h with a | ⟨_,a⟩
  ·exact ⟨none,(ok.empty x c a).1⟩
  ·obtain ⟨v,q⟩:=I.cell x c (c1 x c a)
   exact ⟨v,cellOld q⟩
 ·rcases kG h with a | ⟨_,a⟩
  ·exact I.hok.fresh (bW (up a))
  ·exact I.freeC x c (c1 x c a)
 ·have hp:p∈X.pn++pins:=(List.mem_append.mp hp).elim id fun z=>absurd z (by simp)
  obtain ⟨e,n,ne,nf,d⟩:=I.pin p hp
  refine ⟨old _ _ e,n,aD (aA (aq e) hC),fun z=>?_,d⟩
  rcases List.mem_cons.mp (I.stkSub p.1 z) with e | e
  ·exact ne e
  ·exact nf e
 ·show (jw nt ix σ).length=N'.length
  rw [S.len];simp [jw]
end
end
section
theorem Un.grow   (u:Un fs ex H H1 h h1)  (sb:bJ C h1 h2) (hC:h.objs.size<=C) (hD:h.objs.size<=D) (hn:H1 D=none):Un fs ex H (upd H1 D o) h h2 where
 keep:=fun b ob q n hb hx=>(sb.2 b (aD (aA (aq q) hC))).trans (u.keep b ob q n hb hx)
 slot:=fun b ob q n hb hx=>by
  obtain ⟨sl,e⟩:=u.slot b ob q n hb hx
  exact ⟨sl,(sb.2 b (aD (aA (aq q) hC))).trans e⟩
 free:=fun b ob q n hx=>by rw [bf (aD (aA (aq q) hD))];exact u.free b ob q n hx
 there:=fun b ob q hx=>by
  obtain ⟨o',e⟩:=u.there b ob q hx
  exact ⟨o',(sb.2 b (aD (aA (aq q) hC))).trans e⟩
 tups:=fun b xs q=>by have z:=u.tups b xs q;rw [bf (bR z hn)];exact z
 frzs:=fun b ob xs q=>by have z:=u.frzs b ob xs q;rw [bf (bR z hn)];exact z
 tbls:=fun b ps q=>by
  obtain ⟨m,z⟩:=u.tbls b ps q
  exact ⟨m,by rw [bf (bR z hn)];exact z⟩
theorem Cj     (k:pd P w H h) (hC:H C=none) (sb:bJ C h h'):pd P w H h':=fun b ob e=>by
 refine (k b ob e).stay (fun c w' hc q=>(sb.2 c ?_).trans q) (fun _ q=>q) fun _ _ q=>q
 rintro rfl
 rcases hc with rfl | hc
 ·rw [hC] at e;cases e
 ·rw [hC] at hc;cases hc
theorem uY      (k:pd P w H h) (hD:H D=none) (new:c_ P w (upd H D o) h D o):pd P w (upd H D o) h:=fun b ob e=>by
 by_cases hb:b=D
 ·subst hb;rw [b9] at e;cases e;exact new
 ·rw [bf hb] at e
  exact (k b ob e).stay (fun c w' hc q=>q) (fun c q=>by rw [bf (bR q hD)];exact q) fun c x q=>by rw [bf (bR q hD)];exact q
theorem nf {M:yu}{A:aU}{α:Type}{t:Sem α}{Q:α->ae->Prop}{E':aa->ae->Prop}{s:ae} (h:au M A t Q (fun _ _=>False) s):au M A t Q E' s :=
 bH h (fun _ _ q=>q) fun _ _ f=>f.elim
theorem bQ.pin1      (I:bQ X [] σ H s) (e:s.heap.get? D=some o) (n:H D=none) (ne:D≠X.env.locals) (nf:D∉X.fs) (d:∀ v,o.data≠.cell v):bQ X [(D,o)] σ H s :=
 I.pins_of fun p hp=>by
  have:p=(D,o):=by simpa using hp
  subst this
  exact ⟨e,n,ne,nf,d⟩
def PY (nt:Nat) (g:TG):Prop:=∀ x σ0 H (Q:St->Hp->Prop),g x σ0 H Q->g x σ0 H (fun σ2 H2=>Q σ2 H2/\σ2.length=σ0.length/\∀ j,nt<=j->σ2[j]?=σ0[j]?)
theorem Ky (h:i<nt):PY nt (vD i):=fun x σ0 H Q q=>⟨q,by simp,fun j hj=>aj (by omega)⟩
theorem Ox {nt i k n:Nat}{K:a8} (h:i<nt) (h':k<nt):PY nt (R4 K n (ag (vD i) (ag (vD k) aT))):=by
 rintro x σ0 H Q ⟨a,xs,rfl,sq,hl,v,r,rfl,v',r',rfl,rfl,q⟩
 exact ⟨a,_,rfl,sq,hl,v,_,rfl,v',_,rfl,rfl,q,by simp,fun j hj=>by rw [aj (by omega),aj (by omega)]⟩
inductive Wg (X:Cx) (pins:List (ai×Obj)) (N':List Str) (scope:fZ) (cl:List (Str×ai)) (C:ai) (s2:ae) (H2:Hp) (fp:List ai) (nt:Nat) (ix:List Nat) (σ:St) (tn:Nat->bB->Prop) (W:Nat->Nat->List V->Hp->Prop) (n:Nat) (s':ae):Prop
 | mk (i:Nat) (acc:List V) (its:List aa) (nn:Nat) (H':Hp) (I:bQ (cL X N' scope cl C s2 H2 fp (X.pn++pins)) [(s2.heap.objs.size,{ cls:=.type "list",data:=.seq its.toArray nn })] (jw nt ix σ) H' s') (v:du acc its) (l:acc.length<=sizeLine) (t:tn i s'.heap) (f:∀ b∈fp,H' b=none) (w:W i n acc H'):Wg X pins N' scope cl C s2 H2 fp nt ix σ tn W n s'
theorem xb {X:Cx}{elt tg iter:aX}{ifs:List aX}{scope:fZ}{pos:Pos}{g:TG}{tt:TT}{te:TE}{N':List Str}{nt:Nat}{ix:List Nat}
  (hc:X.calm=true) (S:mW X scope N' nt ix) (lo:PY nt g)
  (hb:∀ cl C s₀ H₀ ex pn,PG (cL X N' scope cl C s₀ H₀ ex pn) tg g/\Nu (cL X N' scope cl C s₀ H₀ ex pn) ifs tt/\PE (cL X N' scope cl C s₀ H₀ ex pn) elt te)
  {cl:List (Str×ai)} (c1:∀ x c,cl.lookup x=some c->X.env.cells.lookup x=some c) (c2:∀ y∈scope.names,y.2=.free->∃ c,cl.lookup y.1=some c)
  {pins:List (ai×Obj)}{σ:St}{H2:Hp}{s2:ae}{it:ai}{fp:List ai}{tn:Nat->bB->Prop}{J:It}{Q:VK}{E:aa->ae->Prop}
  (I2:bQ X pins σ H2 s2) (T:yK X.prog X.w X.K tg J fp it tn) (st2:tn 0 s2.heap) (f2:∀ b∈fp,pO X pins H2 b)
  {W:Nat->Nat->List V->Hp->Prop} (w0:∃ m,W 0 m [] H2)
  (turn:∀ i m acc H,W i m acc H->(J.stop i H/\∀ p,H p=none->Q (.ref p) (upd H p (.lst acc))) \/
   (J.go i H/\acc.length<sizeLine/\∀ x H',J.yld i H x H'->g x (jw nt ix σ) H' fun σ2 H2=>tt σ2 H2 fun b H3 =>
    if b=true then te σ2 H3 fun y H4=>∃ m',m'<m/\W (i + 1) m' (acc++[y]) H4 else ∃ m',m'<m/\W (i + 1) m' acc H3))
  {RR:aa->ai->rZ->ae->Prop}
  (hRR:∀ D C m s' (acc:List V) H',H' D=none->pO X pins (upd H' D (.lst acc)) C->Q (.ref D) (upd H' D (.lst acc))->s'.heap.Ns C m->(∀ h',bJ C s'.heap h'->bQ X pins σ (upd H' D (.lst acc)) { s' with heap:=h' })->RR (.ref D) C (.ok .next) s') :
  au (ay X.prog X.w) X.A (newList []) (fun acc s₃=>au (ay X.prog X.w) X.A (uL scope X.env.globals cl [] X.env.qual none .none (some X.env)) (fun cenv s₄ =>
   jo (ay X.prog X.w) X.A (.compStart (.ListComp elt [⟨tg,iter,ifs,0⟩] scope pos) 0 (.ref it) acc { cenv with scope:=relabel scope X.env }) (RR acc cenv.locals) s₄) E s₃) E s2:=by
 refine bM (G5 fun h₁ hh₁=>?_)
 dsimp only at hh₁ ⊢
 generalize hG2:s2.heap.push { cls:=.type "list",dict:=none,data:=.seq ([] : List aa).toArray }=G2 at hh₁ ⊢
 have hC:G2.objs.size=s2.heap.objs.size + 1:=by rw [<- hG2,bY]
 have hDC:s2.heap.objs.size≠G2.objs.size:=by rw [hC];exact aD (eC _)
 have hCle:s2.heap.objs.size<=G2.objs.size:=by rw [hC];exact jL _
 have below:∀ b,b<s2.heap.objs.size->b≠G2.objs.size:=fun b hb=>by rw [hC];exact aD (dU hb)
 have kp:∀ b o,G2.get? b=some o->h₁.get? b=some o:=fun b o e=>by rw [hh₁];exact tq _ _ b o (ac _ e)
 have hns₁:h₁.Ns G2.objs.size (fun _=>none):=by rw [hh₁];exact (Heap.Ns.new G2 (.type "dict")).keeps (tq _ _)
 have ok₁:CellsOk h₁ (G2.objs.size + 1) (bh (G2.objs.size + 1) scope.names []):=by rw [hh₁];exact zB G2 scope.names
 have cne:∀ x c,(bh (G2.objs.size + 1) scope.names cl).lookup x=some c->X.env.cells.lookup x=some c\/s2.heap.objs.size<c:=fun x c e=>by
  rcases kG e with a | ⟨_,a⟩
  ·exact .inr (aA (jW hCle) (ok₁.empty x c a).2)
  ·exact .inl (c1 x c a)
 have old:∀ b o,s2.heap.get? b=some o->h₁.get? b=some o:=fun b o e=>kp b o (hG2 ▸ ac _ e)
 have hacc:h₁.get? s2.heap.objs.size=some { cls:=.type "list",dict:=none,data:=.seq ([] : List aa).toArray }:=kp _ _ (hG2 ▸ av _ rfl)
 have ff:∀ b∈fp,b<s2.heap.objs.size:=fun b hb=>by
  obtain ⟨o,e,_⟩:=T.obj _ _ st2 b hb
  exact aq e
 have I3:bQ (cL X N' scope (bh (G2.objs.size + 1) scope.names cl) G2.objs.size s2 H2 fp (X.pn++pins)) [] (jw nt ix σ) H2 { s2 with heap:=h₁,toks:=s2.toks }:=Ci S I2 c1 c2 f2 ff hCle hns₁ old ok₁
 obtain ⟨pg,pt,pe⟩:=hb (bh (G2.objs.size + 1) scope.names cl) G2.objs.size s2 H2 fp (X.pn++pins)
 have hDfs:s2.heap.objs.size∉rK X.stack:=fun z=>by
  rcases List.mem_cons.mp (I2.stkSub _ z) with e | e
  ·exact absurd I2.lt (by rw [<- e];exact bP _)
  ·exact I2.nofs (ar _) e
 have nod:∀ (its:List aa) (n:Nat) v,({ cls:=.type "list",data:=.seq its.toArray n }:Obj).data≠.cell v:=fun _ _ _ z=>nomatch z
 have st1:tn 0 h₁:=T.keep _ _ _ st2 fun b _ o e=>old b o e
 have hDf:s2.heap.objs.size∉fp:=fun z=>absurd (ff _ z) (bP _)
 have stat:∀ {H':Hp}{pl:List (ai×Obj)},(∀ p∈pl,p.1∉fp)->(∀ b∈fp,H' b=none)->∀ b∈fp,pO (cL X N' scope (bh (G2.objs.size + 1) scope.names cl) G2.objs.size s2 H2 fp (X.pn++pins)) pl H' b:=fun hpl hn b hb=>by
  obtain ⟨f0,f1,f2',f3,f4,f5⟩:=f2 b hb
  refine ⟨hn b hb,below b (ff b hb),fun z=>?_,.inl hb,fun x c e=>(cne x c e).elim (f4 x c) fun q z=>vV q (by rw [z];exact ff b hb),fun p hp z=>?_⟩
  ·rcases List.mem_cons.mp (I2.stkSub _ z) with e | e
   ·exact f1 e
   ·exact f2' e
  ·rcases List.mem_append.mp hp with q | q
   ·exact f5 p q z
   ·exact hpl p q (z ▸ hb)
 obtain ⟨m0,w0⟩:=w0
 have loop:jo (ay X.prog X.w) X.A (.compLoop (.ListComp elt [⟨tg,iter,ifs,0⟩] scope pos) 0 (.ref it) (.ref s2.heap.objs.size) (compEnvC scope (bh (G2.objs.size + 1) scope.names cl) G2.objs.size X.env))
    (RR (.ref s2.heap.objs.size) G2.objs.size) { s2 with heap:=h₁,toks:=s2.toks }:=by
  refine AF (Wg X pins N' scope (bh (G2.objs.size + 1) scope.names cl) G2.objs.size s2 H2 fp nt ix σ tn W) ?_ m0
   ⟨0,[],[],0,H2,I3.pin1 hacc (I2.hok.fresh (ar _)) hDC hDfs (nod _ _),.nil,cA _,st1,fun b hb=>(f2 b hb).1,w0⟩
  rintro n s3 ⟨i,acc,its,nn,H3,J3,rv,hz,st3,fr3,w3⟩
  have plD:∀ p∈[(s2.heap.objs.size,({ cls:=.type "list",data:=.seq its.toArray nn }:Obj))],p.1∉fp:=fun p hp=>by
   have:p=(s2.heap.objs.size,({ cls:=.type "list",data:=.seq its.toArray nn }:Obj)):=by simpa using hp
   rw [this];exact hDf
  rcases turn i n acc H3 w3 with ⟨stop,qn⟩ | ⟨go,hlt,step⟩
  ·refine fK (T.done (cL X N' scope (bh (G2.objs.size + 1) scope.names cl) G2.objs.size s2 H2 fp (X.pn++pins)) rfl rfl rfl hc i _ s3 _ H3 _ J3 (stat plD fr3) st3 stop) fun r s4 h_0=>?_
   obtain ⟨hr,I4⟩:=h_0
   subst hr
   obtain ⟨pD,pN,_⟩:=I4.pin (s2.heap.objs.size,_) (aF _ (List.mem_singleton.mpr rfl))
   obtain ⟨mm,hn,_⟩:=I4.loc
   have hCn:H3 G2.objs.size=none:=I4.free
   refine hRR _ _ mm s4 acc H3 pN (I2.fpOk hCle (by rw [bf (cQ hDC)];exact hCn)) (qn _ pN) hn fun h' sb=>?_
   have hu:Un (rK X.stack) fp H2 (upd H3 s2.heap.objs.size (.lst acc)) s2.heap h':=Un.grow I4.base sb hCle (ar _) pN
   refine I2.call' (s':={ s4 with heap:=h' }) (ch:=fp) I4.os hu ?_ I4.bare fun b hb=>?_
   ·refine uY (Cj I4.hok hCn sb) pN ⟨hz,its,nn,rv,(sb.2 _ hDC).trans pD⟩
   ·obtain ⟨_,f1,_,f3,f4,f5⟩:=f2 b hb
    exact ⟨f3,f1,f4,f5⟩
  ·refine fK (T.item (cL X N' scope (bh (G2.objs.size + 1) scope.names cl) G2.objs.size s2 H2 fp (X.pn++pins)) rfl rfl rfl hc i _ s3 _ H3 _ J3 (stat plD fr3) st3 go) fun r s4 h_1=>?_
   obtain ⟨u,hr,h4⟩:=h_1
   subst hr
   refine fK h4 fun _ s5 h_2=>?_
   obtain ⟨x,H5,I5,r5,y5,st5,fr5⟩:=h_2
   have I5':=I5.pinned (stat plD fr5) (T.obj _ _ st5)
   refine fK (pg _ s5 _ H5 x u _ I5' r5 (lo _ _ _ _ (step x H5 y5))) fun _ s6 h_3=>?_
   obtain ⟨σ6,H6,I6,q6,l6,k6⟩:=h_3
   have hw:∀ (j:Nat) v,(jw nt ix σ)[j]?=some (some v)->σ6[j]?=some (some v):=fun j v e=>by
    by_cases hj:nt<=j
    ·rw [k6 j hj];exact e
    ·unfold jw at e
     rw [bd (by simpa using hj),b_,if_pos (by omega)] at e
     cases e
   refine fK (pt _ s6 σ6 H6 _ I6 q6) fun b s7 h_4=>?_
   obtain ⟨H7,I7,q7⟩:=h_4
   have fpk:∀ {s8:ae}{σ8:St}{H8:Hp},bQ (cL X N' scope (bh (G2.objs.size + 1) scope.names cl) G2.objs.size s2 H2 fp (X.pn++pins)) ([(s2.heap.objs.size,{ cls:=.type "list",data:=.seq its.toArray nn })]++uV fp s5.heap) σ8 H8 s8 ->
     tn (i + 1) s8.heap/\∀ b∈fp,H8 b=none:=fun {s8 σ8 H8} I8=>by
    refine ⟨T.keep _ _ _ st5 fun b hb o e=>(I8.pin (b,o) (aF _ (aF _ (jY hb e)))).1,fun b hb=>?_⟩
    obtain ⟨o,e,d⟩:=T.obj _ _ st5 b hb
    exact (I8.pin (b,o) (aF _ (aF _ (jY hb e)))).2.1
   cases b with
   | false =>
    simp only [bv,if_false] at q7 ⊢
    obtain ⟨m',hm,w7⟩:=q7
    obtain ⟨t7,f7⟩:=fpk I7
    exact ⟨m',hm,i + 1,acc,its,nn,H7,(I7.weak l6.symm hw).unpinned,rv,hz,t7,f7,w7⟩
   | true =>
    simp only [if_true] at q7 ⊢
    refine fK (pe _ s7 σ6 H7 _ I7 q7) fun u8 s8 h_5=>?_
    obtain ⟨y,H8,I8,r8,m',hm,w8⟩:=h_5
    obtain ⟨t8,f8⟩:=fpk I8
    obtain ⟨pD,pN,_⟩:=I8.pin (s2.heap.objs.size,_) (aF _ (bg _ (List.mem_singleton.mpr rfl)))
    have hl:=rv.length
    refine wpAny_list_append_plain ⟨nn,pD⟩ (hsz:=by rw [aQ];omega) ?_
    intro h9 pl9 sb9
    obtain ⟨n9,e9⟩:=pl9
    have e9':h9.get? s2.heap.objs.size=some { cls:=.type "list",data:=.seq (its++[u8]).toArray n9 }:=by rw [e9];simp
    refine ⟨m',hm,i + 1,acc++[y],its++[u8],n9,H8,?_,rv.append (.cons r8 .nil),by rw [aR,dn];omega,T.keep _ _ _ t8 fun b hb o e=>sb9.extBut b o (fun z=>hDf (z ▸ hb)) e,f8,w8⟩
    have I8':bQ (cL X N' scope (bh (G2.objs.size + 1) scope.names cl) G2.objs.size s2 H2 fp (X.pn++pins)) [] (jw nt ix σ) H8 s8:=(I8.weak l6.symm hw).pins_of fun p hp=>absurd hp (by simp)
    have I9:bQ (cL X N' scope (bh (G2.objs.size + 1) scope.names cl) G2.objs.size s2 H2 fp (X.pn++pins)) [] (jw nt ix σ) H8 { s8 with heap:=h9,toks:=s8.toks } :=
     I8'.turned (it:=s2.heap.objs.size) (fun b o hb e=>sb9.extBut b o hb e) pN hDC (.inr (ar _)) (fun x c e z=>by
      rcases cne x c e with e | e
      ·obtain ⟨v,q⟩:=I2.cell x c e
       exact absurd q.lt (by rw [z];exact bP _)
      ·exact absurd e (by rw [z];exact bP _)) fun p hp z=>by
      have hp:p∈X.pn++pins:=(List.mem_append.mp hp).elim id fun z=>absurd z (by simp)
      exact absurd (aq (I2.pin p hp).1) (by rw [z];exact bP _)
    exact I9.pin1 e9' pN hDC hDfs (nod _ _)
 exact codeAny_compStart_list loop (T.self _ 0 _ _ _ st1 loop)
end
section
theorem Ck
  (hc:X.calm=true) (S:mW X scope N' nt ix) (lo:PY nt g) (hi:PI X tg iter wi)
  (hb:∀ cl C s₀ H₀ ex pn,PG (cL X N' scope cl C s₀ H₀ ex pn) tg g/\Nu (cL X N' scope cl C s₀ H₀ ex pn) ifs tt/\PE (cL X N' scope cl C s₀ H₀ ex pn) elt te)
  (hs:∀ x,e7 iter X.env x=pure x:=by intro _;rfl):PE X (.ListComp elt [⟨tg,iter,ifs,0⟩] scope pos) (Kx nt ix wi g tt te):=by
 intro pins s σ H Q I h
 obtain ⟨cl,hcl,c1,c2⟩:=sr (scope:=scope) (env:=X.env) fun y hy hf=>I.ok.has y.1 (S.free y hy hf)
 rw [eval_ListComp]
 refine pH (use:=none) rfl hs hcl S.kind S.loc (fK (hi pins s σ H _ I h) fun v s1 h1=>fK h1 fun itv s2 h2=>?_)
 obtain ⟨it,fp,tn,J,H2,e,I2,T,st2,f2,W,w0,turn⟩:=h2
 subst e
 refine xb (RR:=fun acc C=>compPost (ay X.prog X.w) X.A X.xe none (EP X pins σ Q) acc C) hc S lo hb c1 c2 I2 T st2 f2 w0 turn ?_
 intro D C m s' acc H' hD _ q hn hI
 exact ⟨m,hn,fun h' sb=>⟨.ref D,_,hI h' sb,rfl,q⟩⟩
def Tb (i:Nat) (te:TE):TS:=fun D σ H=>te σ H fun x H1=>D.nx (σ.set i (some x)) H1
theorem EL
  (hN:X.N.Nodup) (hiN:X.N[i]?=some y) (hy:X.env.scope.names.lookup y=some .local)
  (hc:X.calm=true) (S:mW X scope N' nt ix) (lo:PY nt g) (hi:PI X tg iter wi)
  (hb:∀ cl C s₀ H₀ ex pn,PG (cL X N' scope cl C s₀ H₀ ex pn) tg g/\Nu (cL X N' scope cl C s₀ H₀ ex pn) ifs tt/\PE (cL X N' scope cl C s₀ H₀ ex pn) elt te)
  (hsw:hW (.ListComp elt [⟨tg,iter,ifs,0⟩] scope pos) (some (.Name y py)) spos.line X.env=pure true:=by rfl)
  (hs:∀ x,e7 iter X.env x=pure x:=by intro _;rfl):PS X (.Assign [.Name y py] (.ListComp elt [⟨tg,iter,ifs,0⟩] scope pos) spos) (Tb i (Kx nt ix wi g tt te)):=by
 intro pins s σ H D I h
 obtain ⟨cl,hcl,c1,c2⟩:=sr (scope:=scope) (env:=X.env) fun y hy hf=>I.ok.has y.1 (S.free y hy hf)
 rw [exec_Assign_Name_used _ _ _ _ hsw]
 refine a7 (iJ (a7 ?_))
 show au _ X.A (do let _ <- comprehension (.ListComp elt [⟨tg,iter,ifs,0⟩] scope pos) scope X.env _ (newList []) false (eh iter X.env) (some (pE (.Name y py) X.env))) _ _ s
 refine a7 (bH (pH (use:=some (pE (.Name y py) X.env)) (Q:=fun _ s'=>SP X pins D .next s') rfl hs hcl S.kind S.loc
  (fK (hi pins s σ H _ I h) fun v s1 h1=>fK h1 fun itv s2 h2=>?_)) (fun _ s' hq=>a9 (a9 hq)) fun _ _ e=>e)
 obtain ⟨it,fp,tn,J,H2,e,I2,T,st2,f2,W,w0,turn⟩:=h2
 subst e
 refine xb (Q:=fun x H1=>D.nx (σ.set i (some x)) H1) (RR:=fun acc C=>compPost (ay X.prog X.w) X.A X.xe (some (pE (.Name y py) X.env)) (fun _ s'=>SP X pins D .next s') acc C) hc S lo hb c1 c2 I2 T st2 f2 w0 turn ?_
 intro L C m s' acc H' hD fC q hn hI
 show au _ X.A (pE (.Name y py) X.env (.ref L)) _ _ _
 have I3:bQ X pins σ (upd H' L (.lst acc)) s':=hI s'.heap (.refl ..)
 refine wpAny_assign_Name (zt I3 hN hiN (.inl hy) (v:=.ref L) rfl (fun s4 I4 ⟨a,sb,ha⟩=>?_) (.inr hy))
 obtain ⟨g0,g1,g2,g3,g4,g5⟩:=fC
 have hCa:C≠a:=by
  rcases ha with z | z
  ·rw [z];exact g1
  ·exact fun e=>g4 y a z e.symm
 refine ⟨m,hn.sameBut sb hCa,fun h5 sb5=>?_⟩
 exact ⟨_,_,I4.turned (t':=s4.toks) (fun b o hb e=>(sb5.2 b hb).trans e) g0 g1 g3 g4 g5,q⟩
end
section
def jP (e:Int×aa):Str:=match e.2 with
 | .str x _=>x
 | _=>⟨#[]⟩
def su (w:aZ) (e:Int×aa):Prop:=∃ x tk,e=(hashStr w x,jx x tk)
structure cR (w:aZ) (h:bB) (a:ai) (es:Array (Int×aa)) (ep:Nat) (t:j9):Prop where
 at_:h.get? a=some { cls:=.type "set",dict:=none,data:=.set es ep t }
 txt:∀ e∈es.toList,su w e
 nd:(es.toList.map jP).Nodup
 few:es.size<iM
 fits:t.fits es.size=true
 led:t.led=!w.params.followText "set-order"
 pl:es.size=0\/t.plain=false
inductive k_ (w:aZ) (h:bB) (a:ai) (ss:List Str):Prop
 | mk (es ep t:_) (h0:cR w h a es ep t) (h1:(es.toList.map jP).Perm ss):k_ w h a ss
theorem EM (t:j9) (es:Array (Int×aa)) (h:Int) (x:aa):(layNew t es h x).2.1.led=t.led:=by
 unfold layNew
 cases t.freeSlot h with
 | none=>rfl
 | some p =>
  obtain ⟨slot,d⟩:=p
  show ((t.put slot).1.orStandIn _).led=_
  unfold E5
  split<;>rfl
theorem AG (t:j9) (es:Array (Int×aa)) (h:Int) (x:aa):t.plain=false->(layNew t es h x).2.1.plain=false:=by
 intro hp
 unfold layNew
 cases t.freeSlot h with
 | none=>rfl
 | some p =>
  obtain ⟨slot,d⟩:=p
  show ((t.put slot).1.orStandIn _).plain=_
  unfold E5
  split
  ·exact hp
  ·rfl
theorem Cm {t t':j9}{hs:Array Int}{n:Nat}{o:Array Nat} (h:t.relaid hs n=some (t',o)):t'.led=t.led/\t'.plain=t.plain:=by
 unfold HC yq at h
 cases e:tw (cm n - 1) hs with
 | none=>rw [e] at h;cases h
 | some ow =>
  rw [e] at h
  have h:=bI h
  have h1:=congrArg Prod.fst h
  subst h1
  exact ⟨rfl,rfl⟩
theorem Ik (t:j9) (es:Array (Int×aa)) (n:Nat):(uM t es n).2.1.led=t.led/\(t.plain=false->(uM t es n).2.1.plain=false):=by
 unfold uM
 cases e:t.relaid (es.map (·.1)) n with
 | none=>exact ⟨rfl,fun _=>rfl⟩
 | some p =>
  obtain ⟨t',o⟩:=p
  obtain ⟨h1,h2⟩:=Cm e
  dsimp only
  split
  ·exact ⟨h1,fun h=>h2.trans h⟩
  ·exact ⟨rfl,fun _=>rfl⟩
theorem Kz   (h:∀ e∈l,su w e):ElemsOf (strKind P w) l:=fun e he=>by
 obtain ⟨x,tk,rfl⟩:=h e he
 exact ⟨⟨x,by simp [PySem.strKind,tj],rfl⟩,rfl⟩
theorem US (P:aH) (w:aZ) (x:Str) (tk:Tok):(strKind P w).is x (.str x tk)=true:=by simp [PySem.strKind,tj]
theorem G6   (h:su w e) (x:Str):(strKind P w).is x e.2=true↔jP e=x:=by
 obtain ⟨y,tk,rfl⟩:=h
 constructor
 ·intro q
  have:=(strKind P w).inj _ _ _ q (US P w y tk)
  rw [this];rfl
 ·rintro rfl
  exact US P w _ tk
section
variable {P:aH}{w:aZ}{A:aU}{E:aa->ae->Prop}{s:ae}
theorem qz     (I:cR w h a es ep t):(h.update a (pI es' t')).get? a=some { cls:=.type "set",dict:=none,data:=.set es' (ep + 1) t' }:=by
 have q:=fG (pI es' t') I.at_ rfl
 exact q
theorem zC     (hS:k_ w s.heap a ss) (hr:ss.length + 1<iM)
  (h:∀ h' tk',bJ a s.heap h'->k_ w h' a (if x∈ss then ss else ss++[x])->Q (!decide (x∈ss)) { s with heap:=h',toks:=tk' }) :
  au (ay P w) A (setAddHashed a (.str x tk) ((strKind P w).hash x)) Q E s:=by
 obtain ⟨es,ep,t,I,pm⟩:=hS
 have hlen:es.size=ss.length:=by rw [<- pm.length_eq,ak,ao]
 have hel:ElemsOf (strKind P w) es.toList:=Kz I.txt
 unfold setAddHashed setAddHashedIn
 refine de (a7 (bx (s:=s) I.at_ rfl I.fits ?_))
 dsimp only
 rw [byScan_of rfl I.few hel]
 rw [if_pos rfl]
 unfold setAddByScan
 refine a7 (a7 (cU (a7 (wpAny_setScan_of (s:=s) (US P w x tk) I.at_ rfl I.fits hel ?_))))
 have inmem:x∈ss↔∃ e∈es.toList,(strKind P w).is x e.2=true:=by
  rw [<- pm.mem_iff,jQ]
  constructor
  ·rintro ⟨e,he,q⟩;exact ⟨e,he,(G6 (I.txt e he) x).mpr q⟩
  ·rintro ⟨e,he,q⟩;exact ⟨e,he,(G6 (I.txt e he) x).mp q⟩
 cases hf:List.findIdx? (fun e=>(strKind P w).is x e.2) es.toList with
 | some j =>
  obtain ⟨hj,hp,_⟩:=List.findIdx?_eq_some_iff_getElem.mp hf
  have hin:x∈ss:=inmem.mpr ⟨_,iU hj,hp⟩
  have q:=h s.heap s.toks (.refl ..) (by rw [if_pos hin];exact ⟨es,ep,t,I,pm⟩)
  rw [decide_eq_true hin] at q
  exact a9 (a9 q)
 | none =>
  have hout:x∉ss:=fun z=>by
   obtain ⟨e,he,q⟩:=inmem.mp z
   rw [List.findIdx?_eq_none_iff.mp hf e he] at q
   cases q
  have h:=fun h' tk' sb=>h h' tk' sb
  rw [decide_eq_false hout,if_neg hout] at h
  have p1:=layNew_perm t es ((strKind P w).hash x) (.str x tk)
  have f1:=layNew_fits t es ((strKind P w).hash x) (.str x tk)
  have l1:=EM t es ((strKind P w).hash x) (.str x tk)
  have q1:=AG t es ((strKind P w).hash x) (.str x tk)
  generalize layNew t es ((strKind P w).hash x) (.str x tk)=L at p1 f1 l1 q1 ⊢
  obtain ⟨es1,t1,wd,gv⟩:=L
  dsimp only at p1 f1 l1 q1 ⊢
  rw [i8] at p1
  have tx1:∀ e∈es1.toList,su w e:=fun e he=>by
   rcases List.mem_append.mp (p1.mem_iff.mp he) with z | z
   ·exact I.txt e z
   ·rw [bZ] at z;exact ⟨x,tk,z⟩
  have km:(es1.toList.map jP).Perm (ss++[x]):=(p1.map jP).trans (by rw [bc];exact pm.append_right _)
  have nd1:(ss++[x]).Nodup:=by
   rw [JR]
   exact ⟨pm.nodup_iff.mp I.nd,by simp,fun y hy z hz e=>hout (by rw [bZ] at hz;rw [<- hz,<- e];exact hy)⟩
  have sz1:es1.size=es.size + 1:=by rw [<- ao,p1.length_eq,aR,ao];rfl
  have few1:es1.size<iM:=by omega
  have gw:∀ (b:Bool) {s₁:ae}{Q':Unit->ae->Prop},Q' () s₁->au (ay P w) A (match b with | true=>rule "set.scan.the-table-gave-way" | false=>pure ()) Q' E s₁ :=
   fun b _ _ z=>by cases b<;>first | exact a9 z | exact cU z
  have tail:∀ t2:j9,t2.fits es1.size=true->t2.led=t.led->t2.plain=false->au (ay P w) A (do
    storeSet a es1 t2
    if (!wd && t2.tooFull)=true then do
      (match (uM t2 es1 (i9 es1.size)).2.2 with | true=>rule "set.scan.the-table-gave-way" | false=>pure ())
      storeSet a (uM t2 es1 (i9 es1.size)).1 (uM t2 es1 (i9 es1.size)).2.1
      pure (some true)
     else pure (some true)) (fun r s'=>r=some true/\Q true s') E s:=fun t2 f2 l2 n2=>by
   refine a7 (iV (s:=s) I.at_ rfl ?_ (e_ few1))
   have at1:=qz (es':=es1) (t':=t2) I
   have sb1:=bG s.heap a (pI es1 t2)
   have I1:cR w (s.heap.update a (pI es1 t2)) a es1 (ep + 1) t2:=⟨at1,tx1,km.nodup_iff.mpr nd1,few1,f2,l2.trans I.led,.inr n2⟩
   split
   ·have p2:=relayAll_perm t2 es1 (i9 es1.size)
    have f3:=relayAll_fits t2 es1 (i9 es1.size)
    have l3:=Ik t2 es1 (i9 es1.size)
    generalize uM t2 es1 (i9 es1.size)=R3 at p2 f3 l3 ⊢
    obtain ⟨es2,t3,gv2⟩:=R3
    dsimp only at p2 f3 l3 ⊢
    have few2:es2.size<iM:=by rw [<- ao,p2.length_eq,ao];exact few1
    have km2:=(p2.map jP).trans km
    refine a7 (gw _ (a7 (iV (s:={ s with heap:=s.heap.update a (pI es1 t2) }) I1.at_ rfl ?_ (e_ few2))))
    refine a9 ⟨rfl,h _ _ (sb1.trans (bG _ a _)) ⟨es2,ep + 1 + 1,t3,⟨qz I1,fun e he=>tx1 e (p2.mem_iff.mp he),km2.nodup_iff.mpr nd1,few2,f3,l3.1.trans (l2.trans I.led),.inr (l3.2 n2)⟩,km2⟩⟩
   ·exact a9 ⟨rfl,h _ _ sb1 ⟨es1,ep + 1,t2,I1,km⟩⟩
  refine a7 (gw gv ?_)
  cases hp:t1.plain with
  | true =>
   simp only [if_true]
   rw [hashByValue_scannable 8 (x:=.str x tk) rfl]
   refine a7 (a9 ?_)
   refine bH (tail { t1 with plain:=false } (by cases t1;exact f1) l1 rfl) (fun r s' z=>?_) fun _ _ z=>z
   obtain ⟨rfl,z⟩:=z
   exact a9 z
  | false =>
   simp only [bv,if_false]
   refine a7 (a9 ?_)
   refine bH (tail t1 f1 l1 hp) (fun r s' z=>?_) fun _ _ z=>z
   obtain ⟨rfl,z⟩:=z
   exact a9 z
theorem Co     (hS:k_ w s.heap a ss) (hr:ss.length + 1<iM)
  (h:∀ h' tk',bJ a s.heap h'->k_ w h' a (if x∈ss then ss else ss++[x])->Q (!decide (x∈ss)) { s with heap:=h',toks:=tk' }) :
  au (ay P w) A (setAdd a (.str x tk)) Q E s:=by
 unfold setAdd
 refine de (a7 ((strKind P w).pyHash (k:=x) (US P w x tk) ?_))
 exact zC (s:={ s with toks:=s.toks + 1 }) hS hr h
end
end
section
abbrev eQ (w:aZ):Obj:={ cls:=.type "set",dict:=none,data:=.set #[] 0 (.fresh 0 0 (!w.params.followText "set-order")) }
theorem zD (w:aZ)  (e:h.get? a=some (eQ w)):k_ w h a [] :=
 ⟨#[],0,_,⟨e,fun e he=>by simp at he,by simp,by decide,rfl,rfl,.inl rfl⟩,by simp⟩
def da:List Str->List Str->List Str
 | acc,[]=>acc
 | acc,x::r=>da (if x∈acc then acc else acc++[x]) r
theorem iF:∀ (l acc:List Str) (x:Str),x∈da acc l↔x∈acc\/x∈l
 | [],acc,x=>by simp [da]
 | y::r,acc,x=>by
  rw [da,iF r]
  by_cases h:y∈acc
  ·rw [if_pos h];simp only [aY]
   constructor
   ·exact fun z=>z.elim .inl fun z=>.inr (.inr z)
   ·rintro (z | z | z)
    ·exact .inl z
    ·exact .inl (z ▸ h)
    ·exact .inr z
  ·rw [if_neg h];simp [d_,or_assoc]
theorem iq:∀ (l acc:List Str),acc.Nodup->(da acc l).Nodup
 | [],acc,h=>h
 | y::r,acc,h=>by
  rw [da]
  refine iq r _ ?_
  by_cases hy:y∈acc
  ·rw [if_pos hy];exact h
  ·rw [if_neg hy,JR]
   exact ⟨h,by simp,fun a ha b hb e=>hy (by rw [bZ] at hb;rw [<- hb,<- e];exact ha)⟩
theorem fU:∀ (l acc:List Str),(da acc l).length<=acc.length + l.length
 | [],acc=>by simp [da]
 | y::r,acc=>by
  rw [da]
  have:=fU r (if y∈acc then acc else acc++[y])
  by_cases hy:y∈acc
  ·rw [if_pos hy] at this ⊢;simp only [bw];omega
  ·rw [if_neg hy] at this ⊢;simp only [bw,aR,dn,cB] at this ⊢;omega
section
variable {prog:aH}{w:aZ}{A:aU}{E:aa->ae->Prop}{s:ae}{R:rZ->ae->Prop}
theorem k_.keep   (x:k_ w h a ss) (k:∀ o,h.get? a=some o->h'.get? a=some o):k_ w h' a ss :=
 let ⟨es,ep,t,I,p⟩:=x;⟨es,ep,t,⟨k _ I.at_,I.txt,I.nd,I.few,I.fits,I.led,I.pl⟩,p⟩
theorem yM {I:ai}{fp wr:List ai}{n:Nat}{Pv:Nat->aa->Prop}{St:Nat->bB->Prop} (W:NF prog w A.in1 I fp wr n Pv St) (D:ai) (hD:D∉fp) (xs:List Str) (hx:xs.length=n)
  (hv:∀ i v,Pv i v->∃ x t,xs[i]?=some x/\v=.str x t) (hb:n + 1<iM) :
  ∀ (k i:Nat) (s:ae) (acc:List Str),n - i=k->i<=n->acc.length<=i->St i s.heap->k_ w s.heap D acc ->
   (∀ h' tk,(∀ b o,b∉D::wr->s.heap.get? b=some o->h'.get? b=some o)->k_ w h' D (da acc (xs.drop i))->R (.ok (.ret .none)) { s with heap:=h',toks:=tk }) ->
   jo (ay prog w) A (.builtin "set.update.loop" ⟨[.ref D,.ref I],[]⟩) R s:=by
 have hDw:D∉wr:=fun z=>hD (W.sub _ z)
 intro k
 induction k with
 | zero =>
  intro i s acc hk hi hl st hS hR
  obtain rfl:i=n:=by omega
  refine gJ nN ?_
  rw [eE i4 _]
  show au _ A.in1 (kU (.ref I) >>= _) _ _ s
  refine a7 (W.done s _ _ st fun h' tk kp=>?_)
  refine a9 (hR h' tk (fun b o hb e=>kp b o (fun z=>hb (ah _ z)) e) ?_)
  rw [List.drop_of_length_le (by omega)]
  exact hS.keep fun o e=>kp D o hDw e
 | succ k ih =>
  intro i s acc hk hi hl st hS hR
  have hlt:i<n:=by omega
  refine gJ nN ?_
  rw [eE i4 _]
  show au _ A.in1 (kU (.ref I) >>= _) _ _ s
  refine a7 (W.item i s _ _ hlt st fun v h' tk hP st' kp=>?_)
  obtain ⟨x,t,hxi,rfl⟩:=hv i v hP
  have hS':k_ w h' D acc:=hS.keep fun o e=>kp D o hDw e
  refine a7 (de (Co (s:={ s with heap:=h',toks:=tk }) hS' (by omega) fun h2 tk2 sb hS2=>?_))
  refine a9 ⟨pJ i4 _,ih (i + 1) _ (if x∈acc then acc else acc++[x]) (by omega) hlt ?_ (W.frame _ _ _ st' fun b hb o e=>?_) hS2 fun h3 tk3 k3 hS3=>?_⟩
  ·by_cases z:x∈acc
   ·rw [if_pos z];omega
   ·rw [if_neg z,aR,dn];omega
  ·rw [sb.2 b fun z=>hD (z ▸ hb)];exact e
  ·refine hR h3 tk3 (fun b o hb e=>k3 b o hb ?_) ?_
   ·rw [sb.2 b fun z=>hb (by rw [z];exact am)]
    exact kp b o (fun z=>hb (ah _ z)) e
   ·have hd:xs.drop i=x::xs.drop (i + 1):=by
     obtain ⟨h1,h2⟩:=List.getElem?_eq_some_iff.mp hxi
     rw [Ao h1,h2]
    rw [hd,da];exact hS3
theorem KA (a:aa) (h:Q₁ (.ref s.heap.objs.size) { s with heap:=s.heap.push (eQ w) }) :
  jo (ay prog w) A (.call (.builtin "set.__new__") ⟨[.type "set",a],[]⟩) (wants Q₁ E) s:=by
 refine B_ ?_
 show au _ A.in1 (do checkBuiltinCall "set.__new__" ⟨[.type "set",a],[]⟩;NA (.builtin "set.__new__" ⟨[.type "set",a],[]⟩)) _ _ s
 refine a7 (eO (F.newCall_set_1 a) (a9 ⟨pJ F.plain_set_new _,gJ F.entry_set_new ?_⟩))
 rw [eE F.plain_set_new _]
 unfold jr.«set.__new__» NG
 have hsub:=JU
 obtain ⟨hp,g,d,tk,os⟩:=s
 dsimp only
 wp_walk
 refine hX (a9 ?_)
 dsimp only
 simp only [newObj]
 refine a7 (NE (a9 ?_))
 exact a9 h
structure Rv (prog:aH) (w:aZ) (A:aU) (T:String) (l:ai) (o:Obj) (items:Array aa):Prop where
 ty:o.cls=.type T
 s1:isSubtype (.type T) (.type "set")=pure false
 s2:isSubtype (.type T) (.type "frozenset")=pure false
 nd:(iB T == iB "dict")=false
 iter:∀ (s:ae) (Q:aa->ae->Prop) (E:aa->ae->Prop),s.heap.get? l=some o ->
  (∀ ob St,NF prog w A.in1 s.heap.objs.size [s.heap.objs.size,l] [s.heap.objs.size] items.size (fun i v=>items[i]?=some v) St->St 0 (s.heap.push ob)->Q (.ref s.heap.objs.size) { s with heap:=s.heap.push ob })->au (ay prog w) A (wQ (.ref l)) Q E s
theorem t_ {T:String}{l:ai}{ol:Obj}{items:Array aa}{xs:List Str}{Q:aa->ae->Prop}
  (src:Rv prog w A.in1.in1 T l ol items) (hol:s.heap.get? l=some ol) (hi:∀ (i:Nat) (v:aa),items[i]?=some v->∃ x t,xs[i]?=some x/\v=jx x t) (hx:xs.length=items.size) (hb:items.size + 1<iM)
  (h:∀ (h':bB) (tk:Nat),k_ w h' s.heap.objs.size (da [] xs)->(∀ b o,s.heap.get? b=some o->h'.get? b=some o)->Q (.ref s.heap.objs.size) { s with heap:=h',toks:=tk }) :
  au (ay prog w) A (call (.type "set") [.ref l]) Q E s:=by
 obtain ⟨c,tl,hmro⟩:=F.called_set.mro
 have hmade:=F.called_set.made
 have hsub:=F.called_set.sub
 refine wpAny_call (B_ ?_)
 show au _ _ (callAny (.type "set") _) _ _ _
 refine a9 ⟨Code.quiet_builtin _ (by decide +kernel),gJ F.entry_type_call ?_⟩
 rw [Around.under_plain (weight_type_call_type "set" [.ref l] []) rfl]
 have h1:=F.called_set.notType
 have h2:=F.called_set.canCreate
 have hct:=F.typeCall_set_1 (.ref l)
 repeat (any_goals (first | assumption | wp_step))
 refine r_ (KA (.ref l) (E:=E) (Q₁:=fun obj s₁=>obj=.ref s.heap.objs.size/\s₁={ s with heap:=s.heap.push (eQ w) }) ⟨rfl,rfl⟩) fun r s₁ hr=>?_
 cases r with
 | error e=>exact hr
 | ok fl =>
  cases fl with
  | ret obj =>
   obtain ⟨rfl,rfl⟩:=hr
   have hS:(s.heap.push (eQ w)).get? s.heap.objs.size=some (eQ w):=av _ rfl
   have hT:NH { s with heap:=s.heap.push (eQ w) } (.ref s.heap.objs.size) "set":=⟨_,hS,rfl⟩
   have hli:=F.called_set.init.lookup
   have hbi:=F.called_set.init.bind (.ref s.heap.objs.size)
   repeat (any_goals (first | assumption | wp_step))
   refine r_ (codeAny_call_builtin (R:=wants (fun r s₂=>r=.none/\∃ h' tk,s₂={ s with heap:=h',toks:=tk }/\k_ w h' s.heap.objs.size (da [] xs) /\
     (∀ b o,s.heap.get? b=some o->h'.get? b=some o)) E) F.called_set.init.plain F.entry_set_init (check_set_init_1 hT ?_)) fun r₂ s₂ hr₂=>?_
   ·obtain ⟨oc,od,odt,os'⟩:=ol
    obtain ⟨ty,s1,s2,nd,iter⟩:=src
    have ty:oc=.type T:=ty
    subst ty
    have hol':(s.heap.push (eQ w)).get? l=some { cls:=.type T,dict:=od,data:=odt,slots:=os' }:=ac _ hol
    unfold jr.«set.__init__» noKeywords jt
    generalize hPI:wQ=PI
    wp_walk
    subst hPI
    refine iter { s with heap:=s.heap.push (eQ w) } _ _ hol' fun ob St W st=>?_
    have hlS:l<s.heap.objs.size:=aq hol
    refine a7 (El ?_)
    have szp:(s.heap.push (eQ w)).objs.size=s.heap.objs.size + 1:=bY ..
    refine yM (A:=A.in1.in1) W s.heap.objs.size (by rw [szp];simp only [aY,br,or_false,not_or];exact ⟨aD (eC _),eF hlS⟩) xs hx hi hb items.size 0 _ [] (by omega) (cA _) (ar _) st (zD w (ac _ hS)) fun h' tk kp hS'=>?_
    show au _ _ _ _ _ _
    refine a9 ?_
    show au _ _ (ret dI) _ _ _
    refine a9 ⟨rfl,h',tk,rfl,hS',fun b o e=>kp b o ?_ (ac _ (ac _ e))⟩
    have:=aq e
    rw [szp]
    simp only [aY,br,or_false,not_or]
    exact ⟨aD this,aD (dU this)⟩
   ·cases r₂ with
    | error e=>exact hr₂
    | ok fl₂ =>
     cases fl₂ with
     | ret r =>
      obtain ⟨rfl,h',tk,rfl,hS',hk'⟩:=hr₂
      repeat (any_goals (first | assumption | wp_step))
      exact h _ _ hS' hk'
     | next=>exact hr₂.elim
     | brk=>exact hr₂.elim
     | cont=>exact hr₂.elim
  | next=>exact hr.elim
  | brk=>exact hr.elim
  | cont=>exact hr.elim
theorem KB {l:ai}{o:Obj}{its:List aa} (hh:A.handled=none) (e0:o.cls=.type "list") (e1:∃ n,o.data=.seq its.toArray n):Rv prog w A "list" l o its.toArray :=
 ⟨e0,F.sub_list_set,F.sub_list_frozenset,by decide,fun s Q E e h=>pp ⟨_,e,e0,e1⟩
  (h _ _ (HD (by simpa using hh) _ l (aD (aq e)) its.toArray) ⟨⟨_,av _ rfl,rfl,rfl⟩,⟨_,ac _ e,e0,e1⟩⟩)⟩
theorem Oy {l:ai}{o:Obj}{its:List aa} (hh:A.handled=none) (e0:o.cls=.type "tuple") (e1:∃ n,o.data=.seq its.toArray n):Rv prog w A "tuple" l o its.toArray :=
 ⟨e0,F.sub_tuple_set,F.sub_tuple_frozenset,by decide,fun s Q E e h=>f_ ⟨_,e,e0,e1⟩
  (h _ _ (Walks.tuple (by simpa using hh) _ l (aD (aq e)) its.toArray) ⟨⟨_,av _ rfl,rfl,rfl⟩,⟨_,ac _ e,e0,e1⟩⟩)⟩
end
end
end L2
section
namespace L2
open PySem PySem.Spec PyProof.Rows
namespace SI
theorem entry_iter:NI table "set.__iter__"=some jr.«frozenset.__iter__» :=
 Em (id':="frozenset.__iter__") (by kernel_rfl) rfl (by decide +kernel) (by kernel_rfl)
theorem slot_next:Slot "set_iterator" "__next__" "set_iterator.__next__":=by
 refine .of (owner:="set_iterator") (n:="__next__") ?_ ?_ ?_ ?_ ?_ ?_
 ·rw [typeLookup_type,Nm];kernel_rfl
 ·decide +kernel
 ·decide +kernel
 ·decide +kernel
 ·first
   | exact .inl (by decide +kernel)
   | exact .inr (by decide +kernel)
 ·rw [Eo];kernel_rfl
theorem entry_next:NI table "set_iterator.__next__"=some jr.«set_iterator.__next__» :=
 entryFor_of_tree (by kernel_rfl)
theorem Cq:Manifest.owners.lookup (String.ofList ['r','o','t','a','r','e','t','i','_','t','e','s'].reverse)=some Manifest.sig_set_iterator:=by kernel_rfl
theorem args_next (a:aa):argsOk "set_iterator.__next__" ⟨[a],[]⟩:=by
 unfold argsOk
 rw [signature?_of (id:="set_iterator.__next__") (n:=['_','_','t','x','e','n','_','_']) (o:=['r','o','t','a','r','e','t','i','_','t','e','s']) (by kernel_rfl) Cq]
 kernel_rfl
theorem args_iter (a:aa):argsOk "set_iterator.__iter__" ⟨[a],[]⟩:=by
 unfold argsOk
 rw [signature?_of (id:="set_iterator.__iter__") (n:=['_','_','r','e','t','i','_','_']) (o:=['r','o','t','a','r','e','t','i','_','t','e','s']) (by kernel_rfl) Cq]
 kernel_rfl
theorem entry_self:NI table "set_iterator.__iter__"=some jr.«dict_keyiterator.__iter__» :=
 Em (id':="dict_keyiterator.__iter__") (by kernel_rfl) rfl (by decide +kernel) (by kernel_rfl)
theorem slot_iter:Slot "set_iterator" "__iter__" "set_iterator.__iter__":=by
 refine .of (owner:="set_iterator") (n:="__iter__") ?_ ?_ ?_ ?_ ?_ ?_
 ·rw [typeLookup_type,Nm];kernel_rfl
 ·decide +kernel
 ·decide +kernel
 ·decide +kernel
 ·first
   | exact .inl (by decide +kernel)
   | exact .inr (by decide +kernel)
 ·rw [Eo];kernel_rfl
end SI
end L2
end
namespace L2
open PySem PySem.Spec PyProof.Rows
section
theorem sv {α:Type}:∀ {l:List α}{i:Nat} (h:i<l.length),(l[i]::l.eraseIdx i).Perm l
 | x::r,0,_=>.refl _
 | x::r,i + 1,h=>by
  have q:=sv (l:=r) (i:=i) (by simpa using h)
  rw [List.getElem_cons_succ,List.eraseIdx_cons_succ]
  exact (List.Perm.swap _ _ _).trans (q.cons x)
section
variable {M:yu}{A:aU}{E:aa->ae->Prop}{s:ae}
theorem Il   (hn:n≠0) (h:∀ i d,i<n->Q i { s with drawn:=d }):au M A (choose src n) Q E s :=
 fun _ _ _=>⟨hn,h _ _ (Ap _ (Nat.pos_of_ne_zero hn))⟩
theorem u0 {α:Type}:∀ (n:Nat) (xs:List α) (s:ae) (Q:List α->ae->Prop),n=xs.length->(∀ ys d,ys.Perm xs->Q ys { s with drawn:=d })->au M A (drawOrder n xs) Q E s
 | 0,xs,s,Q,hn,h=>by
  obtain rfl:xs=[]:=List.length_eq_zero_iff.mp hn.symm
  exact a9 (h [] s.drawn .nil)
 | n + 1,[],s,Q,hn,h=>by cases hn
 | n + 1,x::r,s,Q,hn,h=>by
  show au M A (choose .order (x::r).length >>= _) Q E s
  refine a7 (Il (by simp) fun i d hi=>?_)
  rw [aV hi]
  refine a7 (u0 n _ _ _ (by rw [zo hi];omega) fun ys d' p=>a9 ?_)
  exact h _ _ ((p.cons _).trans (sv hi))
end
theorem AH {α:Type} (next:Nat->Nat):∀ (n k:Nat) (left:List α) (out:Array α),n=left.length->(yA next n k left out).toList.Perm (out.toList++left)
 | 0,k,left,out,hn=>by
  obtain rfl:left=[]:=List.length_eq_zero_iff.mp hn.symm
  rw [yA,cf]
 | n + 1,k,left,out,hn=>by
  have hl:next k % left.length<left.length:=Ap _ (by omega)
  rw [yA,aV hl]
  refine (AH next n (k + 1) _ _ (by rw [zo hl];omega)).trans ?_
  rw [i8,dQ]
  exact (sv hl).append_left _
theorem uZ {α:Type} (next:Nat->Nat) (xs:Array α):(nO next xs).toList.Perm xs.toList:=by
 have:=AH next xs.size 0 xs.toList #[] (by simp)
 simpa [nO] using this
def AI (h:bB) (I S:ai) (first:aa) (i n ep:Nat):Prop:=h.get? I=some { cls:=.type "set_iterator",data:=.fields #[first,.int i 0,.ref S,.int n 0,.int ep 0] }
section
variable {prog:aH}{w:aZ}{A:aU}{E:aa->ae->Prop}{s:ae}{I S:ai}{es:Array (Int×aa)}{ep:Nat}{t:j9}{i n:Nat}{first:aa}
theorem AI.put {f f':aa}{j j':Nat}{k:Nat}{x:aa}{h:bB} (hit:AI h I S f j n ep) (e:(#[f,.int j 0,.ref S,.int n 0,.int ep 0] : Array aa).setIfInBounds k x=#[f',.int j' 0,.ref S,.int n 0,.int ep 0]) :
  AI (h.update I (dR (·.setIfInBounds k x))) I S f' j' n ep:=by
 have q:=fG (dR (·.setIfInBounds k x)) hit rfl
 unfold AI
 rw [q]
 show some ({ cls:=.type "set_iterator",data:=.fields ((#[f,.int j 0,.ref S,.int n 0,.int ep 0] : Array aa).setIfInBounds k x) }:Obj)=_
 rw [e]
theorem qA (hit:AI s.heap I S first i n ep) (hS:cR w s.heap S es ep t) (hn:n=es.size)
  (h:au (ay prog w) A.in1 (do
   if let .int slot _:=first then
    match <- JV S slot.toNat i ep with
    | some (x,next) =>
     hZ (.ref I) 0 (c7 next)
     hZ (.ref I) 1 (c7 (i + 1))
     ret x
    | none=>hZ (.ref I) 2 .none;rc (<- se (.type "StopIteration") [])
   else
    let some places <- Jw first | uN "internal:set_iterator"
    match places[i]? with
    | some (.int place _) =>
     let x <- setNextDrawn S place.toNat ep
     hZ (.ref I) 1 (c7 (i + 1))
     ret x
    | some _=>uN "internal:set_iterator"
    | none=>hZ (.ref I) 0 (c7 0);hZ (.ref I) 2 .none;rc (<- se (.type "StopIteration") []))
   (fun fin s'=>∃ v,fin=.done (.ret v)/\Q (some v) s') (fun e s'=>au (ay prog w) A (isInstance e (.type "StopIteration")) (fun b s''=>b=true/\Q none s'') E s') s) :
  au (ay prog w) A (kU (.ref I)) Q E s:=by
 unfold kU
 refine a7 (jM ?_)
 refine cc (name:=gy "__next__") ⟨_,hit,rfl⟩ SI.slot_next ?_
 refine bF SI.slot_next ⟨_,hit,rfl⟩ SI.entry_next ?_ (SI.args_next _)
 show au _ _ (fieldsOf (.ref I) >>= _) _ _ s
 refine a7 (Ep hit rfl ?_)
 show au _ _ (setEntries S >>= _) _ _ s
 refine a7 (wpAny_setEntries_of hS.at_ rfl hS.fits ?_)
 rw [if_neg (by rw [hn];simp)]
 refine bH h (fun fin s' z=>?_) fun e s' z=>?_
 ·obtain ⟨v,rfl,q⟩:=z
  exact ⟨v,rfl,a9 q⟩
 ·refine a7 (bH z (fun b s'' ⟨hb,q⟩=>?_) fun _ _ z=>z)
  subst hb
  exact a9 q
theorem AJ {B:aU}{Q:Option aa->ae->Prop}{Q':Fin->ae->Prop}{o:Obj}{vs:Array aa} (hh:B.handled=none) (ho:s.heap.get? I=some o) (hd:o.data=.fields vs) (hz:2<vs.size)
  (h:∀ h',FU I s.heap h'->Q none { s with heap:=h' }) :
  au (ay prog w) B (do hZ (.ref I) 2 .none;rc (<- se (.type "StopIteration") []))
   Q' (fun e s'=>au (ay prog w) A (isInstance e (.type "StopIteration")) (fun b s''=>b=true/\Q none s'') E s') s:=by
 refine a7 (g9 ho hd hz ?_)
 show au _ _ (se (.type "StopIteration") [] >>= _) _ _ _
 refine a7 ?_
 simp only [se,NJ]
 refine a7 (bM ?_ (by size_fits))
 refine a7 (m:=kY _ _) (eO (a:=dI) ?_ ?_)
 ·first
   | rfl
   | (simp only [kY];rfl)
 refine bM ?_ (by size_fits)
 simp only [rc]
 refine a7 (HE ?_)
 rw [hh]
 refine a7 (a9 (NK ?_))
 refine fQ (T:="StopIteration") (b:=true) ⟨_,av _ rfl,rfl⟩ uO ⟨rfl,?_⟩
 exact h _ (((bG ..).extBut.push _).push _)
end
end
section
section
variable {prog:aH}{w:aZ}{A:aU}{E:aa->ae->Prop}{s:ae}{I S:ai}{es:Array (Int×aa)}{ep:Nat}{t:j9}{i n:Nat}{first:aa}
theorem cR.keep (x:cR w h S es ep t) (k:∀ o,h.get? S=some o->h'.get? S=some o):cR w h' S es ep t:=⟨k _ x.at_,x.txt,x.nd,x.few,x.fits,x.led,x.pl⟩
theorem AK {Q:aa->ae->Prop} (hit:AI s.heap I S first i n ep) (h:Q (.ref I) s):au (ay prog w) A (wQ (.ref I)) Q E s:=by
 refine yB ⟨_,hit,rfl⟩ SI.slot_iter (bF SI.slot_iter ⟨_,hit,rfl⟩ SI.entry_self ?_ (SI.args_iter _))
 show au _ _ (ret (.ref I)) _ _ s
 exact a9 ⟨_,rfl,"set_iterator",_,⟨_,hit,rfl⟩,SI.slot_next.lookup,h⟩
theorem eT {Q:Bool->ae->Prop}{B:aU} (h:Q (w.params.followText "set-order") s):au (ay prog w) B setsByText Q E s:=by
 unfold setsByText
 exact a7 (hX (a9 h))
theorem KC {B:aU}{Q':Fin->ae->Prop}{x:aa}{nx:Nat}{E':aa->ae->Prop} (hit:AI s.heap I S first i n ep)
  (h:∀ h',AI h' I S (.int nx 0) (i + 1) n ep->bJ I s.heap h'->Q' (.done (.ret x)) { s with heap:=h' }) :
  au (ay prog w) B (do hZ (.ref I) 0 (c7 nx);hZ (.ref I) 1 (c7 (i + 1));ret x) Q' E' s:=by
 refine a7 (g9 hit rfl (by simp) ?_)
 have h1:AI (s.heap.update I (dR (·.setIfInBounds 0 (c7 nx)))) I S (.int nx 0) i n ep:=hit.put (by simp [c7])
 refine a7 (g9 h1 rfl (by simp) ?_)
 have h2:AI ((s.heap.update I (dR (·.setIfInBounds 0 (c7 nx)))).update I (dR (·.setIfInBounds 1 (c7 (i + 1))))) I S (.int nx 0) (i + 1) n ep:=h1.put (by simp [c7])
 exact a9 (h _ h2 ((bG ..).trans (bG ..)))
theorem u_ (f:Nat->Nat) (es:Array (Int×aa)):(nO f es).size=es.size:=by
 rw [<- ao,(uZ f es).length_eq,ao]
theorem EN (hh:A.handled=none) (hw:w.params.followText "set-order"=true) (hne:S≠I) :
  NF prog w A I [I,S] [I] es.size (fun i v=>((nO (w.params.setOrder S ep) es).toList.map (·.2))[i]?=some v) (fun i h=>AI h I S (.int 0 0) i es.size ep/\cR w h S es ep t) where
 sub:=fun b hb=>by simp at hb;simp [hb]
 frame:=fun i h h' st k=>⟨k I (by simp) _ st.1,st.2.keep fun o e=>k S (by simp) o e⟩
 item:=fun i s Q E hi st hQ=>by
  obtain ⟨hit,hS⟩:=st
  refine qA hit hS rfl ?_
  dsimp only
  unfold JV setWalk
  refine a7 (a7 (bx hS.at_ rfl hS.fits (a7 (eT ?_))))
  rw [hw]
  simp only [if_true,bne_self_eq_false,bv,if_false]
  refine a7 (a7 (bx hS.at_ rfl hS.fits (a7 (eT ?_))))
  rw [hw]
  simp only [if_true]
  refine a7 (hX (a9 (a9 ?_)))
  have hi':i<(nO (w.params.setOrder S ep) es).size:=by rw [u_];exact hi
  show au _ _ (match ((nO (w.params.setOrder S ep) es)[i]?).map fun e=>(e.2,(0:Int).toNat) with
   | some (x,next)=>do hZ (.ref I) 0 (c7 next);hZ (.ref I) 1 (c7 (i + 1));ret x
   | none=>do hZ (.ref I) 2 .none;rc (<- se (.type "StopIteration") [])) _ _ s
  rw [getElem?_pos _ i hi']
  refine KC (nx:=0) hit fun h' h1 sb=>⟨_,rfl,hQ _ h' s.toks ?_ ⟨h1,hS.keep fun o e=>(sb.2 S hne).trans e⟩ fun b o hb e=>(sb.2 b fun z=>hb (by simp [z])).trans e⟩
  simp [hi']
 done:=fun s Q E st hQ=>by
  obtain ⟨hit,hS⟩:=st
  refine qA hit hS rfl ?_
  dsimp only
  unfold JV setWalk
  refine a7 (a7 (bx hS.at_ rfl hS.fits (a7 (eT ?_))))
  rw [hw]
  simp only [if_true,bne_self_eq_false,bv,if_false]
  refine a7 (a7 (bx hS.at_ rfl hS.fits (a7 (eT ?_))))
  rw [hw]
  simp only [if_true]
  refine a7 (hX (a9 (a9 ?_)))
  show au _ _ (match ((nO (w.params.setOrder S ep) es)[es.size]?).map fun e=>(e.2,(0:Int).toNat) with
   | some (x,next)=>do hZ (.ref I) 0 (c7 next);hZ (.ref I) 1 (c7 (es.size + 1));ret x
   | none=>do hZ (.ref I) 2 .none;rc (<- se (.type "StopIteration") [])) _ _ s
  rw [getElem?_neg _ es.size (by rw [u_];exact bP _)]
  exact AJ (by simpa using hh) hit rfl (by simp) fun h' eb=>hQ h' s.toks fun b o hb e=>eb b o (fun z=>hb (by simp [z])) e
 self:=fun i s Q E st h=>AK st.1 h
inductive VB (h:bB) (T:ai) (ps:List Nat):Prop
 | mk (o k:_) (h0:h.get? T=some o) (h1:o.data=.seq (ps.map fun (p:Nat)=>nR (p:Int) 0).toArray k):VB h T ps
theorem Cr (hh:A.handled=none)  (hne:S≠I) (hT:T≠I) (hp:∀ p∈ps,p<es.size) (hn:ps.length=es.size) :
  NF prog w A I [I,S,T] [I] es.size (fun i v=>(ps.map fun p=>(es.getD p (0,.none)).2)[i]?=some v) (fun i h=>AI h I S (.ref T) i es.size ep/\cR w h S es ep t/\VB h T ps) where
 sub:=fun b hb=>by simp at hb;simp [hb]
 frame:=fun i h h' st k=>⟨k I (by simp) _ st.1,st.2.1.keep fun o e=>k S (by simp) o e,let ⟨o,q,e,d⟩:=st.2.2;⟨o,q,k T (by simp) o e,d⟩⟩
 item:=fun i s Q E hi st hQ=>by
  obtain ⟨hit,hS,o,q,e,d⟩:=st
  refine qA hit hS rfl ?_
  dsimp only
  refine a7 (eP e d ?_)
  have hi':i<ps.length:=by omega
  dsimp only
  rw [show ((ps.map fun (p:Nat)=>nR (p:Int) 0).toArray)[i]?=some (.int (ps[i] : Nat) 0) by simp [hi']]
  dsimp only
  unfold setNextDrawn
  refine a7 (a7 (bx hS.at_ rfl hS.fits ?_))
  have hlt:=hp ps[i] (iU hi')
  simp only [bne_self_eq_false,bv,if_false,jV]
  rw [getElem?_pos es ps[i] hlt]
  refine a9 ?_
  refine a7 (g9 hit rfl (by simp) ?_)
  have h1:AI (s.heap.update I (dR (·.setIfInBounds 1 (c7 (i + 1))))) I S (.ref T) (i + 1) es.size ep:=hit.put (by simp [c7])
  have sb:bJ I s.heap (s.heap.update I (dR (·.setIfInBounds 1 (c7 (i + 1))))):=bG ..
  refine a9 ⟨_,rfl,hQ _ _ s.toks ?_ ⟨h1,hS.keep fun o e=>(sb.2 S hne).trans e,o,q,(sb.2 T hT).trans e,d⟩ fun b o hb e=>(sb.2 b fun z=>hb (by simp [z])).trans e⟩
  simp [hi',hlt]
 done:=fun s Q E st hQ=>by
  obtain ⟨hit,hS,o,q,e,d⟩:=st
  refine qA hit hS rfl ?_
  dsimp only
  refine a7 (eP e d ?_)
  dsimp only
  rw [show ((ps.map fun (p:Nat)=>nR (p:Int) 0).toArray)[es.size]?=none by simp [<- hn]]
  dsimp only
  refine a7 (g9 hit rfl (by simp) ?_)
  have h1:AI (s.heap.update I (dR (·.setIfInBounds 0 (c7 0)))) I S (.int 0 0) es.size es.size ep:=hit.put (by simp [c7])
  have sb:bJ I s.heap (s.heap.update I (dR (·.setIfInBounds 0 (c7 0)))):=bG ..
  exact AJ (s:={ s with heap:=s.heap.update I (dR (·.setIfInBounds 0 (c7 0))) }) (by simpa using hh) h1 rfl (by simp) fun h' eb=>hQ h' s.toks fun b o hb e=>eb b o (fun z=>hb (by simp [z])) ((sb.2 b fun z=>hb (by simp [z])).trans e)
 self:=fun i s Q E st h=>AK st.1 h
theorem KD  (h:p=#[j]):ic p 0=0:=by subst h;simp [ic,yC]
theorem KF {p:Array Nat}{j:Nat} (h:p=#[j]):ic p (j + 1)=1:=by subst h;simp [ic,yC]
theorem Im (h : t.fits 1 = true) : ∃ j, t.place = #[j] := by
  have h1 : t.place.size = 1 := by
    simp only [mw, aO, beq_iff_eq] at h; exact h.1
  exact ⟨t.place[0], by apply Array.ext; · simp [h1]
                        · intro i h2 h3; have : i = 0 := by omega
                          subst this; simp⟩
theorem Rw   (hl:t.led=true) (h:au (ay prog w) B (k ()) Q E s) :
  au (ay prog w) B ((if (!t.led && !es.isEmpty)=true then uN "set:maker-not-led" else pure ()) >>= k) Q E s:=by
 rw [if_neg (by rw [hl];simp)]
 exact a7 (a9 h)
theorem u4 {B:aU}{slot g:Nat}{Q:Option (aa×Nat)->ae->Prop} (hw:w.params.followText "set-order"=false) (hS:cR w s.heap S es ep t) (h1:es.size<=1)
  (h:Q (match es[ic t.place slot]?,t.place[ic t.place slot]? with | some (_,x),some j=>some (x,j + 1) | _,_=>none) s):au (ay prog w) B (JV S slot g ep) Q E s:=by
 unfold JV
 refine a7 (bx hS.at_ rfl hS.fits (a7 (eT ?_)))
 rw [hw]
 simp only [bv,if_false]
 split
 ·rename_i z
  exact absurd (show (!t.plain && decide (es.size > 1))=true from z) (by simp;omega)
 ·have hl:t.led=true:=by rw [hS.led,hw];rfl
  exact Rw hl (a9 h)
theorem Io (hh:A.handled=none) (hw:w.params.followText "set-order"=false) (hne:S≠I) (h1:es.size<=1) :
  NF prog w A I [I,S] [I] es.size (fun i v=>(es.toList.map (·.2))[i]?=some v)
   (fun i h=>∃ k,AI h I S (.int (k:Nat) 0) i es.size ep/\cR w h S es ep t/\(i=0->k=0)/\(i=1->es.size=1->∃ j,t.place=#[j]/\k=j + 1)) where
 sub:=fun b hb=>by simp at hb;simp [hb]
 frame:=fun i h h' st k=>let ⟨c,a1,a2,a3⟩:=st;⟨c,k I (by simp) _ a1,a2.keep fun o e=>k S (by simp) o e,a3⟩
 item:=fun i s Q E hi st hQ=>by
  obtain ⟨c,hit,hS,c0,c1⟩:=st
  have hi0:i=0:=by omega
  subst hi0
  obtain rfl:c=0:=c0 rfl
  have e1:es.size=1:=by omega
  obtain ⟨j,hj⟩:=Im (t:=t) (by rw [<- e1];exact hS.fits)
  refine qA hit hS rfl ?_
  dsimp only
  refine a7 (u4 hw hS h1 ?_)
  rw [show (((0:Nat):Int).toNat)=0 from rfl,KD hj,getElem?_pos es 0 (by omega),hj]
  refine KC (nx:=j + 1) hit fun h' h1 sb=>⟨_,rfl,hQ _ h' s.toks ?_ ⟨j + 1,h1,hS.keep fun o e=>(sb.2 S hne).trans e,by simp,fun _ _=>⟨j,hj,rfl⟩⟩ fun b o hb e=>(sb.2 b fun z=>hb (by simp [z])).trans e⟩
  simp [e1]
 done:=fun s Q E st hQ=>by
  obtain ⟨c,hit,hS,c0,c1⟩:=st
  refine qA hit hS rfl ?_
  dsimp only
  refine a7 (u4 hw hS h1 ?_)
  have hz:es[ic t.place ((c:Nat):Int).toNat]?=none:=by
   rcases fH es.size with z | z
   ·rw [getElem?_neg];omega
   ·have e1:es.size=1:=by omega
    obtain ⟨j,hj,hc⟩:=c1 e1 e1
    rw [hc,show (((j + 1:Nat):Int).toNat)=j + 1 from rfl,KF hj,getElem?_neg];omega
  rw [hz]
  exact AJ (by simpa using hh) hit rfl (by simp) fun h' eb=>hQ h' s.toks fun b o hb e=>eb b o (fun z=>hb (by simp [z])) e
 self:=fun i s Q E st h=>let ⟨_,a1,_⟩:=st;AK a1 h
theorem EO {Q:aa->ae->Prop} (hh:A.handled=none) (hS:cR w s.heap S es ep t)
  (h:∀ (I:ai) (fp:List ai) (ord:List aa) (St:Nat->bB->Prop) (h':bB) (d:Jp),s.heap.objs.size<=I->(∀ b∈fp,b=S\/s.heap.objs.size<=b)->(∀ b∈fp,b<h'.objs.size)->ord.Perm (es.toList.map (·.2))->(∀ B:aU,B.handled=none->NF prog w B I fp [I] ord.length (fun i v=>ord[i]?=some v) St)->St 0 h' ->
   (∀ b o,s.heap.get? b=some o->h'.get? b=some o)->NH { s with heap:=h',drawn:=d } (.ref I) "set_iterator"->Q (.ref I) { s with heap:=h',drawn:=d }):au (ay prog w) A (wQ (.ref S)) Q E s:=by
 have hT:s.TypeIs (.ref S) "set":=⟨_,hS.at_,rfl⟩
 have hlt:=aq hS.at_
 refine yB hT F.slot_set_iter (bF F.slot_set_iter hT SI.entry_iter ?_ (F.args_set_iter_1 _))
 show au _ _ (sf S >>= _) _ _ s
 unfold sf
 refine a7 (a7 (wpAny_setEntries_of hS.at_ rfl hS.fits (a9 ?_)))
 show au _ _ (setDrawn S >>= _) _ _ s
 unfold setDrawn
 refine a7 (a7 (bx hS.at_ rfl hS.fits (a7 (eT (a9 ?_)))))
 have fin:∀ (first:aa) (fp:List ai) (ord:List aa) (St:Nat->bB->Prop) (h':bB) (d:Jp),(∀ b o,s.heap.get? b=some o->h'.get? b=some o)->s.heap.objs.size<=h'.objs.size ->
   (∀ b∈fp,b=S\/b=h'.objs.size\/(s.heap.objs.size<=b/\b<h'.objs.size))->ord.Perm (es.toList.map (·.2))->(∀ B:aU,B.handled=none->NF prog w B h'.objs.size fp [h'.objs.size] ord.length (fun i v=>ord[i]?=some v) St) ->
   (∀ h'':bB,(∀ b o,h'.get? b=some o->h''.get? b=some o)->AI h'' h'.objs.size S first 0 es.size ep->St 0 h'') ->
   au (ay prog w) A.in1 (setEpoch S >>= fun e=>newFields "set_iterator" [first,c7 0,.ref S,c7 es.size,c7 e] >>= fun x=>ret x) (fun fin s'=>∃ v,fin=.done (.ret v)/\∃ T' r,s'.TypeIs v T'/\typeLookup (.type T') "__next__"=pure (some r)/\Q v s') E { s with heap:=h',drawn:=d }:=by
  intro first fp ord St h' d kp hsz hfp pm W st
  have hS':cR w h' S es ep t:=hS.keep fun o e=>kp S o e
  refine a7 (wpAny_setEpoch_of (s:={ s with heap:=h',drawn:=d }) hS'.at_ rfl hS'.fits ?_)
  refine a7 (bM ?_ (by size_fits))
  have gp:∀ b o,h'.get? b=some o->(h'.push { cls:=.type "set_iterator",dict:=none,data:=.fields #[first,c7 0,.ref S,c7 es.size,c7 ep] }).get? b=some o:=fun b o e=>ac _ e
  have it:(h'.push { cls:=.type "set_iterator",dict:=none,data:=.fields #[first,c7 0,.ref S,c7 es.size,c7 ep] }).get? h'.objs.size=some { cls:=.type "set_iterator",dict:=none,data:=.fields #[first,c7 0,.ref S,c7 es.size,c7 ep] }:=av _ rfl
  refine a9 ⟨_,rfl,"set_iterator",_,⟨_,it,rfl⟩,SI.slot_next.lookup,h h'.objs.size fp ord St _ d hsz (fun b hb=>?_) (fun b hb=>?_) pm W (st _ gp it) (fun b o e=>gp b o (kp b o e)) ⟨_,it,rfl⟩⟩
  ·rcases hfp b hb with z | z | z
   ·exact .inl z
   ·exact .inr (by rw [z];exact hsz)
   ·exact .inr z.1
  ·rw [bY]
   rcases hfp b hb with z | z | z
   ·rw [z];exact dU (aA hlt hsz)
   ·rw [z];exact eC _
   ·exact dU z.2
 dsimp only
 split
 ·rename_i z
  have z:(!w.params.followText "set-order" && (!t.plain && decide (es.size > 1)))=true:=z
  refine a7 (u0 _ _ _ _ (by simp) fun ys d pm=>?_)
  simp only [NJ]
  have hyl:ys.length=es.size:=by have:=pm.length_eq;rwa [eL] at this
  have zl:=e_ hS.few
  refine a7 (bM ?_ (by show (ys.map fun (i:Nat)=>c7 i).toArray.size<=sizeLine;simp;omega))
  have tp:∀ ob:Obj,(s.heap.push ob).objs.size=s.heap.objs.size + 1:=fun ob=>bY ..
  refine fin (.ref s.heap.objs.size) [s.heap.objs.size + 1,S,s.heap.objs.size] (ys.map fun p=>(es.getD p (0,.none)).2)
   (fun i h=>AI h (s.heap.objs.size + 1) S (.ref s.heap.objs.size) i es.size ep/\cR w h S es ep t/\VB h s.heap.objs.size ys) (s.heap.push _) d
   (fun b o e=>ac _ e) (by rw [tp];exact jL _) (fun b hb=>?_) ?_ (fun B hB=>?_) (fun h'' k it=>⟨by rw [tp] at it;exact it,hS.keep fun o e=>k S o (ac _ e),_,_,k _ _ (av _ rfl),rfl⟩)
  ·simp only [aY,br,or_false] at hb
   rcases hb with y | y | y
   ·exact .inr (.inl (by rw [tp];exact y))
   ·exact .inl y
   ·exact .inr (.inr ⟨by rw [y];exact ar _,by rw [tp,y];exact eC _⟩)
  ·refine (pm.map _).trans (.of_eq ?_)
   apply wv
   ·simp
   ·intro k h1 h2
    have:k<es.size:=by simpa using h1
    simp [this]
  ·rw [ak,hyl,tp]
   exact Cr hB (aD (dU hlt)) (aD (eC _)) (fun p hp=>List.mem_range.mp (pm.mem_iff.mp hp)) hyl
 ·rename_i z
  have z:¬ (!w.params.followText "set-order" && (!t.plain && decide (es.size > 1)))=true:=z
  refine a7 (a9 ?_)
  have hne:S≠s.heap.objs.size:=aD hlt
  cases hw:w.params.followText "set-order" with
  | true =>
   refine fin (c7 0) [s.heap.objs.size,S] ((nO (w.params.setOrder S ep) es).toList.map (·.2)) (fun i h=>AI h s.heap.objs.size S (.int 0 0) i es.size ep/\cR w h S es ep t) s.heap s.drawn (fun _ _ e=>e) (ar _) (fun b hb=>?_) ((uZ _ es).map _) (fun B hB=>?_) (fun h'' k it=>⟨it,hS.keep fun o e=>k S o e⟩)
   ·simp only [aY,br,or_false] at hb
    exact hb.elim (fun z=>.inr (.inl z)) .inl
   ·rw [ak,ao,u_]
    exact EN hB hw hne
  | false =>
   have h1:es.size<=1:=by
    rw [hw] at z
    rcases hS.pl with y | y
    ·omega
    ·rw [y] at z;simpa using z
   refine fin (c7 0) [s.heap.objs.size,S] (es.toList.map (·.2)) (fun i h=>∃ k,AI h s.heap.objs.size S (.int (k:Nat) 0) i es.size ep/\cR w h S es ep t/\(i=0->k=0)/\(i=1->es.size=1->∃ j,t.place=#[j]/\k=j + 1)) s.heap s.drawn (fun _ _ e=>e) (ar _) (fun b hb=>?_) (.refl _) (fun B hB=>?_) (fun h'' k it=>⟨0,it,hS.keep fun o e=>k S o e,fun _=>rfl,fun y=>by cases y⟩)
   ·simp only [aY,br,or_false] at hb
    exact hb.elim (fun z=>.inr (.inl z)) .inl
   ·rw [ak,ao]
    exact Io hB hw hne h1
end
end
section
section
variable {prog:aH}{w:aZ}{A:aU}{E:aa->ae->Prop}{s:ae}{S:ai}{es:Array (Int×aa)}{ep:Nat}{t:j9}
theorem Cs (hh:A.handled=none) (hS:cR w s.heap S es ep t)
  (h:∀ (ord:List aa) (h':bB) (d:Jp) (tk:Nat),ord.Perm (es.toList.map (·.2))->(∀ b o,s.heap.get? b=some o->h'.get? b=some o)->s.heap.objs.size<=h'.objs.size->Q ord { s with heap:=h',drawn:=d,toks:=tk }) :
  au (ay prog w) A (yD (.ref S)) Q E s:=by
 have hlt:=aq hS.at_
 unfold yD
 refine a7 (El (gJ Jx ?_))
 rw [eE Jy _]
 show au _ A.in1 (newList [] >>= fun l=>NA (.builtin "list.__iadd__" ⟨[l,.ref S],[]⟩)) _ _ s
 refine a7 (bM ?_)
 refine a9 ⟨pJ oU _,gJ F.entry_list_iadd ?_⟩
 rw [eE oU _]
 let s1:ae:={ s with heap:=s.heap.push { cls:=.type "list",data:=.seq ([] : List aa).toArray } }
 have sz1:s1.heap.objs.size=s.heap.objs.size + 1:=bY ..
 have at1:s1.heap.get? s.heap.objs.size=some { cls:=.type "list",data:=.seq ([] : List aa).toArray }:=av _ rfl
 have hS1:cR w s1.heap S es ep t:=hS.keep fun o e=>ac _ e
 show au _ A.in1 (ke (.ref s.heap.objs.size) (.ref S) (.ref s.heap.objs.size)) _ _ s1
 have hT1:s1.TypeIs (.ref S) "set":=⟨_,hS1.at_,rfl⟩
 unfold ke
 refine a7 (sd hT1 ?_)
 have e1:vz (.ref s.heap.objs.size) (.ref S)=false:=by simp [vz,eF hlt]
 have e2:(iB "set" == iB "list")=false:=by decide
 have e3:(iB "set" == iB "tuple")=false:=by decide
 simp only [e1,e2,e3,Bool.or_false,bv,if_false]
 refine a7 (EO (A:=A.in1) (by simpa using hh) hS1 fun I fp ord St h' d hI hfp hfl pm W st kp tI=>?_)
 let s2:ae:={ s1 with heap:=h',drawn:=d }
 have hS2:cR w s2.heap S es ep t:=hS1.keep fun o e=>kp S o e
 have hT2:s2.TypeIs (.ref S) "set":=⟨_,hS2.at_,rfl⟩
 refine a7 (de ?_)
 unfold Builtin.List.listLengthHint
 refine a7 (wpAny_specialOf (s:=s2) hT2 F.slot_set_len.lookup ?_)
 dsimp only
 rw [show splitId "set.__len__"=some ("set","__len__") from by decide +kernel]
 dsimp only
 refine a7 (fQ (b:=true) (s:=s2) hT2 (by rw [Eo];kernel_rfl) ?_)
 rw [if_neg (by decide),if_pos (by decide)]
 refine a7 (sd (s:=s2) hT2 (a9 ?_))
 rw [if_pos (by decide)]
 refine a7 (cU ?_)
 have nS:s.heap.objs.size∉fp:=fun z=>by
  rcases hfp _ z with q | q
  ·exact absurd hlt (by rw [<- q];exact bP _)
  ·rw [sz1] at q;exact absurd q (Nat.not_succ_le_self _)
 have at2:s2.heap.get? s.heap.objs.size=some { cls:=.type "list",data:=.seq ([] : List aa).toArray }:=kp _ _ at1
 refine a7 ?_
 show au _ A.in1 (updateSeq s.heap.objs.size (·.push .none) >>= fun _=>updateSeq s.heap.objs.size (·.pop)) _ _ s2
 refine a7 (wpAny_updateSeq at2 rfl ?_)
 have at3:=fG (gE (·.push dI)) at2 rfl
 refine wpAny_updateSeq at3 rfl ?_
 have at4:=fG (gE (·.pop)) at3 rfl
 have oth:∀ b o,b≠s.heap.objs.size->s2.heap.get? b=some o->((s2.heap.update s.heap.objs.size (gE (·.push dI))).update s.heap.objs.size (gE (·.pop))).get? b=some o :=
  fun b o hb e=>(eY _ _ (cQ hb)).trans ((eY _ _ (cQ hb)).trans e)
 have zl:ord.length<=sizeLine:=by rw [pm.length_eq,ak,ao];exact e_ hS.few
 have W1:=W A.in1 (by simpa using hh)
 refine a9 ⟨pJ F.plain_extend_loop _,codeAny_extend_loopS (A:=A) W1.toS zl _ nS _ ord.length 0 { s2 with heap:=(s2.heap.update s.heap.objs.size (gE (·.push dI))).update s.heap.objs.size (gE (·.pop)) } _ _ rfl (cA _) (W1.frame 0 _ _ st fun b hb o e=>oth b o (fun z=>nS (z ▸ hb)) e) at4 (ItemsOf.nil _) fun s' acc' c' hm hS' hacc=>?_⟩
 show au _ A (load s.heap.objs.size >>= _) _ _ s'
 refine a7 (wpAny_load hS' (a9 ?_))
 have hacc':acc'.toList=ord:=by
  apply vA
  intro j
  rw [aE]
  by_cases hj:j<acc'.size
  ·have:=hacc.2 j acc'[j] (by simp [hj])
   rw [this];simp [hj]
  ·rw [getElem?_neg acc' j hj,cy (by rw [<- hacc.1];omega)]
 rw [hacc']
 obtain ⟨h3,g3,d3,t3,o3⟩:=s'
 obtain rfl:g3=s.gens:=hm.gens
 obtain rfl:d3=d:=hm.drawn
 obtain rfl:o3=s.os:=hm.os
 have old:∀ b o,s.heap.get? b=some o->h3.get? b=some o:=fun b o e=>by
  have hb:=aq e
  refine hm.heap b o ?_ (oth b o (aD hb) (kp b o (ac _ e)))
  simp only [aY,br,or_false,not_or]
  exact ⟨aD hb,aD (aA hb (by have q:=hI;rw [sz1] at q;exact Nat.le_of_succ_le q))⟩
 refine h ord h3 _ t3 pm old ?_
 have:=aq (show h3.get? s.heap.objs.size=some _ from hS')
 exact bW this
theorem Ct  (hc:au (ay prog w) A.in1 (yD x) (fun vs s1=>∃ ss,pv vs ss/\vs.length<64 /\
   ∀ (h':bB) (vs':List aa) (ss':List Str) (e:Nat),(∀ b o,s1.heap.get? b=some o->h'.get? b=some o)->h'.get? s1.heap.objs.size=some (iR "list" vs'.toArray e)->pv vs' ss'->ss'.Perm ss->sortedS ss'=true ->
    Q (.ref s1.heap.objs.size) { s1 with heap:=h' }) E s):au (ay prog w) A (call (.builtin "sorted") [x]) Q E s:=by
 refine mT kind_sorted plain_sorted entry_sorted (args_sorted1 _) ?_
 unfold jr.«sorted»
 refine a7 (m:=checkCount "sorted" 1 1 _) (a9 ?_)
 refine a7 (bH hc (fun vs s1 z=>?_) fun _ _ z=>z)
 obtain ⟨ss,hss,h64,hq⟩:=z
 refine a7 (HF ?_)
 have at1:(s1.heap.push (iR "list" vs.toArray 0)).get? s1.heap.objs.size=some (iR "list" vs.toArray 0):=av _ rfl
 show au _ _ _ _ _ { s1 with heap:=s1.heap.push (iR "list" vs.toArray 0) }
 refine a7 (de (bF slot_list_sort ⟨_,at1,rfl⟩ entry_list_sort (list_sort_treeK strKind_oneLt at1 hss.keysOf (fun v₁ v₂ bS e=>keyKind_strs (by rw [<- e];exact hss)) h64 fun st' a1 a2=>⟨_,rfl,?_⟩) (args_list_sort _)))
 obtain ⟨ss',p1,p2,p3⟩:=sorted_out_str hss a1 a2
 obtain ⟨e,at2⟩:=sortedHeap_at (out:=(aJ st').map (·.2)) at1
 refine a9 ⟨_,rfl,hq _ _ ss' e (fun b o q=>?_) at2 p1 p2 p3⟩
 have hb:=aq q
 rw [sortedHeap_old (aD hb) (by rw [bY];exact dU hb)]
 exact ac _ q
end
end
section
def oX (x y:Str):Bool:=decide (x.cps.toList<y.cps.toList)
def EQ (x:Str):List Str->List Str
 | []=>[x]
 | y::r=>if oX y x then y::EQ x r else x::y::r
def jA:List Str->List Str
 | []=>[]
 | x::r=>EQ x (jA r)
theorem v5 (x:Str):∀ l,(EQ x l).Perm (x::l)
 | []=>.refl _
 | y::r=>by
  rw [EQ]
  split
  ·exact ((v5 x r).cons y).trans (.swap ..)
  ·exact .refl _
theorem gR:∀ l,(jA l).Perm l
 | []=>.refl _
 | x::r=>(v5 x _).trans ((gR r).cons x)
theorem sw (x:Str):oX x x=false:=decide_eq_false (List.lt_irrefl _)
theorem qB (h1:oX x y=true) (h2:oX y z=true):oX x z=true :=
 decide_eq_true (List.lt_trans (of_decide_eq_true h1) (of_decide_eq_true h2))
theorem wD (h1:oX x y=false) (h2:oX y x=false):x=y:=by
 have h1:¬ x.cps.toList<y.cps.toList:=of_decide_eq_false h1
 have h2:¬ y.cps.toList<x.cps.toList:=of_decide_eq_false h2
 have:x.cps.toList=y.cps.toList:=List.le_antisymm (List.not_lt.mp h2) (List.not_lt.mp h1)
 cases x;cases y
 exact congrArg Str.mk (Array.toList_inj.mp this)
abbrev Nv (l:List Str):Prop:=l.Pairwise fun a b=>oX b a=false
theorem KG (x:Str):∀ l,Nv l->Nv (EQ x l)
 | [],_=>by simp [EQ,Nv]
 | y::r,h=>by
  obtain ⟨h1,h2⟩:=List.pairwise_cons.mp h
  rw [EQ]
  split
  ·rename_i hy
   refine List.pairwise_cons.mpr ⟨fun z hz=>?_,KG x r h2⟩
   rcases List.mem_cons.mp ((v5 x r).mem_iff.mp hz) with e | e
   ·subst e
    cases q:oX z y with
    | false=>rfl
    | true=>exact absurd (qB q hy) (by rw [sw];decide)
   ·exact h1 z e
  ·rename_i hy
   have hy:oX y x=false:=by simpa using hy
   refine List.pairwise_cons.mpr ⟨fun z hz=>?_,h⟩
   rcases List.mem_cons.mp hz with e | e
   ·subst e;exact hy
   ·cases q:oX z x with
    | false=>rfl
    | true =>
     have hzy:=h1 z e
     cases q2:oX x y with
     | true=>rw [qB q q2] at hzy;cases hzy
     | false=>rw [<- wD hy q2,hzy] at q;cases q
theorem pS:∀ l,Nv (jA l)
 | []=>.nil
 | x::r=>KG x _ (pS r)
theorem u5:∀ (p:Str) (l:List Str),risingS p l=true->Nv (p::l)
 | p,[],_=>by simp [Nv]
 | p,x::r,h=>by
  rw [risingS,aO] at h
  obtain ⟨h1,h2⟩:=h
  have h1:oX x p=false:=by
   rw [ltCps_eq] at h1
   simpa [oX] using h1
  have ih:=u5 x r h2
  refine List.pairwise_cons.mpr ⟨fun z hz=>?_,ih⟩
  rcases List.mem_cons.mp hz with e | e
  ·rw [e];exact h1
  ·have hzx:=(List.pairwise_cons.mp ih).1 z e
   cases q:oX z p with
   | false=>rfl
   | true =>
    cases q2:oX p x with
    | true=>rw [qB q q2] at hzx;cases hzx
    | false=>rw [wD q2 h1,hzx] at q;cases q
theorem AL:∀ (l:List Str),sortedS l=true->Nv l
 | [],_=>.nil
 | x::r,h=>u5 x r h
theorem zE:∀ {l l':List Str},l.Perm l'->Nv l->Nv l'->l=l'
 | [],l',p,_,_=>by rw [List.nil_perm.mp p]
 | x::r,[],p,_,_=>by have:=p.length_eq;simp at this
 | x::r,y::r',p,h,h'=>by
  obtain ⟨a1,a2⟩:=List.pairwise_cons.mp h
  obtain ⟨b1,b2⟩:=List.pairwise_cons.mp h'
  have e:x=y:=by
   have hx:x∈y::r':=p.mem_iff.mp am
   have hy:y∈x::r:=p.mem_iff.mpr am
   rcases List.mem_cons.mp hx with e | e
   ·exact e
   ·rcases List.mem_cons.mp hy with e' | e'
    ·exact e'.symm
    ·exact wD (b1 x e) (a1 y e')
  subst e
  rw [zE (List.Perm.cons_inv p) a2 b2]
theorem Cu (p:l'.Perm l) (h:sortedS l'=true):l'=jA l:=zE (p.trans (gR l).symm) (AL _ h) (pS l)
theorem v6 (h:Nv l) (nd:l.Nodup):l.Pairwise fun a b=>oX a b=true:=by
 induction l with
 | nil=>exact .nil
 | cons x r ih =>
  obtain ⟨a1,a2⟩:=List.pairwise_cons.mp h
  obtain ⟨n1,n2⟩:=List.nodup_cons.mp nd
  refine List.pairwise_cons.mpr ⟨fun y hy=>?_,ih a2 n2⟩
  cases q:oX x y with
  | true=>rfl
  | false=>exact absurd (wD q (a1 y hy) ▸ hy) n1
theorem jB:∀ {ss:List Str}{us:List aa},du (ss.map V.str) us->pv us ss
 | [],_,.nil=>.nil
 | x::r,_,.cons h t=>by obtain ⟨tk,rfl⟩:=h;exact .cons x tk (jB t)
theorem nX:∀ {ss:List Str}{us:List aa},pv us ss->du (ss.map V.str) us
 | _,_,.nil=>.nil
 | _,_,.cons x t h=>.cons ⟨t,rfl⟩ (nX h)
theorem fe:∀ {ss:List Str}{us:List aa},pv us ss->us.length=ss.length
 | _,_,.nil=>rfl
 | _,_,.cons x t h=>by simp [fe h]
theorem xc  (h:pv us ss) (i:Nat) (v:aa) (e:us[i]?=some v):∃ x t,ss[i]?=some x/\v=jx x t:=by
 induction h generalizing i with
 | nil=>simp at e
 | cons y t _ ih =>
  cases i with
  | zero=>simp at e;exact ⟨y,t,by simp,e.symm⟩
  | succ i=>simp at e;simpa using ih i e
theorem u6:∀ {l:List (Int×aa)},(∀ e∈l,su w e)->pv (l.map (·.2)) (l.map jP)
 | [],_=>.nil
 | e::r,h=>by
  obtain ⟨x,tk,rfl⟩:=h e am
  exact .cons x tk (u6 fun e he=>h e (ah _ he))
theorem AM  (h:pv us ss) (p:us'.Perm us):∃ ss',pv us' ss'/\ss'.Perm ss:=by
 refine ⟨us'.map strOf,strsAre_map _ fun v hv=>h.all v (p.mem_iff.mp hv),?_⟩
 rw [<- h.strs]
 exact p.map _
def lf (w:aZ) (a:ai) (ss:List Str):HO:=.ext fun h=>k_ w h a ss
theorem AN      (x:k_ w h a ss):c_ P w H h a (lf w a ss) :=
 ⟨x,let ⟨_,_,_,I,_⟩:=x;⟨_,I.at_⟩,fun _ _ y k=>y.keep k⟩
section
variable {X:Cx}
theorem Cv (hc:X.calm=true):ji X (.type "set") (fun xs H Q=>∃ p ss,xs=[.ref p]/\(oW X.K H p (ss.map V.str)\/kE X.K H p (ss.map V.str))/\ss.length + 1<iM/\∀ a,H a=none->Q (.ref a) (upd H a (lf X.w a (da [] ss)))):=by
 intro pins s σ H xs us Q I r h
 obtain ⟨p,ss,rfl,hq,hz,q⟩:=h
 obtain ⟨u,rfl,rx⟩:=kF r
 cases rx
 have hh:=I.ok.hd hc
 have fin:∀ (h':bB) (tk:Nat),k_ X.w h' s.heap.objs.size (da [] ss)->(∀ b o,s.heap.get? b=some o->h'.get? b=some o)->EP X pins σ Q (.ref s.heap.objs.size) { s with heap:=h',toks:=tk }:=fun h' tk hS kp =>
  ⟨.ref s.heap.objs.size,_,I.laid (t':=tk) kp (ar _) (AN hS),rfl,q _ (I.hok.fresh (ar _))⟩
 rcases hq with hq | hq
 ·obtain ⟨its,r',⟨o,n,ho,h1,h2,h3⟩,_⟩:=I.list hq
  have sa:=jB r'
  exact t_ (KB (by simpa using hh) h1 ⟨n,h3⟩) ho (fun i v e=>xc sa i v (by simpa using e)) (by simp [fe sa]) (by simp [fe sa];exact hz) fin
 ·obtain ⟨its,r',⟨o,ho,h1,n,h3⟩,_⟩:=I.tuple hq
  have sa:=jB r'
  exact t_ (Oy (by simpa using hh) h1 ⟨n,h3⟩) ho (fun i v e=>xc sa i v (by simpa using e)) (by simp [fe sa]) (by simp [fe sa];exact hz) fin
theorem v7:ji X (.builtin "sorted") (fun xs H Q=>∃ p ss,xs=[.ref p]/\oW X.K H p (ss.map V.str)/\ss.length<64/\∀ l,H l=none->Q (.ref l) (upd H l (.lst ((jA ss).map V.str)))):=by
 intro pins s σ H xs us Q I r h
 obtain ⟨p,ss,rfl,hq,hz,q⟩:=h
 obtain ⟨u,rfl,rx⟩:=kF r
 cases rx
 obtain ⟨its,r',pl,hl⟩:=I.list hq
 have sa:=jB r'
 refine sorted_strs pl.isList sa (by rw [fe sa];exact hz) fun out ss' a1 a2 a3=>?_
 obtain ⟨e,he⟩:=sortedAll_at s.heap its out
 have kp:∀ b o,s.heap.get? b=some o->(sortedAll s.heap its out).get? b=some o:=fun b o=>sortedAll_old
 obtain rfl:=Cu a2 a3
 refine ⟨.ref (s.heap.objs.size + 1),upd H (s.heap.objs.size + 1) (.lst ((jA ss).map V.str)),I.laid (t':=s.toks) kp (jL _) (show c_ X.prog X.w _ _ _ (.lst _) from ⟨?_,out.toList,e,nX a1,by simpa [iR] using he⟩),rfl,q _ (I.hok.fresh (jL _))⟩
 rw [ak,(gR ss).length_eq]
 have:=hl
 rw [ak] at this
 exact this
theorem we (hc:X.calm=true):ji X (.builtin "sorted") (fun xs H Q=>∃ p ss,xs=[.ref p]/\H p=some (lf X.w p ss)/\ss.length<64/\∀ l,H l=none->Q (.ref l) (upd H l (.lst ((jA ss).map V.str)))):=by
 intro pins s σ H xs us Q I r h
 obtain ⟨p,ss,rfl,hq,hz,q⟩:=h
 obtain ⟨u,rfl,rx⟩:=kF r
 cases rx
 have hh:=I.ok.hd hc
 obtain ⟨⟨es,ep,t,S,pm⟩,_⟩:=(show c_ X.prog X.w H s.heap p (lf X.w p ss) from I.hok p _ hq)
 refine Ct (Cs (by simpa using hh) S fun ord h' d tk po kp sz=>?_)
 obtain ⟨ss1,sa,p1⟩:=AM (u6 S.txt) po
 have ln:ss1.length=ss.length:=(p1.trans pm).length_eq
 refine ⟨ss1,sa,by rw [fe sa,ln];exact hz,fun h2 vs' ss' e kp2 at2 sa2 p2 s2=>?_⟩
 have kk:∀ b o,s.heap.get? b=some o->h2.get? b=some o:=fun b o e=>kp2 b o (kp b o e)
 have es':ss'=jA ss:=Cu (p2.trans (p1.trans pm)) s2
 subst es'
 have fr:=I.hok.fresh sz
 have ok2:c_ X.prog X.w (upd H h'.objs.size (.lst ((jA ss).map V.str))) h2 h'.objs.size (.lst ((jA ss).map V.str)) :=
  ⟨by rw [ak,(gR ss).length_eq];exact bV (bW hz) (by rw [gK];decide),vs',e,nX sa2,at2⟩
 exact ⟨.ref h'.objs.size,_,I.call' (s':={ s with heap:=h2,drawn:=d,toks:=tk }) (ch:=[]) rfl (Un.laid kk sz fr) (I.hok.laid kk sz ok2) I.bare (fun b z=>absurd z (by simp)),rfl,q _ fr⟩
end
end
section
section
variable {X:Cx}
theorem vF {prog:aH}{w:aZ}{B:aU}{bs:List Bool}{its:List aa} (r:du (bs.map V.bl) its):TruthOf prog w B (fun i v=>its.toArray[i]?=some v) (fun i=>bs.getD i false):=by
 intro i v s Q E hv hq
 have hv:its[i]?=some v:=by simpa using hv
 have hl:=r.length
 rw [ak] at hl
 obtain ⟨hi,_⟩:=List.getElem?_eq_some_iff.mp hv
 have hb:bs[i]?=some bs[i]:=aV (by omega)
 obtain ⟨u,hu,ru⟩:=r.get (i:=i) (x:=.bl bs[i]) (by rw [aN,hb];rfl)
 rw [hv] at hu;cases hu
 cases ru
 have hq:Q (bs.getD i false) s:=hq
 rw [fB,hb] at hq
 exact cW hq
theorem KH (bs:List Bool):(bD bs.length).all (fun i=>bs.getD i false)=bs.all id:=by
 rw [lC,cg,cg]
 constructor
 ·intro h b hb
  obtain ⟨i,hi,rfl⟩:=tE hb
  have:=h i (List.mem_range.mpr hi)
  simpa [fB,hi] using this
 ·intro h i hi
  have hi:=List.mem_range.mp hi
  have:=h bs[i] (iU hi)
  simpa [fB,hi] using this
theorem KI (bs:List Bool):(bD bs.length).any (fun i=>bs.getD i false)=bs.any id:=by
 rw [lC,kQ,kQ]
 constructor
 ·rintro ⟨i,hi,h⟩
  have hi:=List.mem_range.mp hi
  exact ⟨bs[i],iU hi,by simpa [fB,hi] using h⟩
 ·rintro ⟨b,hb,h⟩
  obtain ⟨i,hi,rfl⟩:=tE hb
  exact ⟨i,List.mem_range.mpr hi,by simpa [fB,hi] using h⟩
theorem xf (hc:X.calm=true):ji X (.builtin "all") (fun xs H Q=>∃ p,∃ bs:List Bool,xs=[.ref p]/\oW X.K H p (bs.map V.bl)/\Q (.bl (bs.all id)) H):=by
 intro pins s σ H xs us Q I r h
 obtain ⟨p,bs,rfl,hq,q⟩:=h
 obtain ⟨u,rfl,rx⟩:=kF r
 cases rx
 obtain ⟨its,r',pl,hl⟩:=I.list hq
 have ln:its.toArray.size=bs.length:=by have:=r'.length;simp at this ⊢;omega
 obtain ⟨o,ho,hk⟩:=pl.isList
 refine call_all_walk (pp pl.isList ⟨_,_,_,_,_,_,_,rfl,HD (by simpa using I.ok.hd hc) _ p (aD (aq ho)) its.toArray,⟨⟨_,av _ rfl,rfl,rfl⟩,pl.isList.push _⟩,vF r',fun h' tk kp=>?_⟩)
 rw [ln,KH]
 refine ⟨.bl _,H,I.kept (t':=tk) fun b o e=>kp b o ?_ (ac _ e),rfl,q⟩
 simp only [bZ]
 exact aD (aq e)
theorem xg (hc:X.calm=true):ji X (.builtin "any") (fun xs H Q=>∃ p,∃ bs:List Bool,xs=[.ref p]/\oW X.K H p (bs.map V.bl)/\Q (.bl (bs.any id)) H):=by
 intro pins s σ H xs us Q I r h
 obtain ⟨p,bs,rfl,hq,q⟩:=h
 obtain ⟨u,rfl,rx⟩:=kF r
 cases rx
 obtain ⟨its,r',pl,hl⟩:=I.list hq
 have ln:its.toArray.size=bs.length:=by have:=r'.length;simp at this ⊢;omega
 obtain ⟨o,ho,hk⟩:=pl.isList
 refine call_any_walk (pp pl.isList ⟨_,_,_,_,_,_,_,rfl,HD (by simpa using I.ok.hd hc) _ p (aD (aq ho)) its.toArray,⟨⟨_,av _ rfl,rfl,rfl⟩,pl.isList.push _⟩,vF r',fun h' tk kp=>?_⟩)
 rw [ln,KI]
 refine ⟨.bl _,H,I.kept (t':=tk) fun b o e=>kp b o ?_ (ac _ e),rfl,q⟩
 simp only [bZ]
 exact aD (aq e)
theorem Ip:pC X (bK .LtE) (fun x y H Q=>∃ i j,x=.str i/\y=.str j/\Q (.bl (!decide (j.cps.toList<i.cps.toList))) H):=by
 intro pins s σ H x y v u Q I rx ry h
 obtain ⟨i,j,rfl,rfl,q⟩:=h
 obtain ⟨t,rfl⟩:=rx
 obtain ⟨t',rfl⟩:=ry
 exact PySem.P.le_str (Az I q rfl)
end
end
section
def Tc (x:Str):It:=⟨fun i _=>i<x.cps.size,fun i H v H'=>H'=H/\∃ c,x.cps[i]?=some c/\v=.str ⟨#[c]⟩,fun i _=>x.cps.size<=i⟩
theorem KJ {P:aH}{w:aZ}{K:a8}{tg:aX} (x:Str) (t:Tok) (it:ai):yK P w K tg (Tc x) [it] it (fun i h=>h.IsStrIter it (ig x) x t i) where
 mem:=by simp
 obj:=fun i h st b hb=>by
  obtain rfl:b=it:=by simpa using hb
  obtain ⟨o,e,c,d⟩:=st
  exact ⟨o,e,fun v z=>by rw [d] at z;cases z⟩
 keep:=fun i h h' st k=>let ⟨o,e,r⟩:=st;⟨o,k it (by simp) o e,r⟩
 item:=by
  intro X hP hw hK hc i pins s σ H E I hf st hg
  subst hP hw hK
  have hg:i<x.cps.size:=hg
  obtain ⟨f0,f1,f2,f3,f4,f5⟩:=hf it (by simp)
  have hx:x.cps[i]?=some x.cps[i]:=getElem?_pos _ i hg
  have go:∀ (h':bB) (tk tk':Nat),h'.IsStrIter it (ig x) x t (i + 1)->bJ it s.heap h'->∃ u,some (jx ⟨#[x.cps[i]]⟩ tk)=some u /\
    au (ay X.prog X.w) X.A (gH tg (.ref it) u) (fun _ s2=>∃ v H',bQ X pins σ H' s2/\dg v u/\(Tc x).yld i H v H'/\s2.heap.IsStrIter it (ig x) x t (i + 1)/\∀ b∈[it],H' b=none) E { s with heap:=h',toks:=tk' }:=fun h' tk tk' st' sb=>by
   have I1:bQ X pins σ H { s with heap:=h',toks:=tk' }:=I.turned (fun b o hb e=>(sb.2 b hb).trans e) f0 f1 f3 f4 f5
   refine ⟨_,rfl,?_⟩
   have q:∃ v H',bQ X pins σ H' { s with heap:=h',toks:=tk' }/\dg v (jx ⟨#[x.cps[i]]⟩ tk)/\(Tc x).yld i H v H'/\h'.IsStrIter it (ig x) x t (i + 1)/\∀ b∈[it],H' b=none :=
    ⟨.str ⟨#[x.cps[i]]⟩,H,I1,⟨tk,rfl⟩,⟨rfl,_,hx,rfl⟩,st',fun b hb=>(hf b hb).1⟩
   unfold gH
   cases tg<;>exact a9 q
  cases ha:x.cps.all (·<128)
  ·have ty:ig x="str_iterator":=by unfold ig;rw [ha];rfl
   rw [ty] at st
   exact wpAny_pyNext_wide_item st hx fun h' st' sb=>go h' _ _ (by rw [ty];exact st') sb
  ·have ty:ig x="str_ascii_iterator":=by unfold ig;rw [ha];rfl
   rw [ty] at st
   exact wpAny_pyNext_ascii_item st hx fun h' st' sb=>go h' _ _ (by rw [ty];exact st') sb
 done:=by
  intro X hP hw hK hc i pins s σ H E I hf st hg
  subst hP hw hK
  have hg:x.cps.size<=i:=hg
  obtain ⟨f0,f1,f2,f3,f4,f5⟩:=hf it (by simp)
  have hx:x.cps[i]?=none:=getElem?_neg _ i (Nat.not_lt.mpr hg)
  unfold ig at st
  cases ha:x.cps.all (·<128)
  ·rw [ha] at st
   exact wpAny_pyNext_wide_end (I.ok.hd hc) st hx fun h' eb=>⟨rfl,I.turned (t':=s.toks) (fun b o hb e=>eb b o hb e) f0 f1 f3 f4 f5⟩
  ·rw [ha] at st
   exact wpAny_pyNext_ascii_end (I.ok.hd hc) st hx fun h' eb=>⟨rfl,I.turned (t':=s.toks) (fun b o hb e=>eb b o hb e) f0 f1 f3 f4 f5⟩
 self:=fun _ _ _ _ _ st h=>by
  unfold ig at st
  cases ha:x.cps.all (·<128)
  ·rw [ha] at st;exact wpAny_pyIter_striter_wide st h
  ·rw [ha] at st;exact wpAny_pyIter_striter_ascii st h
def VC (tl:TE):TI:=fun σ H R=>tl σ H fun v H1=>∃ x,v=.str x/\R (Tc x) H1
theorem KL {X:Cx}{tg l:aX}{tl:TE} (hl:PE X l tl):PI X tg l (VC tl):=by
 intro pins s σ H R I h
 refine fK (hl pins s σ H _ I h) fun v s1 h_0=>?_
 obtain ⟨y,H1,I1,r1,q1⟩:=h_0
 obtain ⟨x,rfl,q⟩:=q1
 obtain ⟨t,rfl⟩:=r1
 refine wpAny_pyIter_strU ?_
 refine ⟨s1.heap.objs.size,[s1.heap.objs.size],_,_,H1,rfl,I1.kept (t':=s1.toks) fun b o e=>ac _ e,KJ x t _,⟨_,av _ rfl,rfl,rfl⟩,fun b hb=>?_,q⟩
 obtain rfl:b=s1.heap.objs.size:=by simpa using hb
 exact I1.fpOk (ar _) (I1.hok.fresh (ar _))
end
section
section
variable {X:Cx}{pins:List (ai×Obj)}{σ:St}{H H':Hp}{s:ae}{h':bB}
theorem bQ.turnedL {t':Nat}{ch:List ai} (I:bQ X pins σ H s) (k:∀ b o,b∉ch->s.heap.get? b=some o->h'.get? b=some o) (hf:∀ b∈ch,pO X pins H b):bQ X pins σ H { s with heap:=h',toks:=t' }:=by
 have nt:∀ b u,H b=some u->b∉ch:=fun b u e z=>by rw [(hf b z).1] at e;cases e
 refine I.step (g':=s.gens) (d':=s.drawn) (ch:=ch) (fun b hb=>?_) (fun b o _ _ hc e _=>k b o hc e) (fun b o _ _ hc e _=>⟨o.slots,k b o hc e⟩) (fun _ _ _ _ n=>n)
  (fun b o hc e=>⟨o,k b o hc e⟩) (fun _ _ e=>e) (fun _ _ _ e=>e) (fun b ps e=>⟨#[],by rw [e];simp⟩) (fun m hm=>?_) (fun b u e=>?_) I.bare
 ·obtain ⟨f0,f1,f2,f3,f4,f5⟩:=hf b hb
  exact ⟨f3,f1,f4,f5⟩
 ·obtain ⟨o,es,ep,ho,r⟩:=hm
  exact ⟨o,es,ep,k _ o (fun z=>(hf _ z).f1 rfl) ho,r⟩
 ·refine (I.hok b u e).stay (fun c v hc q=>k c v ?_ q) (fun _ q=>q) fun _ _ q=>q
  rcases hc with z | z
  ·rw [z];exact nt b u e
  ·exact nt c _ z
theorem bQ.track  (I:bQ X pins σ H s) (hf:pO X pins H D) (new:c_ X.prog X.w (upd H D ho) s.heap D ho):bQ X pins σ (upd H D ho) s:=by
 obtain ⟨f0,f1,f2,f3,f4,f5⟩:=hf
 have I':bQ X pins σ (upd H D ho) { s with heap:=s.heap,gens:=s.gens,drawn:=s.drawn,toks:=s.toks }:=I.step (ch:=[D]) (fun b hb=>by
   obtain rfl:b=D:=by simpa using hb
   exact ⟨f3,f1,f4,f5⟩) (fun b o _ _ _ e _=>e) (fun b o _ _ _ e _=>⟨o.slots,e⟩) (fun b o hc e n=>by rw [bf (fun z=>hc (by simp [z]))];exact n) (fun b o _ e=>⟨o,e⟩)
  (fun b xs e=>by rw [bf (bR e f0)];exact e) (fun b o xs e=>by rw [bf (bR e f0)];exact e) (fun b ps e=>⟨#[],by rw [bf (bR e f0),e];simp⟩) (fun m hm=>hm) (uY I.hok f0 new) I.bare
 exact I'
end
section
variable {prog:aH}{w:aZ}{A:aU}{E:aa->ae->Prop}{s:ae}{it l:ai}{i:Nat}{items:Array aa}
theorem u7  (ti:s.heap.IsTupleIter it l i) (tl:s.heap.IsTuple l items) (hx:items[i]?=some x)
  (q:∀ h',h'.IsTupleIter it l (i + 1)->bJ it s.heap h'->Q x { s with heap:=h' }):au (ay prog w) A (cw (.ref it)) Q E s:=by
 obtain ⟨oi,ei,ci,di⟩:=id ti
 obtain ⟨ot,et,_,nt,dt⟩:=tl
 unfold cw
 refine a7 (cc (name:=gy "__next__") ti.typeIs iX ?_)
 refine bF iX ti.typeIs BW ?_ (Aq _)
 show au _ _ (Es (.ref it) 0 >>= _) _ _ s
 refine a7 (dw ei di (x:=.ref l) rfl ?_)
 show au _ _ (if (bj l == dI)=true then _ else _) _ _ s
 rw [if_neg (fun z:(bj l == dI)=true=>bu z)]
 show au _ _ (Es (.ref it) 1 >>= _) _ _ s
 refine a7 (dw ei di (x:=.int i 0) rfl ?_)
 show au _ _ (Jw (.ref l) >>= _) _ _ s
 refine a7 (eP et dt ?_)
 simp only [jV,hx]
 refine a7 (g9 ei di (by simp) (a9 ⟨x,rfl,a9 (q _ ?_ (bG ..))⟩))
 refine ⟨_,fG _ ei (Obj.isFreed_of_fields (JX di _)),(Obj.cls_mapFields ..).trans ci,?_⟩
 rw [JX di];simp [c7]
theorem u9 (hh:A.handled=none) (ti:s.heap.IsTupleIter it l i) (tl:s.heap.IsTuple l items) (hx:items[i]?=none)
  (q:∀ h' e,FU it s.heap h'->(∃ o,h'.get? e=some o/\o.cls=.type "StopIteration")->E (.ref e) { s with heap:=h' }):au (ay prog w) A (cw (.ref it)) Q E s:=by
 obtain ⟨oi,ei,ci,di⟩:=id ti
 obtain ⟨ot,et,_,nt,dt⟩:=tl
 unfold cw
 refine a7 (cc (name:=gy "__next__") ti.typeIs iX ?_)
 refine bF iX ti.typeIs BW ?_ (Aq _)
 show au _ _ (Es (.ref it) 0 >>= _) _ _ s
 refine a7 (dw ei di (x:=.ref l) rfl ?_)
 show au _ _ (if (bj l == dI)=true then _ else _) _ _ s
 rw [if_neg (fun z:(bj l == dI)=true=>bu z)]
 show au _ _ (Es (.ref it) 1 >>= _) _ _ s
 refine a7 (dw ei di (x:=.int i 0) rfl ?_)
 show au _ _ (Jw (.ref l) >>= _) _ _ s
 refine a7 (eP et dt ?_)
 simp only [jV,hx]
 refine a7 (cU (a7 (g9 ei di (by simp) ?_)))
 show au _ _ (se (.type "StopIteration") [] >>= _) _ _ _
 refine a7 ?_
 simp only [se,NJ]
 refine a7 (bM ?_ (by size_fits))
 refine a7 (m:=kY _ _) (eO (a:=dI) ?_ ?_)
 ·first
   | rfl
   | (simp only [kY];rfl)
 refine bM ?_ (by size_fits)
 simp only [rc]
 refine a7 (HE ?_)
 rw [show A.in1.handled=none from hh]
 refine a7 (a9 (NK ?_))
 exact q _ _ (((bG ..).extBut.push _).push _) ⟨_,av _ rfl,rfl⟩
theorem Iq (hh:A.handled=none) (it l:ai) (hne:l≠it) (items:Array aa) :
  Draws prog w A it [it,l] items.size (fun i v=>items[i]?=some v) (fun i h=>h.IsTupleIter it l i/\h.IsTuple l items) where
 live:=fun i h st=>let ⟨o,e,_⟩:=st.1;⟨o,e⟩
 frame:=fun i h h' st k=>⟨let ⟨o,e,r⟩:=st.1;⟨o,k it (by simp) o e,r⟩,let ⟨o,e,r⟩:=st.2;⟨o,k l (by simp) o e,r⟩⟩
 item:=fun i s Q E hi st q=>u7 st.1 st.2 (x:=items[i]) (by simp [hi]) fun h' t' sb=>q _ h' s.toks (by simp [hi]) ⟨t',st.2.extBut sb.extBut hne⟩ sb
 done:=fun s Q E st q=>u9 hh st.1 st.2 (by simp) q
end
theorem xh (l:ai) (items:Array aa) (n:Nat) (dct:Option ai) (sl:Array (Option aa)) :
  Meets (jr.«enumerate.__new__» ⟨[.type "enumerate",.ref l],[]⟩) (fun _ R s=>s.heap.get? l=some { cls:=.type "tuple",dict:=dct,data:=.seq items n,slots:=sl } /\
   R (.ok (.ret (.ref (s.heap.push { cls:=.type "tuple_iterator",data:=.fields #[.ref l,.int 0 0] }).objs.size)))
    { s with heap:=(s.heap.push { cls:=.type "tuple_iterator",data:=.fields #[.ref l,.int 0 0] }).push { cls:=.type "enumerate",data:=.fields #[.none,.bool false,.ref s.heap.objs.size,c7 0,.none,.none] } }) :=
 .of_wp fun prog w A R s h=>by
  obtain ⟨hp,g,d,tk,os⟩:=s
  obtain ⟨hl,h⟩:=h
  have hsub:=PySem.sub_enumerate
  have hL:E6 (E7 ⟨hp,g,d,tk,os⟩) l items:=⟨_,hl,rfl,n,rfl⟩
  wp_walk using fO hl
  refine wpAny_stack_any fun st=>a9 ?_
  split
  ·rename_i c _ _ _ _ _
   cases (c == iB "enumerate")
   ·wp_walk using fO hl,f_ hL
    exact ⟨_,rfl,h⟩
   ·wp_walk using fO hl,f_ hL
    exact ⟨_,rfl,h⟩
  ·wp_walk using fO hl,f_ hL
   exact ⟨_,rfl,h⟩
end
section
section
variable {prog:aH}{w:aZ}{A:aU}{E:aa->ae->Prop}{s:ae}
theorem yN   (hL:s.heap.IsTuple l items)
  (h:∀ h',IsEnum h' (s.heap.objs.size + 1) s.heap.objs.size 0 .none->h'.IsTupleIter s.heap.objs.size l 0->(∀ b o,s.heap.get? b=some o->h'.get? b=some o)->h'.objs.size=s.heap.objs.size + 2 ->
   Q (.ref (s.heap.objs.size + 1)) { s with heap:=h' }):au (ay prog w) A (call (.type "enumerate") [.ref l]) Q E s:=by
 obtain ⟨⟨c,dc,dt,sl⟩,hl,hc,n,hd⟩:=hL
 obtain rfl:c=.type "tuple":=hc
 obtain rfl:dt=.seq items n:=hd
 refine callType_new F.called_enumerate (by decide) (F.typeCall_enumerate_1 _) (F.newCall_enumerate_1 _) (fun obj=>F.args_object_init_2 obj _) F.entry_enumerate_new (xh l items n dc sl) ⟨hl,?_⟩
 have z1:(s.heap.push { cls:=.type "tuple_iterator",data:=.fields #[.ref l,.int 0 0] }).objs.size=s.heap.objs.size + 1:=bY ..
 show _/\_
 rw [z1]
 have he:IsEnum ((s.heap.push { cls:=.type "tuple_iterator",data:=.fields #[.ref l,.int 0 0] }).push { cls:=.type "enumerate",data:=.fields #[.none,.bool false,.ref s.heap.objs.size,c7 0,.none,.none] }) (s.heap.objs.size + 1) s.heap.objs.size 0 .none:=by
  have q:=av (s.heap.push { cls:=.type "tuple_iterator",data:=.fields #[.ref l,.int 0 0] }) (o:={ cls:=.type "enumerate",data:=.fields #[.none,.bool false,.ref s.heap.objs.size,c7 0,.none,.none] }) rfl
  rw [z1] at q
  exact q
 exact ⟨⟨_,he,rfl⟩,h _ he ⟨_,ac _ (av _ rfl),rfl,rfl⟩ (fun b o e=>ac _ (ac _ e)) (by rw [bY,z1])⟩
end
def VD (K:a8) (a:ai):It :=
 ⟨fun i H=>∃ xs x,kE K H a xs/\xs[i]?=some x,fun i H v H'=>∃ p,H p=none/\v=.ref p/\∀ xs,kE K H a xs->∃ x,xs[i]?=some x/\H'=upd H p (.tup [.int i,x]),fun i H=>∃ xs,kE K H a xs/\xs.length<=i⟩
theorem Ir {P:aH}{w:aZ}{K:a8}{elts:List aX}{x1}{pos:Pos} (a e it:ai) (hei:e≠it):yK P w K (.Tuple elts x1 pos) (VD K a) [e,it] e (fun i h=>(∃ old,IsEnum h e it i old)/\h.IsTupleIter it a i) where
 mem:=by simp
 obj:=fun i h st b hb=>by
  simp only [aY,br,or_false] at hb
  rcases hb with rfl | rfl
  ·obtain ⟨⟨old,q⟩,_⟩:=st
   exact ⟨_,q,fun v z=>by cases z⟩
  ·obtain ⟨_,o,q,_,d⟩:=st
   exact ⟨o,q,fun v z=>by rw [d] at z;cases z⟩
 keep:=fun i h h' st k=>⟨let ⟨old,q⟩:=st.1;⟨old,k e (by simp) _ q⟩,let ⟨o,q,r⟩:=st.2;⟨o,k it (by simp) o q,r⟩⟩
 item:=by
  intro X hP hw hK hc i pins s σ H E I hf st hg
  subst hP hw hK
  obtain ⟨xs,x,hq,hx⟩:=hg
  obtain ⟨its,rv,p,hz⟩:=I.tuple hq
  obtain ⟨u,hu,ru⟩:=rv.get hx
  obtain ⟨⟨old,he⟩,hit⟩:=st
  have hit0:=hit
  obtain ⟨oi,ei,_⟩:=hit0
  have hai:a≠it:=fun z=>by
   obtain ⟨o1,e1,c1,_⟩:=p
   obtain ⟨o2,e2,c2,_⟩:=hit
   rw [z,e2] at e1;cases e1;rw [c2] at c1;exact absurd (FV c1) (by decide)
  have hae:a≠e:=fun z=>by
   obtain ⟨o1,e1,c1,_⟩:=p
   rw [z,he] at e1;cases e1;exact absurd (FV (show iB "enumerate"=iB "tuple" from c1)) (by decide)
  have hlt:i<its.toArray.size:=by simp;exact (List.getElem?_eq_some_iff.mp hu).1
  have he0:=aq he
  refine wpAny_pyNext_enum_itemD (Iq (by simpa using I.ok.hd hc) it a hai its.toArray) he ⟨hit,p⟩ hlt hei (by simp [hei,cQ hae]) ?_
  intro x' h1 tk hx' eo st1 tup sz k1
  have hx'':its[i]?=some x':=by simpa using hx'
  rw [hu] at hx'';cases hx''
  refine ⟨_,rfl,wpAny_letOwnedTupleGo_enum eo fun h2 e2 sb2=>?_⟩
  have szn:s.heap.objs.size≠e:=eF he0
  have I2:bQ X pins σ H { s with heap:=h2,toks:=tk + 1 }:=I.turnedL (ch:=[e,it]) (fun b o hb q=>by
   simp only [aY,br,or_false,not_or] at hb
   exact (sb2.2 b hb.1).trans (k1 b o hb.1 hb.2 q)) hf
  have fT:=I.fpOk (H':=H) (ar _) (I.hok.fresh (ar _))
  have tup2:h2.get? s.heap.objs.size=some { cls:=.type "tuple",data:=.seq #[.int i tk,u] }:=(sb2.2 _ szn).trans tup
  have I3:=I2.track (ho:=.tup [.int i,x]) fT ⟨by show 2<=sizeLine;decide,[.int i tk,u],.cons ⟨tk,rfl⟩ (.cons ru .nil),⟨_,tup2,rfl,0,rfl⟩⟩
  refine ⟨.ref s.heap.objs.size,_,I3,rfl,⟨_,fT.1,rfl,fun ys hy=>?_⟩,⟨⟨u,?_⟩,?_⟩,fun b hb=>?_⟩
  ·rw [I.tuple_inj hy hq];exact ⟨x,hx,rfl⟩
  ·have:(((i + 1:Nat):Int))=(i:Int) + 1:=by omega
   rw [this];exact e2
  ·obtain ⟨o,q,r⟩:=st1.1
   exact ⟨o,(sb2.2 it (cQ hei)).trans q,r⟩
  ·rw [bf]
   ·exact (hf b hb).1
   ·simp only [aY,br,or_false] at hb
    rcases hb with z | z
    ·rw [z];exact aD he0
    ·rw [z];exact aD (aq ei)
 done:=by
  intro X hP hw hK hc i pins s σ H E I hf st hg
  subst hP hw hK
  obtain ⟨xs,hq,hx⟩:=hg
  obtain ⟨its,rv,p,hz⟩:=I.tuple hq
  obtain ⟨⟨old,he⟩,hit⟩:=st
  have hl:=rv.length
  have hT:s.TypeIs (.ref e) "enumerate":=⟨_,he,rfl⟩
  unfold kU
  refine a7 (jM (cc (name:=gy "__next__") hT Jz ?_))
  refine bF Jz hT F.entry_enumerate_next ?_ (F.args_enumerate_next_1 _)
  show au _ _ (Es (.ref e) 2 >>= _) _ _ _
  refine a7 (dw he rfl (x:=.ref it) rfl ?_)
  refine a7 (u9 (by simpa using I.ok.hd hc) hit (show s.heap.IsTuple a its.toArray from p) (by simp;omega) fun h' z eb hz'=>?_)
  obtain ⟨o,ho,hcl⟩:=hz'
  refine a7 (fQ (T:="StopIteration") (b:=true) ⟨o,ho,hcl⟩ uO ?_)
  exact a9 ⟨rfl,I.turnedL (t':=s.toks) (ch:=[e,it]) (fun b o hb q=>eb b o (by
   simp only [aY,br,or_false,not_or] at hb;exact hb.2) q) hf⟩
 self:=fun _ _ _ _ _ st h=>let ⟨⟨_,q⟩,_⟩:=st;wpAny_pyIter_enum q h
def Td (K:a8) (ta:TA):TI:=fun σ H R=>ta σ H fun vs H1=>∃ a xs,vs=[.ref a]/\kE K H1 a xs/\R (VD K a) H1
theorem Oz {X:Cx}{elts:List aX}{x1}{tpos p pos:Pos}{a:aX}{ta:TA} (hg:Gl X "enumerate") (hm:X.mg "enumerate"=none) (ha:PA X [a] ta) (hs:aK [a] X.env=[(false,eh a X.env)]:=by rfl) :
  PI X (.Tuple elts x1 tpos) (.Call (.Name "enumerate" p) [a] [] pos) (Td X.K ta):=by
 intro pins s σ H R I h
 refine Call_ (uU I hg hm boot_enumerate (gP (fK (ha pos pins s σ H _ I h) fun us s1 ⟨vs,H1,I1,r1,q1⟩=>?_) hs rfl))
 obtain ⟨ad,xs,rfl,hq,q⟩:=q1
 obtain ⟨u,rfl,rx⟩:=kF r1
 cases rx
 obtain ⟨its,rv,tp,hz⟩:=I1.tuple hq
 refine yN (show s1.heap.IsTuple ad its.toArray from tp) fun h' e1 t1 kp sz=>?_
 refine wpAny_pyIter_enum e1 ?_
 have I2:bQ X pins σ H1 { s1 with heap:=h' }:=I1.kept (t':=s1.toks) kp
 refine ⟨s1.heap.objs.size + 1,[s1.heap.objs.size + 1,s1.heap.objs.size],_,_,H1,rfl,I2,Ir ad _ _ (eF (eC _)),⟨⟨.none,e1⟩,t1⟩,fun b hb=>?_,q⟩
 simp only [aY,br,or_false] at hb
 rcases hb with z | z
 ·rw [z];exact I1.fpOk (jL _) (I1.hok.fresh (jL _))
 ·rw [z];exact I1.fpOk (ar _) (I1.hok.fresh (ar _))
end
section
section
variable {prog:aH}{w:aZ}{A:aU}{E:aa->ae->Prop}{s:ae}{z TI TO i1 i2 l1 l2:ai}{k1 k2:Nat}{xs ys:Array aa}{x y a b:aa}
theorem ja    (t:h.IsTupleIter it l k) (sb:bJ c h h') (ne:it≠c):h'.IsTupleIter it l k:=t.extBut sb.extBut ne
theorem nY    (t:h.IsTuple l xs) (sb:bJ c h h') (ne:l≠c):h'.IsTuple l xs:=t.extBut sb.extBut ne
theorem KM {Q:aa->ae->Prop} (D:NL z TI TO i1 i2 l1 l2) (za:uP s.heap z TI TO .none) (pa:jX s.heap TI (.ref i1) (.ref i2)) (pb:jX s.heap TO a b)
  (u1:s.heap.IsTupleIter i1 l1 k1) (u2:s.heap.IsTupleIter i2 l2 k2) (v1:s.heap.IsTuple l1 xs) (v2:s.heap.IsTuple l2 ys) (hx:xs[k1]?=some x) (hy:ys[k2]?=some y)
  (q:∀ h',uP h' z TI TO (c7 s.heap.objs.size)->jX h' TO x y->h'.IsTupleIter i1 l1 (k1 + 1)->h'.IsTupleIter i2 l2 (k2 + 1)->jX h' s.heap.objs.size x y ->
   (∀ c o,c≠z->c≠TO->c≠i1->c≠i2->s.heap.get? c=some o->h'.get? c=some o)->Q (.ref s.heap.objs.size) { s with heap:=h' }) :
  au (ay prog w) A (jr.«zip.__next__» ⟨[.ref z],[]⟩) (fun fin s'=>∃ v,fin=.done (.ret v)/\Q v s') E s:=by
 show au _ _ (Es (.ref z) 2 >>= _) _ _ _
 refine a7 (dw za rfl (x:=.bool false) rfl ?_)
 show au _ _ (Es (.ref z) 3 >>= _) _ _ _
 refine a7 (dw za rfl (x:=.ref TI) rfl ?_)
 refine a7 (eP pa rfl ?_)
 show au _ _ (eu (.ref z) >>= _) _ _ _
 refine a7 ?_
 unfold eu
 refine a7 (dw za rfl (x:=.none) rfl (a9 ?_))
 simp only [if_true]
 refine a7 (cU ?_)
 refine a7 (dw za rfl (x:=.ref TO) rfl ?_)
 refine a7 (ip za (by simp) fun g1 z1 b1=>?_)
 replace z1:uP g1 z TI TO .ellipsis:=z1
 refine a7 ?_
 simp only [ww,NM,jq,mv]
 refine a7 (a7 (wx ?_))
 show au _ _ (cw (.ref i1) >>= _) _ _ _
 refine a7 (u7 (ja u1 b1 D.i1z) (nY v1 b1 D.l1z) hx fun g2 w1 b2=>a9 ?_)
 have p2:jX g2 TO a b:=b2.extBut _ _ D.TOi1 (b1.extBut _ _ D.TOz pb)
 refine a7 (eP p2 rfl (a7 (uQ p2 fun g3 p3 b3=>?_)))
 replace p3:jX g3 TO x b:=p3
 refine a7 (NN (a9 (a7 (a7 (wx ?_)))))
 show au _ _ (cw (.ref i2) >>= _) _ _ _
 refine a7 (u7 (ja (ja (ja u2 b1 D.i2z) b2 D.i12.symm) b3 D.TOi2.symm) (nY (nY (nY v2 b1 D.l2z) b2 D.l2i1) b3 D.l2TO) hy fun g4 w2 b4=>a9 ?_)
 have p4:jX g4 TO x b:=b4.extBut _ _ D.TOi2 p3
 refine a7 (eP p4 rfl (a7 (uQ p4 fun g5 p5 b5=>?_)))
 replace p5:jX g5 TO x y:=p5
 refine a7 (NN (a9 (a9 ?_)))
 refine a7 (eP p5 rfl (a7 (wpAny_newTuple ?_)))
 have sz:g5.objs.size=s.heap.objs.size:=by rw [b5.1,b4.1,b3.1,b2.1,b1.1]
 have z5:uP g5 z TI TO .ellipsis:=b5.extBut _ _ D.TOz.symm (b4.extBut _ _ D.i2z.symm (b3.extBut _ _ D.TOz.symm (b2.extBut _ _ D.i1z.symm z1)))
 have k5:∀ c o,c≠z->c≠TO->c≠i1->c≠i2->s.heap.get? c=some o->g5.get? c=some o:=fun c o n1 n2 n3 n4 e =>
  b5.extBut _ _ n2 (b4.extBut _ _ n4 (b3.extBut _ _ n2 (b2.extBut _ _ n3 (b1.extBut _ _ n1 e))))
 have y1:g5.IsTupleIter i1 l1 (k1 + 1):=ja (ja (ja w1 b3 D.TOi1.symm) b4 D.i12) b5 D.TOi1.symm
 have y2:g5.IsTupleIter i2 l2 (k2 + 1):=ja w2 b5 D.TOi2.symm
 have zl:z<g5.objs.size:=aq z5
 show au _ _ (my (.ref z) (.ref g5.objs.size) >>= _) _ _ _
 refine a7 ?_
 unfold my
 have z6:uP (g5.push { cls:=.type "tuple",data:=.seq #[x,y] }) z TI TO .ellipsis:=ac _ z5
 refine a7 (ip z6 (by simp) fun g7 z7 b7=>?_)
 replace z7:uP g7 z TI TO (c7 g5.objs.size):=z7
 refine ip z7 (by simp) fun g8 z8 b8=>?_
 replace z8:uP g8 z TI TO (c7 g5.objs.size):=z8
 have up:∀ c o,c≠z->g5.get? c=some o->g8.get? c=some o:=fun c o n1 e=>b8.extBut _ _ n1 (b7.extBut _ _ n1 (ac _ e))
 have p8:jX g8 g5.objs.size x y:=b8.extBut _ _ (eF zl) (b7.extBut _ _ (eF zl) (av _ rfl))
 rw [sz] at z8 p8
 refine a9 ⟨_,rfl,?_⟩
 show Q (.ref g5.objs.size) _
 rw [sz]
 exact q g8 z8 (up _ _ D.TOz p5) (let ⟨o,e,r⟩:=y1;⟨o,up _ o D.i1z e,r⟩) (let ⟨o,e,r⟩:=y2;⟨o,up _ o D.i2z e,r⟩) p8 fun c o n1 n2 n3 n4 e=>up c o n1 (k5 c o n1 n2 n3 n4 e)
theorem KN (hh:A.handled=none) (D:NL z TI TO i1 i2 l1 l2) (za:uP s.heap z TI TO .none) (pa:jX s.heap TI (.ref i1) (.ref i2)) (pb:jX s.heap TO a b)
  (u1:s.heap.IsTupleIter i1 l1 k1) (u2:s.heap.IsTupleIter i2 l2 k2) (v1:s.heap.IsTuple l1 xs) (v2:s.heap.IsTuple l2 ys) (hend:xs[k1]?=none\/ys[k2]?=none)
  (q:∀ h' e,(∀ c o,c≠z->c≠TO->c≠i1->c≠i2->s.heap.get? c=some o->h'.get? c=some o)->(∃ o,h'.get? e=some o/\o.cls=.type "StopIteration")->E (.ref e) { s with heap:=h' }) :
  au (ay prog w) A (jr.«zip.__next__» ⟨[.ref z],[]⟩) Q E s:=by
 show au _ _ (Es (.ref z) 2 >>= _) _ _ _
 refine a7 (dw za rfl (x:=.bool false) rfl ?_)
 show au _ _ (Es (.ref z) 3 >>= _) _ _ _
 refine a7 (dw za rfl (x:=.ref TI) rfl ?_)
 refine a7 (eP pa rfl ?_)
 show au _ _ (eu (.ref z) >>= _) _ _ _
 refine a7 ?_
 unfold eu
 refine a7 (dw za rfl (x:=.none) rfl (a9 ?_))
 simp only [if_true]
 refine a7 (cU ?_)
 refine a7 (dw za rfl (x:=.ref TO) rfl ?_)
 refine a7 (ip za (by simp) fun g1 z1 b1=>?_)
 replace z1:uP g1 z TI TO .ellipsis:=z1
 refine a7 ?_
 simp only [ww,NM,jq,mv]
 refine a7 (a7 (wx ?_))
 show au _ _ (cw (.ref i1) >>= _) _ _ _
 cases hx:xs[k1]? with
 | none =>
  refine a7 (u9 hh (ja u1 b1 D.i1z) (nY v1 b1 D.l1z) hx fun g2 e b2 he=>?_)
  obtain ⟨oe,ee,ce⟩:=he
  have z2:uP g2 z TI TO .ellipsis:=b2 _ _ D.i1z.symm z1
  have ez:e≠z:=fun n=>by subst n;rw [z2] at ee;cases ee;simp at ce
  refine ip z2 (by simp) fun g3 _ b3=>q g3 e (fun c o n1 _ n3 _ m=>b3.extBut _ _ n1 (b2 _ _ n3 (b1.extBut _ _ n1 m))) ⟨oe,b3.extBut _ _ ez ee,ce⟩
 | some x =>
  have hy:ys[k2]?=none:=hend.resolve_left fun n=>by rw [hx] at n;cases n
  refine a7 (u7 (ja u1 b1 D.i1z) (nY v1 b1 D.l1z) hx fun g2 w1 b2=>a9 ?_)
  have p2:jX g2 TO a b:=b2.extBut _ _ D.TOi1 (b1.extBut _ _ D.TOz pb)
  refine a7 (eP p2 rfl (a7 (uQ p2 fun g3 p3 b3=>?_)))
  refine a7 (NN (a9 (a7 (a7 (wx ?_)))))
  show au _ _ (cw (.ref i2) >>= _) _ _ _
  refine a7 (u9 hh (ja (ja (ja u2 b1 D.i2z) b2 D.i12.symm) b3 D.TOi2.symm) (nY (nY (nY v2 b1 D.l2z) b2 D.l2i1) b3 D.l2TO) hy fun g4 e b4 he=>?_)
  obtain ⟨oe,ee,ce⟩:=he
  have z4:uP g4 z TI TO .ellipsis:=b4 _ _ D.i2z.symm (b3.extBut _ _ D.TOz.symm (b2.extBut _ _ D.i1z.symm z1))
  have ez:e≠z:=fun n=>by subst n;rw [z4] at ee;cases ee;simp at ce
  refine ip z4 (by simp) fun g5 _ b5=>q g5 e (fun c o n1 n2 n3 n4 m=>b5.extBut _ _ n1 (b4 _ _ n4 (b3.extBut _ _ n2 (b2.extBut _ _ n3 (b1.extBut _ _ n1 m))))) ⟨oe,b5.extBut _ _ ez ee,ce⟩
end
abbrev UT (h:bB) (l1:ai):bB:=h.push { cls:=.type "tuple_iterator",data:=.fields #[.ref l1,.int 0 0] }
abbrev UU (h:bB) (l1 l2:ai):bB:=(UT h l1).push { cls:=.type "tuple_iterator",data:=.fields #[.ref l2,.int 0 0] }
abbrev UV (h:bB) (l1 l2:ai):bB:=(UU h l1 l2).push { cls:=.type "tuple",data:=.seq #[.ref h.objs.size,.ref (UT h l1).objs.size] }
abbrev UW (h:bB) (l1 l2:ai):bB:=(UV h l1 l2).push { cls:=.type "tuple",data:=.seq #[.none,.none] }
abbrev Sx (h:bB) (l1 l2:ai):bB:=(UW h l1 l2).push { cls:=.type "zip",data:=.fields #[.none,.bool false,.bool false,.ref (UU h l1 l2).objs.size,.ref (UV h l1 l2).objs.size] }
theorem yO (l1 l2:ai) (xs ys:Array aa) :
  Meets (jr.«zip.__new__» ⟨[.type "zip",.ref l1,.ref l2],[]⟩) (fun _ R s=>s.heap.IsTuple l1 xs/\s.heap.IsTuple l2 ys/\R (.ok (.ret (.ref (UW s.heap l1 l2).objs.size))) { s with heap:=Sx s.heap l1 l2 }) :=
 .of_wp fun prog w A R s h=>by
  obtain ⟨hp,g,d,tk,os⟩:=s
  obtain ⟨v1,v2,h⟩:=h
  have hsub:=PySem.sub_zip
  have L1:E6 (E7 ⟨hp,g,d,tk,os⟩) l1 xs:=v1
  have L2:E6 (E7 ⟨hp.push { cls:=.type "tuple_iterator",data:=.fields #[.ref l1,.int 0 0] },g,d,tk,os⟩) l2 ys:=Heap.IsTuple.push v2 _
  wp_walk using f_ L1,f_ L2
  exact ⟨_,rfl,h⟩
section
variable {prog:aH}{w:aZ}{A:aU}{E:aa->ae->Prop}{s:ae}
theorem AO   (v1:s.heap.IsTuple l1 xs) (v2:s.heap.IsTuple l2 ys)
  (h:∀ h',uP h' (s.heap.objs.size + 4) (s.heap.objs.size + 2) (s.heap.objs.size + 3) .none->jX h' (s.heap.objs.size + 2) (.ref s.heap.objs.size) (.ref (s.heap.objs.size + 1)) ->
   jX h' (s.heap.objs.size + 3) .none .none->h'.IsTupleIter s.heap.objs.size l1 0->h'.IsTupleIter (s.heap.objs.size + 1) l2 0 ->
   (∀ c o,s.heap.get? c=some o->h'.get? c=some o)->Q (.ref (s.heap.objs.size + 4)) { s with heap:=h' }):au (ay prog w) A (call (.type "zip") [.ref l1,.ref l2]) Q E s:=by
 refine callType_new F.called_zip (by decide) (F.typeCall_zip_2 _ _) (F.newCall_zip_2 _ _) (fun obj=>F.args_object_init_3 obj _ _) F.entry_zip_new (yO l1 l2 xs ys) ⟨v1,v2,?_⟩
 have n1:(UT s.heap l1).objs.size=s.heap.objs.size + 1:=bY ..
 have n2:(UU s.heap l1 l2).objs.size=s.heap.objs.size + 2:=by rw [bY,n1]
 have n3:(UV s.heap l1 l2).objs.size=s.heap.objs.size + 3:=by rw [bY,n2]
 have n4:(UW s.heap l1 l2).objs.size=s.heap.objs.size + 4:=by rw [bY,n3]
 have c5:(Sx s.heap l1 l2).get? (UW s.heap l1 l2).objs.size=some _:=av _ rfl
 have c4:(Sx s.heap l1 l2).get? (UV s.heap l1 l2).objs.size=some _:=ac _ (av _ rfl)
 have c3:(Sx s.heap l1 l2).get? (UU s.heap l1 l2).objs.size=some _:=ac _ (ac _ (av _ rfl))
 have c2:(Sx s.heap l1 l2).get? (UT s.heap l1).objs.size=some _:=ac _ (ac _ (ac _ (av _ rfl)))
 have c1:(Sx s.heap l1 l2).get? s.heap.objs.size=some _:=ac _ (ac _ (ac _ (ac _ (av _ rfl))))
 show _/\_
 rw [n2,n3,n4] at c5
 rw [n1,n2] at c3
 rw [n3] at c4
 rw [n1] at c2
 rw [n4]
 exact ⟨⟨_,c5,rfl⟩,h _ c5 c3 c4 ⟨_,c1,rfl,rfl⟩ ⟨_,c2,rfl,rfl⟩ fun c o e=>ac _ (ac _ (ac _ (ac _ (ac _ e))))⟩
end
theorem kE.ne_fp       (I:bQ X pins σ H s) (hq:kE X.K H a xs) (hf:pO X pins H b):a≠b:=by
 rintro rfl
 rcases hq with (h | ⟨o,h⟩) | ⟨o,its,n,hk,_⟩
 ·rw [hf.1] at h;cases h
 ·rw [hf.1] at h;cases h
 ·have e:X.base.get? a=some o:=I.mod.kin a o hk
  rcases hf.f3 with z | z
  ·exact I.ok.noex a o e z
  ·exact absurd (aA (aq e) (bV I.ok.bsz z)) (bP _)
def VE (K:a8) (a b:ai):It :=
 ⟨fun i H=>∃ xs ys x y,kE K H a xs/\kE K H b ys/\xs[i]?=some x/\ys[i]?=some y,
  fun i H v H'=>∃ p,H p=none/\v=.ref p/\∀ xs ys,kE K H a xs->kE K H b ys->∃ x y,xs[i]?=some x/\ys[i]?=some y/\H'=upd H p (.tup [x,y]),
  fun i H=>∃ xs ys,kE K H a xs/\kE K H b ys/\(xs.length<=i\/ys.length<=i)⟩
structure VF (z TI TO i1 i2:ai):Prop where
 d1:TI≠z
 d2:TO≠z
 d3:i1≠z
 d4:i2≠z
 d5:TI≠TO
 d6:TI≠i1
 d7:TI≠i2
 d8:TO≠i1
 d9:TO≠i2
 d0:i1≠i2
theorem KO {P:aH}{w:aZ}{K:a8}{elts:List aX}{x1}{pos:Pos} (l1 l2 z TI TO i1 i2:ai) (Z:VF z TI TO i1 i2) :
  yK P w K (.Tuple elts x1 pos) (VE K l1 l2) [z,TI,TO,i1,i2] z (fun i h=>uP h z TI TO .none/\jX h TI (.ref i1) (.ref i2)/\(∃ a b,jX h TO a b)/\h.IsTupleIter i1 l1 i/\h.IsTupleIter i2 l2 i) where
 mem:=by simp
 obj:=fun i h st b hb=>by
  obtain ⟨s1,s2,⟨_,_,s3⟩,⟨o4,e4,_,f4⟩,⟨o5,e5,_,f5⟩⟩:=st
  simp only [aY,br,or_false] at hb
  rcases hb with rfl | rfl | rfl | rfl | rfl
  ·exact ⟨_,s1,fun v q=>by cases q⟩
  ·exact ⟨_,s2,fun v q=>by cases q⟩
  ·exact ⟨_,s3,fun v q=>by cases q⟩
  ·exact ⟨o4,e4,fun v q=>by rw [f4] at q;cases q⟩
  ·exact ⟨o5,e5,fun v q=>by rw [f5] at q;cases q⟩
 keep:=fun i h h' st k=>by
  obtain ⟨s1,s2,⟨u,v,s3⟩,⟨o4,e4,r4⟩,⟨o5,e5,r5⟩⟩:=st
  exact ⟨k z (by simp) _ s1,k TI (by simp) _ s2,⟨u,v,k TO (by simp) _ s3⟩,⟨o4,k i1 (by simp) _ e4,r4⟩,⟨o5,k i2 (by simp) _ e5,r5⟩⟩
 item:=by
  intro X hP hw hK hc i pins s σ H E I hf st hg
  subst hP hw hK
  obtain ⟨xs,ys,x,y,hq1,hq2,hx,hy⟩:=hg
  obtain ⟨its1,rv1,p1,_⟩:=I.tuple hq1
  obtain ⟨its2,rv2,p2,_⟩:=I.tuple hq2
  obtain ⟨u,hu,ru⟩:=rv1.get hx
  obtain ⟨v,hv,rv⟩:=rv2.get hy
  obtain ⟨s1,s2,⟨a,b,s3⟩,s4,s5⟩:=st
  have ne1:∀ b∈[z,TI,TO,i1,i2],l1≠b:=fun b hb=>hq1.ne_fp I (hf b hb)
  have ne2:∀ b∈[z,TI,TO,i1,i2],l2≠b:=fun b hb=>hq2.ne_fp I (hf b hb)
  have D:NL z TI TO i1 i2 l1 l2:=⟨Z.d1,Z.d2,Z.d3,Z.d4,Z.d5,Z.d6,Z.d7,Z.d8,Z.d9,Z.d0,ne1 z (by simp),ne1 TO (by simp),ne1 i1 (by simp),ne1 i2 (by simp),ne2 z (by simp),ne2 TO (by simp),ne2 i1 (by simp),ne2 i2 (by simp)⟩
  have zl:=aq s1
  have hT:s.TypeIs (.ref z) "zip":=⟨_,s1,rfl⟩
  unfold kU
  refine a7 (jM (cc (name:=gy "__next__") hT rA ?_))
  refine bF rA hT F.entry_zip_next (KM D s1 s2 s3 s4 s5 p1 p2 (by simpa using hu) (by simpa using hv) fun h1 z1 t1 y1 y2 pr k1=>?_) (F.args_zip_next_1 _)
  refine a9 ⟨_,rfl,wpAny_letOwnedTupleGo_zip z1 fun h2 z2 b2=>?_⟩
  have szn:s.heap.objs.size≠z:=eF zl
  have TIk:jX h1 TI (.ref i1) (.ref i2):=k1 TI _ Z.d1 Z.d5 Z.d6 Z.d7 s2
  have I2:bQ X pins σ H { s with heap:=h2 }:=I.turnedL (t':=s.toks) (ch:=[z,TI,TO,i1,i2]) (fun b o hb q=>by
   simp only [aY,br,or_false,not_or] at hb
   exact (b2.2 b hb.1).trans (k1 b o hb.1 hb.2.2.1 hb.2.2.2.1 hb.2.2.2.2 q)) hf
  have fT:=I.fpOk (H':=H) (ar _) (I.hok.fresh (ar _))
  have pr2:h2.get? s.heap.objs.size=some { cls:=.type "tuple",data:=.seq #[u,v] }:=(b2.2 _ szn).trans pr
  have I3:=I2.track (ho:=.tup [x,y]) fT ⟨by show 2<=sizeLine;decide,[u,v],.cons ru (.cons rv .nil),⟨_,pr2,rfl,0,rfl⟩⟩
  refine ⟨.ref s.heap.objs.size,_,I3,rfl,⟨_,fT.1,rfl,fun xs' ys' h1 h2=>?_⟩,⟨z2,(b2.2 TI Z.d1).trans TIk,⟨u,v,(b2.2 TO Z.d2).trans t1⟩,ja y1 b2 Z.d3,ja y2 b2 Z.d4⟩,fun b hb=>?_⟩
  ·rw [I.tuple_inj h1 hq1,I.tuple_inj h2 hq2];exact ⟨x,y,hx,hy,rfl⟩
  ·have bl:b<s.heap.objs.size:=by
    simp only [aY,br,or_false] at hb
    rcases hb with q | q | q | q | q
    ·rw [q];exact zl
    ·rw [q];exact aq s2
    ·rw [q];exact aq s3
    ·obtain ⟨_,e,_⟩:=s4;rw [q];exact aq e
    ·obtain ⟨_,e,_⟩:=s5;rw [q];exact aq e
   rw [bf (aD bl)];exact (hf b hb).1
 done:=by
  intro X hP hw hK hc i pins s σ H E I hf st hg
  subst hP hw hK
  obtain ⟨xs,ys,hq1,hq2,hend⟩:=hg
  obtain ⟨its1,rv1,p1,_⟩:=I.tuple hq1
  obtain ⟨its2,rv2,p2,_⟩:=I.tuple hq2
  obtain ⟨s1,s2,⟨a,b,s3⟩,s4,s5⟩:=st
  have ne1:∀ b∈[z,TI,TO,i1,i2],l1≠b:=fun b hb=>hq1.ne_fp I (hf b hb)
  have ne2:∀ b∈[z,TI,TO,i1,i2],l2≠b:=fun b hb=>hq2.ne_fp I (hf b hb)
  have D:NL z TI TO i1 i2 l1 l2:=⟨Z.d1,Z.d2,Z.d3,Z.d4,Z.d5,Z.d6,Z.d7,Z.d8,Z.d9,Z.d0,ne1 z (by simp),ne1 TO (by simp),ne1 i1 (by simp),ne1 i2 (by simp),ne2 z (by simp),ne2 TO (by simp),ne2 i1 (by simp),ne2 i2 (by simp)⟩
  have hT:s.TypeIs (.ref z) "zip":=⟨_,s1,rfl⟩
  have n1:=rv1.length
  have n2:=rv2.length
  unfold kU
  refine a7 (jM (cc (name:=gy "__next__") hT rA ?_))
  refine bF rA hT F.entry_zip_next (KN (by simpa using I.ok.hd hc) D s1 s2 s3 s4 s5 p1 p2 (hend.elim (fun q=>.inl (by simp;omega)) fun q=>.inr (by simp;omega)) fun h' e kp he=>?_) (F.args_zip_next_1 _)
  obtain ⟨o,eo,co⟩:=he
  refine a7 (fQ (T:="StopIteration") (b:=true) ⟨o,eo,co⟩ uO ?_)
  exact a9 ⟨rfl,I.turnedL (t':=s.toks) (ch:=[z,TI,TO,i1,i2]) (fun b o hb q=>by
   simp only [aY,br,or_false,not_or] at hb
   exact kp b o hb.1 hb.2.2.1 hb.2.2.2.1 hb.2.2.2.2 q) hf⟩
 self:=fun _ _ _ _ _ st h=>wpAny_pyIter_zip st.1 h
def VG (K:a8) (ta:TA):TI:=fun σ H R=>ta σ H fun vs H1=>∃ a b xs ys,vs=[.ref a,.ref b]/\kE K H1 a xs/\kE K H1 b ys/\R (VE K a b) H1
theorem Rx {X:Cx}{elts:List aX}{x1}{tpos p pos:Pos}{a b:aX}{ta:TA} (hg:Gl X "zip") (hm:X.mg "zip"=none) (ha:PA X [a,b] ta) (hs:aK [a,b] X.env=[(false,eh a X.env),(false,eh b X.env)]:=by rfl)
  (hs2:aK [b] X.env=[(false,eh b X.env)]:=by rfl):PI X (.Tuple elts x1 tpos) (.Call (.Name "zip" p) [a,b] [] pos) (VG X.K ta):=by
 intro pins s σ H R I h
 refine Call_ (uU I hg hm boot_zip (gP (fK (ha pos pins s σ H _ I h) fun us s1 ⟨vs,H1,I1,r1,q1⟩=>?_) (by rw [hs,hs2]) (by rw [hs2];rfl)))
 obtain ⟨a1,a2,xs,ys,rfl,hq1,hq2,q⟩:=q1
 obtain ⟨u1,u2,rfl,rx1,rx2⟩:=PJ r1
 cases rx1
 cases rx2
 obtain ⟨its1,rv1,p1,_⟩:=I1.tuple hq1
 obtain ⟨its2,rv2,p2,_⟩:=I1.tuple hq2
 refine AO (show s1.heap.IsTuple a1 its1.toArray from p1) (show s1.heap.IsTuple a2 its2.toArray from p2) fun h' c1 c2 c3 c4 c5 kp=>?_
 refine wpAny_pyIter_zip c1 ?_
 have I2:bQ X pins σ H1 { s1 with heap:=h' }:=I1.kept (t':=s1.toks) kp
 have ad:∀ k j:Nat,k≠j->s1.heap.objs.size + k≠s1.heap.objs.size + j:=fun k j n e=>n (Nat.add_left_cancel e)
 refine ⟨s1.heap.objs.size + 4,[s1.heap.objs.size + 4,s1.heap.objs.size + 2,s1.heap.objs.size + 3,s1.heap.objs.size + 0,s1.heap.objs.size + 1],_,_,H1,rfl,I2,
  KO a1 a2 _ _ _ _ _ ⟨ad _ _ (by decide),ad _ _ (by decide),ad _ _ (by decide),ad _ _ (by decide),ad _ _ (by decide),ad _ _ (by decide),ad _ _ (by decide),ad _ _ (by decide),ad _ _ (by decide),ad _ _ (by decide)⟩,
  ⟨c1,c2,⟨_,_,c3⟩,c4,c5⟩,fun b hb=>?_,q⟩
 have:∀ k:Nat,pO X pins H1 (s1.heap.objs.size + k):=fun k=>I1.fpOk (NO _ _) (I1.hok.fresh (NO _ _))
 simp only [aY,br,or_false] at hb
 rcases hb with q | q | q | q | q<;>(rw [q];exact this _)
end
section
mutual
inductive ES (K:a8) (H:Hp):V->Ar->Prop
 | none:ES K H .non .none
 | bool (b:Bool):ES K H (.bl b) (.bool b)
 | int (i:Int):ES K H (.int i) (.int i)
 | str (x:Str):ES K H (.str x) (.str x)
 | list {a:ai}{xs:List V}{ds:List Ar}:oW K H a xs->Reps K H xs ds->ES K H (.ref a) (.list ds)
 | tuple {a:ai}{xs:List V}{ds:List Ar}:kE K H a xs->Reps K H xs ds->ES K H (.ref a) (.tuple ds)
inductive Reps (K:a8) (H:Hp):List V->List Ar->Prop
 | nil:Reps K H [] []
 | cons {x:V}{xs:List V}{d:Ar}{ds:List Ar}:ES K H x d->Reps K H xs ds->Reps K H (x::xs) (d::ds)
end
theorem dk.tup {K:a8}{H H':Hp}{a:ai}{xs:List V} (e:dk H H') (h:kE K H a xs):kE K H' a xs:=by
 rcases h with (h | ⟨o,h⟩) | h
 ·exact .inl (.inl (e _ _ h))
 ·exact .inl (.inr ⟨o,e _ _ h⟩)
 ·exact .inr h
section
variable {X:Cx}{pins:List (ai×Obj)}{σ:St}{H:Hp}{s:ae}
theorem OA (I:bQ X pins σ H s)    (h:oW X.K H a xs) (ih:∀ {us:List aa},du xs us->∃ as,ReadsAll s.heap us ds as) (r:dg (.ref a) u):∃ as,Reads s.heap u (.list ds) as:=by
 cases r
 obtain ⟨its,rv,⟨o,n,e,c,_,d⟩,_⟩:=I.list h
 obtain ⟨as,ra⟩:=ih rv
 exact ⟨_,.list e c d (by simpa using ra)⟩
theorem KP (I:bQ X pins σ H s)    (h:kE X.K H a xs) (ih:∀ {us:List aa},du xs us->∃ as,ReadsAll s.heap us ds as) (r:dg (.ref a) u):∃ as,Reads s.heap u (.tuple ds) as:=by
 cases r
 obtain ⟨its,rv,⟨o,e,c,n,d⟩,_⟩:=I.tuple h
 obtain ⟨as,ra⟩:=ih rv
 exact ⟨_,.tuple e c d (by simpa using ra)⟩
theorem qC (I:bQ X pins σ H s)  (h:ES X.K H v d):∀ {u:aa},dg v u->∃ as,Reads s.heap u d as :=
 ES.rec (motive_1:=fun v d _=>∀ {u:aa},dg v u->∃ as,Reads s.heap u d as) (motive_2:=fun vs ds _=>∀ {us:List aa},du vs us->∃ as,ReadsAll s.heap us ds as)
  (fun r=>by cases r;exact ⟨_,.none⟩) (fun b _ r=>by cases r;exact ⟨_,.bool b⟩) (fun i _ r=>by obtain ⟨t,rfl⟩:=r;exact ⟨_,.int i t⟩) (fun x _ r=>by obtain ⟨t,rfl⟩:=r;exact ⟨_,.str x t⟩)
  (fun h _ ih _ r=>OA I h ih r) (fun h _ ih _ r=>KP I h ih r) (fun r=>by cases r;exact ⟨_,.nil⟩) (fun _ _ a b _ r=>by
   cases r with
   | cons r rs =>
    obtain ⟨as,ra⟩:=a r
    obtain ⟨bs,rb⟩:=b rs
    exact ⟨_,.cons ra rb⟩) h
end
section
variable {X:Cx}
inductive PZ (K:a8) (neg:Bool) (x:V) (y:V) (H:Hp) (Q:VK):Prop
 | mk (dx dy:_) (h0:ES K H x dx) (h1:ES K H y dy) (h2:dx.canLay0=true) (h3:dy.canLay0=true) (h4:min dx.depth dy.depth<=60) (h5:Q (.bl (if neg then !a_ dx dy else a_ dx dy)) H):PZ K neg x y H Q
def Ry (K:a8) (neg:Bool):R2:=PZ K neg
theorem Rz (hu:X.A.units + 64<gz):pC X (bK .Eq) (Ry X.K false):=by
 intro pins s σ H x y v u Q I rx ry h
 obtain ⟨dx,dy,hx,hy,lx,ly,dp,q⟩:=h
 obtain ⟨as,ra⟩:=qC I hx rx
 obtain ⟨bs,rb⟩:=qC I hy ry
 exact PySem.SeqAt.compareEq_reads ra rb lx ly (by omega) ⟨.bl _,H,I,rfl,q⟩
theorem RA (hu:X.A.units + 64<gz):pC X (bK .NotEq) (Ry X.K true):=by
 intro pins s σ H x y v u Q I rx ry h
 obtain ⟨dx,dy,hx,hy,lx,ly,dp,q⟩:=h
 obtain ⟨as,ra⟩:=qC I hx rx
 obtain ⟨bs,rb⟩:=qC I hy ry
 exact PySem.SeqAt.compareNe_reads ra rb lx ly (by omega) ⟨.bl _,H,I,rfl,q⟩
end
end
section
structure VH (P:aH) (w:aZ) (l:List Env) (H H':Hp) (h h' B:bB) (ea C t:ai):Prop where
 fly:Heap.FlyingW B l ea (.ref C) (.ref t) h'
 cov:∀ b u,H' b=some u->∃ o,B.get? b=some o
 old:∀ b o,h.get? b=some o->H b=none->b∉rK l->B.get? b=some o
 all:∀ b o,h.get? b=some o->b∉rK l->∃ o',B.get? b=some o'
 un:Un (rK l) [] H H' h h'
 hok:pd P w H' h'
inductive Te (P:aH) (w:aZ) (outer:List Env) (H:Hp) (s:ae) (E:XK) (e:aa) (s':ae):Prop
 | mk (ea C t H' B:_) (h0:e=.ref ea) (h1:s'.os=s.os) (h2:pj s'.gens) (h3:VH P w outer H H' s.heap s'.heap B ea C t) (h4:E (.ref C) none H'):Te P w outer H s E e s'
def oY (P:aH) (w:aZ):HY:=Te P w
theorem KQ      (x:pd P w H h) (e:H b=some u):∃ o,h.get? b=some o:=by
 have y:=x b u e
 cases u with
 | lst xs=>obtain ⟨_,_,_,_,k⟩:=y;exact ⟨_,k⟩
 | tup xs=>obtain ⟨_,_,_,o,k,_⟩:=y;exact ⟨o,k⟩
 | dK kvs=>obtain ⟨_,_,_,_,o,_,_,k,_⟩:=y;exact ⟨o,k⟩
 | dT kvs=>obtain ⟨_,_,_,_,o,_,_,k,_⟩:=y;exact ⟨o,k⟩
 | set S n=>obtain ⟨o,_,_,_,k,_⟩:=y;exact ⟨o,k⟩
 | ins C dx fs=>obtain ⟨_,_,_,k,_⟩:=y;exact ⟨_,k⟩
 | own y'=>exact y
 | xd fs=>obtain ⟨_,⟨o,_,_,k,_⟩,_⟩:=y;exact ⟨o,k⟩
 | rng lo hi=>obtain ⟨_,_,_,k⟩:=y;exact ⟨_,k⟩
 | frz o u=>exact ⟨o,y.1⟩
 | tbl ps=>exact ⟨_,y⟩
 | met f y'=>exact ⟨_,y⟩
 | ext φ=>exact y.2.1
theorem G7   (he:env∈l) (hf:env.frame=some b):b∈rK l:=List.mem_filterMap.mpr ⟨env,he,hf⟩
section
variable {P:aH}{w:aZ}{l:List Env}{H H':Hp}{h h' h'' B:bB}{ea C t:ai}
theorem VH.kp (x:VH P w l H H' h h' B ea C t) (st:B.StaysIn h'') (b:ai) (u:HO) (o:Obj) (e:H' b=some u) (q:h'.get? b=some o):h''.get? b=some o:=by
 obtain ⟨o',e1⟩:=x.cov b u e
 have:=x.fly.1 b o' e1
 rw [q] at this;cases this
 exact st b o e1
end
section
variable {P:aH}{w:aZ}{K:a8}{mg:Str->Option aa}{base:bB}{N:List Str}{qual:Str}{scope:fZ}{f:ai}{cd:aa}{A:aU}{outer:List Env}{s:ae}{H:Hp}{E:XK}
theorem AQ       (I:bQ (jO (oY P w) P w K mg base N qual scope f cd A outer s H E) pins σ H1 s1)
  (hx:Heap.MadeExcOf s1.heap h' ea (.ref C) vs) (q:E (.ref C) none H1):(jO (oY P w) P w K mg base N qual scope f cd A outer s H E).xe (.ref ea) { s1 with heap:=h' }:=by
 let X:=jO (oY P w) P w K mg base N qual scope f cd A outer s H E
 let B:=Jo s1.heap (rK X.stack)
 have hin:∀ env∈X.stack,∀ a,env.frame=some a->a∈rK X.stack:=fun env he a hf=>G7 he hf
 have stB:B.StaysIn s1.heap:=fun b o e=>Ef _ e
 have nS:∀ b,b∉rK X.stack->∀ o,s1.heap.get? b=some o->B.get? b=some o:=fun b n o e=>E4 _ e n
 show au _ X.A (leaving X.env (.ref ea)) _ _ _
 refine wpAny_leaves_madeW (s:={ s1 with heap:=h' }) (base:=B) (outer:=outer) (L:=X.env.locals) I.ok.frames rfl stB (PySem.W.funFrames_hide I.stack hin) hx fun h2 t fl tup tn up=>?_
 have st2:=fl.1
 have bl:∀ b o,s.heap.get? b=some o->b∉rK outer->b∉rK X.stack:=fun b o e n z=>by
  rcases List.mem_cons.mp (I.stkSub b z) with y | y
  ·exact absurd (aq e) (by rw [y];exact Nat.not_lt.mpr I.ok.above)
  ·exact n y
 have noex:∀ b:ai,b∉X.ex:=fun b z=>absurd (show b∈([] : List ai) from z) (by simp)
 have cov:∀ b u,H1 b=some u->∃ o,B.get? b=some o:=fun b u e=>by
  have hb:b∉rK X.stack:=fun z=>by have:=I.stkFree b z;rw [e] at this;cases this
  obtain ⟨o,k⟩:=KQ I.hok e
  exact ⟨o,nS b hb o k⟩
 refine ⟨ea,C,t,H1,B,rfl,I.os,I.bare,⟨fl,cov,fun b o e n hb=>?_,fun b o e hb=>?_,⟨fun b o e n hb hx'=>?_,fun b o e n hb hx'=>?_,fun b o e n _=>I.base.free b o e n (noex b),fun b o e _=>?_,I.base.tups,I.base.frzs,I.base.tbls⟩,fun b u e=>?_⟩,q⟩
 ·exact nS b (bl b o e hb) o (I.base.keep b o e n hb (noex b))
 ·obtain ⟨o',k⟩:=I.base.there b o e (noex b)
  exact ⟨o',nS b (bl b o e hb) o' k⟩
 ·exact st2 b o (nS b (bl b o e hb) o (I.base.keep b o e n hb (noex b)))
 ·obtain ⟨sl,k⟩:=I.base.slot b o e n hb (noex b)
  obtain ⟨_,o',k1,k2⟩:=kf I.funs hb
  rw [k] at k1;cases k1
  obtain ⟨sl',k3⟩:=up b _ (hx.keeps _ _ k) k2
  exact ⟨sl',k3⟩
 ·obtain ⟨o',k⟩:=I.base.there b o e (noex b)
  by_cases hb:b∈rK outer
  ·obtain ⟨_,o2,k1,_⟩:=kf fl.2.2.1 hb
   exact ⟨o2,k1⟩
  ·exact ⟨o',st2 b o' (nS b (bl b o e hb) o' k)⟩
 ·refine (I.hok b u e).stay (fun c o hc k=>?_) (fun _ q=>q) fun _ _ q=>q
  have hcs:c∉rK X.stack:=fun z=>by
   have:=I.stkFree c z
   rcases hc with y | y
   ·rw [y,e] at this;cases this
   ·rw [y] at this;cases this
  exact st2 c o (nS c hcs o k)
theorem Cy (hE:∀ c H',E' c none H'->E c none H'):sk (oY P w) (jO (oY P w) P w K mg base N qual scope f cd A outer s H E) E':=by
 intro pins σ H1 s1 e s' I h
 obtain ⟨ea,C,t,H',B,rfl,os,bare,x,q⟩:=h
 let X:=jO (oY P w) P w K mg base N qual scope f cd A outer s H E
 have noex:∀ b:ai,b∉X.ex:=fun b z=>absurd (show b∈([] : List ai) from z) (by simp)
 have bl:∀ b o,s.heap.get? b=some o->b∉rK outer->b∉rK X.stack:=fun b o e n z=>by
  rcases List.mem_cons.mp (I.stkSub b z) with y | y
  ·exact absurd (aq e) (by rw [y];exact Nat.not_lt.mpr I.ok.above)
  ·exact n y
 have sub:∀ b∈rK outer,b∈rK X.stack:=fun b hb=>by
  obtain ⟨env,he,hf⟩:=List.mem_filterMap.mp hb
  exact G7 (ah _ he) hf
 show au _ X.A (leaving X.env (.ref ea)) _ _ _
 refine wpAny_leaves_onW (base:=B) (outer:=outer) (L:=X.env.locals) I.ok.frames rfl x.fly fun h2 fl up=>?_
 have st2:=fl.1
 refine ⟨ea,C,t,H',B,rfl,os.trans I.os,bare,⟨fl,x.cov,fun b o e n hb=>?_,fun b o e hb=>?_,⟨fun b o e n hb hx'=>?_,fun b o e n hb hx'=>?_,fun b o e n _=>?_,fun b o e _=>?_,fun b xs e=>x.un.tups b xs (I.base.tups b xs e),fun b o xs e=>x.un.frzs b o xs (I.base.frzs b o xs e),fun b ps e=>?_⟩,fun b u e=>?_⟩,hE _ _ q⟩
 ·exact x.old b o (I.base.keep b o e n hb (noex b)) (I.base.free b o e n (noex b)) (bl b o e hb)
 ·obtain ⟨o',k⟩:=I.base.there b o e (noex b)
  exact x.all b o' k (bl b o e hb)
 ·exact st2 b o (x.old b o (I.base.keep b o e n hb (noex b)) (I.base.free b o e n (noex b)) (bl b o e hb))
 ·obtain ⟨sl,k⟩:=I.base.slot b o e n hb (noex b)
  obtain ⟨sl1,k1⟩:=x.un.slot b _ k (I.base.free b o e n (noex b)) (sub b hb) (by simp)
  obtain ⟨_,o',k2,k3⟩:=kf x.fly.2.2.1 (sub b hb)
  rw [k1] at k2;cases k2
  obtain ⟨sl2,k4⟩:=up b _ k1 k3
  exact ⟨sl2,k4⟩
 ·obtain ⟨o',k⟩:=I.base.there b o e (noex b)
  exact x.un.free b o' k (I.base.free b o e n (noex b)) (by simp)
 ·obtain ⟨o',k⟩:=I.base.there b o e (noex b)
  by_cases hb:b∈rK outer
  ·obtain ⟨_,o2,k1,_⟩:=kf fl.2.2.1 hb
   exact ⟨o2,k1⟩
  ·obtain ⟨o2,k2⟩:=x.all b o' k (bl b o e hb)
   exact ⟨o2,st2 b o2 k2⟩
 ·obtain ⟨m1,e1⟩:=I.base.tbls b ps e
  obtain ⟨m2,e2⟩:=x.un.tbls b _ e1
  exact ⟨m1++m2,by rw [e2,Hu]⟩
 ·exact (x.hok b u e).stay (fun c o hc k=>by
   rcases hc with z | z
   ·rw [z] at k ⊢;exact x.kp st2 b u o e k
   ·exact x.kp st2 c _ o z k) (fun _ q=>q) fun _ _ q=>q
end
end
section
section
variable {P:aH}{w:aZ}{K:a8}{mg:Str->Option aa}{base:bB}{N:List Str}{qual:Str}{scope:fZ}{f:ai}{cd:aa}{A:aU}{outer:List Env}{s:ae}{H:Hp}{E:XK}
theorem KR {x:Str}{np cpos pos:Pos}{e0:aX}{bS:List aX}{C:ai}{bmB:List aa}{newId initId Bn:String}{ta:TA} (O:OwnCls x C bmB newId mg base) (FB:ExcBaseFacts Bn newId initId bmB)
  (hg:Gl (jO (oY P w) P w K mg base N qual scope f cd A outer s H E) x) (ha:PA (jO (oY P w) P w K mg base N qual scope f cd A outer s H E) (e0::bS) ta)
  (he:aK (e0::bS) (jO (oY P w) P w K mg base N qual scope f cd A outer s H E).env=(false,eh e0 (jO (oY P w) P w K mg base N qual scope f cd A outer s H E).env)::aK bS (jO (oY P w) P w K mg base N qual scope f cd A outer s H E).env:=by rfl)
  (hdb:(x == ("__debug__" : Str))=false:=by decide) (hpl:(j8 cpos (aK bS (jO (oY P w) P w K mg base N qual scope f cd A outer s H E).env)).any (·.1)=false:=by rfl) :
  PS (jO (oY P w) P w K mg base N qual scope f cd A outer s H E) (.Raise (some (.Call (.Name x np) (e0::bS) [] cpos)) none pos) (fun D σ H1=>ta σ H1 fun vs H2=>vs.length<=sizeLine/\E (.ref C) none H2):=by
 intro pins s1 σ H1 D I h
 obtain ⟨tl,Nn,nm,q,bs,hdct,sn,sub,ab,col,dd,k0,k1,k2,k3,k5,mN,hC,hN,hni,T⟩:=O.obj
 refine wpAny_Raise_call_subT (C:=C) (nm:=nm) (q:=q) (N:=Nn) (bs:=bs) (bm:=tl) (hdct:=hdct) (sn:=sn) (sub:=sub) (ab:=ab) (col:=col) (dd:=dd) (k0:=k0) (k1:=k1) (k2:=k2) (k3:=k3) (k5:=k5)
  FB (mN:=mN) (T.hasType FB.hasBase) (I.ok.hd rfl) ?_ hni (Aw I hg O.bound ⟨rfl,?_⟩ hdb)
 ·rw [he]
  show (false || _)=false
  rw [tP];exact hpl
 ·have hx:=ha cpos pins s1 σ H1 _ I h
  rw [he] at hx ⊢
  refine Ej (fK hx fun us s2 ⟨vs,H2,I2,r2,z,qE⟩=>?_)
  have kb:∀ b o,base.get? b=some o->s2.heap.get? b=some o:=I2.bk
  exact ⟨rfl,by show us.length<=sizeLine;rw [<- r2.length];exact z,kb _ _ hC,hN.keeps kb,T.keeps kb,fun h' ea hm=>AQ I2 hm qE⟩
end
structure Tf (base:bB) (C:ai) (bm:List aa):Prop where
 obj:∃ nm q N bs hdct sn sub ab col dd k0 k1 k2 k3 k5 newId,base.get? C=some (excClassObj nm q C N bs bm hdct sn sub ab col dd k0 k1 k2 k3 k5 newId)
 exc:bm.contains (.type "BaseException")=true
end
section
section
variable {prog:aH}{w:aZ}{A:aU}{E:aa->ae->Prop}{s:ae}{K:a8}{x C:ai}{R:rZ->ae->Prop}
end
section
variable {X:Cx}
end
end
section
section
variable {P:aH}{w:aZ}{K:a8}{mg:Str->Option aa}{base:bB}
end
section
variable {X:Cx}{k:Nat}{f:ai}{fd:eG}{ps:List Str}{sp:Sp}{x:Str}{p pos:Pos}{e:aX}{es:List aX}{t:TA}
end
end
section
section
variable {X:Cx}
def VI:Ar->String
 | .none=>"NoneType" | .bool _=>"bool" | .int _=>"int" | .str _=>"str" | .list _=>"list" | .tuple _=>"tuple" | .dict _=>"dict"
theorem ET            (I:bQ X pins σ H s) (rx:dg x u) (r:ES X.K H x d) (e:pF X.K (.type (VI d)) c=some b) (h:∀ tk,Q (.bool b) { s with toks:=tk }) :
  au (ay X.prog X.w) A (call (.builtin "isinstance") [u,c]) Q E s:=by
 cases r with
 | none=>exact qx I rx .non e h
 | bool y=>exact qx I rx (.bl y) e h
 | int i=>exact qx I rx (.int i) e h
 | str y=>exact qx I rx (.str y) e h
 | list hq _ =>
  cases rx
  obtain ⟨its,rv,⟨o,n,ho,c,_,dd⟩,_⟩:=I.list hq
  exact cF tL I.kIn ⟨o,ho,c⟩ e (fun z=>nomatch z) h
 | tuple hq _ =>
  cases rx
  obtain ⟨its,rv,⟨o,ho,c,n,dd⟩,_⟩:=I.tuple hq
  exact cF Eh I.kIn ⟨o,ho,c⟩ e (fun z=>nomatch z) h
theorem KS:ji X (.builtin "isinstance") (fun xs H Q=>∃ x d T b,xs=[x,.ty T]/\ES X.K H x d/\pF X.K (.type (VI d)) (.type T)=some b/\Q (.bl b) H):=by
 intro pins s σ H xs us Q I r h
 obtain ⟨x,d,T,b,rfl,rp,e,q⟩:=h
 obtain ⟨u,v,rfl,ru,rv⟩:=PJ r
 obtain rfl:v=.type T:=rv
 exact ET I ru rp e fun tk=>⟨.bl b,H,I.tok tk,rfl,q⟩
end
end
end L2
section
namespace HT
open PySem PyProof.Rows
section
variable {prog:aH}{w:aZ}{A:aU}{E:aa->ae->Prop}{s:ae}
theorem Cz {t sl:ai}{items:Array aa}{vl vu:aa}{lo hi:Option Int}{Q:aa->ae->Prop} (ht:IsTup s.heap t items) (hs:s.heap.IsSliceOf sl vl vu .none) (pl:uJ vl lo) (pu:uJ vu hi)
  (hw:iP items.size 0 lo=0/\iP items.size items.size hi=items.size) (h:Q (.ref t) s):au (ay prog w) A (pq (.ref t) (.ref sl)) Q E s:=by
 obtain ⟨os,hos,hcs,hds⟩:=id hs
 have hTs:s.TypeIs (.ref sl) "slice":=⟨os,hos,hcs⟩
 unfold pq
 try with_reducible refine de ?_
 first | refine a7 (a9 ?_) | skip
 refine a7 (wpAny_sequenceKey ht.typeIs (by decide) ?_)
 refine a7 (cc (name:=gy "__getitem__") ht.typeIs fF
  (bF fF ht.typeIs entry_tuple_getitem ?_ (args_tuple_getitem _ _)))
 show au _ _ (tN (.ref t) >>= _) _ _ s
 refine a7 (tupleItemsOf_ ht ?_)
 refine a7 (sd hTs ?_)
 rw [if_pos (by decide)]
 refine a7 (ny hs pl pu ?_)
 have hyes:((((iP items.size 0 lo:Nat):Int) == 0 && (1:Int) == 1 && (iP items.size items.size hi - iP items.size 0 lo) == items.size)=true):=by
  rw [hw.1,hw.2];simp
 show au _ _ (if (((iP items.size 0 lo:Nat):Int) == 0 && (1:Int) == 1 && (iP items.size items.size hi - iP items.size 0 lo) == items.size)=true then _ else _) _ _ s
 rw [if_pos hyes]
 refine a7 ?_
 unfold Builtin.Tuple.tupleIsExact
 refine a7 (sd ht.typeIs (a9 ?_))
 rw [if_pos (by decide)]
 refine a7 (cU ?_)
 first
  | exact a9 (a9 ⟨_,rfl,h⟩)
  | exact a9 ⟨_,rfl,a9 h⟩
  | exact a7 (a9 (a9 ⟨_,rfl,a9 h⟩))
  | exact a7 (a9 (a9 ⟨_,rfl,h⟩))
end
end HT
namespace L2
open PySem PySem.Spec PyProof.Rows
section
variable {X:Cx}
inductive KU (K:a8) (x:V) (lo:Option Int) (hi:Option Int) (H:Hp) (Q:VK):Prop
 | mk (a xs:_) (h0:x=.ref a) (h1:kE K H a xs) (h2:(HT.iP xs.length 0 lo=0/\HT.iP xs.length xs.length hi=xs.length)) (h3:Q (.ref a) H):KU K x lo hi H Q
def Tg (K:a8):V->Option Int->Option Int->Hp->VK->Prop:=KU K
theorem OB:T3 X (Tg X.K):=by
 intro pins s σ H x v vl vu lo hi sl Q I rx hs pl pu h
 obtain ⟨a,xs,rfl,hx,hw,q⟩:=h
 cases rx
 obtain ⟨its,r,ht,hz⟩:=I.tuple hx
 have hlen:its.toArray.size=xs.length:=by rw [aQ];exact r.length.symm
 exact ⟨"tuple",_,PyProof.Rows.slot_tuple_getitem.lookup,ht.typeIs,HT.Cz ht hs pl pu (by rw [hlen];exact hw) ⟨.ref a,H,I,rfl,q⟩⟩
theorem lQ   (h:H p=none):dk H (upd H p o):=fun b u e=>by rw [bf (bR e h)];exact e
theorem xi (hc:X.calm=true):ji X (.type "list") (fun xs H Q=>∃ a kvs,xs=[.ref a]/\H a=some (.dK kvs)/\∀ l,H l=none->Q (.ref l) (upd H l (.lst (kvs.map fun p=>kV p.1)))):=by
 intro pins s σ H xs us Q I r h
 obtain ⟨a,kvs,rfl,hH,q⟩:=h
 obtain ⟨u,rfl,rx⟩:=kF r
 cases rx
 obtain ⟨hz,hs,vs,rk,hd⟩:=(show c_ X.prog X.w H s.heap a (.dK kvs) from I.hok a _ hH)
 obtain ⟨ep,hat⟩:∃ ep,s.heap.DictAt (fS X.prog X.w) a vs ep:=by
  obtain ⟨o,es,ep,h1,h2,h3,h4⟩:=hd
  exact ⟨ep,o,es,h1,h2,h3,h4⟩
 have hlen:kvs.length=vs.length:=j0 rk
 refine PySem.W.kdl_call (PySem.W.kdl_dict hs) (I.ok.hd hc) hat (by omega) fun h' tk acc' c' kp e hacc=>?_
 have rv:du (kvs.map fun p=>kV p.1) acc'.toList:=by
  have key:∀ {kvs:List (fD×V)}{vs:List (fD×aa)} (acc:List aa),KV kvs vs->acc.length=vs.length->(∀ (j:Nat) (v:aa),acc[j]?=some v->∃ k x,vs[j]?=some (k,x)/\wX k v=true)->du (kvs.map fun p=>kV p.1) acc:=by
   intro kvs
   induction kvs with
   | nil=>intro vs acc rk hl _;cases rk;cases acc with
    | nil=>exact .nil
    | cons _ _=>simp at hl
   | cons p kvs ih =>
    intro vs acc rk hl hv
    cases rk with
    | cons h1 t1 =>
     cases acc with
     | nil=>simp at hl
     | cons v acc =>
      refine .cons ?_ (ih acc t1 (by simpa using hl) fun j v hj=>by simpa using hv (j + 1) v (by simpa using hj))
      obtain ⟨k,x,e1,e2⟩:=hv 0 v rfl
      simp only [C0,BX] at e1
      subst e1
      have hk:p.1=k:=h1.1
      rcases eS e2 with ⟨i,t,e,rfl⟩ | ⟨i,t,e,rfl⟩
      ·show dg (kV p.1) _;rw [hk,e];exact ⟨t,rfl⟩
      ·show dg (kV p.1) _;rw [hk,e];exact ⟨t,rfl⟩
  exact key acc'.toList rk (by rw [ao];exact hacc.1) fun j v hj=>hacc.2 j v (by rw [<- aE];exact hj)
 exact ⟨.ref s.heap.objs.size,_,I.laid (t':=tk) kp (ar _) (show c_ X.prog X.w _ h' _ (.lst _) from ⟨by simpa using hz,acc'.toList,c',rv,by rw [Et];exact e⟩),rfl,q _ (I.hok.fresh (ar _))⟩
def xj (x:Str):List V:=x.cps.toList.map fun c=>V.str ⟨#[c]⟩
theorem wf (hc:X.calm=true):ji X (.type "tuple") (fun xs H Q=>∃ x,xs=[.str x]/\x.cps.size<=sizeLine/\∀ l,H l=none->Q (.ref l) (upd H l (.tup (xj x)))):=by
 intro pins s σ H xs us Q I r h
 obtain ⟨x,rfl,hz,q⟩:=h
 obtain ⟨u,rfl,rx⟩:=kF r
 obtain ⟨t,rfl⟩:=rx
 refine call_tuple_str (I.ok.hd hc) x t (fun h' tk acc kp hacc=>?_) hz
 have I1:bQ X pins σ H { s with heap:=h',toks:=tk }:=I.kept (t':=tk) kp
 have rv:du (xj x) acc.toList:=by
  have key:∀ (cs:List Nat) (acc:List aa),acc.length=cs.length->(∀ (j:Nat) (v:aa),acc[j]?=some v->∃ c u,cs[j]?=some c/\v=.str ⟨#[c]⟩ u)->du (cs.map fun c=>V.str ⟨#[c]⟩) acc:=by
   intro cs
   induction cs with
   | nil=>intro acc hl _;cases acc with
    | nil=>exact .nil
    | cons _ _=>simp at hl
   | cons c cs ih =>
    intro acc hl hv
    cases acc with
    | nil=>simp at hl
    | cons v acc =>
     obtain ⟨c',u,e1,rfl⟩:=hv 0 v rfl
     simp only [C0,BX] at e1
     subst e1
     exact .cons ⟨u,rfl⟩ (ih acc (by simpa using hl) fun j v hj=>by simpa using hv (j + 1) v (by simpa using hj))
  refine key x.cps.toList acc.toList (by rw [ao,ao];exact hacc.1) fun j v hj=>?_
  obtain ⟨c,u,e1,e2⟩:=hacc.2 j v (by rw [<- aE];exact hj)
  exact ⟨c,u,by rw [aE];exact e1,e2⟩
 have I2:bQ X pins σ (upd H h'.objs.size (.tup (xj x))) { s with heap:=h'.push { cls:=.type "tuple",data:=.seq acc },toks:=tk } :=
  I1.laid (t':=tk) (fun b o e=>ac _ e) (ar _) (show c_ X.prog X.w _ _ _ (.tup (xj x)) from ⟨by unfold xj;simpa using hz,acc.toList,rv,by rw [Et];exact vT _ _⟩)
 exact ⟨.ref h'.objs.size,_,I2,rfl,q _ (I1.hok.fresh (ar _))⟩
end
end L2
end
namespace L2
open PySem PySem.Spec PyProof.Rows
section
theorem AR (elt target iter:aX) (ifs:List aX) (scope:fZ) (pos:Pos) (it acc:aa) (env:Env) :
  compTurn (.SetComp elt [⟨target,iter,ifs,0⟩] scope pos) 0 it acc env=(do
   vw iter.pos
   let r <- kU it
   match r with
   | none=>pure (.done .next)
   | some v =>
    gH target it v
    pE target env v
    let mut ok:=true
    for c in ifs do
     if ok then ok <- uI c env (eh c env)
    if ok then
     (do let v <- eh elt env;vw elt.pos;let _ <- call (.builtin "set.add") [acc,v])
    NA (.compLoop (.SetComp elt [⟨target,iter,ifs,0⟩] scope pos) 0 it acc env)):=by rfl
section
variable {prog:aH}{w:aZ}{A:aU}{E:aa->ae->Prop}{R:rZ->ae->Prop}{s:ae}
theorem pf {elt target iter ifs bS scope pos it acc env}
  (h0:jo (ay prog w) A (.compLoop (.SetComp elt (⟨target,iter,ifs,0⟩::bS) scope pos) 0 it acc env) R s)
  (h:au (ay prog w) A (wQ it) (fun it' s'=>jo (ay prog w) A (.compLoop (.SetComp elt (⟨target,iter,ifs,0⟩::bS) scope pos) 0 it' acc env) R s')
   (notedBy (ay prog w) A env fun x s'=>R (.error x) s') s) :
  jo (ay prog w) A (.compStart (.SetComp elt (⟨target,iter,ifs,0⟩::bS) scope pos) 0 it acc env) R s:=by
 refine B_ ?_
 show au _ _ ((compStart (.SetComp elt (⟨target,iter,ifs,0⟩::bS) scope pos) 0 it acc env).onRaise (fun x=>do noteFrame x env;vw theWindowsPlace)) _ _ s
 refine wpAny_notedAt ?_
 unfold compStart
 show au _ _ (ask >>= _) _ _ s
 refine a7 (hX (wpAny_ite ?_))
 split
 ·first
   | exact a7 (a9 (a9 (tF rfl h0)))
   | exact a9 (tF rfl h0)
 ·first
   | exact a7 (cU (a7 (iJ (a7 (bH h (fun it' s' hq=>a9 (tF rfl hq)) fun _ _ x=>x)))))
   | (refine a7 (cU ?_);show au _ _ (vw iter.pos >>= _) _ _ s;exact a7 (iJ (a7 (bH h (fun it' s' hq=>a9 (tF rfl hq)) fun _ _ x=>x))))
theorem rM (h:Q (.ref s.heap.objs.size) { s with heap:=s.heap.push (eQ w) }):au (ay prog w) A (newSet (.type "set")) Q E s:=by
 unfold newSet setsByText
 refine a7 (a7 (hX (a9 ?_)))
 dsimp only
 simp only [newObj]
 exact a7 (NE (a9 h))
theorem yP     (hS:k_ w s.heap a ss) (hr:ss.length + 1<iM)
  (h:∀ h' tk',bJ a s.heap h'->k_ w h' a (if x∈ss then ss else ss++[x])->Q .none { s with heap:=h',toks:=tk' }) :
  au (ay prog w) A (call (.builtin "set.add") [.ref a,.str x tk]) Q E s:=by
 have hT:s.TypeIs (.ref a) "set":=by obtain ⟨es,ep,t,I,_⟩:=id hS;exact ⟨_,I.at_,rfl⟩
 refine bF F.slot_set_add hT F.entry_set_add ?_ (F.args_set_add_2 _ _)
 unfold jr.«set.add» NQ
 simp only [List.isEmpty_nil,bind_assoc]
 unfold NR
 refine a7 (a9 ?_)
 try dsimp only
 refine a7 (a9 ?_)
 try dsimp only
 refine a7 ?_
 refine Co hS hr fun h' tk' sb hS'=>?_
 exact a9 ⟨_,rfl,h h' tk' sb hS'⟩
end
section
variable {prog:aH}{w:aZ}{A:aU}{R:rZ->ae->Prop}{s:ae}
theorem CA      (I:Nat->ae->Prop)
  (turn:∀ n s,I n s->au (ay prog w) A (kU it) (fun r s₁=>match r with
   | none=>R (.ok .next) s₁
   | some v=>au (ay prog w) A (gH target it v) (fun _ s₁'=>au (ay prog w) A (pE target env v) (fun _ s₂ =>
     au (ay prog w) A (forIn ifs true fun c r=>if r=true then do let ok <- uI c env (eh c env);pure (fA ok) else pure (fA r)) (fun ok s₃ =>
      if ok=true then au (ay prog w) A (eh elt env) (fun x s₄ =>
       au (ay prog w) A (call (.builtin "set.add") [acc,x]) (fun _ s₅=>∃ m,m<n/\I m s₅) (fun _ _=>False) s₄) (fun _ _=>False) s₃
      else ∃ m,m<n/\I m s₃) (fun _ _=>False) s₂) (fun _ _=>False) s₁') (fun _ _=>False) s₁) (fun _ _=>False) s)
  (n:Nat) (h:I n s) :
  jo (ay prog w) A (.compLoop (.SetComp elt [⟨target,iter,ifs,0⟩] scope pos) 0 it acc env) R s:=by
 refine codeAny_loop rfl I (fun n s hI=>?_) n h
 show au _ A ((compTurn (.SetComp elt [⟨target,iter,ifs,0⟩] scope pos) 0 it acc env).onRaise (fun x=>do noteFrame x env;theTreesLotGoes x)) _ _ s
 refine wpAny_noted ?_
 rw [AR]
 have nf:∀ {α:Type}{t:Sem α}{Q:α->ae->Prop}{E':aa->ae->Prop}{s:ae},au (ay prog w) A t Q (fun _ _=>False) s->au (ay prog w) A t Q E' s :=
  fun h=>bH h (fun _ _ q=>q) fun _ _ f=>f.elim
 refine a7 (iJ (a7 (nf (bH (turn n s hI) (fun r s₁ h₁=>?_) fun _ _ h'=>h'))))
 cases r with
 | none=>exact a9 h₁
 | some v =>
  refine a7 (nf (bH h₁ (fun _ s₁' h₁'=>?_) fun _ _ h'=>h'))
  refine a7 (nf (bH h₁' (fun _ s₂ h₂=>a7 (nf (bH h₂ (fun ok s₃ h₃=>?_) fun _ _ h'=>h'))) fun _ _ h'=>h'))
  cases ok with
  | false=>exact a9 ⟨rfl,h₃⟩
  | true =>
   exact a7 (a7 (nf (bH h₃ (fun x s₄ h₄=>a7 (iJ (a7 (nf (bH h₄ (fun _ s₅ h₅=>a9 (a9 ⟨rfl,h₅⟩)) fun _ _ h'=>h'))))) fun _ _ h'=>h')))
end
inductive Wh (X:Cx) (pins:List (ai×Obj)) (N':List Str) (scope:fZ) (cl:List (Str×ai)) (C:ai) (s2:ae) (H2:Hp) (fp:List ai) (nt:Nat) (ix:List Nat) (σ:St) (tn:Nat->bB->Prop) (W:Nat->Nat->List Str->Hp->Prop) (n:Nat) (s':ae):Prop
 | mk (i:Nat) (acc:List Str) (oD:Obj) (H':Hp) (I:bQ (cL X N' scope cl C s2 H2 fp (X.pn++pins)) [(s2.heap.objs.size,oD)] (jw nt ix σ) H' s') (S:k_ X.w s'.heap s2.heap.objs.size acc) (t:tn i s'.heap) (f:∀ b∈fp,H' b=none) (w:W i n acc H'):Wh X pins N' scope cl C s2 H2 fp nt ix σ tn W n s'
theorem Iu {X:Cx}{elt tg iter:aX}{ifs:List aX}{scope:fZ}{pos:Pos}{g:TG}{tt:TT}{te:TE}{N':List Str}{nt:Nat}{ix:List Nat}
  (hc:X.calm=true) (S:mW X scope N' nt ix) (lo:PY nt g)
  (hb:∀ cl C s₀ H₀ ex pn,PG (cL X N' scope cl C s₀ H₀ ex pn) tg g/\Nu (cL X N' scope cl C s₀ H₀ ex pn) ifs tt/\PE (cL X N' scope cl C s₀ H₀ ex pn) elt te)
  {cl:List (Str×ai)} (c1:∀ x c,cl.lookup x=some c->X.env.cells.lookup x=some c) (c2:∀ y∈scope.names,y.2=.free->∃ c,cl.lookup y.1=some c)
  {pins:List (ai×Obj)}{σ:St}{H2:Hp}{s2:ae}{it:ai}{fp:List ai}{tn:Nat->bB->Prop}{J:It}{Q:VK}{E:aa->ae->Prop}
  (I2:bQ X pins σ H2 s2) (T:yK X.prog X.w X.K tg J fp it tn) (st2:tn 0 s2.heap) (f2:∀ b∈fp,pO X pins H2 b)
  {W:Nat->Nat->List Str->Hp->Prop} (w0:∃ m,W 0 m [] H2)
  (turn:∀ i m acc H,W i m acc H->(J.stop i H/\∀ p,H p=none->Q (.ref p) (upd H p (lf X.w p acc))) \/
   (J.go i H/\acc.length + 1<iM/\∀ x H',J.yld i H x H'->g x (jw nt ix σ) H' fun σ2 H2=>tt σ2 H2 fun b H3 =>
    if b=true then te σ2 H3 fun y H4=>∃ z m',y=.str z/\m'<m/\W (i + 1) m' (if z∈acc then acc else acc++[z]) H4 else ∃ m',m'<m/\W (i + 1) m' acc H3))
  {RR:aa->ai->rZ->ae->Prop}
  (hRR:∀ D C m s' (acc:List Str) H',H' D=none->pO X pins (upd H' D (lf X.w D acc)) C->Q (.ref D) (upd H' D (lf X.w D acc))->s'.heap.Ns C m->(∀ h',bJ C s'.heap h'->bQ X pins σ (upd H' D (lf X.w D acc)) { s' with heap:=h' })->RR (.ref D) C (.ok .next) s') :
  au (ay X.prog X.w) X.A (newSet (.type "set")) (fun acc s₃=>au (ay X.prog X.w) X.A (uL scope X.env.globals cl [] X.env.qual none .none (some X.env)) (fun cenv s₄ =>
   jo (ay X.prog X.w) X.A (.compStart (.SetComp elt [⟨tg,iter,ifs,0⟩] scope pos) 0 (.ref it) acc { cenv with scope:=relabel scope X.env }) (RR acc cenv.locals) s₄) E s₃) E s2:=by
 refine rM (G5 fun h₁ hh₁=>?_)
 dsimp only at hh₁ ⊢
 generalize hG2:s2.heap.push (eQ X.w)=G2 at hh₁ ⊢
 have hC:G2.objs.size=s2.heap.objs.size + 1:=by rw [<- hG2,bY]
 have hDC:s2.heap.objs.size≠G2.objs.size:=by rw [hC];exact aD (eC _)
 have hCle:s2.heap.objs.size<=G2.objs.size:=by rw [hC];exact jL _
 have below:∀ b,b<s2.heap.objs.size->b≠G2.objs.size:=fun b hb=>by rw [hC];exact aD (dU hb)
 have kp:∀ b o,G2.get? b=some o->h₁.get? b=some o:=fun b o e=>by rw [hh₁];exact tq _ _ b o (ac _ e)
 have hns₁:h₁.Ns G2.objs.size (fun _=>none):=by rw [hh₁];exact (Heap.Ns.new G2 (.type "dict")).keeps (tq _ _)
 have ok₁:CellsOk h₁ (G2.objs.size + 1) (bh (G2.objs.size + 1) scope.names []):=by rw [hh₁];exact zB G2 scope.names
 have cne:∀ x c,(bh (G2.objs.size + 1) scope.names cl).lookup x=some c->X.env.cells.lookup x=some c\/s2.heap.objs.size<c:=fun x c e=>by
  rcases kG e with a | ⟨_,a⟩
  ·exact .inr (aA (jW hCle) (ok₁.empty x c a).2)
  ·exact .inl (c1 x c a)
 have old:∀ b o,s2.heap.get? b=some o->h₁.get? b=some o:=fun b o e=>kp b o (hG2 ▸ ac _ e)
 have hacc:h₁.get? s2.heap.objs.size=some (eQ X.w):=kp _ _ (hG2 ▸ av _ rfl)
 have ff:∀ b∈fp,b<s2.heap.objs.size:=fun b hb=>by
  obtain ⟨o,e,_⟩:=T.obj _ _ st2 b hb
  exact aq e
 have I3:bQ (cL X N' scope (bh (G2.objs.size + 1) scope.names cl) G2.objs.size s2 H2 fp (X.pn++pins)) [] (jw nt ix σ) H2 { s2 with heap:=h₁,toks:=s2.toks }:=Ci S I2 c1 c2 f2 ff hCle hns₁ old ok₁
 obtain ⟨pg,pt,pe⟩:=hb (bh (G2.objs.size + 1) scope.names cl) G2.objs.size s2 H2 fp (X.pn++pins)
 have hDfs:s2.heap.objs.size∉rK X.stack:=fun z=>by
  rcases List.mem_cons.mp (I2.stkSub _ z) with e | e
  ·exact absurd I2.lt (by rw [<- e];exact bP _)
  ·exact I2.nofs (ar _) e
 have st1:tn 0 h₁:=T.keep _ _ _ st2 fun b _ o e=>old b o e
 have hDf:s2.heap.objs.size∉fp:=fun z=>absurd (ff _ z) (bP _)
 have stat:∀ {H':Hp}{pl:List (ai×Obj)},(∀ p∈pl,p.1∉fp)->(∀ b∈fp,H' b=none)->∀ b∈fp,pO (cL X N' scope (bh (G2.objs.size + 1) scope.names cl) G2.objs.size s2 H2 fp (X.pn++pins)) pl H' b:=fun hpl hn b hb=>by
  obtain ⟨f0,f1,f2',f3,f4,f5⟩:=f2 b hb
  refine ⟨hn b hb,below b (ff b hb),fun z=>?_,.inl hb,fun x c e=>(cne x c e).elim (f4 x c) fun q z=>vV q (by rw [z];exact ff b hb),fun p hp z=>?_⟩
  ·rcases List.mem_cons.mp (I2.stkSub _ z) with e | e
   ·exact f1 e
   ·exact f2' e
  ·rcases List.mem_append.mp hp with q | q
   ·exact f5 p q z
   ·exact hpl p q (z ▸ hb)
 obtain ⟨m0,w0⟩:=w0
 have loop:jo (ay X.prog X.w) X.A (.compLoop (.SetComp elt [⟨tg,iter,ifs,0⟩] scope pos) 0 (.ref it) (.ref s2.heap.objs.size) (compEnvC scope (bh (G2.objs.size + 1) scope.names cl) G2.objs.size X.env))
    (RR (.ref s2.heap.objs.size) G2.objs.size) { s2 with heap:=h₁,toks:=s2.toks }:=by
  refine CA (Wh X pins N' scope (bh (G2.objs.size + 1) scope.names cl) G2.objs.size s2 H2 fp nt ix σ tn W) ?_ m0
   ⟨0,[],_,H2,I3.pin1 hacc (I2.hok.fresh (ar _)) hDC hDfs (fun v z=>nomatch z),zD X.w hacc,st1,fun b hb=>(f2 b hb).1,w0⟩
  rintro n s3 ⟨i,acc,oD,H3,J3,hS3,st3,fr3,w3⟩
  have plD:∀ p∈[(s2.heap.objs.size,oD)],p.1∉fp:=fun p hp=>by
   have:p=(s2.heap.objs.size,oD):=by simpa using hp
   rw [this];exact hDf
  have stS:∀ {s8:ae},s8.heap.get? s2.heap.objs.size=some oD->k_ X.w s8.heap s2.heap.objs.size acc:=fun {s8} e=>hS3.keep fun o eo=>by
   have q:=(J3.pin (s2.heap.objs.size,oD) (aF _ (List.mem_singleton.mpr rfl))).1
   rw [q] at eo;cases eo;exact e
  rcases turn i n acc H3 w3 with ⟨stop,qn⟩ | ⟨go,hlt,step⟩
  ·refine fK (T.done (cL X N' scope (bh (G2.objs.size + 1) scope.names cl) G2.objs.size s2 H2 fp (X.pn++pins)) rfl rfl rfl hc i _ s3 _ H3 _ J3 (stat plD fr3) st3 stop) fun r s4 h_0=>?_
   obtain ⟨hr,I4⟩:=h_0
   subst hr
   obtain ⟨pD,pN,_⟩:=I4.pin (s2.heap.objs.size,_) (aF _ (List.mem_singleton.mpr rfl))
   obtain ⟨mm,hn,_⟩:=I4.loc
   have hCn:H3 G2.objs.size=none:=I4.free
   refine hRR _ _ mm s4 acc H3 pN (I2.fpOk hCle (by rw [bf (cQ hDC)];exact hCn)) (qn _ pN) hn fun h' sb=>?_
   have hu:Un (rK X.stack) fp H2 (upd H3 s2.heap.objs.size (lf X.w s2.heap.objs.size acc)) s2.heap h':=Un.grow I4.base sb hCle (ar _) pN
   refine I2.call' (s':={ s4 with heap:=h' }) (ch:=fp) I4.os hu ?_ I4.bare fun b hb=>?_
   ·exact uY (Cj I4.hok hCn sb) pN (AN ((stS pD).keep fun o e=>(sb.2 _ hDC).trans e))
   ·obtain ⟨_,f1,_,f3,f4,f5⟩:=f2 b hb
    exact ⟨f3,f1,f4,f5⟩
  ·refine fK (T.item (cL X N' scope (bh (G2.objs.size + 1) scope.names cl) G2.objs.size s2 H2 fp (X.pn++pins)) rfl rfl rfl hc i _ s3 _ H3 _ J3 (stat plD fr3) st3 go) fun r s4 h_1=>?_
   obtain ⟨u,hr,h4⟩:=h_1
   subst hr
   refine fK h4 fun _ s5 h_2=>?_
   obtain ⟨x,H5,I5,r5,y5,st5,fr5⟩:=h_2
   have I5':=I5.pinned (stat plD fr5) (T.obj _ _ st5)
   refine fK (pg _ s5 _ H5 x u _ I5' r5 (lo _ _ _ _ (step x H5 y5))) fun _ s6 h_3=>?_
   obtain ⟨σ6,H6,I6,q6,l6,k6⟩:=h_3
   have hw:∀ (j:Nat) v,(jw nt ix σ)[j]?=some (some v)->σ6[j]?=some (some v):=fun j v e=>by
    by_cases hj:nt<=j
    ·rw [k6 j hj];exact e
    ·unfold jw at e
     rw [bd (by simpa using hj),b_,if_pos (by omega)] at e
     cases e
   refine fK (pt _ s6 σ6 H6 _ I6 q6) fun b s7 h_4=>?_
   obtain ⟨H7,I7,q7⟩:=h_4
   have fpk:∀ {s8:ae}{σ8:St}{H8:Hp},bQ (cL X N' scope (bh (G2.objs.size + 1) scope.names cl) G2.objs.size s2 H2 fp (X.pn++pins)) ([(s2.heap.objs.size,oD)]++uV fp s5.heap) σ8 H8 s8 ->
     tn (i + 1) s8.heap/\∀ b∈fp,H8 b=none:=fun {s8 σ8 H8} I8=>by
    refine ⟨T.keep _ _ _ st5 fun b hb o e=>(I8.pin (b,o) (aF _ (aF _ (jY hb e)))).1,fun b hb=>?_⟩
    obtain ⟨o,e,d⟩:=T.obj _ _ st5 b hb
    exact (I8.pin (b,o) (aF _ (aF _ (jY hb e)))).2.1
   cases b with
   | false =>
    simp only [bv,if_false] at q7 ⊢
    obtain ⟨m',hm,w7⟩:=q7
    obtain ⟨t7,f7⟩:=fpk I7
    obtain ⟨pD,_⟩:=I7.pin (s2.heap.objs.size,oD) (aF _ (bg _ (List.mem_singleton.mpr rfl)))
    exact ⟨m',hm,i + 1,acc,oD,H7,(I7.weak l6.symm hw).unpinned,stS pD,t7,f7,w7⟩
   | true =>
    simp only [if_true] at q7 ⊢
    refine fK (pe _ s7 σ6 H7 _ I7 q7) fun u8 s8 h_5=>?_
    obtain ⟨y,H8,I8,r8,z,m',hy,hm,w8⟩:=h_5
    obtain ⟨t8,f8⟩:=fpk I8
    obtain ⟨pD,pN,_⟩:=I8.pin (s2.heap.objs.size,_) (aF _ (bg _ (List.mem_singleton.mpr rfl)))
    subst hy
    obtain ⟨tz,rfl⟩:=r8
    refine yP (stS pD) hlt fun h9 tk9 sb9 hS9=>?_
    obtain ⟨es9,ep9,t9,is9,pm9⟩:=id hS9
    have e9':=is9.at_
    refine ⟨m',hm,i + 1,_,{ cls:=.type "set",dict:=none,data:=.set es9 ep9 t9 },H8,?_,hS9,T.keep _ _ _ t8 fun b hb o e=>sb9.extBut b o (fun z=>hDf (z ▸ hb)) e,f8,w8⟩
    have I8':bQ (cL X N' scope (bh (G2.objs.size + 1) scope.names cl) G2.objs.size s2 H2 fp (X.pn++pins)) [] (jw nt ix σ) H8 s8:=(I8.weak l6.symm hw).pins_of fun p hp=>absurd hp (by simp)
    have I9:bQ (cL X N' scope (bh (G2.objs.size + 1) scope.names cl) G2.objs.size s2 H2 fp (X.pn++pins)) [] (jw nt ix σ) H8 { s8 with heap:=h9,toks:=tk9 } :=
     I8'.turned (it:=s2.heap.objs.size) (fun b o hb e=>sb9.extBut b o hb e) pN hDC (.inr (ar _)) (fun x c e z=>by
      rcases cne x c e with e | e
      ·obtain ⟨v,q⟩:=I2.cell x c e
       exact absurd q.lt (by rw [z];exact bP _)
      ·exact absurd e (by rw [z];exact bP _)) fun p hp z=>by
      have hp:p∈X.pn++pins:=(List.mem_append.mp hp).elim id fun z=>absurd z (by simp)
      exact absurd (aq (I2.pin p hp).1) (by rw [z];exact bP _)
    exact I9.pin1 e9' pN hDC hDfs (fun v z=>nomatch z)
 exact pf loop (T.self _ 0 _ _ _ st1 loop)
inductive P_ (w:aZ) (nt:Nat) (ix:List Nat) (g:TG) (tt:TT) (te:TE) (σ:St) (Q:VK) (J:It) (H1:Hp):Prop
 | mk (W:Nat->Nat->List Str->Hp->Prop) (w0:∃ m,W 0 m [] H1) (turn:∀ i m acc H,W i m acc H ->
 (J.stop i H/\∀ p,H p=none->Q (.ref p) (upd H p (lf w p acc))) \/
 (J.go i H/\acc.length + 1<iM/\∀ x H',J.yld i H x H'->g x (jw nt ix σ) H' fun σ2 H2=>tt σ2 H2 fun b H3 =>
  if b=true then te σ2 H3 fun y H4=>∃ z m',y=.str z/\m'<m/\W (i + 1) m' (if z∈acc then acc else acc++[z]) H4 else ∃ m',m'<m/\W (i + 1) m' acc H3)):P_ w nt ix g tt te σ Q J H1
def KW (w:aZ) (nt:Nat) (ix:List Nat) (wi:TI) (g:TG) (tt:TT) (te:TE):TE:=fun σ H Q=>wi σ H (P_ w nt ix g tt te σ Q)
theorem EU {X:Cx}{elt tg iter:aX}{ifs:List aX}{scope:fZ}{pos:Pos}{wi:TI}{g:TG}{tt:TT}{te:TE}{N':List Str}{nt:Nat}{ix:List Nat}
  (hc:X.calm=true) (S:mW X scope N' nt ix) (lo:PY nt g) (hi:PI X tg iter wi)
  (hb:∀ cl C s₀ H₀ ex pn,PG (cL X N' scope cl C s₀ H₀ ex pn) tg g/\Nu (cL X N' scope cl C s₀ H₀ ex pn) ifs tt/\PE (cL X N' scope cl C s₀ H₀ ex pn) elt te)
  (hs:∀ x,e7 iter X.env x=pure x:=by intro _;rfl):PE X (.SetComp elt [⟨tg,iter,ifs,0⟩] scope pos) (KW X.w nt ix wi g tt te):=by
 intro pins s σ H Q I h
 obtain ⟨cl,hcl,c1,c2⟩:=sr (scope:=scope) (env:=X.env) fun y hy hf=>I.ok.has y.1 (S.free y hy hf)
 show au _ _ (comprehension (.SetComp elt [⟨tg,iter,ifs,0⟩] scope pos) scope X.env (firstIterPos [⟨tg,iter,ifs,0⟩] pos) (newSet (.type "set")) (firstAsync [⟨tg,iter,ifs,0⟩]) (firstIter [⟨tg,iter,ifs,0⟩] X.env)) _ _ _
 refine pH (use:=none) rfl hs hcl S.kind S.loc (fK (hi pins s σ H _ I h) fun v s1 h1=>fK h1 fun itv s2 h2=>?_)
 obtain ⟨it,fp,tn,J,H2,e,I2,T,st2,f2,W,w0,turn⟩:=h2
 subst e
 refine Iu (RR:=fun acc C=>compPost (ay X.prog X.w) X.A X.xe none (EP X pins σ Q) acc C) hc S lo hb c1 c2 I2 T st2 f2 w0 turn ?_
 intro D C m s' acc H' hD _ q hn hI
 exact ⟨m,hn,fun h' sb=>⟨.ref D,_,hI h' sb,rfl,q⟩⟩
section
variable {X:Cx}
theorem yQ:ji X (.builtin "len") (fun xs H Q=>∃ p ss,xs=[.ref p]/\H p=some (lf X.w p ss)/\Q (.int ss.length) H):=by
 intro pins s σ H xs us Q I r h
 obtain ⟨p,ss,rfl,hq,q⟩:=h
 obtain ⟨u,rfl,rx⟩:=kF r
 cases rx
 obtain ⟨es,ep,t,is,pm⟩:=(show c_ X.prog X.w H s.heap p (lf X.w p ss) from I.hok p _ hq).1
 have hlen:es.size=ss.length:=by rw [<- pm.length_eq,ak,ao]
 have hsm:(es.size:Int)<2 ^ 63:=by
  have h1:=is.few
  have h2:iM<=2 ^ 62:=by decide
  omega
 refine mT kind_len plain_len entry_len (args_len1 _) (wpAny_len_body_set is.at_ ⟨rfl,rfl,rfl⟩ rfl is.fits hsm ?_)
 refine ⟨.int _,H,I.tok _,⟨_,rfl⟩,?_⟩
 rw [hlen];exact q
end
end
end L2
section
namespace L2
open PySem PySem.Spec PyProof.Rows
section
variable {K:a8}{nt:Nat}{ix:List Nat}{te:TE}{σ:St}{H1:Hp}{Q:VK}{a:ai}{xs:List V}{i:Nat}
end
end L2
namespace L2
open PySem PySem.Spec PyProof.Rows
def G8 (so:fZ) (N:List Str) (scope:fZ) (N':List Str) (nt:Nat) (ix:List Nat):Bool :=
 (scope.kind == .function) && (scope.names.all fun y=>y.2 != .cell || scope.names.lookup y.1 == some .cell) && (scope.names.all fun y=>y.2 != .local || scope.names.lookup y.1 == some .local) &&
 (scope.names.all fun y=>y.2 != .free || so.names.lookup y.1 == some .cell || so.names.lookup y.1 == some .free) &&
 ((bD ix.length).all fun k=>match ix[k]? with
  | none=>false
  | some i=>match N[i]? with
   | none=>false
   | some x=>N'[nt + k]? == some x && scope.names.lookup x == some .free) && (N'.length == nt + ix.length)
theorem cr       (h:G8 so N scope N' nt ix=true) (h1:X.env.scope=so:=by rfl) (h2:X.N=N:=by rfl):mW X scope N' nt ix:=by
 unfold G8 at h
 simp only [aO,cg] at h
 obtain ⟨⟨⟨⟨⟨a,b⟩,c⟩,d⟩,e⟩,l⟩:=h
 refine ⟨by simpa using a,fun y hy z=>?_,fun y hy z=>?_,fun y hy z=>?_,fun k i hk=>?_,by simpa using l⟩
 ·have:=b y hy;simpa [z] using this
 ·have:=c y hy;simpa [z] using this
 ·have:=d y hy
  rw [h1]
  simpa [z] using this
 ·have hl:k<ix.length:=(List.getElem?_eq_some_iff.mp hk).1
  have:=e k (List.mem_range.mpr hl)
  rw [hk] at this
  rw [h2]
  simp only at this
  split at this
  ·cases this
  ·rename_i x hx
   simp only [aO] at this
   exact ⟨x,hx,by simpa using this.1,by simpa using this.2⟩
end L2
end
namespace L2
open PySem PySem.Spec PyProof.Rows
section
section
variable {K:a8}{nt:Nat}{ix:List Nat}{te:TE}{σ:St}{H1:Hp}{Q:VK}{a b:ai}{xs ys:List V}{i k:Nat}
end
end
end L2
namespace J
open PySem L2
section
abbrev D:=Ar
inductive R (α:Type) where
 | ok (a:α)
 | ex (c:Str) (n:Option D)
 | no
def R.bind {α β:Type}:R α->(α->R β)->R β
 | .ok a,f=>f a
 | .ex c n,_=>.ex c n
 | .no,_=>.no
@[simp] theorem bind_ok {α β:Type} (a:α) (f:α->R β):(R.ok a).bind f=f a:=rfl
@[simp] theorem bind_ex {α β:Type} (c:Str) (n:Option D) (f:α->R β):(R.ex c n).bind f=.ex c n:=rfl
@[simp] theorem bind_no {α β:Type} (f:α->R β):(R.no:R α).bind f=.no:=rfl
def kD:fD->D
 | .inl i=>.int i
 | .inr x=>.str x
def tD (ks:List fD):D:=.tuple (ks.map kD)
mutual
inductive RD (K:a8) (H:Hp):V->D->Prop
 | none:RD K H .non .none
 | bool (b:Bool):RD K H (.bl b) (.bool b)
 | int (i:Int):RD K H (.int i) (.int i)
 | str (x:Str):RD K H (.str x) (.str x)
 | list {a:ai}{xs:List V}{ds:List D}:oW K H a xs->RDs K H xs ds->RD K H (.ref a) (.list ds)
 | tuple {a:ai}{xs:List V}{ds:List D}:H a=some (.tup xs)->RDs K H xs ds->RD K H (.ref a) (.tuple ds)
 | dictK {a:ai}{kvs:List (fD×V)}{ds:List (D×D)}:H a=some (.dK kvs)->RDk K H kvs ds->RD K H (.ref a) (.dict ds)
 | dictT {a:ai}{kvs:List (List fD×V)}{ds:List (D×D)}:H a=some (.dT kvs)->kvs≠[]->RDt K H kvs ds->RD K H (.ref a) (.dict ds)
 | dictF {a:ai}{o:Obj}{kvs:List (List fD×V)}{ds:List (D×D)}:H a=some (.frz o (.dT kvs))->kvs≠[]->RDt K H kvs ds->RD K H (.ref a) (.dict ((.none,.none)::ds))
inductive RDs (K:a8) (H:Hp):List V->List D->Prop
 | nil:RDs K H [] []
 | cons {x:V}{xs:List V}{d:D}{ds:List D}:RD K H x d->RDs K H xs ds->RDs K H (x::xs) (d::ds)
inductive RDk (K:a8) (H:Hp):List (fD×V)->List (D×D)->Prop
 | nil:RDk K H [] []
 | cons {k:fD}{x:V}{xs:List (fD×V)}{d:D}{ds:List (D×D)}:RD K H x d->RDk K H xs ds->RDk K H ((k,x)::xs) ((kD k,d)::ds)
inductive RDt (K:a8) (H:Hp):List (List fD×V)->List (D×D)->Prop
 | nil:RDt K H [] []
 | cons {k:List fD}{x:V}{xs:List (List fD×V)}{d:D}{ds:List (D×D)}:RD K H x d->RDt K H xs ds->RDt K H ((k,x)::xs) ((tD k,d)::ds)
end
section
variable {K:a8}{H H':Hp}
theorem RD.same (e:dk H H')  (h:RD K H v d):RD K H' v d:=RD.rec (motive_1:=fun v d _=>RD K H' v d) (motive_2:=fun v d _=>RDs K H' v d) (motive_3:=fun v d _=>RDk K H' v d) (motive_4:=fun v d _=>RDt K H' v d) .none .bool .int .str (fun h _ r=>.list (e.seq h) r) (fun h _ r=>.tuple (e _ _ h) r) (fun h _ r=>.dictK (e _ _ h) r) (fun h n _ r=>.dictT (e _ _ h) n r) (fun h n _ r=>.dictF (e _ _ h) n r) .nil (fun _ _ a b=>.cons a b) .nil (fun _ _ a b=>.cons a b) .nil (fun _ _ a b=>.cons a b) h
theorem RDs.same (e:dk H H')  (h:RDs K H v d):RDs K H' v d:=RDs.rec (motive_1:=fun v d _=>RD K H' v d) (motive_2:=fun v d _=>RDs K H' v d) (motive_3:=fun v d _=>RDk K H' v d) (motive_4:=fun v d _=>RDt K H' v d) .none .bool .int .str (fun h _ r=>.list (e.seq h) r) (fun h _ r=>.tuple (e _ _ h) r) (fun h _ r=>.dictK (e _ _ h) r) (fun h n _ r=>.dictT (e _ _ h) n r) (fun h n _ r=>.dictF (e _ _ h) n r) .nil (fun _ _ a b=>.cons a b) .nil (fun _ _ a b=>.cons a b) .nil (fun _ _ a b=>.cons a b) h
theorem RDk.same (e:dk H H')  (h:RDk K H v d):RDk K H' v d:=RDk.rec (motive_1:=fun v d _=>RD K H' v d) (motive_2:=fun v d _=>RDs K H' v d) (motive_3:=fun v d _=>RDk K H' v d) (motive_4:=fun v d _=>RDt K H' v d) .none .bool .int .str (fun h _ r=>.list (e.seq h) r) (fun h _ r=>.tuple (e _ _ h) r) (fun h _ r=>.dictK (e _ _ h) r) (fun h n _ r=>.dictT (e _ _ h) n r) (fun h n _ r=>.dictF (e _ _ h) n r) .nil (fun _ _ a b=>.cons a b) .nil (fun _ _ a b=>.cons a b) .nil (fun _ _ a b=>.cons a b) h
theorem RDt.same (e:dk H H')  (h:RDt K H v d):RDt K H' v d:=RDt.rec (motive_1:=fun v d _=>RD K H' v d) (motive_2:=fun v d _=>RDs K H' v d) (motive_3:=fun v d _=>RDk K H' v d) (motive_4:=fun v d _=>RDt K H' v d) .none .bool .int .str (fun h _ r=>.list (e.seq h) r) (fun h _ r=>.tuple (e _ _ h) r) (fun h _ r=>.dictK (e _ _ h) r) (fun h n _ r=>.dictT (e _ _ h) n r) (fun h n _ r=>.dictF (e _ _ h) n r) .nil (fun _ _ a b=>.cons a b) .nil (fun _ _ a b=>.cons a b) .nil (fun _ _ a b=>.cons a b) h
mutual
def ua:D->Bool
 | .dict _=>false
 | .list xs=>noDs xs
 | .tuple xs=>noDs xs
 | _=>true
def noDs:List D->Bool
 | []=>true
 | x::r=>ua x && noDs r
end
theorem Th (h:(a && b)=true):a=true:=(Bool.and_eq_true_iff.mp h).1
theorem Ti (h:(a && b)=true):b=true:=(Bool.and_eq_true_iff.mp h).2
theorem RD.rep  (h:RD K H v d):ua d=true->ES K H v d:=RD.rec (motive_1:=fun v d _=>ua d=true->ES K H v d) (motive_2:=fun v d _=>noDs d=true->Reps K H v d) (motive_3:=fun _ _ _=>True) (motive_4:=fun _ _ _=>True) (fun _=>.none) (fun b _=>.bool b) (fun i _=>.int i) (fun x _=>.str x) (fun h _ r e=>.list h (r e)) (fun h _ r e=>.tuple (.of h) (r e)) (fun _ _ _ e=>wy e) (fun _ _ _ _ e=>wy e) (fun _ _ _ _ e=>wy e) (fun _=>.nil) (fun _ _ a b e=>.cons (a (Th e)) (b (Ti e))) trivial (fun _ _ _ _=>trivial) trivial (fun _ _ _ _=>trivial) h
theorem RDs.length:∀ {ds:List D},RDs K H vs ds->vs.length=ds.length:=by
 induction vs with
 | nil=>intro ds h;cases h;rfl
 | cons x r ih=>intro ds h;cases h with | cons a b=>exact congrArg (· + 1) (ih b)
theorem RDs.get:∀ {ds:List D}{i:Nat}{v:V},RDs K H vs ds->vs[i]?=some v->∃ d,ds[i]?=some d/\RD K H v d:=by
 induction vs with
 | nil=>intro ds i v _ e;cases e
 | cons x r ih =>
  intro ds i v h e
  cases h with
  | cons a b =>
   cases i with
   | zero=>cases e;exact ⟨_,rfl,a⟩
   | succ i=>have q:=ih (i:=i) b e;exact q
theorem RDs.get':∀ {ds:List D}{i:Nat}{d:D},RDs K H vs ds->ds[i]?=some d->∃ v,vs[i]?=some v/\RD K H v d:=by
 induction vs with
 | nil=>intro ds i v h e;cases h;cases e
 | cons x r ih =>
  intro ds i v h e
  cases h with
  | cons a b =>
   cases i with
   | zero=>cases e;exact ⟨_,rfl,a⟩
   | succ i=>have q:=ih (i:=i) b e;exact q
theorem RDs.append  : ∀ {ds:List D},RDs K H vs ds->RDs K H ws es->RDs K H (vs++ws) (ds++es):=by
 induction vs with
 | nil=>intro ds h s;cases h;exact s
 | cons x r ih=>intro ds h s;cases h with | cons a b=>exact .cons a (ih b s)
theorem RDs.drop:∀ {ds:List D} (n:Nat),RDs K H vs ds->RDs K H (vs.drop n) (ds.drop n):=by
 induction vs with
 | nil=>intro ds n h;cases h;cases n<;>exact .nil
 | cons x r ih =>
  intro ds n h
  cases n with
  | zero=>exact h
  | succ n=>cases h with | cons a b=>exact ih n b
theorem RDs.take:∀ {ds:List D} (n:Nat),RDs K H vs ds->RDs K H (vs.take n) (ds.take n):=by
 induction vs with
 | nil=>intro ds n h;cases h;cases n<;>exact .nil
 | cons x r ih =>
  intro ds n h
  cases n with
  | zero=>exact .nil
  | succ n=>cases h with | cons a b=>exact .cons a (ih n b)
theorem ub:∀ (ss:List Str),RDs K H (ss.map V.str) (ss.map aS)
 | []=>.nil
 | x::r=>.cons (.str x) (ub r)
theorem RD.str_inv  (h:RD K H v (.str x)):v=.str x:=by cases h;rfl
theorem RD.bool_inv  (h:RD K H v (.bool x)):v=.bl x:=by cases h;rfl
theorem RD.int_inv  (h:RD K H v (.int x)):v=.int x:=by cases h;rfl
theorem AS {α:Type}{c:α->D}{k:α->V} (hc:∀ {v x},RD K H v (c x)->v=k x) {ss:List α}:∀ {vs:List V},RDs K H vs (ss.map c)->vs=ss.map k:=by
 induction ss with
 | nil=>intro vs h;cases h;rfl
 | cons x r ih=>intro vs h;cases h with | cons a b=>rw [hc a,ih b];rfl
theorem li {ss:List Str}{vs:List V}:RDs K H vs (ss.map aS)->vs=ss.map V.str:=AS RD.str_inv
theorem yR {ss:List Bool}{vs:List V}:RDs K H vs (ss.map cC)->vs=ss.map V.bl:=AS RD.bool_inv
end
def nt:HO->Bool
 | .tup _=>false
 | _=>true
structure cD (H Hs H' Hs':Hp):Prop where
 all:dk H H'
 sh:dk Hs Hs'
 sub:dk Hs' H'
 out:∀ a o,H a=some o->nt o=true->Hs a=none->Hs' a=none
theorem cD.refl (h:dk Hs H):cD H Hs H Hs:=⟨.refl _,.refl _,h,fun _ _ _ _ e=>e⟩
theorem cD.trans (a:cD H Hs H1 Hs1) (b:cD H1 Hs1 H2 Hs2):cD H Hs H2 Hs2 :=
 ⟨a.all.trans b.all,a.sh.trans b.sh,b.sub,fun c o e t n=>b.out c o (a.all c o e) t (a.out c o e t n)⟩
theorem cD.new   (h:dk Hs H) (n:H p=none):cD H Hs (upd H p o) (upd Hs p o):=by
 have n':Hs p=none:=h.free n
 refine ⟨lQ n,lQ n',fun b u e=>?_,fun a u e t z=>?_⟩
 ·by_cases hb:b=p
  ·subst hb;rw [b9] at e ⊢;exact e
  ·rw [bf hb] at e ⊢;exact h b u e
 ·rw [bf (bR e n)];exact z
theorem cD.mine   (h:dk Hs H) (n:H p=none):cD H Hs (upd H p o) Hs:=by
 refine ⟨lQ n,.refl _,fun b u e=>?_,fun a u e t z=>z⟩
 have e':=h b u e
 rw [bf (bR e' n)];exact e'
inductive mn (K:a8) (Hs:Hp):HO->D->Prop
 | lst {vs:List V}{ds:List D}:RDs K Hs vs ds->mn K Hs (.lst vs) (.list ds)
 | dK {kvs:List (fD×V)}{ds:List (D×D)}:RDk K Hs kvs ds->mn K Hs (.dK kvs) (.dict ds)
 | dT {kvs:List (List fD×V)}{ds:List (D×D)}:kvs≠[]->RDt K Hs kvs ds->mn K Hs (.dT kvs) (.dict ds)
 | dF {o:Obj}{kvs:List (List fD×V)}{ds:List (D×D)}:kvs≠[]->RDt K Hs kvs ds->mn K Hs (.frz o (.dT kvs)) (.dict ((.none,.none)::ds))
theorem mn.same    (e:dk Hs Hs') (h:mn K Hs o d):mn K Hs' o d:=by
 cases h with
 | lst r=>exact .lst (r.same e)
 | dK r=>exact .dK (r.same e)
 | dT n r=>exact .dT n (r.same e)
 | dF n r=>exact .dF n (r.same e)
theorem mn.nt    (h:mn K Hs o d):J.nt o=true:=by cases h<;>rfl
theorem mn.share     (n:Hs a=none) (h:mn K Hs o d):RD K (upd Hs a o) (.ref a) d:=by
 have e:dk Hs (upd Hs a o):=lQ n
 cases h with
 | lst r=>exact .list (.of b9) (r.same e)
 | dK r=>exact .dictK b9 (r.same e)
 | dT n r=>exact .dictT b9 n (r.same e)
 | dF n r=>exact .dictF b9 n (r.same e)
inductive Sl where
 | no
 | shr (d:D)
 | own (d:D)
 | lck (d:D)
 | ow2 (dss:List (List D))
abbrev az:=List Sl
inductive zF (K:a8) (H Hs:Hp):List ai->List (List D)->Prop
 | nil:zF K H Hs [] []
 | cons {a:ai}{as:List ai}{vs:List V}{ds:List D}{dss:List (List D)}:H a=some (.lst vs)->RDs K Hs vs ds->zF K H Hs as dss->zF K H Hs (a::as) (ds::dss)
theorem zF.step  (e:dk H H') (e':dk Hs Hs')  (h:zF K H Hs as dss):zF K H' Hs' as dss:=by
 induction h with
 | nil=>exact .nil
 | cons h r t ih=>exact .cons (e _ _ h) (r.same e') ih
theorem zF.upd      (n:b∉as) (h:zF K H Hs as dss):zF K (upd H b o) Hs as dss:=by
 induction h with
 | nil=>exact .nil
 | cons h r t ih=>exact .cons (by rw [bf (fun z=>n (by rw [<- z];exact am))];exact h) r (ih fun z=>n (ah _ z))
theorem zF.there     (h:zF K H Hs as dss) (hb:b∈as):∃ o,H b=some o/\nt o=true:=by
 induction h with
 | nil=>cases hb
 | cons h r t ih =>
  rcases List.mem_cons.mp hb with e | hb
  ·exact ⟨_,e ▸ h,rfl⟩
  ·exact ih hb
structure O2 (K:a8) (H0 H Hs:Hp) (ρ:az) (σ:St) (i:Nat) (dss:List (List D)) (a:ai) (as:List ai):Prop where
 at_:σ[i]?=some (some (V.ref a))
 ob:H a=some (.lst (as.map V.ref))
 nd:(a::as).Nodup
 out:∀ b∈a::as,Hs b=none/\H0 b=none
 dj:∀ b∈a::as,∀ (j:Nat) (e:D),ρ[j]?=some (Sl.own e)->σ[j]?≠some (some (V.ref b))
 inn:zF K H Hs as dss
structure Fr (K:a8) (H0 Hs0:Hp) (la:Nat->Option ai) (ρ:az) (σ:St) (H Hs:Hp):Prop where
 st:cD H0 Hs0 H Hs
 len:ρ.length=σ.length
 sh:∀ (i:Nat) (d:D),ρ[i]?=some (Sl.shr d)->∃ v,σ[i]?=some (some v)/\RD K Hs v d
 ow:∀ (i:Nat) (d:D),ρ[i]?=some (Sl.own d)->∃ a o,σ[i]?=some (some (V.ref a))/\H a=some o/\Hs a=none/\H0 a=none/\mn K Hs o d
 lk:∀ (i:Nat) (d:D),ρ[i]?=some (Sl.lck d)->∃ a o,σ[i]?=some (some (V.ref a))/\la i=some a/\H a=some o/\Hs a=none/\H0 a=some o/\mn K Hs o d
 dj:∀ (i j:Nat) (d e:D) (a:ai),ρ[i]?=some (Sl.own d)->ρ[j]?=some (Sl.own e)->σ[i]?=some (some (V.ref a))->σ[j]?=some (some (V.ref a))->i=j
 lh:∀ (i:Nat) (a:ai),la i=some a->∃ o,H0 a=some o
 o2:∀ (i:Nat) (dss:List (List D)),ρ[i]?=some (Sl.ow2 dss)->∃ a as,O2 K H0 H Hs ρ σ i dss a as
 u2:∀ (i j:Nat) (d e:List (List D)),ρ[i]?=some (Sl.ow2 d)->ρ[j]?=some (Sl.ow2 e)->i=j
theorem Fr.step     (f:Fr K H0 Hs0 la ρ σ H Hs) (s:cD H Hs H' Hs'):Fr K H0 Hs0 la ρ σ H' Hs':=by
 refine ⟨f.st.trans s,f.len,fun i d e=>?_,fun i d e=>?_,fun i d e=>?_,f.dj,f.lh,fun i dss e=>?_,f.u2⟩
 ·obtain ⟨v,h1,h2⟩:=f.sh i d e
  exact ⟨v,h1,h2.same s.sh⟩
 ·obtain ⟨a,o,h1,h2,h3,h4,h5⟩:=f.ow i d e
  exact ⟨a,o,h1,s.all _ _ h2,s.out _ _ h2 h5.nt h3,h4,h5.same s.sh⟩
 ·obtain ⟨a,o,h1,h2,h3,h4,h5,h6⟩:=f.lk i d e
  exact ⟨a,o,h1,h2,s.all _ _ h3,s.out _ _ h3 h6.nt h4,h5,h6.same s.sh⟩
 ·obtain ⟨a,as,h⟩:=f.o2 i dss e
  refine ⟨a,as,h.at_,s.all _ _ h.ob,h.nd,fun b hb=>⟨?_,(h.out b hb).2⟩,h.dj,h.inn.step s.all s.sh⟩
  have there:∃ o,H b=some o/\nt o=true:=by
   rcases List.mem_cons.mp hb with rfl | hb
   ·exact ⟨_,h.ob,rfl⟩
   ·exact h.inn.there hb
  obtain ⟨o,ho,hn⟩:=there
  exact s.out b o ho hn (h.out b (by assumption)).1
inductive Tj (K:a8) (H Hs:Hp) (v:V) (d:D):Prop
 | mk (a:ai) (o:HO) (h0:v=.ref a) (h1:H a=some o) (h2:Hs a=none) (h3:mn K Hs o d):Tj K H Hs v d
def RB (K:a8) (H Hs:Hp) (v:V) (d:D):Prop:=RD K Hs v d\/Tj K H Hs v d
theorem RB.step    (h:RB K H Hs v d) (s:cD H Hs H' Hs'):RB K H' Hs' v d:=by
 rcases h with h | ⟨a,o,h1,h2,h3,h4⟩
 ·exact .inl (h.same s.sh)
 ·exact .inr ⟨a,o,h1,s.all _ _ h2,s.out _ _ h2 h4.nt h3,h4.same s.sh⟩
theorem RB.full    (sub:dk Hs H) (h:RB K H Hs v d):RD K H v d:=by
 rcases h with h | ⟨a,o,rfl,h2,h3,h4⟩
 ·exact h.same sub
 ·have e:dk (upd Hs a o) H:=fun b u q=>by
   by_cases hb:b=a
   ·subst hb;rw [b9] at q;cases q;exact h2
   ·rw [bf hb] at q;exact sub b u q
  exact (h4.share h3).same e
theorem RB.list    (sub:dk Hs H) (h:RB K H Hs v (.list ds)):∃ a vs,v=.ref a/\oW K H a vs/\RDs K Hs vs ds:=by
 rcases h with h | ⟨a,o,rfl,h2,h3,h4⟩
 ·cases h with | list q r=>exact ⟨_,_,rfl,sub.seq q,r⟩
 ·cases h4 with | lst r=>exact ⟨a,_,rfl,.of h2,r⟩
theorem RB.tuple    (sub:dk Hs H) (h:RB K H Hs v (.tuple ds)):∃ a vs,v=.ref a/\kE K H a vs/\RDs K Hs vs ds/\Hs a=some (.tup vs):=by
 rcases h with h | ⟨a,o,rfl,h2,h3,h4⟩
 ·cases h with | tuple q r=>exact ⟨_,_,rfl,.of (sub _ _ q),r,q⟩
 ·cases h4
theorem RB.str    (h:RB K H Hs v (.str x)):v=.str x:=by
 rcases h with h | ⟨a,o,rfl,h2,h3,h4⟩
 ·exact h.str_inv
 ·cases h4
theorem RB.int    (h:RB K H Hs v (.int i)):v=.int i:=by
 rcases h with h | ⟨a,o,rfl,h2,h3,h4⟩
 ·exact h.int_inv
 ·cases h4
theorem RB.non   (h:RB K H Hs v .none):v=.non:=by
 rcases h with h | ⟨a,o,rfl,h2,h3,h4⟩
 ·cases h;rfl
 ·cases h4
def XW (K:a8) (cls:Str->ai) (E:XK) (c:Str) (n:Option D) (H Hs:Hp):Prop:=match n with
 | none=>E (.ref (cls c)) none H
 | some d=>∀ dx v,H dx=some (.xd [("number",v)])->RD K Hs v d->E (.ref (cls c)) (some dx) H
def Fin {α:Type} (K:a8) (cls:Str->ai) (E:XK) (H Hs:Hp) (r:R α) (q:α->Prop):Prop:=match r with
 | .ok d=>q d
 | .ex c n=>∀ H' Hs',cD H Hs H' Hs'->XW K cls E c n H' Hs'
 | .no=>False
inductive Wi (K:a8) (cls:Str->ai) (E:XK) (ρ:az) (r:R D) (σ:St) (H:Hp) (Q:VK):Prop
 | mk (H0 Hs0:Hp) (la:Nat->Option ai) (Hs:Hp) (f:Fr K H0 Hs0 la ρ σ H Hs) (q:Fin K cls E H Hs r fun d=>∀ v H' Hs',cD H Hs H' Hs'->RD K Hs' v d->Q v H'):Wi K cls E ρ r σ H Q
def TR (K:a8) (cls:Str->ai) (E:XK) (ρ:az) (r:R D):TE:=Wi K cls E ρ r
inductive Wj (K:a8) (cls:Str->ai) (E:XK) (ρ:az) (r:R D) (σ:St) (H:Hp) (Q:VK):Prop
 | mk (H0 Hs0:Hp) (la:Nat->Option ai) (Hs:Hp) (f:Fr K H0 Hs0 la ρ σ H Hs) (q:Fin K cls E H Hs r fun d=>∀ v H' Hs',cD H Hs H' Hs'->RB K H' Hs' v d->Q v H'):Wj K cls E ρ r σ H Q
def TB (K:a8) (cls:Str->ai) (E:XK) (ρ:az) (r:R D):TE:=Wj K cls E ρ r
inductive Tl (K:a8) (cls:Str->ai) (E:XK) (ρ:az) (r:R Bool) (σ:St) (H:Hp) (Q:Bool->Hp->Prop):Prop
 | mk (H0 Hs0:Hp) (la:Nat->Option ai) (Hs:Hp) (f:Fr K H0 Hs0 la ρ σ H Hs) (q:Fin K cls E H Hs r fun b=>∀ H' Hs',cD H Hs H' Hs'->Q b H'):Tl K cls E ρ r σ H Q
def Iv (K:a8) (cls:Str->ai) (E:XK) (ρ:az) (r:R Bool):TT:=Tl K cls E ρ r
inductive Q0 (K:a8) (H Hs:Hp):List V->List D->Prop
 | nil:Q0 K H Hs [] []
 | cons {x:V}{xs:List V}{d:D}{ds:List D}:RB K H Hs x d->Q0 K H Hs xs ds->Q0 K H Hs (x::xs) (d::ds)
inductive Tn (K:a8) (cls:Str->ai) (E:XK) (ρ:az) (r:R (List D)) (σ:St) (H:Hp) (Q:List V->Hp->Prop):Prop
 | mk (H0 Hs0:Hp) (la:Nat->Option ai) (Hs:Hp) (f:Fr K H0 Hs0 la ρ σ H Hs) (q:Fin K cls E H Hs r fun d=>∀ v H' Hs',cD H Hs H' Hs'->RDs K Hs' v d->Q v H'):Tn K cls E ρ r σ H Q
def UX (K:a8) (cls:Str->ai) (E:XK) (ρ:az) (r:R (List D)):TA:=Tn K cls E ρ r
inductive To (K:a8) (cls:Str->ai) (E:XK) (ρ:az) (r:R (List D)) (σ:St) (H:Hp) (Q:List V->Hp->Prop):Prop
 | mk (H0 Hs0:Hp) (la:Nat->Option ai) (Hs:Hp) (f:Fr K H0 Hs0 la ρ σ H Hs) (q:Fin K cls E H Hs r fun d=>∀ v H' Hs',cD H Hs H' Hs'->Q0 K H' Hs' v d->Q v H'):To K cls E ρ r σ H Q
def UY (K:a8) (cls:Str->ai) (E:XK) (ρ:az) (r:R (List D)):TA:=To K cls E ρ r
structure C where
 X:Cx
 cls:Str->ai
 E:XK
structure JE (c:C) (e:aX) (g:az->R D):Prop where of ::
 run:∀ ρ,PE c.X e (TR c.X.K c.cls c.E ρ (g ρ))
instance {c:C}{e:aX}{g:az->R D}:CoeFun (JE c e g) (fun _=>∀ ρ,PE c.X e (TR c.X.K c.cls c.E ρ (g ρ))):=⟨JE.run⟩
structure JB (c:C) (e:aX) (g:az->R D):Prop where of ::
 run:∀ ρ,PE c.X e (TB c.X.K c.cls c.E ρ (g ρ))
instance {c:C}{e:aX}{g:az->R D}:CoeFun (JB c e g) (fun _=>∀ ρ,PE c.X e (TB c.X.K c.cls c.E ρ (g ρ))):=⟨JB.run⟩
structure JT (c:C) (e:aX) (g:az->R Bool):Prop where of ::
 run:∀ ρ,PT c.X e (Iv c.X.K c.cls c.E ρ (g ρ))
instance {c:C}{e:aX}{g:az->R Bool}:CoeFun (JT c e g) (fun _=>∀ ρ,PT c.X e (Iv c.X.K c.cls c.E ρ (g ρ))):=⟨JT.run⟩
structure JW (c:C) (e:aX) (g:az->R Bool):Prop where of ::
 run:∀ ρ,PW c.X e (Iv c.X.K c.cls c.E ρ (g ρ))
instance {c:C}{e:aX}{g:az->R Bool}:CoeFun (JW c e g) (fun _=>∀ ρ,PW c.X e (Iv c.X.K c.cls c.E ρ (g ρ))):=⟨JW.run⟩
structure G9 (c:C) (es:List aX) (g:az->R (List D)):Prop where of ::
 run:∀ ρ,PA c.X es (UX c.X.K c.cls c.E ρ (g ρ))
instance {c:C}{es:List aX}{g:az->R (List D)}:CoeFun (G9 c es g) (fun _=>∀ ρ,PA c.X es (UX c.X.K c.cls c.E ρ (g ρ))):=⟨G9.run⟩
structure Q1 (c:C) (es:List aX) (g:az->R (List D)):Prop where of ::
 run:∀ ρ,PA c.X es (UY c.X.K c.cls c.E ρ (g ρ))
instance {c:C}{es:List aX}{g:az->R (List D)}:CoeFun (Q1 c es g) (fun _=>∀ ρ,PA c.X es (UY c.X.K c.cls c.E ρ (g ρ))):=⟨Q1.run⟩
section
variable {c:C}{e a b:aX}{g ga gb:az->R D}{pos:Pos}
theorem tJ   (h:PE X e t) (m:∀ σ H Q,t' σ H Q->t σ H Q):PE X e t':=fun pins s σ H Q I q=>h pins s σ H Q I (m σ H Q q)
theorem Tp   (h:PT X e t) (m:∀ σ H Q,t' σ H Q->t σ H Q):PT X e t':=fun pins s σ H Q I q=>h pins s σ H Q I (m σ H Q q)
theorem Wk   (h:PW X e t) (m:∀ σ H Q,t' σ H Q->t σ H Q):PW X e t':=fun wh pins s σ H Q I q=>h wh pins s σ H Q I (m σ H Q q)
theorem UZ {X:Cx}{e:List aX}{t t':TA} (h:PA X e t) (m:∀ σ H Q,t' σ H Q->t σ H Q):PA X e t':=fun pos pins s σ H Q I q=>h pos pins s σ H Q I (m σ H Q q)
theorem yS {X:Cx}{e:dz}{t t':TS} (h:PS X e t) (m:∀ D σ H,t' D σ H->t D σ H):PS X e t':=fun pins s σ H Q I q=>h pins s σ H Q I (m Q σ H q)
theorem VJ {X:Cx}{e:List dz}{t t':TS} (h:FZ X e t) (m:∀ D σ H,t' D σ H->t D σ H):FZ X e t':=fun pins s σ H Q I q=>h pins s σ H Q I (m Q σ H q)
theorem JE.bor (h:JE c e g):JB c e g:=.of fun ρ=>tJ (h ρ) fun σ H Q ⟨H0,Hs0,la,Hs,f,q⟩=>⟨H0,Hs0,la,Hs,f,by
 cases hr:g ρ with
 | ok d=>rw [hr] at q;exact fun v H' Hs' s r=>q v H' Hs' s (.inl r)
 | ex c n=>rw [hr] at q;exact q
 | no=>rw [hr] at q;exact q⟩
theorem one {K:a8}{cls:Str->ai}{E:XK}{ρ:az}{r:R D}{β:Type}{k:D->R β}{σ:St}{H:Hp}{H0 Hs0 Hs:Hp}{la:Nat->Option ai}{Q:V->Hp->Prop}{q:β->Prop} (f:Fr K H0 Hs0 la ρ σ H Hs)
  (h:Fin K cls E H Hs (r.bind k) q) (m:∀ d v H' Hs',r=.ok d->cD H Hs H' Hs'->Fr K H0 Hs0 la ρ σ H' Hs'->RB K H' Hs' v d->Q v H'):TB K cls E ρ r σ H Q:=by
 refine ⟨H0,Hs0,la,Hs,f,?_⟩
 cases r with
 | ok d=>exact fun v H' Hs' s r=>m d v H' Hs' rfl s (f.step s) r
 | ex c n=>exact h
 | no=>exact h
theorem AT {K:a8}{cls:Str->ai}{E:XK}{ρ:az}{r:R D}{β:Type}{k:D->R β}{σ:St}{H:Hp}{H0 Hs0 Hs:Hp}{la:Nat->Option ai}{Q:V->Hp->Prop}{q:β->Prop} (f:Fr K H0 Hs0 la ρ σ H Hs)
  (h:Fin K cls E H Hs (r.bind k) q) (m:∀ d v H' Hs',r=.ok d->cD H Hs H' Hs'->Fr K H0 Hs0 la ρ σ H' Hs'->RD K Hs' v d->Q v H'):TR K cls E ρ r σ H Q:=by
 refine ⟨H0,Hs0,la,Hs,f,?_⟩
 cases r with
 | ok d=>exact fun v H' Hs' s r=>m d v H' Hs' rfl s (f.step s) r
 | ex c n=>exact h
 | no=>exact h
theorem KY {K:a8}{cls:Str->ai}{E:XK}{ρ:az}{r:R Bool}{β:Type}{k:Bool->R β}{σ:St}{H:Hp}{H0 Hs0 Hs:Hp}{la:Nat->Option ai}{Q:Bool->Hp->Prop}{q:β->Prop} (f:Fr K H0 Hs0 la ρ σ H Hs)
  (h:Fin K cls E H Hs (r.bind k) q) (m:∀ d H' Hs',r=.ok d->cD H Hs H' Hs'->Fr K H0 Hs0 la ρ σ H' Hs'->Q d H'):Iv K cls E ρ r σ H Q:=by
 refine ⟨H0,Hs0,la,Hs,f,?_⟩
 cases r with
 | ok d=>exact fun H' Hs' s=>m d H' Hs' rfl s (f.step s)
 | ex c n=>exact h
 | no=>exact h
theorem EV {K:a8}{cls:Str->ai}{E:XK}{ρ:az}{r:R (List D)}{β:Type}{k:List D->R β}{σ:St}{H:Hp}{H0 Hs0 Hs:Hp}{la:Nat->Option ai}{Q:List V->Hp->Prop}{q:β->Prop} (f:Fr K H0 Hs0 la ρ σ H Hs)
  (h:Fin K cls E H Hs (r.bind k) q) (m:∀ d v H' Hs',r=.ok d->cD H Hs H' Hs'->Fr K H0 Hs0 la ρ σ H' Hs'->RDs K Hs' v d->Q v H'):UX K cls E ρ r σ H Q:=by
 refine ⟨H0,Hs0,la,Hs,f,?_⟩
 cases r with
 | ok d=>exact fun v H' Hs' s r=>m d v H' Hs' rfl s (f.step s) r
 | ex c n=>exact h
 | no=>exact h
theorem KZ {K:a8}{cls:Str->ai}{E:XK}{ρ:az}{r:R (List D)}{β:Type}{k:List D->R β}{σ:St}{H:Hp}{H0 Hs0 Hs:Hp}{la:Nat->Option ai}{Q:List V->Hp->Prop}{q:β->Prop} (f:Fr K H0 Hs0 la ρ σ H Hs)
  (h:Fin K cls E H Hs (r.bind k) q) (m:∀ d v H' Hs',r=.ok d->cD H Hs H' Hs'->Fr K H0 Hs0 la ρ σ H' Hs'->Q0 K H' Hs' v d->Q v H'):UY K cls E ρ r σ H Q:=by
 refine ⟨H0,Hs0,la,Hs,f,?_⟩
 cases r with
 | ok d=>exact fun v H' Hs' s r=>m d v H' Hs' rfl s (f.step s) r
 | ex c n=>exact h
 | no=>exact h
theorem Fin.on {α:Type}{K:a8}{cls:Str->ai}{E:XK}{H Hs H' Hs':Hp}{r:R α}{q q':α->Prop} (h:Fin K cls E H Hs r q) (s:cD H Hs H' Hs') (m:∀ a,q a->q' a):Fin K cls E H' Hs' r q':=by
 cases r with
 | ok a=>exact m a h
 | ex c n=>exact fun H2 Hs2 s2=>h H2 Hs2 (s.trans s2)
 | no=>exact h
end
end
section
def Ed (ρ:az) (i:Nat):R D:=match ρ[i]? with
 | some (Sl.shr d)=>.ok d
 | _=>.no
def CB (ρ:az) (i:Nat):R D:=match ρ[i]? with
 | some (Sl.shr d)=>.ok d
 | some (Sl.own d)=>.ok d
 | some (Sl.lck d)=>.ok d
 | _=>.no
section
variable {c:C}{e a b:aX}{g ga gb:az->R D}{pos:Pos}
theorem ap (i:Nat) (hN:c.X.N[i]?=some x:=by rfl) (hv:O4 c.X.env.scope x:=by first | exact iT rfl | exact ft (iT rfl) | exact ft (ft rfl)) (hd:(x == ("__debug__" : Str))=false:=by decide)
  (hcd:(x == ("__classdict__" : Str))=false:=by decide):JE c (.Name x pos) (fun ρ=>Ed ρ i):=.of fun ρ=>tJ (si hN hv hd hcd) fun σ H Q h_0=>by
 obtain ⟨H0,Hs0,la,Hs,f,q⟩:=h_0
 cases hr:ρ[i]? with
 | none=>simp only [Ed,hr] at q;exact q.elim
 | some s =>
  cases s with
  | shr d =>
   obtain ⟨v,h1,h2⟩:=f.sh i d hr
   simp only [Ed,hr] at q
   exact ⟨v,h1,q v H Hs (.refl f.st.sub) h2⟩
  | no=>simp only [Ed,hr] at q;exact q.elim
  | own d=>simp only [Ed,hr] at q;exact q.elim
  | lck d=>simp only [Ed,hr] at q;exact q.elim
  | ow2 d=>simp only [Ed,hr] at q;exact q.elim
theorem al (i:Nat) (hN:c.X.N[i]?=some x:=by rfl) (hv:O4 c.X.env.scope x:=by first | exact iT rfl | exact ft (iT rfl) | exact ft (ft rfl)) (hd:(x == ("__debug__" : Str))=false:=by decide)
  (hcd:(x == ("__classdict__" : Str))=false:=by decide):JB c (.Name x pos) (fun ρ=>CB ρ i):=.of fun ρ=>tJ (si hN hv hd hcd) fun σ H Q h_1=>by
 obtain ⟨H0,Hs0,la,Hs,f,q⟩:=h_1
 cases hr:ρ[i]? with
 | none=>simp only [CB,hr] at q;exact q.elim
 | some s =>
  cases s with
  | shr d =>
   obtain ⟨v,h1,h2⟩:=f.sh i d hr
   simp only [CB,hr] at q
   exact ⟨v,h1,q v H Hs (.refl f.st.sub) (.inl h2)⟩
  | no=>simp only [CB,hr] at q;exact q.elim
  | own d =>
   obtain ⟨a,o,h1,h2,h3,h4,h5⟩:=f.ow i d hr
   simp only [CB,hr] at q
   exact ⟨_,h1,q _ H Hs (.refl f.st.sub) (.inr ⟨a,o,rfl,h2,h3,h5⟩)⟩
  | lck d =>
   obtain ⟨a,o,h1,h2,h3,h4,h5,h6⟩:=f.lk i d hr
   simp only [CB,hr] at q
   exact ⟨_,h1,q _ H Hs (.refl f.st.sub) (.inr ⟨a,o,rfl,h3,h4,h6⟩)⟩
  | ow2 d=>simp only [CB,hr] at q;exact q.elim
theorem pT  (h:PE c.X e (tC v)) (r:∀ Hs,RD c.X.K Hs v d):JE c e (fun _=>.ok d):=.of fun ρ=>tJ h fun σ H Q h_2=>by obtain ⟨H0,Hs0,la,Hs,f,q⟩:=h_2;exact q v H Hs (.refl f.st.sub) (r Hs)
theorem aG  : JE c (.Constant (.int i) j pos) (fun _=>.ok (.int i)):=pT QQ fun _=>.int i
theorem pU  : JE c (.Constant (.bool i) j pos) (fun _=>.ok (.bool i)):=pT SE fun _=>.bool i
theorem EW:JE c (.Constant .none j pos) (fun _=>.ok .none):=pT QR fun _=>.none
theorem v8  : JE c (.Constant (.str i) j pos) (fun _=>.ok (.str i)):=pT QS fun _=>.str i
theorem uc  (hg:Gl c.X x) (hm:∃ t,c.X.mg x=some (.int i t)) (hd:(x == ("__debug__" : Str))=false:=by decide):JE c (.Name x pos) (fun _=>.ok (.int i)):=by
 obtain ⟨t,hm⟩:=hm
 exact pT (O5 hg hm (v:=.int i) ⟨t,rfl⟩ hd) fun _=>.int i
inductive Wl (K:a8) (h:D->D->R D) (x:V) (y:V) (H:Hp) (Q:VK):Prop
 | mk (Hs dx dy:_) (h0:dk Hs H) (h1:RB K H Hs x dx) (h2:RB K H Hs y dy) (h3:∃ d,h dx dy=.ok d/\∀ v H' Hs',cD H Hs H' Hs'->RD K Hs' v d->Q v H'):Wl K h x y H Q
def rD (K:a8) (h:D->D->R D):R2:=Wl K h
def wg (X:Cx) (f:aa->aa->Sem aa) (h:D->D->R D):Prop:=pC X f (rD X.K h)/\∀ x y c n,h x y≠.ex c n
def g2 (ga gb:az->R D) (h:D->D->R D):az->R D:=fun ρ=>(ga ρ).bind fun x=>(gb ρ).bind fun y=>h x y
theorem two        (hx:∀ x y c n,h x y≠.ex c n) (q:TR K cls E ρ (g2 ga gb h ρ) σ H Q):SS (rD K h) (TB K cls E ρ (ga ρ)) (TB K cls E ρ (gb ρ)) σ H Q:=by
 obtain ⟨H0,Hs0,la,Hs,f,q⟩:=q
 refine one f q fun x v H1 Hs1 e1 s1 f1 r1=>?_
 unfold g2 at q
 rw [e1,bind_ok] at q
 refine one f1 (q.on s1 (q':=fun _=>True) fun _ _=>trivial) fun y u H2 Hs2 e2 s2 f2 r2=>?_
 rw [e2,bind_ok] at q
 cases hr:h x y with
 | ok d =>
  rw [hr] at q
  exact ⟨Hs2,x,y,f2.st.sub,r1.step s2,r2,d,hr,fun w H3 Hs3 s3 r3=>q w H3 Hs3 (s1.trans (s2.trans s3)) r3⟩
 | ex c n=>exact (hx x y c n hr).elim
 | no=>rw [hr] at q;exact q.elim
theorem bT  (ho:wg c.X (g6 op) h) (ha:JB c a ga) (hb:JB c b gb):JE c (.BinOp a op b pos) (g2 ga gb h):=.of fun ρ=>tJ (PF ho.1 (ha ρ) (hb ρ)) fun σ H Q q=>two ho.2 q
theorem mY  (ho:wg c.X (bK op) h) (ha:JB c a ga) (hb:JB c b gb) (hm:gO op b=false:=by first | exact Kh _ | rfl):JE c (.Compare a [op] [b] pos) (g2 ga gb h):=.of fun ρ=>tJ (Oc ho.1 (ha ρ) (hb ρ) hm) fun σ H Q q=>two ho.2 q
def ik (g:az->R D):az->R Bool:=fun ρ=>(g ρ).bind fun d=>match d with
 | .bool b=>.ok b
 | _=>.no
theorem Tq       (q:Iv K cls E ρ (ik g ρ) σ H Q):TR K cls E ρ (g ρ) σ H fun x H'=>∃ k,x=.bl k/\Q k H':=by
 obtain ⟨H0,Hs0,la,Hs,f,q⟩:=q
 refine AT f q fun d v H1 Hs1 e1 s1 f1 r1=>?_
 unfold ik at q
 rw [e1,bind_ok] at q
 cases r1 with
 | bool b=>exact ⟨b,rfl,q H1 Hs1 s1⟩
 | _=>exact q.elim
theorem eR  (ho:wg c.X (bK op) h) (ha:JB c a ga) (hb:JB c b gb) (hm:gO op b=false:=by first | exact Kh _ | rfl):JT c (.Compare a [op] [b] pos) (ik (g2 ga gb h)):=.of fun ρ=>Tp (Od ho.1 (ha ρ) (hb ρ) hm) fun σ H Q q=>two ho.2 (Tq q)
theorem gS (h:JE c e g) (he:∀ whole,uI e c.X.env whole=(do let v <- whole;vw e.pos;holding [v] (truthy v)):=by intro _;rfl):JT c e (ik g):=.of fun ρ=>Tp (QT (h ρ) he) fun σ H Q q=>Tq q
def nA (g:az->R Bool):az->R Bool:=fun ρ=>(g ρ).bind fun b=>.ok (!b)
def AU (g h:az->R Bool):az->R Bool:=fun ρ=>(g ρ).bind fun b=>if b then h ρ else .ok false
def K_ (g h:az->R Bool):az->R Bool:=fun ρ=>(g ρ).bind fun b=>if b then .ok true else h ρ
variable {gt gu:az->R Bool}{bS:List aX}
theorem ir (h:JT c e gt):JT c (.UnaryOp .Not e pos) (nA gt):=.of fun ρ=>Tp (QW (h ρ)) fun σ H Q q=>by
 obtain ⟨H0,Hs0,la,Hs,f,q⟩:=q
 refine KY f q fun d H1 Hs1 e1 s1 f1=>?_
 unfold nA at q
 rw [e1,bind_ok] at q
 exact q H1 Hs1 s1
theorem wE (h:JT c a gt):JW c (.BoolOp .And [a] pos) gt:=.of fun ρ=>O7 (h ρ)
theorem pV (h:JT c a gt):JW c (.BoolOp .Or [a] pos) gt:=.of fun ρ=>QU (h ρ)
theorem AV (h:JT c a gt) (h2:JW c (.BoolOp .And (b::bS) pos) gu):JW c (.BoolOp .And (a::b::bS) pos) (AU gt gu):=.of fun ρ=>Wk (QV (h ρ) (h2 ρ)) fun σ H Q q=>by
 obtain ⟨H0,Hs0,la,Hs,f,q⟩:=q
 refine KY f q fun d H1 Hs1 e1 s1 f1=>?_
 unfold AU at q
 rw [e1,bind_ok] at q
 cases d with
 | true=>exact Cb ⟨H0,Hs0,la,Hs1,f1,q.on s1 fun b k H2 Hs2 s2=>k H2 Hs2 (s1.trans s2)⟩
 | false=>exact Ca (q H1 Hs1 s1)
theorem vG (h:JT c a gt) (h2:JW c (.BoolOp .Or (b::bS) pos) gu):JW c (.BoolOp .Or (a::b::bS) pos) (K_ gt gu):=.of fun ρ=>Wk (SF (h ρ) (h2 ρ)) fun σ H Q q=>by
 obtain ⟨H0,Hs0,la,Hs,f,q⟩:=q
 refine KY f q fun d H1 Hs1 e1 s1 f1=>?_
 unfold K_ at q
 rw [e1,bind_ok] at q
 cases d with
 | false=>exact Ca ⟨H0,Hs0,la,Hs1,f1,q.on s1 fun b k H2 Hs2 s2=>k H2 Hs2 (s1.trans s2)⟩
 | true=>exact Cb (q H1 Hs1 s1)
theorem JW.t (h:JW c e gt):JT c e gt:=.of fun ρ=>(h ρ).pt
def CC (g:az->R D):az->R D:=fun ρ=>(ik g ρ).bind fun b=>.ok (.bool (!b))
theorem L0 (h:JE c e g):JE c (.UnaryOp .Not e pos) (CC g):=.of fun ρ=>tJ (QZ (h ρ)) fun σ H Q q=>by
 refine Tq ?_
 obtain ⟨H0,Hs0,la,Hs,f,q⟩:=q
 refine KY f q fun d H1 Hs1 e1 s1 f1=>?_
 unfold CC at q
 rw [e1,bind_ok] at q
 exact q _ H1 Hs1 s1 (.bool _)
def vH (g h:az->R D):az->R D:=fun ρ=>(ik g ρ).bind fun b=>if b then h ρ else .ok (.bool false)
theorem xk (h:JE c a g):JE c (.BoolOp op [a] pos) g:=.of fun ρ=>QX (h ρ)
theorem xl (h:JE c a ga) (h2:JE c (.BoolOp .And (b::bS) pos) gb):JE c (.BoolOp .And (a::b::bS) pos) (vH ga gb):=.of fun ρ=>tJ (QY (h ρ) (h2 ρ)) fun σ H Q q=>by
 refine Tq ?_
 obtain ⟨H0,Hs0,la,Hs,f,q⟩:=q
 refine KY f q fun d H1 Hs1 e1 s1 f1=>?_
 unfold vH at q
 rw [e1,bind_ok] at q
 cases d with
 | true=>exact Cb ⟨H0,Hs0,la,Hs1,f1,q.on s1 fun b k v H2 Hs2 s2 r2=>k v H2 Hs2 (s1.trans s2) r2⟩
 | false=>exact Ca (q _ H1 Hs1 s1 (.bool _))
def pW (ga gb gc:az->R D) (h h':D->D->R D):az->R D:=fun ρ=>(ga ρ).bind fun x=>(gb ρ).bind fun y=>(h x y).bind fun z=>match z with
 | .bool true=>(gc ρ).bind fun w=>h' y w
 | .bool false=>.ok (.bool false)
 | _=>.no
variable {es:List aX}{gs:az->R (List D)}
def ag (g:az->R D) (gs:az->R (List D)):az->R (List D):=fun ρ=>(g ρ).bind fun d=>(gs ρ).bind fun ds=>.ok (d::ds)
def aT:az->R (List D):=fun _=>.ok []
theorem aP:G9 c [] aT:=.of fun ρ=>UZ jZ fun σ H Q h_3=>by obtain ⟨H0,Hs0,la,Hs,f,q⟩:=h_3;exact q [] H Hs (.refl f.st.sub) .nil
theorem c8:Q1 c [] aT:=.of fun ρ=>UZ jZ fun σ H Q h_4=>by obtain ⟨H0,Hs0,la,Hs,f,q⟩:=h_4;exact q [] H Hs (.refl f.st.sub) .nil
theorem af (h:JE c e g) (hr:G9 c es gs) (hs:aK (e::es) c.X.env=(false,eh e c.X.env)::aK es c.X.env:=by rfl):G9 c (e::es) (ag g gs):=.of fun ρ=>UZ (iE (h ρ) (hr ρ) hs) fun σ H Q h_5=>by
 obtain ⟨H0,Hs0,la,Hs,f,q⟩:=h_5
 refine AT f q fun d v H1 Hs1 e1 s1 f1 r1=>?_
 unfold ag at q
 rw [e1,bind_ok] at q
 refine EV f1 (q.on s1 (q':=fun _=>True) fun _ _=>trivial) fun ds vs H2 Hs2 e2 s2 f2 r2=>?_
 rw [e2,bind_ok] at q
 exact q _ H2 Hs2 (s1.trans s2) (.cons (r1.same s2.sh) r2)
theorem bO (h:JB c e g) (hr:Q1 c es gs) (hs:aK (e::es) c.X.env=(false,eh e c.X.env)::aK es c.X.env:=by rfl):Q1 c (e::es) (ag g gs):=.of fun ρ=>UZ (iE (h ρ) (hr ρ) hs) fun σ H Q h_6=>by
 obtain ⟨H0,Hs0,la,Hs,f,q⟩:=h_6
 refine one f q fun d v H1 Hs1 e1 s1 f1 r1=>?_
 unfold ag at q
 rw [e1,bind_ok] at q
 refine KZ f1 (q.on s1 (q':=fun _=>True) fun _ _=>trivial) fun ds vs H2 Hs2 e2 s2 f2 r2=>?_
 rw [e2,bind_ok] at q
 exact q _ H2 Hs2 (s1.trans s2) (.cons (r1.step s2) r2)
def fg (gs:az->R (List D)) (k:List D->D):az->R D:=fun ρ=>(gs ρ).bind fun ds=>if ds.length<=1000 then .ok (k ds) else .no
theorem lR {x1} (h:G9 c es gs):JE c (.Tuple es x1 pos) (fg gs .tuple):=.of fun ρ=>tJ (Rj (h ρ)) fun σ H Q h_7=>by
 obtain ⟨H0,Hs0,la,Hs,f,q⟩:=h_7
 refine EV f q fun ds vs H1 Hs1 e1 s1 f1 r1=>?_
 unfold fg at q
 rw [e1,bind_ok] at q
 by_cases hl:ds.length<=1000
 ·rw [if_pos hl] at q
  refine ⟨bW (dH (by rw [r1.length];exact hl)),fun p hp=>q _ _ _ (s1.trans (.new f1.st.sub hp)) (.tuple b9 (r1.same (cD.new f1.st.sub hp).sh))⟩
 ·rw [if_neg hl] at q;exact q.elim
theorem lS (h:G9 c es gs):JE c (.List es pos) (fg gs .list):=.of fun ρ=>tJ (sj (h ρ)) fun σ H Q h_8=>by
 obtain ⟨H0,Hs0,la,Hs,f,q⟩:=h_8
 refine EV f q fun ds vs H1 Hs1 e1 s1 f1 r1=>?_
 unfold fg at q
 rw [e1,bind_ok] at q
 by_cases hl:ds.length<=1000
 ·rw [if_pos hl] at q
  refine ⟨bW (dH (by rw [r1.length];exact hl)),fun p hp=>q _ _ _ (s1.trans (.new f1.st.sub hp)) (.list (.of b9) (r1.same (cD.new f1.st.sub hp).sh))⟩
 ·rw [if_neg hl] at q;exact q.elim
end
end
end J
namespace J
open PySem PySem.Spec PyProof.Rows L2
section
section
variable {X:Cx}
def dL:D->D->R D
 | .int i,.int j=>.ok (.int (i + j))
 | .str x,.str y=>if x.length + y.length<=1000 then .ok (.str (x++y)) else .no
 | .tuple xs,.tuple ys=>if xs.length + ys.length<=1000 then .ok (.tuple (xs++ys)) else .no
 | .list xs,.list ys=>if xs.length + ys.length<=1000 then .ok (.list (xs++ys)) else .no
 | _,_=>.no
inductive L3 (K:a8) (x:V) (y:V) (H:Hp) (Q:VK):Prop
 | mk (l b xs zs:_) (h0:x=.ref l) (h1:y=.ref b) (h2:oW K H l xs) (h3:oW K H b zs) (h4:xs.length + zs.length<=sizeLine) (h5:∀ p,H p=none->Q (.ref p) (upd H p (.lst (xs++zs)))):L3 K x y H Q
def Tr (K:a8):R2:=L3 K
theorem OC:pC X (g6 .Add) (Tr X.K):=by
 intro pins s σ H x y v u Q I rx ry h
 obtain ⟨l,b,xs,zs,rfl,rfl,h1,h2,hz,q⟩:=h
 cases rx;cases ry
 obtain ⟨its,r,⟨o,n,e,c1,c2,c3⟩,z⟩:=I.list h1
 obtain ⟨its2,r2,⟨o2,n2,e2,d1,d2,d3⟩,z2⟩:=I.list h2
 obtain ⟨k1,k2,k3,k4⟩:=o
 obtain ⟨m1,m2,m3,m4⟩:=o2
 simp only at c1 c2 c3 d1 d2 d3
 subst c1 c2 c3 d1 d2 d3
 refine yy ⟨_,e,rfl⟩ ⟨_,e2,rfl⟩ noFill_list_add seq_list_add PySem.F.slot_list_add PySem.F.entry_list_add (PySem.F.args_list_add_2 _ _) (PyProof.Rows.list_addW l b _ _ n n2 _ _ k4 m4 (by rw [aQ,aQ,<- r.length,<- r2.length];exact hz)) ⟨e,e2,?_⟩
 have ea:its.toArray++its2.toArray=(its++its2).toArray:=by simp
 rw [ea]
 exact ⟨.ref _,_,I.lnew (t':=s.toks) (r.append r2) (by rw [aR];omega),rfl,q _ I.fresh⟩
inductive L4 (K:a8) (x:V) (y:V) (H:Hp) (Q:VK):Prop
 | mk (a b ys:_) (h0:x=.ref a) (h1:y=.ref b) (h2:kE K H a []) (h3:kE K H b ys) (h4:Q (.ref b) H):L4 K x y H Q
def Tt (K:a8):R2:=L4 K
theorem OD:pC X (g6 .Add) (Tt X.K):=by
 intro pins s σ H x y v u Q I rx ry h
 obtain ⟨a,b,ys,rfl,rfl,h1,h2,q⟩:=h
 cases rx;cases ry
 obtain ⟨its,r,⟨⟨k1,k2,k3,k4⟩,e,c1,n,c3⟩,z⟩:=I.tuple h1
 obtain ⟨its2,r2,⟨⟨m1,m2,m3,m4⟩,e2,d1,n2,d3⟩,z2⟩:=I.tuple h2
 simp only at c1 c3 d1 d3
 subst c1 c3 d1 d3
 cases r
 exact yy ⟨_,e,rfl⟩ ⟨_,e2,rfl⟩ An Hy nU nr (mS _ _)
  (PyProof.Rows.tuple_addW0 a b _ _ n n2 _ _ k4 m4 rfl) ⟨e,e2,⟨.ref b,H,I,rfl,q⟩⟩
theorem cO:wg X (g6 .Add) dL:=by
 refine ⟨fun pins s σ H x y v u Q I rv ru ⟨Hs,dx,dy,sub,rx,ry,d,hd,q⟩=>?_,fun x y c n=>?_⟩
 ·unfold dL at hd
  split at hd
  ·cases hd
   exact Rb pins s σ H x y v u Q I rv ru ⟨_,_,rx.int,ry.int,q _ H Hs (.refl sub) (.int _)⟩
  ·split at hd
   ·rename_i hz
    cases hd
    exact EG pins s σ H x y v u Q I rv ru ⟨_,_,rx.str,ry.str,bW (dH hz),q _ H Hs (.refl sub) (.str _)⟩
   ·cases hd
  ·split at hd
   ·rename_i xs ys hz
    cases hd
    obtain ⟨a,vs,rfl,qa,ra,_⟩:=rx.tuple sub
    obtain ⟨b,ws,rfl,qb,rb,_⟩:=ry.tuple sub
    have hz':vs.length + ws.length<=sizeLine:=by rw [ra.length,rb.length];exact bW (dH hz)
    have big:∀ p,H p=none->Q (.ref p) (upd H p (.tup (vs++ws))):=fun p hp=>q _ _ _ (.new sub hp) (.tuple b9 ((ra.append rb).same (cD.new sub hp).sh))
    cases vs with
    | nil =>
     cases ra
     refine OD pins s σ H _ _ v u Q I rv ru ⟨a,b,ws,rfl,rfl,qa,qb,?_⟩
     rcases ry with ry | ⟨_,_,_,_,_,ow⟩
     ·exact q _ H Hs (.refl sub) (by simpa using ry)
     ·cases ow
    | cons v0 vr =>
     refine Om pins s σ H _ _ v u Q I rv ru ⟨a,b,_,ws,rfl,rfl,qa,qb,by simp,hz',fun e=>?_,fun _=>big⟩
     subst e
     cases rb
     rcases rx with rx | ⟨_,_,_,_,_,ow⟩
     ·exact q _ H Hs (.refl sub) (by simpa using rx)
     ·cases ow
   ·cases hd
  ·split at hd
   ·rename_i xs ys hz
    cases hd
    obtain ⟨a,vs,rfl,qa,ra⟩:=rx.list sub
    obtain ⟨b,ws,rfl,qb,rb⟩:=ry.list sub
    have hz':vs.length + ws.length<=sizeLine:=by rw [ra.length,rb.length];exact bW (dH hz)
    exact OC pins s σ H _ _ v u Q I rv ru ⟨a,b,vs,ws,rfl,rfl,qa,qb,hz',fun p hp=>q _ _ _ (.new sub hp) (.list (.of b9) ((ra.append rb).same (cD.new sub hp).sh))⟩
   ·cases hd
  ·cases hd
 ·unfold dL
  split<;>(try split)<;>exact fun h=>by cases h
def EX (C:Int->Int->Bool) (k:Int->Int->D):D->D->R D
 | .int i,.int j=>if C i j then .ok (k i j) else .no
 | _,_=>.no
theorem EY {f:aa->aa->Sem aa}{C:Int->Int->Bool}{P:Int->Int->Prop}{k:Int->Int->D}{kv:Int->Int->V} (h:pC X f (rI P kv)) (hC:∀ i j,C i j=true->P i j) (hk:∀ Hs i j,RD X.K Hs (kv i j) (k i j)):wg X f (EX C k):=by
 refine ⟨fun pins s σ H x y v u Q I rv ru ⟨Hs,dx,dy,sub,rx,ry,d,hd,q⟩=>?_,fun x y c n=>?_⟩
 ·unfold EX at hd
  split at hd
  ·split at hd
   ·rename_i hc
    cases hd
    exact h pins s σ H x y v u Q I rv ru ⟨_,_,rx.int,ry.int,hC _ _ hc,q _ H Hs (.refl sub) (hk _ _ _)⟩
   ·cases hd
  ·cases hd
 ·unfold EX
  split<;>(try split)<;>exact fun h=>by cases h
def zG (i j:Int):Bool:=(decide (-(2 ^ 64)<i) && decide (i<2 ^ 64)) || (decide (-(2 ^ 64)<j) && decide (j<2 ^ 64))
def wj:=EX zG fun i j=>.int (i * j)
def Iw:=EX (fun _ j=>decide (0<j)) fun i j=>.int (i % j)
def L5:=EX (fun _ j=>decide (0<j) && decide (j<1073741824)) fun i j=>.int (i / j)
theorem pX:wg X (g6 .Mult) wj:=EY Rc (fun i j h=>by
 unfold zG at h
 simp only [ju,aO,decide_eq_true_eq] at h
 exact h) fun _ _ _=>.int _
theorem AW:wg X (g6 .Mod) Iw:=EY Re (fun i j h=>of_decide_eq_true h) fun _ _ _=>.int _
theorem OE:wg X (g6 .FloorDiv) L5:=EY Oa (fun i j h=>by
 simp only [aO,decide_eq_true_eq] at h
 exact h) fun _ _ _=>.int _
def rN (neg:Bool) (x y:D):R D:=if x.canLay0 && y.canLay0 && decide (min x.depth y.depth<=60) then .ok (.bool (if neg then !a_ x y else a_ x y)) else .no
mutual
theorem AX:∀ d:D,d.canLay0=true->ua d=true
 | .none,_=>rfl
 | .bool _,_=>rfl
 | .int _,_=>rfl
 | .str _,_=>rfl
 | .list xs,h=>by
  simp only [fu] at h
  simp only [ua]
  exact lays_noD xs h
 | .tuple xs,h=>by
  simp only [fu] at h
  simp only [ua]
  exact lays_noD xs h
 | .dict _,h=>by simp [fu] at h
theorem lays_noD:∀ d:List D,dE d=true->noDs d=true
 | [],_=>rfl
 | x::r,h=>by
  simp only [dE,aO] at h
  simp only [noDs,aO]
  exact ⟨AX x h.1,lays_noD r h.2⟩
end
theorem L6  (h:pC X f (Ry X.K neg)):wg X f (rN neg):=by
 refine ⟨fun pins s σ H x y v u Q I rv ru ⟨Hs,dx,dy,sub,rx,ry,d,hd,q⟩=>?_,fun x y c n=>?_⟩
 ·unfold rN at hd
  split at hd
  ·rename_i hc
   simp only [aO,decide_eq_true_eq] at hc
   cases hd
   exact h pins s σ H x y v u Q I rv ru ⟨dx,dy,(rx.full sub).rep (AX _ hc.1.1),(ry.full sub).rep (AX _ hc.1.2),hc.1.1,hc.1.2,hc.2,q _ H Hs (.refl sub) (.bool _)⟩
  ·cases hd
 ·unfold rN
  split<;>exact fun h=>by cases h
theorem vI (hu:X.A.units + 64<gz):wg X (bK .Eq) (rN false):=L6 (Rz hu)
theorem Ga (hu:X.A.units + 64<gz):wg X (bK .NotEq) (rN true):=L6 (RA hu)
def Ix (k:Int->Int->Bool) (t:Str->Str->Bool):D->D->R D
 | .int i,.int j=>.ok (.bool (k i j))
 | .str x,.str y=>.ok (.bool (t x y))
 | _,_=>.no
theorem L7   (h1:pC X f (R7 fun i j=>.bl (k i j))) (h2:pC X f (fun x y H Q=>∃ i j,x=.str i/\y=.str j/\Q (.bl (t i j)) H)):wg X f (Ix k t):=by
 refine ⟨fun pins s σ H x y v u Q I rv ru ⟨Hs,dx,dy,sub,rx,ry,d,hd,q⟩=>?_,fun x y c n=>?_⟩
 ·unfold Ix at hd
  split at hd
  ·cases hd
   exact h1 pins s σ H x y v u Q I rv ru ⟨_,_,rx.int,ry.int,q _ H Hs (.refl sub) (.bool _)⟩
  ·cases hd
   exact h2 pins s σ H x y v u Q I rv ru ⟨_,_,rx.str,ry.str,q _ H Hs (.refl sub) (.bool _)⟩
  ·cases hd
 ·unfold Ix
  split<;>exact fun h=>by cases h
def yT:=Ix (fun i j=>decide (i<j)) oX
def Q2:=Ix (fun i j=>decide (i<=j)) fun x y=>!oX y x
def Sy:D->D->R D
 | .int i,.int j=>.ok (.bool (decide (j<i)))
 | _,_=>.no
theorem xm:wg X (bK .Lt) yT:=L7 SW HW
theorem zH:wg X (bK .LtE) Q2:=L7 SX Ip
theorem Q3:wg X (bK .Gt) Sy:=by
 refine ⟨fun pins s σ H x y v u Q I rv ru ⟨Hs,dx,dy,sub,rx,ry,d,hd,q⟩=>?_,fun x y c n=>?_⟩
 ·unfold Sy at hd
  split at hd
  ·cases hd
   exact SY pins s σ H x y v u Q I rv ru ⟨_,_,rx.int,ry.int,q _ H Hs (.refl sub) (.bool _)⟩
  ·cases hd
 ·unfold Sy
  split<;>exact fun h=>by cases h
def EZ:D->Bool
 | .none=>true
 | _=>false
def Gb (neg:Bool):D->D->R D
 | x,.none=>.ok (.bool (if neg then !EZ x else EZ x))
 | _,_=>.no
theorem Gc {K:a8}{H Hs:Hp}{v:V}{d:D} (h:RB K H Hs v d):decide (v=.non)=EZ d:=by
 rcases h with h | ⟨a,o,rfl,_,_,h⟩
 ·cases h<;>rfl
 ·cases h<;>rfl
theorem Tu:wg X (bK .Is) (Gb false):=by
 refine ⟨fun pins s σ H x y v u Q I rv ru ⟨Hs,dx,dy,sub,rx,ry,d,hd,q⟩=>?_,fun x y c n=>?_⟩
 ·unfold Gb at hd
  split at hd
  ·cases hd
   exact Rf pins s σ H x y v u Q I rv ru ⟨ry.non,by rw [Gc rx];exact q _ H Hs (.refl sub) (.bool _)⟩
  ·cases hd
 ·unfold Gb
  split<;>exact fun h=>by cases h
theorem L8:wg X (bK .IsNot) (Gb true):=by
 refine ⟨fun pins s σ H x y v u Q I rv ru ⟨Hs,dx,dy,sub,rx,ry,d,hd,q⟩=>?_,fun x y c n=>?_⟩
 ·unfold Gb at hd
  split at hd
  ·cases hd
   exact Ob pins s σ H x y v u Q I rv ru ⟨ry.non,by rw [Gc rx];exact q _ H Hs (.refl sub) (.bool _)⟩
  ·cases hd
 ·unfold Gb
  split<;>exact fun h=>by cases h
def l8:D->Bool
 | .none=>true
 | .bool _=>true
 | .int _=>true
 | .str _=>true
 | _=>false
def BZ (neg:Bool):D->D->R D
 | x,.list ys=>if l8 x && ys.all l8 then .ok (.bool (if neg then !(ys.any fun y=>a_ y x) else ys.any fun y=>a_ y x)) else .no
 | x,.tuple ys=>if l8 x && ys.all l8 then .ok (.bool (if neg then !(ys.any fun y=>a_ y x) else ys.any fun y=>a_ y x)) else .no
 | _,_=>.no
theorem Gd {K:a8}{H:Hp}{v:V}{d:D} (h:RD K H v d) (f:l8 d=true):pP v=true:=by
 cases h<;>first | rfl | cases f
theorem CD {K:a8}{H Hs:Hp}{v:V}{d:D} (h:RB K H Hs v d) (f:l8 d=true):pP v=true:=by
 rcases h with h | ⟨a,o,rfl,_,_,h⟩
 ·exact Gd h f
 ·cases h<;>cases f
theorem CF {K:a8}{H:Hp}{vs:List V}:∀ {ds:List D},RDs K H vs ds->ds.all l8=true->vs.all pP=true:=by
 induction vs with
 | nil=>intro ds _ _;rfl
 | cons x r ih =>
  intro ds h f
  cases h with
  | cons h t =>
   rw [tO,aO] at f ⊢
   exact ⟨Gd h f.1,ih t f.2⟩
theorem RC {K:a8}{H H2 Hs:Hp}{v u:V}{d e:D} (h:RD K H v d) (h2:RB K H2 Hs u e) (f:l8 d=true) (f2:l8 e=true):Op v u=a_ d e:=by
 have h2':RD K Hs u e:=by
  rcases h2 with h2 | ⟨a,o,rfl,_,_,h2⟩
  ·exact h2
  ·cases h2<;>cases f2
 cases h with
 | list _ _=>cases f
 | tuple _ _=>cases f
 | dictK _ _=>cases f
 | dictT _ _ _=>cases f
 | dictF _ _ _=>cases f
 | none=>cases h2'<;>first | rfl | cases f2
 | bool b=>cases h2'<;>first | rfl | cases f2
 | int i=>cases h2'<;>first | rfl | cases f2
 | str x=>cases h2'<;>first | rfl | cases f2
theorem E_ {K:a8}{H H2 Hs:Hp}{u:V}{e:D} (h2:RB K H2 Hs u e) (f2:l8 e=true):∀ {vs:List V}{ds:List D},RDs K H vs ds->ds.all l8=true->UR u vs=ds.any fun y=>a_ y e
 | _,_,.nil,_=>rfl
 | _,_,.cons h t,f=>by
  rw [tO,aO] at f
  have:=E_ h2 f2 t f.2
  unfold UR at this ⊢
  rw [dJ,dJ,this,RC h h2 f.1 f2]
theorem L9  (h:pC X f (Vy X.K neg)):wg X f (BZ neg):=by
 refine ⟨fun pins s σ H x y v u Q I rv ru ⟨Hs,dx,dy,sub,rx,ry,d,hd,q⟩=>?_,fun x y c n=>?_⟩
 ·unfold BZ at hd
  split at hd
  ·split at hd
   ·rename_i hc
    simp only [aO] at hc
    cases hd
    obtain ⟨b,ws,rfl,qb,rb⟩:=ry.list sub
    refine h pins s σ H _ _ v u Q I rv ru ⟨b,ws,rfl,.inl qb,CD rx hc.1,CF rb hc.2,?_⟩
    rw [E_ rx hc.1 rb hc.2]
    exact q _ H Hs (.refl sub) (.bool _)
   ·cases hd
  ·split at hd
   ·rename_i hc
    simp only [aO] at hc
    cases hd
    obtain ⟨b,ws,rfl,qb,rb,_⟩:=ry.tuple sub
    refine h pins s σ H _ _ v u Q I rv ru ⟨b,ws,rfl,.inr qb,CD rx hc.1,CF rb hc.2,?_⟩
    rw [E_ rx hc.1 rb hc.2]
    exact q _ H Hs (.refl sub) (.bool _)
   ·cases hd
  ·cases hd
 ·unfold BZ
  split<;>(try split)<;>exact fun h=>by cases h
theorem CG:wg X (bK .In) (BZ false):=L9 H_
theorem ud:wg X (bK .NotIn) (BZ true):=L9 AC
end
end
end J
namespace J
open PySem L2
section
section
variable {c:C}{e a b:aX}{g ga gb:az->R D}{pos:Pos}
def F1:D->D->R D
 | .list xs,.int i=>match Ec xs i with
  | some d=>.ok d
  | none=>.no
 | .tuple xs,.int i=>match Ec xs i with
  | some d=>.ok d
  | none=>.no
 | .str x,.int i=>if x.length<=1000 then (match Ec x.cps.toList i with
  | some k=>.ok (.str ⟨#[k]⟩)
  | none=>.no) else .no
 | _,_=>.no
theorem Ge    (h:RDs K H vs ds)  (e:Ec ds i=some d):∃ v,Ec vs i=some v/\RD K H v d:=by
 unfold Ec at e ⊢
 rw [h.length]
 cases hx:Rn ds.length i with
 | none=>rw [hx] at e;cases e
 | some j =>
  rw [hx] at e
  exact h.get' e
theorem VL:T5 X (rD X.K F1):=by
 intro va sl pins s σ H x y v u Q I rv ru h
 obtain ⟨Hs,dx,dy,sub,rx,ry,d,hd,q⟩:=h
 unfold F1 at hd
 split at hd
 ·split at hd
  ·rename_i d' he
   cases hd
   obtain ⟨p,vs,rfl,qa,ra⟩:=rx.list sub
   obtain ⟨w,hw,rw'⟩:=Ge ra he
   exact wB va sl pins s σ H _ _ v u Q I rv ru ⟨p,vs,_,w,rfl,ry.int,qa,hw,q _ H Hs (.refl sub) rw'⟩
  ·cases hd
 ·split at hd
  ·rename_i d' he
   cases hd
   obtain ⟨p,vs,rfl,qa,ra,_⟩:=rx.tuple sub
   obtain ⟨w,hw,rw'⟩:=Ge ra he
   exact Ro va sl pins s σ H _ _ v u Q I rv ru ⟨p,vs,_,w,rfl,ry.int,qa,hw,q _ H Hs (.refl sub) rw'⟩
  ·cases hd
 ·split at hd
  ·rename_i hz
   split at hd
   ·rename_i k he
    cases hd
    exact Rp va sl pins s σ H _ _ v u Q I rv ru ⟨_,_,k,rx.str,ry.int,bW (dH hz),he,q _ H Hs (.refl sub) (.str _)⟩
   ·cases hd
  ·cases hd
 ·cases hd
theorem RE (x y:D) (c:Str) (n:Option D):F1 x y≠.ex c n:=by
 unfold F1
 split<;>(try split)<;>(try split)<;>exact fun h=>by cases h
theorem Tv (ha:JB c a ga) (hb:JB c b gb) (hs:tV b:=by exact fun _ _=>rfl):JE c (.Subscript a b pos) (g2 ga gb F1):=.of fun ρ=>tJ (PL VL (ha ρ) (hb ρ) hs) fun σ H Q q=>two RE q
def yU (ds:List D) (lo hi:Option Int):List D:=(ds.drop (HT.iP ds.length 0 lo)).take (HT.iP ds.length ds.length hi - HT.iP ds.length 0 lo)
theorem Gf    (h:RDs K H vs ds) (lo hi:Option Int):RDs K H (C8 vs lo hi) (yU ds lo hi):=by
 unfold C8 yU
 rw [h.length]
 exact (h.drop _).take _
def Gg:D->Option Int->Option Int->R D
 | .list xs,lo,hi=>.ok (.list (yU xs lo hi))
 | .tuple xs,lo,hi=>.ok (.tuple (yU xs lo hi))
 | _,_,_=>.no
inductive Q4 (K:a8) (x:V) (lo:Option Int) (hi:Option Int) (H:Hp) (Q:VK):Prop
 | mk (Hs dx:_) (h0:dk Hs H) (h1:RB K H Hs x dx) (h2:∃ d,Gg dx lo hi=.ok d/\∀ v H' Hs',cD H Hs H' Hs'->RD K Hs' v d->Q v H'):Q4 K x lo hi H Q
def VM (K:a8):V->Option Int->Option Int->Hp->VK->Prop:=Q4 K
theorem VN {X:Cx}:T3 X (VM X.K):=by
 intro pins s σ H x v vl vu lo hi sl Q I rx hs pl pu h
 obtain ⟨Hs,dx,sub,rb,d,hd,q⟩:=h
 unfold Gg at hd
 split at hd
 ·cases hd
  obtain ⟨p,vs,rfl,qa,ra⟩:=rb.list sub
  exact Oo pins s σ H _ v vl vu lo hi sl Q I rx hs pl pu ⟨p,vs,rfl,qa,fun l hl=>q _ _ _ (.new sub hl) (.list (.of b9) ((Gf ra lo hi).same (cD.new sub hl).sh))⟩
 ·cases hd
  obtain ⟨p,vs,rfl,qa,ra,_⟩:=rb.tuple sub
  by_cases hw:HT.iP vs.length 0 lo=0/\HT.iP vs.length vs.length hi=vs.length
  ·refine OB pins s σ H _ v vl vu lo hi sl Q I rx hs pl pu ⟨p,vs,rfl,qa,hw,?_⟩
   rcases rb with rb | ⟨_,_,_,_,_,ow⟩
   ·refine q _ H Hs (.refl sub) ?_
    unfold yU
    rw [<- ra.length,hw.1,hw.2,ra.length]
    simpa using rb
   ·cases ow
  ·exact Rm pins s σ H _ v vl vu lo hi sl Q I rx hs pl pu ⟨p,vs,rfl,qa,hw,fun l hl=>q _ _ _ (.new sub hl) (.tuple b9 ((Gf ra lo hi).same (cD.new sub hl).sh))⟩
 ·cases hd
inductive Tw (K:a8) (cls:Str->ai) (E:XK) (ρ:az) (r:R (Option Int)) (σ:St) (H:Hp) (Q:Option Int->Hp->Prop):Prop
 | mk (H0 Hs0:Hp) (la:Nat->Option ai) (Hs:Hp) (f:Fr K H0 Hs0 la ρ σ H Hs) (q:Fin K cls E H Hs r fun d=>∀ H' Hs',cD H Hs H' Hs'->Q d H'):Tw K cls E ρ r σ H Q
def VO (K:a8) (cls:Str->ai) (E:XK) (ρ:az) (r:R (Option Int)):TO:=Tw K cls E ρ r
structure JO (c:C) (e:Option aX) (g:az->R (Option Int)):Prop where of ::
 run:∀ ρ,PO c.X e (VO c.X.K c.cls c.E ρ (g ρ))
instance {c:C}{e:Option aX}{g:az->R (Option Int)}:CoeFun (JO c e g) (fun _=>∀ ρ,PO c.X e (VO c.X.K c.cls c.E ρ (g ρ))):=⟨JO.run⟩
theorem Wm {X:Cx}{e:Option aX}{t t':TO} (h:PO X e t) (m:∀ σ H Q,t' σ H Q->t σ H Q):PO X e t':=fun pins s σ H Q I q=>h pins s σ H Q I (m σ H Q q)
def Sz:az->R (Option Int):=fun _=>.ok none
def OF (g:az->R D):az->R (Option Int):=fun ρ=>(g ρ).bind fun d=>match d with
 | .int i=>.ok (some i)
 | _=>.no
theorem wF:JO c none Sz:=.of fun ρ=>Wm Oj fun σ H Q h_0=>by obtain ⟨H0,Hs0,la,Hs,f,q⟩:=h_0;exact q H Hs (.refl f.st.sub)
theorem qD (h:JE c e g):JO c (some e) (OF g):=.of fun ρ=>Wm (Ol (h ρ)) fun σ H Q h_1=>by
 obtain ⟨H0,Hs0,la,Hs,f,q⟩:=h_1
 refine AT f q fun d v H1 Hs1 e1 s1 f1 r1=>?_
 unfold OF at q
 rw [e1,bind_ok] at q
 cases r1 with
 | int i=>exact ⟨i,rfl,q H1 Hs1 s1⟩
 | _=>exact q.elim
theorem Tx {K:a8}{cls:Str->ai}{E:XK}{ρ:az}{r:R (Option Int)}{β:Type}{k:Option Int->R β}{σ:St}{H:Hp}{H0 Hs0 Hs:Hp}{la:Nat->Option ai}{Q:Option Int->Hp->Prop}{q:β->Prop} (f:Fr K H0 Hs0 la ρ σ H Hs)
  (h:Fin K cls E H Hs (r.bind k) q) (m:∀ d H' Hs',r=.ok d->cD H Hs H' Hs'->Fr K H0 Hs0 la ρ σ H' Hs'->Q d H'):VO K cls E ρ r σ H Q:=by
 refine ⟨H0,Hs0,la,Hs,f,?_⟩
 cases r with
 | ok d=>exact fun H' Hs' s=>m d H' Hs' rfl s (f.step s)
 | ex c n=>exact h
 | no=>exact h
def Q5 (g:az->R D) (gl gh:az->R (Option Int)):az->R D:=fun ρ=>(g ρ).bind fun x=>(gl ρ).bind fun l=>(gh ρ).bind fun h=>Gg x l h
theorem pY {lo hi:Option aX}{gl gh:az->R (Option Int)}{p2:Pos} (he:JB c e g) (hl:JO c lo gl) (hh:JO c hi gh):JE c (.Subscript e (.Slice lo hi none p2) pos) (Q5 g gl gh):=.of fun ρ=>tJ (Kn VN (he ρ) (hl ρ) (hh ρ)) fun σ H Q h_2=>by
 obtain ⟨H0,Hs0,la,Hs,f,q⟩:=h_2
 refine one f q fun d v H1 Hs1 e1 s1 f1 r1=>?_
 unfold Q5 at q
 rw [e1,bind_ok] at q
 refine Tx f1 (q.on s1 (q':=fun _=>True) fun _ _=>trivial) fun l H2 Hs2 e2 s2 f2=>?_
 rw [e2,bind_ok] at q
 refine Tx f2 (q.on (s1.trans s2) (q':=fun _=>True) fun _ _=>trivial) fun h H3 Hs3 e3 s3 f3=>?_
 rw [e3,bind_ok] at q
 cases hr:Gg d l h with
 | ok z=>rw [hr] at q;exact ⟨Hs3,d,f3.st.sub,(r1.step s2).step s3,z,hr,fun w H4 Hs4 s4 r4=>q w H4 Hs4 (s1.trans (s2.trans (s3.trans s4))) r4⟩
 | ex c n=>unfold Gg at hr;split at hr<;>cases hr
 | no=>rw [hr] at q;exact q.elim
inductive Wn (K:a8) (h:List D->R D) (xs:List V) (H:Hp) (Q:VK):Prop
 | mk (Hs ds:_) (h0:dk Hs H) (h1:Q0 K H Hs xs ds) (h2:∃ d,h ds=.ok d/\∀ v H' Hs',cD H Hs H' Hs'->RD K Hs' v d->Q v H'):Wn K h xs H Q
def rC (K:a8) (h:List D->R D):List V->Hp->VK->Prop:=Wn K h
def Iy (X:Cx) (f:aa) (h:List D->R D):Prop:=ji X f (rC X.K h)/\∀ x c n,h x≠.ex c n
def cx (gs:az->R (List D)) (h:List D->R D):az->R D:=fun ρ=>(gs ρ).bind h
theorem Q6 {K:a8}{cls:Str->ai}{E:XK}{h:List D->R D}{gs:az->R (List D)}{ρ:az}{σ:St}{H:Hp}{Q:VK} (hx:∀ x c n,h x≠.ex c n) (q:TR K cls E ρ (cx gs h ρ) σ H Q):T1 (rC K h) (UY K cls E ρ (gs ρ)) σ H Q:=by
 obtain ⟨H0,Hs0,la,Hs,f,q⟩:=q
 refine KZ f q fun ds vs H1 Hs1 e1 s1 f1 r1=>?_
 unfold cx at q
 rw [e1,bind_ok] at q
 cases hr:h ds with
 | ok d =>
  rw [hr] at q
  exact ⟨Hs1,ds,f1.st.sub,r1,d,hr,fun w H3 Hs3 s3 r3=>q w H3 Hs3 (s1.trans s3) r3⟩
 | ex c n=>exact (hx ds c n hr).elim
 | no=>rw [hr] at q;exact q.elim
variable {es:List aX}{gs:az->R (List D)}{x:Str}{p:Pos}{id T:String}{h:List D->R D}
theorem cz (hc:Iy c.X (.builtin id) h) (hg:Gl c.X x) (hm:c.X.mg x=none) (hv:il x=some (.builtin id)) (ha:Q1 c (e::es) gs) (hn:x≠"__name__":=by decide) (hdb:(x == ("__debug__" : Str))=false:=by decide)
  (he:aK (e::es) c.X.env=(false,eh e c.X.env)::aK es c.X.env:=by rfl) (hpl:(j8 pos (aK es c.X.env)).any (·.1)=false:=by rfl):JE c (.Call (.Name x p) (e::es) [] pos) (cx gs h):=.of fun ρ=>tJ (tT hc.1 hg hm hv (ha ρ) hn hdb he hpl) fun σ H Q q=>Q6 hc.2 q
theorem ed (hc:Iy c.X (.type T) h) (hg:Gl c.X x) (hm:c.X.mg x=none) (hv:il x=some (.type T)) (ha:Q1 c (e::es) gs) (hn:x≠"__name__":=by decide) (hdb:(x == ("__debug__" : Str))=false:=by decide)
  (he:aK (e::es) c.X.env=(false,eh e c.X.env)::aK es c.X.env:=by rfl) (hpl:(j8 pos (aK es c.X.env)).any (·.1)=false:=by rfl):JE c (.Call (.Name x p) (e::es) [] pos) (cx gs h):=.of fun ρ=>tJ (zy hc.1 hg hm hv (ha ρ) hn hdb he hpl) fun σ H Q q=>Q6 hc.2 q
end
end
section
section
variable {X:Cx}
theorem Q0.one    (h:Q0 K H Hs xs [d]):∃ x,xs=[x]/\RB K H Hs x d:=by
 cases h with | cons a t=>cases t;exact ⟨_,rfl,a⟩
def iZ (h:D->R D):List D->R D
 | [d]=>h d
 | _=>.no
theorem pZ  (hx:∀ d c n,h d≠.ex c n)
  (hr:∀ pins s σ H x u Q Hs d d',bQ X pins σ H s->dg x u->dk Hs H->RB X.K H Hs x d->h d=.ok d'->(∀ v H' Hs',cD H Hs H' Hs'->RD X.K Hs' v d'->Q v H')->au (ay X.prog X.w) X.A (call f [u]) (EP X pins σ Q) X.xe s):Iy X f (iZ h):=by
 refine ⟨fun pins s σ H xs us Q I r ⟨Hs,ds,sub,rb,d,hd,q⟩=>?_,fun x c n=>?_⟩
 ·unfold iZ at hd
  split at hd
  ·obtain ⟨x,rfl,rx⟩:=rb.one
   obtain ⟨u,rfl,ru⟩:=kF r
   exact hr pins s σ H x u Q Hs _ _ I ru sub rx hd q
  ·cases hd
 ·unfold iZ
  split
  ·exact hx _ _ _
  ·exact fun h=>by cases h
def mo:D->R D
 | .list xs=>.ok (.int xs.length)
 | .tuple xs=>.ok (.int xs.length)
 | .str x=>if x.length<=1000 then .ok (.int x.length) else .no
 | _=>.no
theorem RDk.length   : ∀ {ds:List (D×D)},RDk K H vs ds->vs.length=ds.length:=by
 induction vs with
 | nil=>intro ds h;cases h;rfl
 | cons x r ih=>intro ds h;cases h with | cons a b=>exact congrArg (· + 1) (ih b)
theorem RDt.length  : ∀ {vs:List (List fD×V)}{ds:List (D×D)},RDt K H vs ds->vs.length=ds.length
 | _,_,.nil=>rfl
 | _,_,.cons _ t=>by simp [RDt.length t]
theorem RB.dict    (sub:dk Hs H) (h:RB K H Hs v (.dict ds)):∃ a,v=.ref a/\((∃ kvs,H a=some (.dK kvs)/\RDk K Hs kvs ds)\/(∃ kvs,H a=some (.dT kvs)/\kvs≠[]/\RDt K Hs kvs ds)\/∃ o kvs es,ds=(.none,.none)::es/\H a=some (.frz o (.dT kvs))/\kvs≠[]/\RDt K Hs kvs es):=by
 rcases h with h | ⟨a,o,rfl,h2,h3,h4⟩
 ·cases h with
  | dictK q r=>exact ⟨_,rfl,.inl ⟨_,sub _ _ q,r⟩⟩
  | dictT q n r=>exact ⟨_,rfl,.inr (.inl ⟨_,sub _ _ q,n,r⟩)⟩
  | dictF q n r=>exact ⟨_,rfl,.inr (.inr ⟨_,_,_,rfl,sub _ _ q,n,r⟩)⟩
 ·cases h4 with
  | dK r=>exact ⟨a,rfl,.inl ⟨_,h2,r⟩⟩
  | dT n r=>exact ⟨a,rfl,.inr (.inl ⟨_,h2,n,r⟩)⟩
  | dF n r=>exact ⟨a,rfl,.inr (.inr ⟨_,_,_,rfl,h2,n,r⟩)⟩
theorem j_:Iy X (.builtin "len") (iZ mo):=by
 refine pZ (fun d c n=>?_) fun pins s σ H x u Q Hs d d' I ru sub rx hd q=>?_
 ·unfold mo
  split<;>(try split)<;>exact fun h=>by cases h
 ·unfold mo at hd
  split at hd
  ·cases hd
   obtain ⟨a,vs,rfl,qa,ra⟩:=rx.list sub
   refine tX pins s σ H _ _ Q I (.cons ru .nil) ⟨a,vs,rfl,.inl qa,?_⟩
   rw [ra.length]
   exact q _ H Hs (.refl sub) (.int _)
  ·cases hd
   obtain ⟨a,vs,rfl,qa,ra,_⟩:=rx.tuple sub
   refine tX pins s σ H _ _ Q I (.cons ru .nil) ⟨a,vs,rfl,.inr qa,?_⟩
   rw [ra.length]
   exact q _ H Hs (.refl sub) (.int _)
  ·split at hd
   ·rename_i hz
    cases hd
    exact AD pins s σ H _ _ Q I (.cons ru .nil) ⟨_,by rw [rx.str],bW (dH hz),q _ H Hs (.refl sub) (.int _)⟩
   ·cases hd
  ·cases hd
def CH (T:String) (d:D):Bool:=match T,d with
 | "str",.str _=>true
 | "int",.int _=>true
 | "int",.bool _=>true
 | "bool",.bool _=>true
 | "list",.list _=>true
 | "tuple",.tuple _=>true
 | _,_=>false
def yV (g:az->R D) (T:String):az->R D:=fun ρ=>(g ρ).bind fun d=>if ua d then .ok (.bool (CH T d)) else .no
theorem OG  (T:String) (hT:T="str"\/T="int"\/T="bool"\/T="list"\/T="tuple") (h:ua d=true):pF K (.type (VI d)) (.type T)=some (CH T d):=by
 rcases hT with rfl | rfl | rfl | rfl | rfl<;>cases d<;>first | rfl | simp [ua] at h
theorem sx      (h:JB c e g) (hgi:Gl c.X "isinstance") (hi:c.X.mg "isinstance"=none) (hgT:Gl c.X T) (hT:c.X.mg T=none) (hv:il T=some (.type Ts))
  (hTs:Ts="str"\/Ts="int"\/Ts="bool"\/Ts="list"\/Ts="tuple")
  (hn:T≠"__name__":=by decide) (hdb:(T == ("__debug__" : Str))=false:=by decide)
  (he:aK [e,.Name T p2] c.X.env=(false,eh e c.X.env)::aK [.Name T p2] c.X.env:=by rfl) (hpl:(j8 pos (aK [.Name T p2] c.X.env)).any (·.1)=false:=by rfl) :
  JE c (.Call (.Name "isinstance" p) [e,.Name T p2] [] pos) (yV g Ts):=.of fun ρ=>by
 refine tJ (tT KS hgi hi PyProof.Rows.boot_isinstance (iE (h ρ) (iE (O6 hgT hT hv (v:=.ty Ts) rfl hn hdb) jZ) he) (by decide) (by decide) he hpl) fun σ H Q h_0=>?_
 obtain ⟨H0,Hs0,la,Hs,f,q⟩:=h_0
 refine one f q fun d v H1 Hs1 e1 s1 f1 r1=>?_
 unfold yV at q
 rw [e1,bind_ok] at q
 by_cases hd:ua d=true
 ·rw [if_pos hd] at q
  exact ⟨v,d,Ts,_,rfl,(r1.full f1.st.sub).rep hd,OG Ts hTs hd,q _ H1 Hs1 s1 (.bool _)⟩
 ·rw [if_neg hd] at q;exact q.elim
def mB:List D->Option (List Bool)
 | []=>some []
 | .bool b::r=>(mB r).map (b::·)
 | _::_=>none
theorem AY:∀ {bs:List Bool},mB ds=some bs->ds=bs.map cC:=by
 induction ds with
 | nil=>intro bs h;cases h;rfl
 | cons d r ih =>
  intro bs h
  cases d with
  | bool b =>
   have h:(mB r).map (b::·)=some bs:=h
   cases hr:mB r with
   | none=>rw [hr] at h;cases h
   | some z=>rw [hr] at h;cases h;rw [ih hr];rfl
  | _=>cases h
def gf (k:List Bool->Bool):D->R D
 | .list ds=>match mB ds with
  | some bs=>.ok (.bool (k bs))
  | none=>.no
 | _=>.no
theorem CI {id:String}{k:List Bool->Bool} (h:ji X (.builtin id) (fun xs H Q=>∃ p,∃ bs:List Bool,xs=[.ref p]/\oW X.K H p (bs.map V.bl)/\Q (.bl (k bs)) H)):Iy X (.builtin id) (iZ (gf k)):=by
 refine pZ (fun d c n=>?_) fun pins s σ H x u Q Hs d d' I ru sub rx hd q=>?_
 ·unfold gf
  split<;>(try split)<;>exact fun h=>by cases h
 ·unfold gf at hd
  split at hd
  ·split at hd
   ·rename_i bs hb
    cases hd
    obtain ⟨a,vs,rfl,qa,ra⟩:=rx.list sub
    rw [AY hb] at ra
    rw [yR ra] at qa
    exact h pins s σ H _ _ Q I (.cons ru .nil) ⟨a,bs,rfl,qa,q _ H Hs (.refl sub) (.bool _)⟩
   ·cases hd
  ·cases hd
theorem nZ (hc:X.calm=true):Iy X (.builtin "all") (iZ (gf fun bs=>bs.all id)):=CI (xf hc)
theorem F2 (hc:X.calm=true):Iy X (.builtin "any") (iZ (gf fun bs=>bs.any id)):=CI (xg hc)
def mZ (x:Str):List D:=x.cps.toList.map fun c=>aS ⟨#[c]⟩
theorem Iz  (x:Str):RDs K H (xj x) (mZ x):=by
 unfold xj mZ
 induction x.cps.toList with
 | nil=>exact .nil
 | cons a r ih=>exact .cons (.str _) ih
def gF:D->R D
 | .list xs=>.ok (.tuple xs)
 | .tuple xs=>.ok (.tuple xs)
 | .str x=>if x.cps.size<=1000 then .ok (.tuple (mZ x)) else .no
 | _=>.no
theorem iu (hc:X.calm=true):Iy X (.type "tuple") (iZ gF):=by
 refine pZ (fun d c n=>?_) fun pins s σ H x u Q Hs d d' I ru sub rx hd q=>?_
 ·unfold gF
  split<;>(try split)<;>exact fun h=>by cases h
 ·unfold gF at hd
  split at hd
  ·cases hd
   obtain ⟨a,vs,rfl,qa,ra⟩:=rx.list sub
   exact rL pins s σ H _ _ Q I (.cons ru .nil) ⟨a,vs,rfl,.inl ⟨qa,fun l hl=>q _ _ _ (.new sub hl) (.tuple b9 (ra.same (cD.new sub hl).sh))⟩⟩
  ·cases hd
   obtain ⟨a,vs,rfl,qa,ra,_⟩:=rx.tuple sub
   refine rL pins s σ H _ _ Q I (.cons ru .nil) ⟨a,vs,rfl,.inr ⟨qa,?_⟩⟩
   rcases rx with rx | ⟨_,_,_,_,_,ow⟩
   ·exact q _ H Hs (.refl sub) rx
   ·cases ow
  ·split at hd
   ·rename_i hz
    cases hd
    exact wf hc pins s σ H _ _ Q I (.cons ru .nil) ⟨_,by rw [rx.str],bW (dH hz),fun l hl=>q _ _ _ (.new sub hl) (.tuple b9 (Iz _))⟩
   ·cases hd
  ·cases hd
def zI:D->R D
 | .list xs=>.ok (.list xs)
 | .tuple xs=>.ok (.list xs)
 | _=>.no
theorem OH:Iy X (.type "list") (iZ zI):=by
 refine pZ (fun d c n=>?_) fun pins s σ H x u Q Hs d d' I ru sub rx hd q=>?_
 ·unfold zI
  split<;>exact fun h=>by cases h
 ·unfold zI at hd
  split at hd
  ·cases hd
   obtain ⟨a,vs,rfl,qa,ra⟩:=rx.list sub
   exact tY pins s σ H _ _ Q I (.cons ru .nil) ⟨a,vs,rfl,.inl qa,fun l hl=>q _ _ _ (.new sub hl) (.list (.of b9) (ra.same (cD.new sub hl).sh))⟩
  ·cases hd
   obtain ⟨a,vs,rfl,qa,ra,_⟩:=rx.tuple sub
   exact tY pins s σ H _ _ Q I (.cons ru .nil) ⟨a,vs,rfl,.inr qa,fun l hl=>q _ _ _ (.new sub hl) (.list (.of b9) (ra.same (cD.new sub hl).sh))⟩
  ·cases hd
def eK:List D->Option (List Str)
 | []=>some []
 | .str b::r=>(eK r).map (b::·)
 | _::_=>none
theorem mC:∀ {bs:List Str},eK ds=some bs->ds=bs.map aS:=by
 induction ds with
 | nil=>intro bs h;cases h;rfl
 | cons d r ih =>
  intro bs h
  cases d with
  | str b =>
   have h:(eK r).map (b::·)=some bs:=h
   cases hr:eK r with
   | none=>rw [hr] at h;cases h
   | some z=>rw [hr] at h;cases h;rw [ih hr];rfl
  | _=>cases h
@[simp] theorem strsOf_map:∀ bs:List Str,eK (bs.map aS)=some bs
 | []=>rfl
 | b::r=>by show (eK (r.map aS)).map (b::·)=_;rw [strsOf_map r];rfl
def qF:D->R D
 | .list ds=>match eK ds with
  | some ss=>if ss.length<64 then .ok (.list ((jA ss).map .str)) else .no
  | none=>.no
 | _=>.no
theorem IA:Iy X (.builtin "sorted") (iZ qF):=by
 refine pZ (fun d c n=>?_) fun pins s σ H x u Q Hs d d' I ru sub rx hd q=>?_
 ·unfold qF
  split<;>(try split)<;>(try split)<;>exact fun h=>by cases h
 ·unfold qF at hd
  split at hd
  ·split at hd
   ·split at hd
    ·rename_i ss hs hz
     cases hd
     obtain ⟨a,vs,rfl,qa,ra⟩:=rx.list sub
     rw [mC hs] at ra
     rw [li ra] at qa
     exact v7 pins s σ H _ _ Q I (.cons ru .nil) ⟨a,ss,rfl,qa,hz,fun l hl=>q _ _ _ (.new sub hl) (.list (.of b9) (ub _))⟩
    ·cases hd
   ·cases hd
  ·cases hd
end
end
section
inductive Tz (K:a8) (cls:Str->ai) (n:Nat) (F:List D->R D) (vs:List V) (H:Hp) (Q:VK) (E:XK):Prop
 | mk (Hs ds:_) (h0:dk Hs H) (h1:ds.length=n) (h2:RDs K Hs vs ds) (h3:Fin K cls E H Hs (F ds) fun d=>∀ v H' Hs',cD H Hs H' Hs'->RD K Hs' v d->Q v H'):Tz K cls n F vs H Q E
def Q7 (K:a8) (cls:Str->ai) (n:Nat) (F:List D->R D):Sp:=Tz K cls n F
structure Fn (P:aH) (w:aZ) (K:a8) (mg:Str->Option aa) (base:bB) (cls:Str->ai) (x:Str) (k n:Nat) (F:List D->R D):Prop where
 ex:∃ f fd ps,rj P w K mg base (oY P w) k f fd ps (Q7 K cls n F)/\mg x=some (.ref f)/\f9 K (.ref f)=true/\l7 K fd ps []
section
variable {c:C}{e a b:aX}{g ga gb:az->R D}{pos:Pos}{es:List aX}{gs:az->R (List D)}{x:Str}{p:Pos}
def gZ (n:Nat) (F:List D->R D) (gs:az->R (List D)):az->R D:=fun ρ=>(gs ρ).bind fun ds=>if ds.length=n then F ds else .no
theorem OI  (G:Fn c.X.prog c.X.w c.X.K c.X.mg c.X.base c.cls x k n F) (hr:kZ k c.X.A) (hg:Gl c.X x) (hx:sk (oY c.X.prog c.X.w) c.X c.E) (ha:G9 c (e::es) gs)
  (hdb:(x == ("__debug__" : Str))=false:=by decide) (he:aK (e::es) c.X.env=(false,eh e c.X.env)::aK es c.X.env:=by rfl) (hpl:(j8 pos (aK es c.X.env)).any (·.1)=false:=by rfl) :
  JE c (.Call (.Name x p) (e::es) [] pos) (gZ n F gs):=.of fun ρ=>by
 obtain ⟨f,fd,ps,hf,hm,hk,hb⟩:=G.ex
 refine tJ (Og (E:=c.E) hf hr hg hm hk hb .nil hx (ha ρ) hdb he hpl) fun σ H Q h_0=>?_
 obtain ⟨H0,Hs0,la,Hs,fr,q⟩:=h_0
 refine EV fr q fun ds vs H1 Hs1 e1 s1 f1 r1=>?_
 unfold gZ at q
 rw [e1,bind_ok] at q
 by_cases hn:ds.length=n
 ·rw [if_pos hn] at q
  show Q7 _ _ _ _ (vs++[]) _ _ _
  rw [cf]
  exact ⟨Hs1,ds,f1.st.sub,hn,r1,q.on s1 fun d k v H2 Hs2 s2 r2=>k v H2 Hs2 (s1.trans s2) r2⟩
 ·rw [if_neg hn] at q;exact q.elim
end
inductive Fl where
 | nx (ρ:az)
 | rt (d:D)
 | bk (ρ:az)
 | ct (ρ:az)
def nB (K:a8) (cls:Str->ai) (E:XK) (H0 Hs0:Hp) (la:Nat->Option ai) (D:Av) (r:R Fl):Prop:=match r with
 | .ok (.nx ρ')=>∀ σ' H' Hs',Fr K H0 Hs0 la ρ' σ' H' Hs'->D.nx σ' H'
 | .ok (.bk ρ')=>∀ σ' H' Hs',Fr K H0 Hs0 la ρ' σ' H' Hs'->D.bk σ' H'
 | .ok (.ct ρ')=>∀ σ' H' Hs',Fr K H0 Hs0 la ρ' σ' H' Hs'->D.ct σ' H'
 | .ok (.rt d)=>∀ v H' Hs',cD H0 Hs0 H' Hs'->RD K Hs' v d->D.rt v H'
 | .ex c n=>∀ H' Hs',cD H0 Hs0 H' Hs'->XW K cls E c n H' Hs'
 | .no=>False
inductive Wo (K:a8) (cls:Str->ai) (E:XK) (ρ:az) (r:R Fl) (D:Av) (σ:St) (H:Hp):Prop
 | mk (H0 Hs0:Hp) (la:Nat->Option ai) (Hs:Hp) (f:Fr K H0 Hs0 la ρ σ H Hs) (q:nB K cls E H0 Hs0 la D r):Wo K cls E ρ r D σ H
def SR (K:a8) (cls:Str->ai) (E:XK) (ρ:az) (r:R Fl):TS:=Wo K cls E ρ r
structure JS (c:C) (s:dz) (g:az->R Fl):Prop where of ::
 run:∀ ρ,PS c.X s (SR c.X.K c.cls c.E ρ (g ρ))
instance {c:C}{s:dz}{g:az->R Fl}:CoeFun (JS c s g) (fun _=>∀ ρ,PS c.X s (SR c.X.K c.cls c.E ρ (g ρ))):=⟨JS.run⟩
structure Gh (c:C) (s:List dz) (g:az->R Fl):Prop where of ::
 run:∀ ρ,FZ c.X s (SR c.X.K c.cls c.E ρ (g ρ))
instance {c:C}{s:List dz}{g:az->R Fl}:CoeFun (Gh c s g) (fun _=>∀ ρ,FZ c.X s (SR c.X.K c.cls c.E ρ (g ρ))):=⟨Gh.run⟩
theorem Fr.set     (f:Fr K H0 Hs0 la ρ σ H Hs) (i:Nat)  (r:RD K Hs v d):Fr K H0 Hs0 la (ρ.set i (.shr d)) (σ.set i (some v)) H Hs:=by
 have hl:=f.len
 have nx:∀ {j:Nat}{s:Sl},(∀ d,s≠.shr d)->(ρ.set i (.shr d))[j]?=some s->ρ[j]?=some s/\i≠j:=fun {j s} hs e=>by
  by_cases hj:i=j
  ·subst hj
   by_cases hi:i<ρ.length
   ·rw [aC hi] at e;exact absurd (bI e).symm (hs d)
   ·rw [cy (by simpa using hi)] at e;cases e
  ·rw [aj hj] at e;exact ⟨e,hj⟩
 refine ⟨f.st,by simp [hl],fun j e h=>?_,fun j e h=>?_,fun j e h=>?_,fun j k d1 d2 a h1 h2 h3 h4=>?_,f.lh,fun j e h=>?_,fun j k d1 d2 h1 h2=>?_⟩
 ·by_cases hj:i=j
  ·subst hj
   by_cases hi:i<ρ.length
   ·rw [aC hi] at h
    cases h
    exact ⟨v,aC (by omega),r⟩
   ·rw [cy (by simpa using hi)] at h;cases h
  ·rw [aj hj] at h ⊢
   exact f.sh j e h
 ·obtain ⟨h,hj⟩:=nx (fun _ z=>by cases z) h
  rw [aj hj]
  exact f.ow j e h
 ·obtain ⟨h,hj⟩:=nx (fun _ z=>by cases z) h
  rw [aj hj]
  exact f.lk j e h
 ·obtain ⟨h1,n1⟩:=nx (fun _ z=>by cases z) h1
  obtain ⟨h2,n2⟩:=nx (fun _ z=>by cases z) h2
  rw [aj n1] at h3
  rw [aj n2] at h4
  exact f.dj j k d1 d2 a h1 h2 h3 h4
 ·obtain ⟨h,hj⟩:=nx (fun _ z=>by cases z) h
  obtain ⟨a,as,O⟩:=f.o2 j e h
  refine ⟨a,as,by rw [aj hj];exact O.at_,O.ob,O.nd,O.out,fun b hb k e' hk=>?_,O.inn⟩
  obtain ⟨hk,nk⟩:=nx (fun _ z=>by cases z) hk
  rw [aj nk]
  exact O.dj b hb k e' hk
 ·exact f.u2 j k d1 d2 (nx (fun _ z=>by cases z) h1).1 (nx (fun _ z=>by cases z) h2).1
theorem Fr.setO     (f:Fr K H0 Hs0 la ρ σ H Hs) (i:Nat)   (n:H a=none) (r:mn K Hs o d):Fr K H0 Hs0 la (ρ.set i (.own d)) (σ.set i (some (.ref a))) (upd H a o) Hs:=by
 have f':=f.step (cD.mine (o:=o) f.st.sub n)
 have hl:=f.len
 have n0:H0 a=none:=f.st.all.free n
 have ns:Hs a=none:=f.st.sub.free n
 have nx:∀ {j:Nat}{s:Sl},(∀ d,s≠.own d)->(ρ.set i (.own d))[j]?=some s->ρ[j]?=some s/\i≠j:=fun {j s} hs e=>by
  by_cases hj:i=j
  ·subst hj
   by_cases hi:i<ρ.length
   ·rw [aC hi] at e;exact absurd (bI e).symm (hs d)
   ·rw [cy (by simpa using hi)] at e;cases e
  ·rw [aj hj] at e;exact ⟨e,hj⟩
 have ne:∀ j e,ρ[j]?=some (Sl.own e)->σ[j]?≠some (some (V.ref a)):=fun j e h z=>by
  obtain ⟨b,o',h1,h2,_⟩:=f.ow j e h
  rw [z] at h1
  cases h1
  rw [n] at h2;cases h2
 refine ⟨f'.st,by simp [hl],fun j e h=>?_,fun j e h=>?_,fun j e h=>?_,fun j k d1 d2 b h1 h2 h3 h4=>?_,f.lh,fun j e h=>?_,fun j k d1 d2 h1 h2=>?_⟩
 ·obtain ⟨h,hj⟩:=nx (fun _ z=>by cases z) h
  rw [aj hj]
  exact f'.sh j e h
 ·by_cases hj:i=j
  ·subst hj
   by_cases hi:i<ρ.length
   ·rw [aC hi] at h
    cases h
    exact ⟨a,o,aC (by omega),b9,ns,n0,r⟩
   ·rw [cy (by simpa using hi)] at h;cases h
  ·rw [aj hj] at h ⊢
   exact f'.ow j e h
 ·obtain ⟨h,hj⟩:=nx (fun _ z=>by cases z) h
  rw [aj hj]
  exact f'.lk j e h
 ·by_cases hj:i=j
  ·by_cases hk:i=k
   ·exact hj.symm.trans hk
   ·rw [aj hk] at h2 h4
    subst hj
    by_cases hi:i<ρ.length
    ·rw [aC (by omega)] at h3
     cases h3
     exact (ne k d2 h2 h4).elim
    ·rw [cy (by simpa using hi)] at h1;cases h1
  ·rw [aj hj] at h1 h3
   by_cases hk:i=k
   ·subst hk
    by_cases hi:i<ρ.length
    ·rw [aC (by omega)] at h4
     cases h4
     exact (ne j d1 h1 h3).elim
    ·rw [cy (by simpa using hi)] at h2;cases h2
   ·rw [aj hk] at h2 h4
    exact f.dj j k d1 d2 b h1 h2 h3 h4
 ·obtain ⟨h,hj⟩:=nx (fun _ z=>by cases z) h
  obtain ⟨b,as,O⟩:=f.o2 j e h
  have nb:∀ c∈b::as,c≠a:=fun c hc z=>by
   subst z
   rcases List.mem_cons.mp hc with z | z
   ·have:=O.ob;rw [<- z,n] at this;cases this
   ·obtain ⟨o,ho,_⟩:=O.inn.there z;rw [n] at ho;cases ho
  refine ⟨b,as,by rw [aj hj];exact O.at_,by rw [bf (nb b am)];exact O.ob,O.nd,O.out,fun c hc k e' hk=>?_,O.inn.upd fun z=>nb a (ah _ z) rfl⟩
  by_cases nk:i=k
  ·subst nk
   intro z
   by_cases hi:i<ρ.length
   ·rw [aC (by omega)] at z
    cases z
    exact nb _ hc rfl
   ·rw [cy (by simp;omega)] at hk;cases hk
  ·rw [aj nk] at hk ⊢
   exact O.dj c hc k e' hk
 ·exact f.u2 j k d1 d2 (nx (fun _ z=>by cases z) h1).1 (nx (fun _ z=>by cases z) h2).1
theorem Fr.write     (f:Fr K H0 Hs0 la ρ σ H Hs) (i:Nat)   (hi:ρ[i]?=some (Sl.own d)) (hs:σ[i]?=some (some (V.ref a))) (r:mn K Hs o d'):Fr K H0 Hs0 la (ρ.set i (.own d')) σ (upd H a o) Hs:=by
 obtain ⟨a',o',h1,h2,h3,h4,h5⟩:=f.ow i d hi
 rw [hs] at h1
 cases h1
 have hl:=f.len
 have hil:i<ρ.length:=(List.getElem?_eq_some_iff.mp hi).1
 have nx:∀ {j:Nat}{s:Sl},(∀ d,s≠.own d)->(ρ.set i (.own d'))[j]?=some s->ρ[j]?=some s/\i≠j:=fun {j s} hs e=>by
  by_cases hj:i=j
  ·subst hj
   rw [aC hil] at e;exact absurd (bI e).symm (hs d')
  ·rw [aj hj] at e;exact ⟨e,hj⟩
 refine ⟨⟨fun b u e=>?_,f.st.sh,fun b u e=>?_,f.st.out⟩,by simp [hl],fun j e h=>?_,fun j e h=>?_,fun j e h=>?_,fun j k d1 d2 b h1 h2 h3 h4=>?_,f.lh,fun j e h=>?_,fun j k d1 d2 h1 h2=>?_⟩
 ·rw [bf (bR e h4)];exact f.st.all b u e
 ·rw [bf (bR e h3)];exact f.st.sub b u e
 ·obtain ⟨h,hj⟩:=nx (fun _ z=>by cases z) h
  exact f.sh j e h
 ·by_cases hj:i=j
  ·subst hj
   rw [aC hil] at h
   cases h
   exact ⟨a,o,hs,b9,h3,h4,r⟩
  ·rw [aj hj] at h
   obtain ⟨b,u,k1,k2,k3,k4,k5⟩:=f.ow j e h
   refine ⟨b,u,k1,?_,k3,k4,k5⟩
   rw [bf (fun z=>hj ?_)]
   ·exact k2
   ·subst z
    exact f.dj i j d e b hi h hs k1
 ·obtain ⟨h,hj⟩:=nx (fun _ z=>by cases z) h
  obtain ⟨b,u,k1,k2,k3,k4,k5,k6⟩:=f.lk j e h
  refine ⟨b,u,k1,k2,?_,k4,k5,k6⟩
  rw [bf (bR k5 h4)]
  exact k3
 ·have own:∀ {j:Nat}{e:D},(ρ.set i (.own d'))[j]?=some (Sl.own e)->∃ e',ρ[j]?=some (Sl.own e'):=fun {j e} h=>by
   by_cases hj:i=j
   ·subst hj;exact ⟨d,hi⟩
   ·rw [aj hj] at h;exact ⟨e,h⟩
  obtain ⟨e1,h1⟩:=own h1
  obtain ⟨e2,h2⟩:=own h2
  exact f.dj j k e1 e2 b h1 h2 h3 h4
 ·obtain ⟨h,hj⟩:=nx (fun _ z=>by cases z) h
  obtain ⟨b,as,O⟩:=f.o2 j e h
  have nb:∀ c∈b::as,c≠a:=fun c hc z=>by
   subst z
   exact O.dj c hc i d hi hs
  refine ⟨b,as,O.at_,by rw [bf (nb b am)];exact O.ob,O.nd,O.out,fun c hc k e' hk=>?_,O.inn.upd fun z=>nb a (ah _ z) rfl⟩
  by_cases nk:i=k
  ·subst nk
   exact O.dj c hc i d hi
  ·rw [aj nk] at hk
   exact O.dj c hc k e' hk
 ·exact f.u2 j k d1 d2 (nx (fun _ z=>by cases z) h1).1 (nx (fun _ z=>by cases z) h2).1
def fh (ρ:az):az:=ρ.map fun s=>match s with
 | .own d=>.shr d
 | .ow2 dss=>.shr (.list (dss.map .list))
 | s=>s
open Classical in
theorem Fr.share     (f:Fr K H0 Hs0 la ρ σ H Hs):∃ Hs',Fr K H0 Hs0 la (fh ρ) σ H Hs'/\cD H Hs H Hs'\/Fr K H0 Hs0 la (fh ρ) σ H Hs':=by
 let P:ai->Prop:=fun b=>(∃ (i:Nat) (d:D),ρ[i]?=some (Sl.own d)/\σ[i]?=some (some (V.ref b)))\/∃ (i:Nat) (dss:List (List D)) (a:ai) (as:List ai),ρ[i]?=some (Sl.ow2 dss)/\O2 K H0 H Hs ρ σ i dss a as/\b∈a::as
 let Hs':Hp:=fun b=>if P b then H b else Hs b
 have pos:∀ b,P b->Hs' b=H b:=fun b h=>if_pos h
 have neg:∀ b,¬ P b->Hs' b=Hs b:=fun b h=>if_neg h
 have up:dk Hs Hs':=fun b o e=>by
  by_cases h:P b
  ·rw [pos b h];exact f.st.sub b o e
  ·rw [neg b h];exact e
 have none0:∀ b o,H0 b=some o->¬ P b:=fun b o e hP=>by
  rcases hP with ⟨i,d,h1,h2⟩ | ⟨i,dss,a,as,h1,O,hb⟩
  ·obtain ⟨a,o',k1,_,_,k4,_⟩:=f.ow i d h1
   rw [h2] at k1;cases k1
   rw [e] at k4;cases k4
  ·have:=(O.out b hb).2
   rw [e] at this;cases this
 have un:∀ {j:Nat}{s:Sl},(fh ρ)[j]?=some s->(∃ d,s=.shr d/\ρ[j]?=some (Sl.own d))\/(∃ dss:List (List D),s=.shr (.list (dss.map .list))/\ρ[j]?=some (Sl.ow2 dss))\/((∀ d,s≠.own d)/\(∀ d,s≠.ow2 d)/\ρ[j]?=some s):=fun {j s} e=>by
  unfold fh at e
  rw [aN] at e
  cases h:ρ[j]? with
  | none=>rw [h] at e;cases e
  | some t =>
   rw [h] at e
   cases t with
   | own d=>cases e;exact .inl ⟨d,rfl,rfl⟩
   | no=>cases e;exact .inr (.inr ⟨fun _ z=>(by cases z),fun _ z=>(by cases z),rfl⟩)
   | shr d=>cases e;exact .inr (.inr ⟨fun _ z=>(by cases z),fun _ z=>(by cases z),rfl⟩)
   | lck d=>cases e;exact .inr (.inr ⟨fun _ z=>(by cases z),fun _ z=>(by cases z),rfl⟩)
   | ow2 d=>cases e;exact .inr (.inl ⟨d,rfl,rfl⟩)
 refine ⟨Hs',.inr ⟨⟨f.st.all,f.st.sh.trans up,fun b o e=>?_,fun a o e t z=>?_⟩,by simp [fh,f.len],fun j d h=>?_,fun j d h=>?_,fun j d h=>?_,fun j k d1 d2 a h1 h2 _ _=>?_,f.lh,fun j d h=>?_,fun j k d1 d2 h1 h2=>?_⟩⟩
 ·by_cases h:P b
  ·rw [pos b h] at e;exact e
  ·rw [neg b h] at e;exact f.st.sub b o e
 ·rw [neg a (none0 a o e)];exact f.st.out a o e t z
 ·rcases un h with ⟨d',e,h'⟩ | ⟨dss,e,h'⟩ | ⟨_,_,h'⟩
  ·cases e
   obtain ⟨a,o,k1,k2,k3,k4,k5⟩:=f.ow j d h'
   refine ⟨_,k1,?_⟩
   have hp:Hs' a=some o:=by rw [pos a (.inl ⟨j,d,h',k1⟩)];exact k2
   have e:dk (upd Hs a o) Hs':=fun b u q=>by
    by_cases hb:b=a
    ·subst hb;rw [b9] at q;cases q;exact hp
    ·rw [bf hb] at q;exact up b u q
   exact (k5.share k3).same e
  ·cases e
   obtain ⟨a,as,O⟩:=f.o2 j dss h'
   refine ⟨_,O.at_,?_⟩
   have hp:∀ b∈a::as,∀ o,H b=some o->Hs' b=some o:=fun b hb o ho=>by rw [pos b (.inr ⟨j,dss,a,as,h',O,hb⟩)];exact ho
   refine .list (.of (hp a am _ O.ob)) ?_
   have go:∀ {as':List ai}{dss':List (List D)},(∀ b∈as',b∈a::as)->zF K H Hs as' dss'->RDs K Hs' (as'.map V.ref) (dss'.map .list):=fun {as' dss'} hs hi=>by
    induction hi with
    | nil=>exact .nil
    | cons h1 h2 _ ih=>exact .cons (.list (.of (hp _ (hs _ am) _ h1)) (h2.same up)) (ih fun b hb=>hs b (ah _ hb))
   exact go (fun b hb=>ah _ hb) O.inn
  ·obtain ⟨v,k1,k2⟩:=f.sh j d h'
   exact ⟨v,k1,k2.same up⟩
 ·rcases un h with ⟨d',e,h'⟩ | ⟨d',e,h'⟩ | ⟨n,_,h'⟩
  ·cases e
  ·cases e
  ·exact (n d rfl).elim
 ·rcases un h with ⟨d',e,h'⟩ | ⟨d',e,h'⟩ | ⟨_,_,h'⟩
  ·cases e
  ·cases e
  ·obtain ⟨a,o,k1,k2,k3,k4,k5,k6⟩:=f.lk j d h'
   exact ⟨a,o,k1,k2,k3,by rw [neg a (none0 a o k5)];exact k4,k5,k6.same up⟩
 ·rcases un h1 with ⟨d',e,h'⟩ | ⟨d',e,h'⟩ | ⟨n,_,h'⟩
  ·cases e
  ·cases e
  ·exact (n d1 rfl).elim
 ·rcases un h with ⟨d',e,h'⟩ | ⟨d',e,h'⟩ | ⟨_,n,h'⟩
  ·cases e
  ·cases e
  ·exact (n d rfl).elim
 ·rcases un h1 with ⟨d',e,h'⟩ | ⟨d',e,h'⟩ | ⟨_,n,h'⟩
  ·cases e
  ·cases e
  ·exact (n d1 rfl).elim
theorem Fr.shared     (f:Fr K H0 Hs0 la ρ σ H Hs):∃ Hs',Fr K H0 Hs0 la (fh ρ) σ H Hs':=by
 obtain ⟨Hs',h | h⟩:=f.share
 ·exact ⟨Hs',h.1⟩
 ·exact ⟨Hs',h⟩
section
variable {c:C}{e a b:aX}{g ga gb:az->R D}{pos:Pos}{x:Str}{st:dz}{bS:List dz}{gs gr:az->R Fl}
def bp (g h:az->R Fl):az->R Fl:=fun ρ=>(g ρ).bind fun fl=>match fl with
 | .nx ρ'=>h ρ'
 | fl=>.ok fl
theorem dZ:Gh c [] (fun ρ=>.ok (.nx ρ)):=.of fun ρ=>VJ O8 fun D σ H h_1=>by obtain ⟨H0,Hs0,la,Hs,f,q⟩:=h_1;exact q σ H Hs f
theorem aW (h:JS c st gs):Gh c [st] gs:=.of fun ρ=>O9 (h ρ)
theorem aI (h:JS c st gs) (hr:Gh c bS gr):Gh c (st::bS) (bp gs gr):=.of fun ρ pins s σ H D I h_2=>by
 obtain ⟨H0,Hs0,la,Hs,f,q⟩:=h_2
 unfold bp at q
 cases hg:gs ρ with
 | no=>rw [hg] at q;exact q.elim
 | ex x n =>
  rw [hg] at q
  refine pL (h ρ) (qw (X:=c.X) (sts:=bS)) pins s σ H D I ⟨H0,Hs0,la,Hs,f,?_⟩
  rw [hg]
  exact q
 | ok fl =>
  rw [hg,bind_ok] at q
  cases fl with
  | nx ρ' =>
   refine pL (h ρ) (hr ρ') pins s σ H D I ⟨H0,Hs0,la,Hs,f,?_⟩
   rw [hg]
   exact fun σ' H' Hs' f'=>⟨H0,Hs0,la,Hs',f',q⟩
  | rt d =>
   refine pL (h ρ) (qw (X:=c.X) (sts:=bS)) pins s σ H D I ⟨H0,Hs0,la,Hs,f,?_⟩
   rw [hg]
   exact q
  | bk ρ' =>
   refine pL (h ρ) (qw (X:=c.X) (sts:=bS)) pins s σ H D I ⟨H0,Hs0,la,Hs,f,?_⟩
   rw [hg]
   exact q
  | ct ρ' =>
   refine pL (h ρ) (qw (X:=c.X) (sts:=bS)) pins s σ H D I ⟨H0,Hs0,la,Hs,f,?_⟩
   rw [hg]
   exact q
theorem sE            (f:Fr K H0 Hs0 la ρ σ H Hs)
  (h:nB K cls E H0 Hs0 la D' (r.bind k)) (m:∀ d v H' Hs',r=.ok d->cD H Hs H' Hs'->Fr K H0 Hs0 la ρ σ H' Hs'->RD K Hs' v d->Q v H'):TR K cls E ρ r σ H Q:=by
 refine ⟨H0,Hs0,la,Hs,f,?_⟩
 cases r with
 | ok d=>exact fun v H' Hs' s r=>m d v H' Hs' rfl s (f.step s) r
 | ex c n=>exact fun H' Hs' s=>h H' Hs' (f.st.trans s)
 | no=>exact h
theorem sT            (f:Fr K H0 Hs0 la ρ σ H Hs)
  (h:nB K cls E H0 Hs0 la D' (r.bind k)) (m:∀ d H' Hs',r=.ok d->cD H Hs H' Hs'->Fr K H0 Hs0 la ρ σ H' Hs'->Q d H'):Iv K cls E ρ r σ H Q:=by
 refine ⟨H0,Hs0,la,Hs,f,?_⟩
 cases r with
 | ok d=>exact fun H' Hs' s=>m d H' Hs' rfl s (f.step s)
 | ex c n=>exact fun H' Hs' s=>h H' Hs' (f.st.trans s)
 | no=>exact h
def eM (g:az->R D):az->R Fl:=fun ρ=>(g (fh ρ)).bind fun d=>.ok (.rt d)
theorem c9 (h:JE c e g):JS c (.Return (some e) pos) (eM g):=.of fun ρ=>yS (Q_ (h (fh ρ))) fun D σ H h_3=>by
 obtain ⟨H0,Hs0,la,Hs,f,q⟩:=h_3
 obtain ⟨Hs',f'⟩:=f.shared
 refine sE f' q fun d v H1 Hs1 e1 s1 f1 r1=>?_
 unfold eM at q
 rw [e1,bind_ok] at q
 exact q v H1 Hs1 f1.st r1
def h_ (t:az->R Bool) (g h:az->R Fl):az->R Fl:=fun ρ=>(t ρ).bind fun b=>if b then g ρ else h ρ
theorem iw    (ht:JT c t gt) (hA:Gh c A gA) (hB:Gh c B gB):JS c (.If t A B pos) (h_ gt gA gB):=.of fun ρ=>yS (SL (ht ρ) (hA ρ) (hB ρ)) fun D σ H h_5=>by
 obtain ⟨H0,Hs0,la,Hs,f,q⟩:=h_5
 refine sT f q fun d H1 Hs1 e1 s1 f1=>?_
 unfold h_ at q
 rw [e1,bind_ok] at q
 cases d with
 | true=>exact Cb ⟨H0,Hs0,la,Hs1,f1,q⟩
 | false=>exact Ca ⟨H0,Hs0,la,Hs1,f1,q⟩
def i7 (i:Nat) (g:az->R D):az->R Fl:=fun ρ=>(g ρ).bind fun d=>.ok (.nx (ρ.set i (.shr d)))
theorem fi (i:Nat) (h:JE c e g) (hN:c.X.N.Nodup) (hi:c.X.N[i]?=some x:=by rfl) (hx:Py c.X.env.scope x:=by first | exact iT rfl | exact ft rfl) (hs:hW e (some (.Name x pos')) pos.line c.X.env=pure false:=by rfl)
  (hf:c.X.fn x=true\/c.X.env.scope.names.lookup x=some .local:=by first | exact .inl rfl | exact .inr rfl | assumption):JS c (.Assign [.Name x pos'] e pos) (i7 i g):=.of fun ρ=>yS (EB hN hi hx (h ρ) hs hf) fun D σ H h_6=>by
 obtain ⟨H0,Hs0,la,Hs,f,q⟩:=h_6
 refine sE f q fun d v H1 Hs1 e1 s1 f1 r1=>?_
 unfold i7 at q
 rw [e1,bind_ok] at q
 exact q _ H1 Hs1 (f1.set i r1)
def xn (g:az->R D):az->R Fl:=fun ρ=>(g ρ).bind fun _=>.ok (.nx ρ)
theorem wG (h:JE c e g) (hs:hW e none pos.line c.X.env=pure false:=by rfl):JS c (.Expr e pos) (xn g):=.of fun ρ=>yS (Ax (h ρ) hs) fun D σ H h_7=>by
 obtain ⟨H0,Hs0,la,Hs,f,q⟩:=h_7
 refine sE f q fun d v H1 Hs1 e1 s1 f1 r1=>?_
 unfold xn at q
 rw [e1,bind_ok] at q
 exact q _ H1 Hs1 f1
def Wp (K:a8) (H0 Hs0:Hp) (la:Nat->Option ai) (H Hs:Hp) (Q:St->Hp->Prop) (r:R az):Prop:=match r with
 | .ok ρ'=>∀ σ',Fr K H0 Hs0 la ρ' σ' H Hs->Q σ' H
 | _=>False
inductive TC (K:a8) (ρ:az) (d:D) (r:R az) (v:V) (σ:St) (H:Hp) (Q:St->Hp->Prop):Prop
 | mk (H0 Hs0:Hp) (la:Nat->Option ai) (Hs:Hp) (f:Fr K H0 Hs0 la ρ σ H Hs) (rd:RD K Hs v d) (q:Wp K H0 Hs0 la H Hs Q r):TC K ρ d r v σ H Q
def RF (K:a8) (ρ:az) (d:D) (r:R az):TG:=TC K ρ d r
inductive Q8 (K:a8) (ρ:az) (ds:List D) (r:R az) (vs:List V) (σ:St) (H:Hp) (Q:St->Hp->Prop):Prop
 | mk (H0 Hs0:Hp) (la:Nat->Option ai) (Hs:Hp) (f:Fr K H0 Hs0 la ρ σ H Hs) (rd:RDs K Hs vs ds) (q:Wp K H0 Hs0 la H Hs Q r):Q8 K ρ ds r vs σ H Q
def TD (K:a8) (ρ:az) (ds:List D) (r:R az):K9:=Q8 K ρ ds r
structure JG (c:C) (t:aX) (k:D->az->R az):Prop where of ::
 run:∀ ρ d,PG c.X t (RF c.X.K ρ d (k d ρ))
instance {c:C}{t:aX}{k:D->az->R az}:CoeFun (JG c t k) (fun _=>∀ ρ d,PG c.X t (RF c.X.K ρ d (k d ρ))):=⟨JG.run⟩
structure SA (c:C) (t:List aX) (k:List D->az->R az):Prop where of ::
 run:∀ ρ d,PB c.X t (TD c.X.K ρ d (k d ρ))
instance {c:C}{t:List aX}{k:List D->az->R az}:CoeFun (SA c t k) (fun _=>∀ ρ d,PB c.X t (TD c.X.K ρ d (k d ρ))):=⟨SA.run⟩
theorem Wq   (h:PG X e t) (m:∀ v σ H Q,t' v σ H Q->t v σ H Q):PG X e t':=fun pins s σ H v u Q I r q=>h pins s σ H v u Q I r (m v σ H Q q)
theorem VP {X:Cx}{e:List aX}{t t':K9} (h:PB X e t) (m:∀ v σ H Q,t' v σ H Q->t v σ H Q):PB X e t':=fun pins s σ H v u Q I r q=>h pins s σ H v u Q I r (m v σ H Q q)
def cb (i:Nat):D->az->R az:=fun d ρ=>.ok (ρ.set i (.shr d))
theorem dv (i:Nat) (hN:c.X.N.Nodup) (hi:c.X.N[i]?=some x:=by rfl) (hx:Py c.X.env.scope x:=by first | exact iT rfl | exact ft rfl) (hf:c.X.fn x=true\/c.X.env.scope.names.lookup x=some .local:=by first | exact .inl rfl | exact .inr rfl | assumption) :
  JG c (.Name x pos) (cb i):=.of fun ρ d=>Wq (cZ hN hi hx hf) fun v σ H Q h_11=>by obtain ⟨H0,Hs0,la,Hs,f,r,q⟩:=h_11;exact q _ (f.set i r)
variable {kt:D->az->R az}{kts:List D->az->R az}{t:aX}{ts:List aX}
def ph:List D->az->R az:=fun ds ρ=>match ds with
 | []=>.ok ρ
 | _=>.no
def cX (k:D->az->R az) (ks:List D->az->R az):List D->az->R az:=fun ds ρ=>match ds with
 | d::r=>(k d ρ).bind fun ρ'=>ks r ρ'
 | _=>.no
theorem n_:SA c [] ph:=.of fun ρ ds=>VP Ay fun vs σ H Q h_12=>by
 obtain ⟨H0,Hs0,la,Hs,f,r,q⟩:=h_12
 cases r with
 | nil=>exact ⟨rfl,q σ f⟩
 | cons _ _=>exact q.elim
theorem dD (h:JG c t kt) (hr:SA c ts kts) (hs:(im (t::ts) c.X.env).map (·.2)=pE t c.X.env::(im ts c.X.env).map (·.2):=by rfl):SA c (t::ts) (cX kt kts):=.of fun ρ ds pins s σ H vs us Q I rv h_13=>by
 obtain ⟨H0,Hs0,la,Hs,f,r,q⟩:=h_13
 cases r with
 | nil=>exact q.elim
 | @cons v vr d dr r1 r2 =>
  unfold cX at q
  cases hk:kt d ρ with
  | ok ρ' =>
   simp only [hk,bind_ok] at q
   refine pM (h ρ d) (hr ρ' dr) hs pins s σ H _ us Q I rv ⟨v,vr,rfl,H0,Hs0,la,Hs,f,r1,?_⟩
   rw [hk]
   exact fun σ' f'=>⟨H0,Hs0,la,Hs,f',r2,q⟩
  | ex x n=>simp only [hk,bind_ex] at q;exact q.elim
  | no=>simp only [hk,bind_no] at q;exact q.elim
def nC (n:Nat) (ks:List D->az->R az):D->az->R az:=fun d ρ=>match d with
 | .tuple ds=>if ds.length=n then ks ds ρ else .no
 | _=>.no
theorem sy (hc:c.X.calm=true) (h:SA c ts kts) (hn:(im ts c.X.env).length=n:=by rfl) (hst:(im ts c.X.env).findIdx? (·.1)=none:=by rfl):JG c (.Tuple ts k pos) (nC n kts):=.of fun ρ d=>by
 cases d with
 | tuple ds =>
  refine Wq (EA hc (h ρ ds) hn hst) fun v σ H Q h_14=>?_
  obtain ⟨H0,Hs0,la,Hs,f,r,q⟩:=h_14
  cases r with
  | @tuple p xs _ hq rs =>
   unfold nC at q
   by_cases hl:ds.length=n
   ·simp only [if_pos hl] at q
    exact ⟨p,xs,rfl,(kE.of (f.st.sub _ _ hq)),by rw [rs.length];exact hl,H0,Hs0,la,Hs,f,rs,q⟩
   ·simp only [if_neg hl] at q;exact q.elim
 | _=>exact fun pins s σ H v u Q I rv h_15=>by obtain ⟨H0,Hs0,la,Hs,f,r,q⟩:=h_15;exact q.elim
def AZ (g:az->R D) (k:D->az->R az):az->R Fl:=fun ρ=>(g ρ).bind fun d=>match k d ρ with
 | .ok ρ'=>.ok (.nx ρ')
 | _=>.no
theorem A_ (h:JE c e g) (hg:JG c t kt) (hs:wp [t] e pos.line c.X.env=pure false:=by rfl) (hw:wq [t] e c.X.env=pure none:=by rfl) (h1:(im [t] c.X.env).map (·.2)=[pE t c.X.env]:=by rfl) :
  JS c (.Assign [t] e pos) (AZ g kt):=.of fun ρ=>by
 cases hr:g ρ with
 | ok d =>
  refine yS (Kb (h ρ) (hg ρ d) hs hw h1) fun D σ H h_16=>?_
  obtain ⟨H0,Hs0,la,Hs,f,q⟩:=h_16
  refine sE (k:=fun d=>match kt d ρ with | .ok ρ'=>.ok (.nx ρ') | _=>.no) f q fun d' v H1 Hs1 e1 s1 f1 r1=>?_
  rw [hr] at e1
  cases e1
  unfold AZ at q
  rw [hr,bind_ok] at q
  refine ⟨H0,Hs0,la,Hs1,f1,r1,?_⟩
  cases hk:kt d ρ with
  | ok ρ'=>rw [hk] at q;exact fun σ' f'=>q σ' H1 Hs1 f'
  | ex x n=>rw [hk] at q;exact q.elim
  | no=>rw [hk] at q;exact q.elim
 | ex x n =>
  refine yS (Kb (h ρ) (hg ρ .none) hs hw h1) fun D σ H h_17=>?_
  obtain ⟨H0,Hs0,la,Hs,f,q⟩:=h_17
  refine sE (k:=fun _=>.no) (D':=D) f (by unfold AZ at q;rw [hr] at q ⊢;exact q) fun d' v H1 Hs1 e1 s1 f1 r1=>?_
  rw [hr] at e1;cases e1
 | no =>
  refine fun pins s σ H D I h_18=>?_
  obtain ⟨H0,Hs0,la,Hs,f,q⟩:=h_18
  unfold AZ at q
  rw [hr] at q
  exact q.elim
end
end
section
def Nw (K:a8) (J:It) (ds:List D) (Hn Hs:Hp):Prop:=∀ H2 Hs2,dk Hn H2->dk Hs Hs2->dk Hs2 H2 ->
 (∀ i,i<ds.length->J.go i H2)/\(∀ i,ds.length<=i->J.stop i H2)/\∀ i x H3,i<ds.length->J.yld i H2 x H3->∃ d Hs3,ds[i]?=some d/\cD H2 Hs2 H3 Hs3/\RD K Hs3 x d
theorem B0     (h:oW K Hn a vs) (r:RDs K Hs vs ds):Nw K (Vi K a) ds Hn Hs:=fun H2 Hs2 e1 e2 e3=>by
 have q:=e1.seq h
 refine ⟨fun i hi=>?_,fun i hi=>⟨vs,q,by rw [r.length];exact hi⟩,fun i x H3 hi y=>?_⟩
 ·have hi':i<vs.length:=by rw [r.length];exact hi
  exact ⟨vs,vs[i],q,aV hi'⟩
 ·obtain ⟨rfl,y⟩:=y
  obtain ⟨d,k1,k2⟩:=r.get (y vs q)
  exact ⟨d,Hs2,k1,.refl e3,k2.same e2⟩
theorem La     (h:kE K Hn a vs) (r:RDs K Hs vs ds):Nw K (Vj K a) ds Hn Hs:=fun H2 Hs2 e1 e2 e3=>by
 have q:=e1.tup h
 refine ⟨fun i hi=>?_,fun i hi=>⟨vs,q,by rw [r.length];exact hi⟩,fun i x H3 hi y=>?_⟩
 ·have hi':i<vs.length:=by rw [r.length];exact hi
  exact ⟨vs,vs[i],q,aV hi'⟩
 ·obtain ⟨rfl,y⟩:=y
  obtain ⟨d,k1,k2⟩:=r.get (y vs q)
  exact ⟨d,Hs2,k1,.refl e3,k2.same e2⟩
theorem Lb  (x:Str):Nw K (Tc x) (mZ x) Hn Hs:=fun H2 Hs2 e1 e2 e3=>by
 have hl:(mZ x).length=x.cps.size:=by simp [mZ]
 refine ⟨fun i hi=>by rw [hl] at hi;exact hi,fun i hi=>by rw [hl] at hi;exact hi,fun i v H3 hi y=>?_⟩
 obtain ⟨rfl,c,k1,rfl⟩:=y
 refine ⟨.str ⟨#[c]⟩,Hs2,?_,.refl e3,.str _⟩
 unfold mZ
 rw [aN,aE,k1]
 rfl
def p_ (lo:Int) (n:Nat):List D:=(bD n).map fun (k:Nat)=>gq (lo + k)
theorem Lc  (lo:Int) (n:Nat):Nw K (UQ lo n) (p_ lo n) Hn Hs:=fun H2 Hs2 e1 e2 e3=>by
 have hl:(p_ lo n).length=n:=by simp [p_]
 refine ⟨fun i hi=>by rw [hl] at hi;exact hi,fun i hi=>by rw [hl] at hi;exact hi,fun i v H3 hi y=>?_⟩
 obtain ⟨rfl,rfl⟩:=y
 refine ⟨.int (lo + i),Hs2,?_,.refl e3,.int _⟩
 rw [hl] at hi
 unfold p_
 rw [aN,HG hi]
 rfl
def oZ (n:Nat):List D->List D
 | []=>[]
 | d::r=>.tuple [.int n,d]::oZ (n + 1) r
theorem zJ:∀ (ds:List D) (n i:Nat),(oZ n ds)[i]?=(ds[i]?).map fun d=>dG [.int ((n + i:Nat):Int),d]
 | [],_,_=>by simp [oZ]
 | d::r,n,0=>by simp [oZ]
 | d::r,n,i + 1=>by
  simp only [oZ,jz]
  rw [zJ r (n + 1) i,show n + 1 + i=n + (i + 1) by omega]
theorem zK:∀ (ds:List D) (n:Nat),(oZ n ds).length=ds.length
 | [],_=>rfl
 | d::r,n=>by simp [oZ,zK r]
theorem OJ     (h:kE K Hn a vs) (r:RDs K Hs vs ds):Nw K (VD K a) (oZ 0 ds) Hn Hs:=fun H2 Hs2 e1 e2 e3=>by
 have q:=e1.tup h
 have hl:=zK ds 0
 refine ⟨fun i hi=>?_,fun i hi=>⟨vs,q,by rw [r.length];omega⟩,fun i x H3 hi y=>?_⟩
 ·have hi':i<vs.length:=by rw [r.length];omega
  exact ⟨vs,vs[i],q,aV hi'⟩
 ·obtain ⟨p,hp,rfl,y⟩:=y
  obtain ⟨x,k0,rfl⟩:=y vs q
  obtain ⟨d,k1,k2⟩:=r.get k0
  have st:=cD.new (o:=.tup [.int i,x]) e3 hp
  refine ⟨.tuple [.int i,d],_,?_,st,.tuple b9 (.cons (.int _) (.cons ((k2.same e2).same st.sh) .nil))⟩
  rw [zJ,k1]
  simp
def wk:List D->List D->List D
 | x::xs,y::ys=>.tuple [x,y]::wk xs ys
 | _,_=>[]
theorem CJ:∀ (xs ys:List D) (i:Nat) (x y:D),xs[i]?=some x->ys[i]?=some y->(wk xs ys)[i]?=some (.tuple [x,y])
 | x::xs,y::ys,0,_,_,h1,h2=>by simp at h1 h2;subst h1 h2;rfl
 | _::xs,_::ys,i + 1,x,y,h1,h2=>by
  simp only [jz] at h1 h2
  simp only [wk,jz]
  exact CJ xs ys i x y h1 h2
 | [],_,_,_,_,h1,_=>by simp at h1
 | _::_,[],_,_,_,_,h2=>by simp at h2
theorem CK:∀ (xs ys:List D),(wk xs ys).length=min xs.length ys.length
 | x::xs,y::ys=>by simp [wk,CK xs ys]
 | [],_=>by simp [wk]
 | _::_,[]=>by simp [wk]
theorem RG     (h:kE K Hn a vs) (r:RDs K Hs vs ds) (h':kE K Hn b ws) (r':RDs K Hs ws es):Nw K (VE K a b) (wk ds es) Hn Hs:=fun H2 Hs2 e1 e2 e3=>by
 have q:=e1.tup h
 have q':=e1.tup h'
 have hl:=CK ds es
 refine ⟨fun i hi=>?_,fun i hi=>⟨vs,ws,q,q',by rw [r.length,r'.length];omega⟩,fun i x H3 hi y=>?_⟩
 ·have h1:i<vs.length:=by rw [r.length];omega
  have h2:i<ws.length:=by rw [r'.length];omega
  exact ⟨vs,ws,vs[i],ws[i],q,q',aV h1,aV h2⟩
 ·obtain ⟨p,hp,rfl,y⟩:=y
  obtain ⟨x,z,k0,k0',rfl⟩:=y vs ws q q'
  obtain ⟨d,k1,k2⟩:=r.get k0
  obtain ⟨d',k1',k2'⟩:=r'.get k0'
  have st:=cD.new (o:=.tup [x,z]) e3 hp
  exact ⟨.tuple [d,d'],_,CJ ds es i d d' k1 k1',st,.tuple b9 (.cons ((k2.same e2).same st.sh) (.cons ((k2'.same e2).same st.sh) .nil))⟩
inductive TF (K:a8) (cls:Str->ai) (E:XK) (ρ:az) (r:R (List D)) (σ:St) (H:Hp) (Q:It->Hp->Prop):Prop
 | mk (H0 Hs0:Hp) (la:Nat->Option ai) (Hs:Hp) (f:Fr K H0 Hs0 la ρ σ H Hs) (q:Fin K cls E H Hs r fun ds=>∀ J H' Hs' Hn,cD H Hs H' Hs'->dk Hn H'->Nw K J ds Hn Hs'->Q J H'):TF K cls E ρ r σ H Q
def U_ (K:a8) (cls:Str->ai) (E:XK) (ρ:az) (r:R (List D)):TI:=TF K cls E ρ r
inductive TH (K:a8) (cls:Str->ai) (E:XK) (ρ:az) (r:R (List D)) (σ:St) (H:Hp) (Q:It->Hp->Prop):Prop
 | mk (H0 Hs0:Hp) (la:Nat->Option ai) (Hs:Hp) (f:Fr K H0 Hs0 la ρ σ H Hs) (q:Fin K cls E H Hs r fun ds=>∀ J H' Hs',cD H Hs H' Hs'->Nw K J ds Hs' Hs'->Q J H'):TH K cls E ρ r σ H Q
def Wr (K:a8) (cls:Str->ai) (E:XK) (ρ:az) (r:R (List D)):TI:=TH K cls E ρ r
structure JI (c:C) (tg it:aX) (g:az->R (List D)):Prop where of ::
 run:∀ ρ,PI c.X tg it (U_ c.X.K c.cls c.E ρ (g ρ))
instance {c:C}{tg it:aX}{g:az->R (List D)}:CoeFun (JI c tg it g) (fun _=>∀ ρ,PI c.X tg it (U_ c.X.K c.cls c.E ρ (g ρ))):=⟨JI.run⟩
structure Ld (c:C) (tg it:aX) (g:az->R (List D)):Prop where of ::
 run:∀ ρ,PI c.X tg it (Wr c.X.K c.cls c.E ρ (g ρ))
instance {c:C}{tg it:aX}{g:az->R (List D)}:CoeFun (Ld c tg it g) (fun _=>∀ ρ,PI c.X tg it (Wr c.X.K c.cls c.E ρ (g ρ))):=⟨Ld.run⟩
theorem IB   (h:PI X tg e t) (m:∀ σ H Q,t' σ H Q->t σ H Q):PI X tg e t':=fun pins s σ H Q I q=>h pins s σ H Q I (m σ H Q q)
section
variable {c:C}{e a b l tg:aX}{g ga gb:az->R D}{pos p:Pos}{gs:az->R (List D)}
def xo:D->R (List D)
 | .list ds=>.ok ds
 | .tuple ds=>.ok ds
 | .str x=>.ok (mZ x)
 | _=>.no
def ll (g:az->R D):az->R (List D):=fun ρ=>(g ρ).bind xo
theorem gg (h:JB c l g):JI c tg l (ll g):=.of fun ρ=>by
 cases hr:g ρ with
 | no=>exact fun pins s σ H Q I h_0=>by obtain ⟨H0,Hs0,la,Hs,f,q⟩:=h_0;exact by unfold ll at q;rw [hr] at q;exact q.elim
 | ex x n =>
  refine IB (tS (h ρ)) fun σ H Q h_1=>?_
  obtain ⟨H0,Hs0,la,Hs,f,q⟩:=h_1
  refine one f q fun d v H1 Hs1 e1 s1 f1 r1=>?_
  rw [hr] at e1;cases e1
 | ok d =>
  cases d with
  | list ds =>
   refine IB (tS (h ρ)) fun σ H Q h_2=>?_
   obtain ⟨H0,Hs0,la,Hs,f,q⟩:=h_2
   refine one f q fun d v H1 Hs1 e1 s1 f1 r1=>?_
   rw [hr] at e1;cases e1
   unfold ll at q
   rw [hr,bind_ok] at q
   obtain ⟨a,vs,rfl,qa,ra⟩:=r1.list f1.st.sub
   exact ⟨a,rfl,⟨vs,qa⟩,q _ H1 Hs1 H1 s1 (.refl _) (B0 qa ra)⟩
  | tuple ds =>
   refine IB (Ke (h ρ)) fun σ H Q h_3=>?_
   obtain ⟨H0,Hs0,la,Hs,f,q⟩:=h_3
   refine one f q fun d v H1 Hs1 e1 s1 f1 r1=>?_
   rw [hr] at e1;cases e1
   unfold ll at q
   rw [hr,bind_ok] at q
   obtain ⟨a,vs,rfl,qa,ra,_⟩:=r1.tuple f1.st.sub
   exact ⟨a,rfl,⟨vs,qa⟩,q _ H1 Hs1 H1 s1 (.refl _) (La qa ra)⟩
  | str x =>
   refine IB (KL (h ρ)) fun σ H Q h_4=>?_
   obtain ⟨H0,Hs0,la,Hs,f,q⟩:=h_4
   refine one f q fun d v H1 Hs1 e1 s1 f1 r1=>?_
   rw [hr] at e1;cases e1
   unfold ll at q
   rw [hr,bind_ok] at q
   exact ⟨x,r1.str,q _ H1 Hs1 H1 s1 (.refl _) (Lb x)⟩
  | none=>exact fun pins s σ H Q I h_5=>by obtain ⟨H0,Hs0,la,Hs,f,q⟩:=h_5;exact by unfold ll at q;rw [hr] at q;exact q.elim
  | bool _=>exact fun pins s σ H Q I h_6=>by obtain ⟨H0,Hs0,la,Hs,f,q⟩:=h_6;exact by unfold ll at q;rw [hr] at q;exact q.elim
  | int _=>exact fun pins s σ H Q I h_7=>by obtain ⟨H0,Hs0,la,Hs,f,q⟩:=h_7;exact by unfold ll at q;rw [hr] at q;exact q.elim
  | dict _=>exact fun pins s σ H Q I h_8=>by obtain ⟨H0,Hs0,la,Hs,f,q⟩:=h_8;exact by unfold ll at q;rw [hr] at q;exact q.elim
theorem wH (h:JE c l g):Ld c tg l (ll g):=.of fun ρ=>by
 cases hr:g ρ with
 | no=>exact fun pins s σ H Q I h_9=>by obtain ⟨H0,Hs0,la,Hs,f,q⟩:=h_9;exact by unfold ll at q;rw [hr] at q;exact q.elim
 | ex x n =>
  refine IB (tS (h ρ)) fun σ H Q h_10=>?_
  obtain ⟨H0,Hs0,la,Hs,f,q⟩:=h_10
  refine AT f q fun d v H1 Hs1 e1 s1 f1 r1=>?_
  rw [hr] at e1;cases e1
 | ok d =>
  cases d with
  | list ds =>
   refine IB (tS (h ρ)) fun σ H Q h_11=>?_
   obtain ⟨H0,Hs0,la,Hs,f,q⟩:=h_11
   refine AT f q fun d v H1 Hs1 e1 s1 f1 r1=>?_
   rw [hr] at e1;cases e1
   unfold ll at q
   rw [hr,bind_ok] at q
   cases r1 with
   | list qa ra=>exact ⟨_,rfl,⟨_,f1.st.sub.seq qa⟩,q _ H1 Hs1 s1 (B0 qa ra)⟩
  | tuple ds =>
   refine IB (Ke (h ρ)) fun σ H Q h_12=>?_
   obtain ⟨H0,Hs0,la,Hs,f,q⟩:=h_12
   refine AT f q fun d v H1 Hs1 e1 s1 f1 r1=>?_
   rw [hr] at e1;cases e1
   unfold ll at q
   rw [hr,bind_ok] at q
   cases r1 with
   | tuple qa ra=>exact ⟨_,rfl,⟨_,(kE.of (f1.st.sub _ _ qa))⟩,q _ H1 Hs1 s1 (La (.of qa) ra)⟩
  | str x =>
   refine IB (KL (h ρ)) fun σ H Q h_13=>?_
   obtain ⟨H0,Hs0,la,Hs,f,q⟩:=h_13
   refine AT f q fun d v H1 Hs1 e1 s1 f1 r1=>?_
   rw [hr] at e1;cases e1
   unfold ll at q
   rw [hr,bind_ok] at q
   cases r1 with
   | str _=>exact ⟨x,rfl,q _ H1 Hs1 s1 (Lb x)⟩
  | none=>exact fun pins s σ H Q I h_14=>by obtain ⟨H0,Hs0,la,Hs,f,q⟩:=h_14;exact by unfold ll at q;rw [hr] at q;exact q.elim
  | bool _=>exact fun pins s σ H Q I h_15=>by obtain ⟨H0,Hs0,la,Hs,f,q⟩:=h_15;exact by unfold ll at q;rw [hr] at q;exact q.elim
  | int _=>exact fun pins s σ H Q I h_16=>by obtain ⟨H0,Hs0,la,Hs,f,q⟩:=h_16;exact by unfold ll at q;rw [hr] at q;exact q.elim
  | dict _=>exact fun pins s σ H Q I h_17=>by obtain ⟨H0,Hs0,la,Hs,f,q⟩:=h_17;exact by unfold ll at q;rw [hr] at q;exact q.elim
theorem Ld.i (h:Ld c tg l gs):JI c tg l gs:=.of fun ρ=>IB (h ρ) fun σ H Q ⟨H0,Hs0,la,Hs,f,q⟩=>⟨H0,Hs0,la,Hs,f,by
 cases hr:gs ρ with
 | ok ds=>rw [hr] at q;exact fun J H' Hs' s i=>q J H' Hs' Hs' s s.sub i
 | ex x n=>rw [hr] at q;exact q
 | no=>rw [hr] at q;exact q⟩
def F3:List D->R (List D)
 | [.int j]=>if -(2 ^ 62)<=j/\j<2 ^ 62 then .ok (p_ 0 j.toNat) else .no
 | _=>.no
def zL (gs:az->R (List D)):az->R (List D):=fun ρ=>(gs ρ).bind F3
theorem sA (hg:Gl c.X "range") (hm:c.X.mg "range"=none) (ha:Q1 c [a] gs) (hs:aK [a] c.X.env=[(false,eh a c.X.env)]:=by rfl):Ld c tg (.Call (.Name "range" p) [a] [] pos) (zL gs):=.of fun ρ=>IB (HU hg hm (ha ρ) hs) fun σ H Q h_18=>by
 obtain ⟨H0,Hs0,la,Hs,f,q⟩:=h_18
 refine KZ f q fun ds vs H1 Hs1 e1 s1 f1 r1=>?_
 unfold zL at q
 rw [e1,bind_ok] at q
 unfold F3 at q
 split at q
 ·rename_i j
  by_cases hj:-(2 ^ 62)<=j/\j<2 ^ 62
  ·rw [if_pos hj] at q
   obtain ⟨x,rfl,rx⟩:=r1.one
   exact ⟨j,by rw [rx.int],hj.1,hj.2,q _ H1 Hs1 s1 (Lc 0 _)⟩
  ·rw [if_neg hj] at q;exact q.elim
 ·exact q.elim
def V1:List D->R (List D)
 | [.tuple ds]=>.ok (oZ 0 ds)
 | _=>.no
def F4 (gs:az->R (List D)):az->R (List D):=fun ρ=>(gs ρ).bind V1
theorem RDs.one    (h:RDs K H xs [d]):∃ x,xs=[x]/\RD K H x d:=by
 cases h with | cons a t=>cases t;exact ⟨_,rfl,a⟩
theorem RDs.two {K:a8}{H:Hp}{xs:List V}{d e:D} (h:RDs K H xs [d,e]):∃ x y,xs=[x,y]/\RD K H x d/\RD K H y e:=by
 cases h with | cons a t=>cases t with | cons b t=>cases t;exact ⟨_,_,rfl,a,b⟩
theorem xp {x1} (hg:Gl c.X "enumerate") (hm:c.X.mg "enumerate"=none) (ha:G9 c [a] gs) (hs:aK [a] c.X.env=[(false,eh a c.X.env)]:=by rfl):Ld c (.Tuple elts x1 tpos) (.Call (.Name "enumerate" p) [a] [] pos) (F4 gs):=.of fun ρ=>IB (Oz hg hm (ha ρ) hs) fun σ H Q h_20=>by
 obtain ⟨H0,Hs0,la,Hs,f,q⟩:=h_20
 refine EV f q fun ds vs H1 Hs1 e1 s1 f1 r1=>?_
 unfold F4 at q
 rw [e1,bind_ok] at q
 unfold V1 at q
 split at q
 ·obtain ⟨x,rfl,rx⟩:=r1.one
  cases rx with
  | tuple qa ra=>exact ⟨_,_,rfl,(kE.of (f1.st.sub _ _ qa)),q _ H1 Hs1 s1 (OJ (.of qa) ra)⟩
 ·exact q.elim
def zp:List D->R (List D)
 | [.tuple ds,.tuple es]=>.ok (wk ds es)
 | _=>.no
def OK (gs:az->R (List D)):az->R (List D):=fun ρ=>(gs ρ).bind zp
theorem OL {x1} (hg:Gl c.X "zip") (hm:c.X.mg "zip"=none) (ha:G9 c [a,b] gs) (hs:aK [a,b] c.X.env=[(false,eh a c.X.env),(false,eh b c.X.env)]:=by rfl) (hs2:aK [b] c.X.env=[(false,eh b c.X.env)]:=by rfl) :
  Ld c (.Tuple elts x1 tpos) (.Call (.Name "zip" p) [a,b] [] pos) (OK gs):=.of fun ρ=>IB (Rx hg hm (ha ρ) hs hs2) fun σ H Q h_21=>by
 obtain ⟨H0,Hs0,la,Hs,f,q⟩:=h_21
 refine EV f q fun ds vs H1 Hs1 e1 s1 f1 r1=>?_
 unfold OK at q
 rw [e1,bind_ok] at q
 unfold zp at q
 split at q
 ·obtain ⟨x,y,rfl,rx,ry⟩:=r1.two
  cases rx with
  | tuple qa ra =>
   cases ry with
   | tuple qb rb=>exact ⟨_,_,_,_,rfl,(kE.of (f1.st.sub _ _ qa)),(kE.of (f1.st.sub _ _ qb)),q _ H1 Hs1 s1 (RG (.of qa) ra (.of qb) rb)⟩
 ·exact q.elim
end
end
section
inductive Ws (K:a8) (cls:Str->ai) (E:XK) (ρ:az) (r:R D) (σ:St) (H:Hp) (Q:VK):Prop
 | mk (H0 Hs0:Hp) (la:Nat->Option ai) (Hs:Hp) (f:Fr K H0 Hs0 la ρ σ H Hs) (q:Fin K cls E H Hs r fun d=>∀ a o H' Hs',cD H Hs H' Hs'->H' a=none->mn K Hs' o d->Q (.ref a) (upd H' a o)):Ws K cls E ρ r σ H Q
def TN (K:a8) (cls:Str->ai) (E:XK) (ρ:az) (r:R D):TE:=Ws K cls E ρ r
structure JN (c:C) (e:aX) (g:az->R D):Prop where of ::
 run:∀ ρ,PE c.X e (TN c.X.K c.cls c.E ρ (g ρ))
instance {c:C}{e:aX}{g:az->R D}:CoeFun (JN c e g) (fun _=>∀ ρ,PE c.X e (TN c.X.K c.cls c.E ρ (g ρ))):=⟨JN.run⟩
section
variable {c:C}{e a b l tg:aX}{g ga gb:az->R D}{pos p:Pos}{gs:az->R (List D)}{es:List aX}{x:Str}
theorem VQ        (q:TR K cls E ρ r σ H Q):TN K cls E ρ r σ H Q:=by
 obtain ⟨H0,Hs0,la,Hs,f,q⟩:=q
 refine ⟨H0,Hs0,la,Hs,f,?_⟩
 cases r with
 | ok d=>exact fun a o H' Hs' s n r=>q _ _ _ (s.trans (.new s.sub n)) (r.share (s.sub.free n))
 | ex x n=>exact q
 | no=>exact q
theorem JN.je (h:JN c e g):JE c e g:=.of fun ρ=>tJ (h ρ) fun σ H Q q=>VQ q
theorem v9 (h:G9 c es gs):JN c (.List es pos) (fg gs .list):=.of fun ρ=>tJ (sj (h ρ)) fun σ H Q h_0=>by
 obtain ⟨H0,Hs0,la,Hs,f,q⟩:=h_0
 refine EV f q fun ds vs H1 Hs1 e1 s1 f1 r1=>?_
 unfold fg at q
 rw [e1,bind_ok] at q
 by_cases hl:ds.length<=1000
 ·rw [if_pos hl] at q
  exact ⟨bW (dH (by rw [r1.length];exact hl)),fun p hp=>q p _ H1 Hs1 s1 hp (.lst r1)⟩
 ·rw [if_neg hl] at q;exact q.elim
theorem Gi:JN c (.Dict [] [] pos) (fun _=>.ok (.dict [])):=.of fun ρ=>tJ Kw fun σ H Q h_1=>by obtain ⟨H0,Hs0,la,Hs,f,q⟩:=h_1;exact fun p hp=>q p _ H Hs (.refl f.st.sub) hp (.dK .nil)
def hG (i:Nat) (g:az->R D):az->R Fl:=fun ρ=>(g ρ).bind fun d=>.ok (.nx (ρ.set i (.own d)))
theorem sN            (f:Fr K H0 Hs0 la ρ σ H Hs)
  (h:nB K cls E H0 Hs0 la D' (r.bind k)) (m:∀ d a o H' Hs',r=.ok d->Fr K H0 Hs0 la ρ σ H' Hs'->H' a=none->mn K Hs' o d->Q (.ref a) (upd H' a o)):TN K cls E ρ r σ H Q:=by
 refine ⟨H0,Hs0,la,Hs,f,?_⟩
 cases r with
 | ok d=>exact fun a o H' Hs' s n r=>m d a o H' Hs' rfl (f.step s) n r
 | ex c n=>exact fun H' Hs' s=>h H' Hs' (f.st.trans s)
 | no=>exact h
theorem ki (i:Nat) (h:JN c e g) (hN:c.X.N.Nodup) (hi:c.X.N[i]?=some x:=by rfl) (hx:Py c.X.env.scope x:=by first | exact iT rfl | exact ft rfl) (hs:hW e (some (.Name x pos')) pos.line c.X.env=pure false:=by rfl)
  (hf:c.X.fn x=true\/c.X.env.scope.names.lookup x=some .local:=by first | exact .inl rfl | exact .inr rfl | assumption):JS c (.Assign [.Name x pos'] e pos) (hG i g):=.of fun ρ=>yS (EB hN hi hx (h ρ) hs hf) fun D σ H h_2=>by
 obtain ⟨H0,Hs0,la,Hs,f,q⟩:=h_2
 refine sN f q fun d a o H1 Hs1 e1 f1 n1 r1=>?_
 unfold hG at q
 rw [e1,bind_ok] at q
 exact q _ _ Hs1 (f1.setO i n1 r1)
def IC {α:Type}:R α->R α
 | .ex _ _=>.no
 | r=>r
theorem Gj {α:Type}{r:R α}{a:α} (h:IC r=.ok a):r=.ok a:=by
 cases r<;>first | exact h | cases h
def gM (f:D->R (Option D)):List D->R (List D)
 | []=>.ok []
 | d::r=>(f d).bind fun o=>(gM f r).bind fun ys=>.ok (match o with
  | some y=>y::ys
  | none=>ys)
theorem xq   (h:gM f (d::r)=.ok ys):∃ o zs,f d=.ok o/\gM f r=.ok zs/\ys=o.toList++zs:=by
 unfold gM at h
 cases hf:f d with
 | ok o =>
  rw [hf,bind_ok] at h
  cases hm:gM f r with
  | ok zs =>
   rw [hm,bind_ok] at h
   cases h
   cases o<;>exact ⟨_,zs,rfl,rfl,rfl⟩
  | ex x n=>rw [hm] at h;cases h
  | no=>rw [hm] at h;cases h
 | ex x n=>rw [hf] at h;cases h
 | no=>rw [hf] at h;cases h
def Nx:Sl->Sl
 | .own d=>.lck d
 | .ow2 _=>.no
 | s=>s
def nD (nt:Nat) (ix:List Nat) (ρ:az):az:=rz nt Sl.no++ix.map fun i=>Nx ((ρ[i]?).getD .no)
def TJ (nt:Nat):D->az->R az:=match nt with
 | 1=>cb 0
 | 2=>nC 2 (cX (cb 0) (cX (cb 1) ph))
 | _=>fun _ _=>.no
def iQ (nt:Nat) (ρ:az) (gt:az->R Bool) (ge:az->R D):D->R (Option D):=fun d=>IC ((TJ nt d ρ).bind fun ρ'=>(gt ρ').bind fun b=>if b then (ge ρ').bind fun y=>.ok (some y) else .ok none)
def fV (nt:Nat) (ix:List Nat) (gi:az->R (List D)) (gt:az->R Bool) (ge:az->R D):az->R D:=fun ρ=>(gi ρ).bind fun ds=>if ds.length<=1000 then (gM (iQ nt (nD nt ix ρ) gt ge) ds).bind fun ys=>.ok (.list ys) else .no
structure TK (c:C) (ifs:List aX) (g:az->R Bool):Prop where of ::
 run:∀ ρ,Nu c.X ifs (Iv c.X.K c.cls c.E ρ (g ρ))
instance {c:C}{ifs:List aX}{g:az->R Bool}:CoeFun (TK c ifs g) (fun _=>∀ ρ,Nu c.X ifs (Iv c.X.K c.cls c.E ρ (g ρ))):=⟨TK.run⟩
theorem gC:TK c [] (fun _=>.ok true):=.of fun ρ pins s σ H Q I h_3=>by obtain ⟨H0,Hs0,la,Hs,f,q⟩:=h_3;exact Ov pins s σ H Q I (q H Hs (.refl f.st.sub))
theorem mD (h:JT c e gt):TK c [e] gt:=.of fun ρ=>Ow (h ρ)
def ID (K:a8) (nt:Nat):TG:=match nt with
 | 1=>vD 0
 | _=>R4 K 2 (L2.ag (vD 0) (L2.ag (vD 1) L2.aT))
theorem B4 {K:a8}{nt:Nat} (h:nt=1\/nt=2):PY nt (ID K nt):=by
 rcases h with rfl | rfl
 ·exact Ky (by decide)
 ·exact Ox (by decide) (by decide)
theorem CL {K:a8}{nt:Nat}{H0 Hs0 H Hs:Hp}{la:Nat->Option ai}{ρ ρ':az}{σ:St}{v:V}{d:D}{Q:St->Hp->Prop} (hnt:nt=1\/nt=2) (f:Fr K H0 Hs0 la ρ σ H Hs) (r:RD K Hs v d) (hb:TJ nt d ρ=.ok ρ')
  (q:∀ σ',Fr K H0 Hs0 la ρ' σ' H Hs->Q σ' H):ID K nt v σ H Q:=by
 rcases hnt with rfl | rfl
 ·cases hb
  exact q _ (f.set 0 r)
 ·unfold TJ nC at hb
  simp only at hb
  cases r with
  | @tuple p xs ds hq rs =>
   simp only at hb
   split at hb
   ·rename_i hl
    cases rs with
    | nil=>cases hl
    | cons r1 rs =>
     cases rs with
     | nil=>cases hl
     | cons r2 rs =>
      cases rs with
      | nil =>
       cases hb
       exact ⟨p,_,rfl,(kE.of (f.st.sub _ _ hq)),rfl,_,_,rfl,_,_,rfl,rfl,q _ ((f.set 0 r1).set 1 r2)⟩
      | cons _ _=>simp at hl
   ·cases hb
  | none=>cases hb
  | bool _=>cases hb
  | int _=>cases hb
  | str _=>cases hb
  | list _ _=>cases hb
  | dictK _ _=>cases hb
  | dictT _ _ _=>cases hb
  | dictF _ _ _=>cases hb
theorem Fr.block     (f:Fr K H0 Hs0 la ρ σ H Hs) (nt:Nat) (ix:List Nat):∃ la',Fr K H Hs la' (nD nt ix ρ) (L2.jw nt ix σ) H Hs:=by
 have lk:∀ (j:Nat) (d:D),(nD nt ix ρ)[j]?=some (Sl.lck d)->∃ a o,(L2.jw nt ix σ)[j]?=some (some (V.ref a))/\H a=some o/\Hs a=none/\mn K Hs o d:=fun j d h=>by
  unfold nD at h
  by_cases hj:j<nt
  ·rw [bd (by simpa using hj),b_,if_pos hj] at h;cases h
  ·have hj:nt<=j:=by omega
   rw [bq (by simpa using hj),cS,aN] at h
   cases hi:ix[j - nt]? with
   | none=>rw [hi] at h;cases h
   | some i =>
    rw [hi] at h
    have at_:∀ v,σ[i]?=some (some v)->(L2.jw nt ix σ)[j]?=some (some v):=fun v k1=>by
     unfold L2.jw
     rw [bq (by simpa using hj),cS,aN,hi]
     simp [k1]
    cases hr:ρ[i]? with
    | none=>simp only [cH,hr,gI,Nx] at h;cases h
    | some s =>
     simp only [cH,hr,kg] at h
     cases s with
     | own d' =>
      cases h
      obtain ⟨a,o,k1,k2,k3,k4,k5⟩:=f.ow i d hr
      exact ⟨a,o,at_ _ k1,k2,k3,k5⟩
     | lck d' =>
      cases h
      obtain ⟨a,o,k1,k2,k3,k4,k5,k6⟩:=f.lk i d hr
      exact ⟨a,o,at_ _ k1,k3,k4,k6⟩
     | no=>cases h
     | shr _=>cases h
     | ow2 _=>cases h
 have no2:∀ (j:Nat) (d:List (List D)),¬ (nD nt ix ρ)[j]?=some (Sl.ow2 d):=fun j d h=>by
  unfold nD at h
  by_cases hj:j<nt
  ·rw [bd (by simpa using hj),b_,if_pos hj] at h;cases h
  ·have hj:nt<=j:=by omega
   rw [bq (by simpa using hj),cS,aN] at h
   cases hi:ix[j - nt]? with
   | none=>rw [hi] at h;cases h
   | some i =>
    rw [hi] at h
    cases hr:ρ[i]? with
    | none=>simp only [cH,hr,gI,Nx] at h;cases h
    | some s =>
     simp only [cH,hr,kg] at h
     cases s<;>cases h
 refine ⟨fun j=>match (nD nt ix ρ)[j]?,(L2.jw nt ix σ)[j]? with
  | some (Sl.lck _),some (some (V.ref a))=>some a
  | _,_=>none,.refl f.st.sub,by simp [nD,L2.jw],fun j d h=>?_,fun j d h=>?_,fun j d h=>?_,fun j k d1 d2 a h1 h2 _ _=>?_,fun j a h=>?_,fun j d h=>(no2 j d h).elim,fun j k d1 d2 h1 _=>(no2 j d1 h1).elim⟩
 case refine_3 =>
  obtain ⟨a,o,k1,k2,k3,k4⟩:=lk j d h
  exact ⟨a,o,k1,by rw [h,k1],k2,k3,k2,k4⟩
 case refine_5 =>
  split at h
  ·rename_i d a' h1 h2
   cases h
   obtain ⟨a',o,k1,k2,_⟩:=lk j d h1
   rw [h2] at k1
   cases k1
   exact ⟨o,k2⟩
  ·cases h
 all_goals
  unfold nD at *
 ·have h:=h
  by_cases hj:j<nt
  ·rw [bd (by simpa using hj),b_,if_pos hj] at h;cases h
  ·have hj:nt<=j:=by omega
   rw [bq (by simpa using hj),cS,aN] at h
   cases hi:ix[j - nt]? with
   | none=>rw [hi] at h;cases h
   | some i =>
    rw [hi] at h
    cases hr:ρ[i]? with
    | none=>simp only [cH,hr,gI,Nx] at h;cases h
    | some s =>
     simp only [cH,hr,kg] at h
     cases s with
     | shr d' =>
      cases h
      obtain ⟨v,k1,k2⟩:=f.sh i d hr
      refine ⟨v,?_,k2⟩
      unfold L2.jw
      rw [bq (by simpa using hj),cS,aN,hi]
      simp [k1]
     | no=>cases h
     | own _=>cases h
     | lck _=>cases h
     | ow2 _=>cases h
 ·have h:=h
  by_cases hj:j<nt
  ·rw [bd (by simpa using hj),b_,if_pos hj] at h;cases h
  ·have hj:nt<=j:=by omega
   rw [bq (by simpa using hj),cS,aN] at h
   cases hi:ix[j - nt]? with
   | none=>rw [hi] at h;cases h
   | some i =>
    rw [hi] at h
    cases hr:ρ[i]? with
    | none=>simp only [cH,hr,gI,Nx] at h;cases h
    | some s =>
     simp only [cH,hr,kg] at h
     cases s<;>cases h
 ·have h1:=h1
  by_cases hj:j<nt
  ·rw [bd (by simpa using hj),b_,if_pos hj] at h1;cases h1
  ·have hj:nt<=j:=by omega
   rw [bq (by simpa using hj),cS,aN] at h1
   cases hi:ix[j - nt]? with
   | none=>rw [hi] at h1;cases h1
   | some i =>
    rw [hi] at h1
    cases hr:ρ[i]? with
    | none=>simp only [cH,hr,gI,Nx] at h1;cases h1
    | some s =>
     simp only [cH,hr,kg] at h1
     cases s<;>cases h1
theorem xr (h:∀ d c n,f d≠.ex c n):∀ (ds:List D) (c:Str) (n:Option D),gM f ds≠.ex c n
 | [],c,n=>fun e=>by cases e
 | d::r,c,n=>fun e=>by
  unfold gM at e
  cases hf:f d with
  | ok o =>
   rw [hf,bind_ok] at e
   cases hm:gM f r with
   | ok zs=>rw [hm,bind_ok] at e;cases e
   | ex x k=>exact xr h r x k hm
   | no=>rw [hm] at e;cases e
  | ex x k=>exact h d x k hf
  | no=>rw [hf] at e;cases e
theorem CM (nt:Nat) (ρ:az) (gt:az->R Bool) (ge:az->R D) (d:D) (c:Str) (n:Option D):iQ nt ρ gt ge d≠.ex c n:=by
 unfold iQ IC
 split<;>first | exact fun e=>by cases e | skip
 rename_i h
 exact fun e=>h c n e
inductive Wt (K:a8) (f:D->R (Option D)) (ds ys:List D) (H1 Hs1:Hp) (i m:Nat) (acc:List V) (H':Hp):Prop
 | mk (done bS zs ya Hs':_) (h0:ds=done++bS) (h1:done.length=i) (h2:bS.length=m) (h3:cD H1 Hs1 H' Hs') (h4:RDs K Hs' acc ya) (h5:ya.length<=i) (h6:gM f bS=.ok zs) (h7:ys=ya++zs):Wt K f ds ys H1 Hs1 i m acc H'
theorem Gk {K:a8}{cls:Str->ai}{E:XK}{nt:Nat}{ix:List Nat}{gi:az->R (List D)}{gt:az->R Bool}{ge:az->R D}{ρ:az}{σ:St}{H:Hp}{Q:VK} (hnt:nt=1\/nt=2)
  (q:TN K cls E ρ (fV nt ix gi gt ge ρ) σ H Q) :
  Kx nt ix (U_ K cls E ρ (gi ρ)) (ID K nt) (fun σ H Q=>∃ ρ',Iv K cls E0 ρ' (gt ρ') σ H Q) (fun σ H Q=>∃ ρ',TR K cls E0 ρ' (ge ρ') σ H Q) σ H Q:=by
 obtain ⟨H0,Hs0,la,Hs,f,q⟩:=q
 refine ⟨H0,Hs0,la,Hs,f,?_⟩
 unfold fV at q
 cases hi:gi ρ with
 | no=>rw [hi] at q;exact q
 | ex x n=>rw [hi] at q;exact q
 | ok ds =>
  rw [hi,bind_ok] at q
  intro J H1 Hs1 Hn s1 sn it
  by_cases hl:ds.length<=1000
  ·rw [if_pos hl] at q
   cases hm:gM (iQ nt (nD nt ix ρ) gt ge) ds with
   | no=>rw [hm] at q;exact q.elim
   | ex x n=>exact (xr (CM _ _ _ _) _ _ _ hm).elim
   | ok ys =>
    rw [hm,bind_ok] at q
    obtain ⟨lb,fb⟩:=(f.step s1).block nt ix
    refine ⟨Wt K (iQ nt (nD nt ix ρ) gt ge) ds ys H1 Hs1,
     ⟨ds.length,[],ds,ys,[],Hs1,rfl,rfl,rfl,.refl s1.sub,.nil,cA _,hm,rfl⟩,?_⟩
    rintro i m acc H' ⟨done,bS,zs,ya,Hs',hds,hdl,hrl,st,ra,yl,hz,hy⟩
    obtain ⟨igo,istop,iyld⟩:=it H' Hs' (sn.trans st.all) st.sh st.sub
    cases bS with
    | nil =>
     left
     cases hz
     rw [cf] at hds hy
     subst hy hds
     exact ⟨istop i (by omega),fun p hp=>q p _ H' Hs' (s1.trans st) hp (.lst ra)⟩
    | cons d bS =>
     right
     have hil:i<ds.length:=by rw [hds,aR,bw];omega
     refine ⟨igo i hil,dH (by rw [ra.length];omega),fun x H2 hyl=>?_⟩
     obtain ⟨d',Hs2,hd,s2,r2⟩:=iyld i x H2 hil hyl
     have hdd:d'=d:=by
      rw [hds,bq (by omega)] at hd
      simp [hdl] at hd
      exact hd.symm
     subst hdd
     obtain ⟨o,zs',hf,hz',rfl⟩:=xq hz
     have hf:=Gj hf
     cases hb:TJ nt d' (nD nt ix ρ) with
     | no=>rw [hb] at hf;cases hf
     | ex x n=>rw [hb] at hf;cases hf
     | ok ρ' =>
      rw [hb,bind_ok] at hf
      refine CL hnt ((fb.step st).step s2) r2 hb fun σ2 f2=>⟨ρ',?_⟩
      refine ⟨_,_,_,Hs2,f2,?_⟩
      cases ht:gt ρ' with
      | no=>rw [ht] at hf;cases hf
      | ex x n=>rw [ht] at hf;cases hf
      | ok b =>
       rw [ht,bind_ok] at hf
       intro H3 Hs3 s3
       cases b with
       | false =>
        rw [if_neg bu] at hf
        cases hf
        refine Ca ⟨bS.length,by rw [<- hrl];simp,done++[d'],bS,zs',ya,Hs3,by rw [hds];simp,by simp [hdl],rfl,(st.trans s2).trans s3,ra.same (s2.trans s3).sh,by omega,hz',by simpa using hy⟩
       | true =>
        rw [if_pos rfl] at hf
        refine Cb ⟨ρ',_,_,_,Hs3,f2.step s3,?_⟩
        cases he:ge ρ' with
        | no=>rw [he] at hf;cases hf
        | ex x n=>rw [he] at hf;cases hf
        | ok y =>
         rw [he,bind_ok] at hf
         cases hf
         intro v H4 Hs4 s4 r4
         exact ⟨bS.length,by rw [<- hrl];simp,done++[d'],bS,zs',ya++[y],Hs4,by rw [hds];simp,by simp [hdl],rfl,((st.trans s2).trans s3).trans s4,(ra.same ((s2.trans s3).trans s4).sh).append (.cons r4 .nil),by simp;omega,hz',by rw [hy];simp⟩
  ·rw [if_neg hl] at q;exact q.elim
def C.comp (c:C) (N':List Str) (scope:fZ) (cl:List (Str×ai)) (A:ai) (s₀:ae) (H₀:Hp) (ex:List ai) (pn:List (ai×Obj)):C:=⟨cL c.X N' scope cl A s₀ H₀ ex pn,c.cls,E0⟩
variable {elt iter:aX}{ifs:List aX}{scope:fZ}{N':List Str}{nt:Nat}{ix:List Nat}{gi:az->R (List D)}{gt:az->R Bool}{ge:az->R D}
def ue (c:C) (N':List Str) (scope:fZ) (nt:Nat) (tg:aX) (ifs:List aX) (elt:aX) (gt:az->R Bool) (ge:az->R D):Prop :=
 ∀ cl A s₀ H₀ ex pn,PG (c.comp N' scope cl A s₀ H₀ ex pn).X tg (ID c.X.K nt)/\TK (c.comp N' scope cl A s₀ H₀ ex pn) ifs gt/\JE (c.comp N' scope cl A s₀ H₀ ex pn) elt ge
theorem ue.at (h:ue c N' scope nt tg ifs elt gt ge):∀ cl A s₀ H₀ ex pn,PG (cL c.X N' scope cl A s₀ H₀ ex pn) tg (ID c.X.K nt)/\Nu (cL c.X N' scope cl A s₀ H₀ ex pn) ifs (fun σ H Q=>∃ ρ',Iv c.X.K c.cls E0 ρ' (gt ρ') σ H Q) /\
  PE (cL c.X N' scope cl A s₀ H₀ ex pn) elt (fun σ H Q=>∃ ρ',TR c.X.K c.cls E0 ρ' (ge ρ') σ H Q):=fun cl A s₀ H₀ ex pn=>by
 obtain ⟨h1,h2,h3⟩:=h cl A s₀ H₀ ex pn
 exact ⟨h1,fun pins s σ H Q I h_4=>by obtain ⟨ρ',q⟩:=h_4;exact h2 ρ' pins s σ H Q I q,fun pins s σ H Q I h_5=>by obtain ⟨ρ',q⟩:=h_5;exact h3 ρ' pins s σ H Q I q⟩
theorem fv (nt:Nat) (hnt:nt=1\/nt=2) (hc:c.X.calm=true) (S:mW c.X scope N' nt ix) (hi:JI c tg iter gi) (hb:ue c N' scope nt tg ifs elt gt ge) (hs:∀ x,e7 iter c.X.env x=pure x:=by intro _;rfl) :
  JN c (.ListComp elt [⟨tg,iter,ifs,0⟩] scope pos) (fV nt ix gi gt ge):=.of fun ρ=>tJ (Ck hc S (B4 hnt) (hi ρ) hb.at hs) fun σ H Q q=>Gk hnt q
theorem lT (i:Nat) {spos py:Pos} (nt:Nat) (hnt:nt=1\/nt=2) (hN:c.X.N.Nodup) (hc:c.X.calm=true) (S:mW c.X scope N' nt ix) (hi:JI c tg iter gi) (hb:ue c N' scope nt tg ifs elt gt ge)
  (hiN:c.X.N[i]?=some x:=by rfl) (hy:c.X.env.scope.names.lookup x=some .local:=by rfl)
  (hsw:hW (.ListComp elt [⟨tg,iter,ifs,0⟩] scope pos) (some (.Name x py)) spos.line c.X.env=pure true:=by rfl)
  (hs:∀ x,e7 iter c.X.env x=pure x:=by intro _;rfl):JS c (.Assign [.Name x py] (.ListComp elt [⟨tg,iter,ifs,0⟩] scope pos) spos) (hG i (fV nt ix gi gt ge)):=.of fun ρ=>yS (EL hN hiN hy hc S (B4 hnt) (hi ρ) hb.at hsw hs) fun D σ H h_6=>by
 obtain ⟨H0,Hs0,la,Hs,f,q⟩:=h_6
 refine Gk (Q:=fun x H1=>D.nx (σ.set i (some x)) H1) hnt (sN f q fun d a o H1 Hs1 e1 f1 n1 r1=>?_)
 unfold hG at q
 rw [e1,bind_ok] at q
 exact q _ _ Hs1 (f1.setO i n1 r1)
end
end
section
theorem Le   (h:PS X.nox st t):PS X st t:=fun pins s σ H D I hw =>
 bH (h pins s σ H D (I.wish _) hw) (fun _ _ q=>q.unwish) fun _ _ z=>iD z
def C.nox (c:C):C:=⟨c.X.nox,c.cls,E0⟩
def l5 (k:D->az->R az) (b:az->R Fl):List D->az->R Fl
 | [],ρ=>.ok (.nx ρ)
 | d::r,ρ=>match k d ρ with
  | .ok ρ1=>match b ρ1 with
   | .ok (.nx ρ')=>l5 k b r ρ'
   | .ok (.ct ρ')=>l5 k b r ρ'
   | .ok (.bk ρ')=>.ok (.nx ρ')
   | .ok (.rt d)=>.ok (.rt d)
   | _=>.no
  | _=>.no
def B5 (i:Nat) (ρ:az):az:=match ρ[i]? with
 | some (Sl.own d)=>ρ.set i (.lck d)
 | _=>ρ
def xt (i:Nat) (ρ0 ρ:az):az:=match ρ0[i]?,ρ[i]? with
 | some (Sl.own _),some (Sl.lck d)=>ρ.set i (.own d)
 | _,_=>ρ
def Wu (i:Nat) (ρ0:az):R Fl->R Fl
 | .ok (.nx ρ)=>.ok (.nx (xt i ρ0 ρ))
 | .ok (.bk ρ)=>.no
 | .ok (.ct ρ)=>.no
 | r=>r
section
variable {K:a8}{cls:Str->ai}{E:XK}
inductive Wv (K:a8) (cls:Str->ai) (E:XK) (H0 Hs0:Hp) (la:Nat->Option ai) (D':Av) (kt:D->az->R az) (gb:az->R Fl) (ds:List D) (i m:Nat) (σ:St) (H:Hp):Prop
 | mk (done bS ρ Hs:_) (h0:ds=done++bS) (h1:done.length=i) (h2:bS.length=m) (h3:Fr K H0 Hs0 la ρ σ H Hs) (h4:nB K cls E H0 Hs0 la D' (l5 kt gb bS ρ)):Wv K cls E H0 Hs0 la D' kt gb ds i m σ H
theorem Lf
  (it:Nw K J ds Hn Hs0) (hn:dk Hn H0) (f:Fr K H0 Hs0 la ρ σ H Hs)
  (htg:∀ ρ d v σ H Q,RF K ρ d (kt d ρ) v σ H Q->tg v σ H Q) (htb:∀ ρ D σ H,SR K cls E0 ρ (gb ρ) D σ H->tb D σ H)
  (q:nB K cls E H0 Hs0 la D' (l5 kt gb ds ρ)) :
  Vl tg tb D' σ J H:=by
 refine ⟨Wv K cls E H0 Hs0 la D' kt gb ds,⟨ds.length,[],ds,ρ,Hs,rfl,rfl,rfl,f,q⟩,?_⟩
 rintro i m σ H ⟨done,bS,ρ,Hs,hds,hdl,hrl,f,q⟩
 obtain ⟨igo,istop,iyld⟩:=it H Hs (hn.trans f.st.all) f.st.sh f.st.sub
 cases bS with
 | nil =>
  rw [cf] at hds
  subst hds
  exact .inl ⟨istop i (by omega),q σ H Hs f⟩
 | cons d bS =>
  have hil:i<ds.length:=by rw [hds,aR,bw];omega
  refine .inr ⟨igo i hil,fun σ' H'=>∃ ρ' Hs',Fr K H0 Hs0 la ρ' σ' H' Hs'/\nB K cls E H0 Hs0 la D' (l5 kt gb bS ρ'),fun σ' H' ⟨ρ',Hs',f',q'⟩=>⟨bS.length,by rw [<- hrl];simp,done++[d],bS,ρ',Hs',by rw [hds];simp,by simp [hdl],rfl,f',q'⟩,fun x H2 hyl=>?_⟩
  obtain ⟨d',Hs2,hd,s2,r2⟩:=iyld i x H2 hil hyl
  have hdd:d'=d:=by
   rw [hds,bq (by omega)] at hd
   simp [hdl] at hd
   exact hd.symm
  subst hdd
  unfold l5 at q
  refine htg ρ d' x σ H2 _ ⟨H0,Hs0,la,Hs2,f.step s2,r2,?_⟩
  cases hk:kt d' ρ with
  | ex c n=>rw [hk] at q;exact q
  | no=>rw [hk] at q;exact q
  | ok ρ1 =>
   rw [hk] at q
   intro σ2 f2
   refine htb ρ1 _ σ2 H2 ⟨H0,Hs0,la,Hs2,f2,?_⟩
   cases hg:gb ρ1 with
   | no=>simp only [hg] at q;exact q.elim
   | ex c n=>simp only [hg] at q;exact q.elim
   | ok fl =>
    simp only [hg] at q
    cases fl with
    | nx ρ'=>exact fun σ' H' Hs' f'=>⟨ρ',Hs',f',q⟩
    | ct ρ'=>exact fun σ' H' Hs' f'=>⟨ρ',Hs',f',q⟩
    | bk ρ'=>exact fun σ' H' Hs' f'=>q σ' H' Hs' f'
    | rt d=>exact q
def rn (A B:Hp):Hp:=fun b=>match A b with
 | some o=>some o
 | none=>B b
theorem jC:dk A (rn A B):=fun b o e=>by unfold rn;rw [e]
theorem jj  (h:A b=none):rn A B b=B b:=by unfold rn;rw [h]
theorem CN (h1:dk A H) (h2:dk B H):dk (rn A B) H:=fun b o e=>by
 cases h:A b with
 | some u=>unfold rn at e;rw [h] at e;cases e;exact h1 b o h
 | none=>rw [jj h] at e;exact h2 b o e
theorem Lg (h1:dk A H) (h2:dk B H):dk B (rn A B):=fun b o e=>by
 cases h:A b with
 | some u =>
  unfold rn
  rw [h]
  have:=h1 b u h
  rw [h2 b o e] at this
  exact this.symm
 | none=>rw [jj h];exact e
theorem Fr.into    (f:Fr K H0 Hs0 la ρ σ H Hs):Fr K (rn H0 Hs) Hs la ρ σ H Hs:=by
 have sub:=CN f.st.all f.st.sub
 refine ⟨⟨sub,.refl _,f.st.sub,fun a o e _ z=>z⟩,f.len,f.sh,fun i d h=>?_,fun i d h=>?_,f.dj,fun i a e=>let ⟨o,k⟩:=f.lh i a e;⟨o,jC _ _ k⟩,fun i d h=>?_,f.u2⟩
 ·obtain ⟨a,o,h1,h2,h3,h4,h5⟩:=f.ow i d h
  exact ⟨a,o,h1,h2,h3,by rw [jj h4];exact h3,h5⟩
 ·obtain ⟨a,o,h1,h2,h3,h4,h5,h6⟩:=f.lk i d h
  exact ⟨a,o,h1,h2,h3,h4,jC _ _ h5,h6⟩
 ·obtain ⟨a,as,O⟩:=f.o2 i d h
  exact ⟨a,as,O.at_,O.ob,O.nd,fun b hb=>⟨(O.out b hb).1,by rw [jj (O.out b hb).2];exact (O.out b hb).1⟩,O.dj,O.inn⟩
theorem cD.outof (s:cD H0 Hs0 H1 Hs1) (t:cD (rn H0 Hs1) Hs1 H' Hs'):cD H0 Hs0 H' Hs' :=
 ⟨jC.trans t.all,s.sh.trans t.sh,t.sub,fun a o e n z=>t.out a o (jC _ _ e) n (s.out a o e n z)⟩
theorem Fr.outof    (f1:Fr K H0 Hs0 la ρ1 σ1 H1 Hs1) (f:Fr K (rn H0 Hs1) Hs1 la ρ σ H' Hs'):Fr K H0 Hs0 la ρ σ H' Hs':=by
 refine ⟨f1.st.outof f.st,f.len,f.sh,fun i d h=>?_,fun i d h=>?_,f.dj,f1.lh,fun i d h=>?_,f.u2⟩
 ·obtain ⟨a,o,h1,h2,h3,h4,h5⟩:=f.ow i d h
  exact ⟨a,o,h1,h2,h3,jC.free h4,h5⟩
 ·obtain ⟨a,o,h1,h2,h3,h4,h5,h6⟩:=f.lk i d h
  obtain ⟨o',e⟩:=f1.lh i a h2
  have e':=jC (B:=Hs1) _ _ e
  rw [h5] at e'
  cases e'
  exact ⟨a,o,h1,h2,h3,h4,e,h6⟩
 ·obtain ⟨a,as,O⟩:=f.o2 i d h
  exact ⟨a,as,O.at_,O.ob,O.nd,fun b hb=>⟨(O.out b hb).1,jC.free (O.out b hb).2⟩,O.dj,O.inn⟩
end
end
section
section
variable {K:a8}{cls:Str->ai}{E:XK}
theorem nB.into      (f1:Fr K H0 Hs0 la ρ1 σ1 H1 Hs1) (q:nB K cls E H0 Hs0 la D' r):nB K cls E (rn H0 Hs1) Hs1 la D' r:=by
 cases r with
 | no=>exact q
 | ex c n=>exact fun H' Hs' s=>q H' Hs' (f1.st.outof s)
 | ok fl =>
  cases fl with
  | nx ρ=>exact fun σ' H' Hs' f=>q σ' H' Hs' (f1.outof f)
  | bk ρ=>exact fun σ' H' Hs' f=>q σ' H' Hs' (f1.outof f)
  | ct ρ=>exact fun σ' H' Hs' f=>q σ' H' Hs' (f1.outof f)
  | rt d=>exact fun v H' Hs' s r=>q v H' Hs' (f1.st.outof s) r
theorem Fr.lock    (f:Fr K H0 Hs0 la ρ σ H Hs)    (hi:ρ[i]?=some (Sl.own d)) (k1:σ[i]?=some (some (V.ref a))) (k2:H a=some o) (k3:Hs a=none) (k4:H0 a=none) (k5:mn K Hs o d) :
  Fr K (rn H0 (upd Hs a o)) Hs (fun j=>if j=i then some a else la j) (ρ.set i (.lck d)) σ H Hs:=by
 have hil:i<ρ.length:=(List.getElem?_eq_some_iff.mp hi).1
 have sub:dk (upd Hs a o) H:=fun b u q=>by
  by_cases hb:b=a
  ·subst hb;rw [b9] at q;cases q;exact k2
  ·rw [bf hb] at q;exact f.st.sub b u q
 have nx:∀ {j:Nat}{s:Sl},(∀ d,s≠.lck d)->(ρ.set i (.lck d))[j]?=some s->ρ[j]?=some s/\i≠j:=fun {j s} hs e=>by
  by_cases hj:i=j
  ·subst hj
   rw [aC hil] at e;exact absurd (bI e).symm (hs d)
  ·rw [aj hj] at e;exact ⟨e,hj⟩
 refine ⟨⟨CN f.st.all sub,.refl _,f.st.sub,fun a o e _ z=>z⟩,by simp [f.len],fun j e h=>?_,fun j e h=>?_,fun j e h=>?_,fun j k d1 d2 b h1 h2 h3 h4=>?_,fun j b h=>?_,fun j e h=>?_,fun j k d1 d2 h1 h2=>?_⟩
 ·obtain ⟨h,_⟩:=nx (fun _ z=>by cases z) h
  exact f.sh j e h
 ·obtain ⟨h,hj⟩:=nx (fun _ z=>by cases z) h
  obtain ⟨b,u,q1,q2,q3,q4,q5⟩:=f.ow j e h
  refine ⟨b,u,q1,q2,q3,?_,q5⟩
  rw [jj q4,bf (fun z=>hj ?_)]
  ·exact q3
  ·subst z
   exact f.dj i j d e b hi h k1 q1
 ·by_cases hj:i=j
  ·subst hj
   rw [aC hil] at h
   cases h
   exact ⟨a,o,k1,if_pos rfl,k2,k3,by rw [jj k4,b9],k5⟩
  ·rw [aj hj] at h
   obtain ⟨b,u,q1,q2,q3,q4,q5,q6⟩:=f.lk j e h
   exact ⟨b,u,q1,by rw [if_neg (cQ hj)];exact q2,q3,q4,jC _ _ q5,q6⟩
 ·obtain ⟨h1,_⟩:=nx (fun _ z=>by cases z) h1
  obtain ⟨h2,_⟩:=nx (fun _ z=>by cases z) h2
  exact f.dj j k d1 d2 b h1 h2 h3 h4
 ·by_cases hj:j=i
  ·simp only [if_pos hj] at h
   cases h
   exact ⟨o,by rw [jj k4,b9]⟩
  ·simp only [if_neg hj] at h
   obtain ⟨u,e⟩:=f.lh j b h
   exact ⟨u,jC _ _ e⟩
 ·obtain ⟨h,hj⟩:=nx (fun _ z=>by cases z) h
  obtain ⟨b,as,O⟩:=f.o2 j e h
  refine ⟨b,as,O.at_,O.ob,O.nd,fun c hc=>⟨(O.out c hc).1,?_⟩,fun c hc k e' hk=>O.dj c hc k e' (nx (fun _ z=>by cases z) hk).1,O.inn⟩
  rw [jj (O.out c hc).2,bf (fun z=>?_)]
  ·exact (O.out c hc).1
  ·subst z
   exact O.dj c hc i d hi k1
 ·exact f.u2 j k d1 d2 (nx (fun _ z=>by cases z) h1).1 (nx (fun _ z=>by cases z) h2).1
theorem cD.unlock   (s:cD H0 Hs0 H Hs) (t:cD (rn H0 (upd Hs a o)) Hs H' Hs'):cD H0 Hs0 H' Hs' :=
 ⟨jC.trans t.all,s.sh.trans t.sh,t.sub,fun b u e n z=>t.out b u (jC _ _ e) n (s.out b u e n z)⟩
theorem Fr.unlock    (f:Fr K H0 Hs0 la ρ σ H Hs)    (hi:ρ[i]?=some (Sl.own d)) (k4:H0 a=none)
  (f':Fr K (rn H0 (upd Hs a o)) Hs (fun j=>if j=i then some a else la j) ρ' σ' H' Hs'):Fr K H0 Hs0 la (xt i ρ ρ') σ' H' Hs':=by
 have st:=f.st.unlock f'.st
 have own:∀ (j:Nat) (e:D),ρ'[j]?=some (Sl.own e)->∃ b u,σ'[j]?=some (some (V.ref b))/\H' b=some u/\Hs' b=none/\H0 b=none/\mn K Hs' u e/\(rn H0 (upd Hs a o)) b=none:=fun j e h=>by
  obtain ⟨b,u,q1,q2,q3,q4,q5⟩:=f'.ow j e h
  exact ⟨b,u,q1,q2,q3,jC.free q4,q5,q4⟩
 have lck:∀ (j:Nat) (e:D),j≠i->ρ'[j]?=some (Sl.lck e)->∃ b u,σ'[j]?=some (some (V.ref b))/\la j=some b/\H' b=some u/\Hs' b=none/\H0 b=some u/\mn K Hs' u e:=fun j e hj h=>by
  obtain ⟨b,u,q1,q2,q3,q4,q5,q6⟩:=f'.lk j e h
  simp only [if_neg hj] at q2
  obtain ⟨u',e'⟩:=f.lh j b q2
  have:=jC (B:=upd Hs a o) _ _ e'
  rw [q5] at this
  cases this
  exact ⟨b,u,q1,q2,q3,q4,e',q6⟩
 have two:∀ (j:Nat) (e:List (List D)),ρ'[j]?=some (Sl.ow2 e)->∃ b as,O2 K H0 H' Hs' ρ' σ' j e b as:=fun j e h=>by
  obtain ⟨b,as,O⟩:=f'.o2 j e h
  exact ⟨b,as,O.at_,O.ob,O.nd,fun c hc=>⟨(O.out c hc).1,jC.free (O.out c hc).2⟩,O.dj,O.inn⟩
 unfold xt
 cases hl:ρ'[i]? with
 | none =>
  simp only [hi]
  refine ⟨st,f'.len,f'.sh,fun j e h=>let ⟨b,u,q1,q2,q3,q4,q5,_⟩:=own j e h;⟨b,u,q1,q2,q3,q4,q5⟩,fun j e h=>lck j e (fun z=>by rw [z,hl] at h;cases h) h,f'.dj,f.lh,two,f'.u2⟩
 | some s =>
  cases s with
  | no=>simp only [hi];exact ⟨st,f'.len,f'.sh,fun j e h=>let ⟨b,u,q1,q2,q3,q4,q5,_⟩:=own j e h;⟨b,u,q1,q2,q3,q4,q5⟩,fun j e h=>lck j e (fun z=>by rw [z,hl] at h;cases h) h,f'.dj,f.lh,two,f'.u2⟩
  | shr _=>simp only [hi];exact ⟨st,f'.len,f'.sh,fun j e h=>let ⟨b,u,q1,q2,q3,q4,q5,_⟩:=own j e h;⟨b,u,q1,q2,q3,q4,q5⟩,fun j e h=>lck j e (fun z=>by rw [z,hl] at h;cases h) h,f'.dj,f.lh,two,f'.u2⟩
  | own _=>simp only [hi];exact ⟨st,f'.len,f'.sh,fun j e h=>let ⟨b,u,q1,q2,q3,q4,q5,_⟩:=own j e h;⟨b,u,q1,q2,q3,q4,q5⟩,fun j e h=>lck j e (fun z=>by rw [z,hl] at h;cases h) h,f'.dj,f.lh,two,f'.u2⟩
  | ow2 _=>simp only [hi];exact ⟨st,f'.len,f'.sh,fun j e h=>let ⟨b,u,q1,q2,q3,q4,q5,_⟩:=own j e h;⟨b,u,q1,q2,q3,q4,q5⟩,fun j e h=>lck j e (fun z=>by rw [z,hl] at h;cases h) h,f'.dj,f.lh,two,f'.u2⟩
  | lck d' =>
   simp only [hi]
   have hil:i<ρ'.length:=(List.getElem?_eq_some_iff.mp hl).1
   have nx:∀ {j:Nat}{s:Sl},(∀ d,s≠.own d)->(ρ'.set i (.own d'))[j]?=some s->ρ'[j]?=some s/\i≠j:=fun {j s} hs e=>by
    by_cases hj:i=j
    ·subst hj
     rw [aC hil] at e;exact absurd (bI e).symm (hs d')
    ·rw [aj hj] at e;exact ⟨e,hj⟩
   obtain ⟨b,u,q1,q2,q3,q4,q5,q6⟩:=f'.lk i d' hl
   simp only [if_pos rfl] at q2
   cases q2
   have ne:∀ (j:Nat) (e:D),ρ'[j]?=some (Sl.own e)->σ'[j]?≠some (some (V.ref a)):=fun j e h z=>by
    obtain ⟨b,u,p1,_,_,_,_,p6⟩:=own j e h
    rw [z] at p1
    cases p1
    rw [q5] at p6;cases p6
   refine ⟨st,by simp [f'.len],fun j e h=>?_,fun j e h=>?_,fun j e h=>?_,fun j k d1 d2 c h1 h2 h3 h4=>?_,f.lh,fun j e h=>?_,fun j k d1 d2 h1 h2=>?_⟩
   ·obtain ⟨h,_⟩:=nx (fun _ z=>by cases z) h
    exact f'.sh j e h
   ·by_cases hj:i=j
    ·subst hj
     rw [aC hil] at h
     cases h
     exact ⟨a,u,q1,q3,q4,k4,q6⟩
    ·rw [aj hj] at h
     obtain ⟨b,u,p1,p2,p3,p4,p5,_⟩:=own j e h
     exact ⟨b,u,p1,p2,p3,p4,p5⟩
   ·obtain ⟨h,hj⟩:=nx (fun _ z=>by cases z) h
    exact lck j e (cQ hj) h
   ·by_cases hj:i=j
    ·by_cases hk:i=k
     ·exact hj.symm.trans hk
     ·rw [aj hk] at h2
      subst hj
      rw [q1] at h3
      cases h3
      exact (ne k d2 h2 h4).elim
    ·rw [aj hj] at h1
     by_cases hk:i=k
     ·subst hk
      rw [q1] at h4
      cases h4
      exact (ne j d1 h1 h3).elim
     ·rw [aj hk] at h2
      exact f'.dj j k d1 d2 c h1 h2 h3 h4
   ·obtain ⟨h,hj⟩:=nx (fun _ z=>by cases z) h
    obtain ⟨b,as,O⟩:=two j e h
    refine ⟨b,as,O.at_,O.ob,O.nd,O.out,fun c hc k e' hk=>?_,O.inn⟩
    by_cases nk:i=k
    ·subst nk
     intro z
     rw [q1] at z
     cases z
     obtain ⟨b',as',O'⟩:=f'.o2 j e h
     have hh:=O.at_
     rw [O'.at_] at hh
     cases hh
     have hs:as'=as:=by
      have h1:=O.ob
      rw [O'.ob] at h1
      injection h1 with h1
      injection h1 with h1
      exact JA (fun x y z=>by cases z;rfl) |>.mp h1
     subst hs
     have:=(O'.out _ hc).2
     rw [q5] at this;cases this
    ·rw [aj nk] at hk
     exact O.dj c hc k e' hk
   ·exact f'.u2 j k d1 d2 (nx (fun _ z=>by cases z) h1).1 (nx (fun _ z=>by cases z) h2).1
end
section
variable {c:C}{e a b iter tg:aX}{g ga gb:az->R D}{pos p:Pos}{gi:az->R (List D)}{body:List dz}{x:Str}{kt:D->az->R az}{gbd:az->R Fl}
def pi (gi:az->R (List D)) (kt:D->az->R az) (gb:az->R Fl):az->R Fl:=fun ρ=>match gi ρ with
 | .ok ds=>l5 kt gb ds ρ
 | _=>.no
theorem o0 (hc:c.X.calm=true) (hi:Ld c.nox tg iter gi) (hg:JG c.nox tg kt) (hb:Gh c.nox body gbd) (hs:∀ x,e7 iter c.X.env x=pure x:=by intro _;rfl):JS c (.For tg iter body [] pos) (pi gi kt gbd):=.of fun ρ=>by
 refine Le (yS (Kg uR hc (hi ρ) (g:=fun v σ H Q=>∃ ρ d,RF c.X.K ρ d (kt d ρ) v σ H Q) (tb:=fun D σ H=>∃ ρ,SR c.X.K c.cls E0 ρ (gbd ρ) D σ H) ?_ ?_ hs) fun D σ H ⟨H0,Hs0,la,Hs,f,q⟩=>?_)
 ·exact fun pins s σ H v u Q I r h_0=>by obtain ⟨ρ,d,q⟩:=h_0;exact hg ρ d pins s σ H v u Q I r q
 ·exact fun pins s σ H D I h_1=>by obtain ⟨ρ,q⟩:=h_1;exact hb ρ pins s σ H D I q
 ·refine ⟨H0,Hs0,la,Hs,f,?_⟩
  unfold pi at q
  cases hr:gi ρ with
  | no=>rw [hr] at q;exact q
  | ex x n=>rw [hr] at q;exact q.elim
  | ok ds =>
   rw [hr] at q
   intro J H1 Hs1 s1 it
   have f1:=f.step s1
   exact Lf (E:=c.E) (cls:=c.cls) (kt:=kt) (gb:=gbd) (tg:=fun v σ H Q=>∃ ρ d,RF c.X.K ρ d (kt d ρ) v σ H Q) (tb:=fun D σ H=>∃ ρ,SR c.X.K c.cls E0 ρ (gbd ρ) D σ H) it (Lg f1.st.all f1.st.sub) f1.into (fun ρ d v σ H Q h=>⟨ρ,d,h⟩) (fun ρ D σ H h=>⟨ρ,h⟩) (nB.into f1 q)
def uf (i:Nat) (kt:D->az->R az) (gb:az->R Fl):az->R Fl:=fun ρ=>match ρ[i]? with
 | some (Sl.own (.list ds))=>Wu i ρ (l5 kt gb ds (B5 i ρ))
 | _=>pi (ll fun ρ=>Ed ρ i) kt gb ρ
theorem xu {kt:D->az->R az}{gb:az->R Fl}:∀ (ds:List D) (ρ:az) (fl:Fl),l5 kt gb ds ρ=.ok fl->(∃ ρ',fl=.nx ρ')\/∃ d,fl=.rt d
 | [],ρ,fl,h=>by cases h;exact .inl ⟨_,rfl⟩
 | d::r,ρ,fl,h=>by
  unfold l5 at h
  split at h
  ·split at h
   ·exact xu r _ _ h
   ·exact xu r _ _ h
   ·cases h;exact .inl ⟨_,rfl⟩
   ·cases h;exact .inr ⟨_,rfl⟩
   ·cases h
  ·cases h
theorem B6 {kt:D->az->R az}{gb:az->R Fl}:∀ (ds:List D) (ρ:az) (c:Str) (n:Option D),l5 kt gb ds ρ≠.ex c n
 | [],ρ,c,n,h=>by cases h
 | d::r,ρ,c,n,h=>by
  unfold l5 at h
  split at h
  ·split at h
   ·exact B6 r _ _ _ h
   ·exact B6 r _ _ _ h
   ·cases h
   ·cases h
   ·cases h
  ·cases h
theorem OM (i:Nat) (hc:c.X.calm=true) (hg:JG c.nox tg kt) (hb:Gh c.nox body gbd) (hN:c.X.N[i]?=some x:=by rfl) (hv:O4 c.X.env.scope x:=by first | exact iT rfl | exact ft (iT rfl) | exact ft (ft rfl)) (hd:(x == ("__debug__" : Str))=false:=by decide)
  (hcd:(x == ("__classdict__" : Str))=false:=by decide) (hs:∀ y,e7 (.Name x p) c.X.env y=pure y:=by intro _;rfl):JS c (.For tg (.Name x p) body [] pos) (uf i kt gbd):=.of fun ρ=>by
 by_cases ho:∃ ds,ρ[i]?=some (Sl.own (.list ds))
 ·obtain ⟨ds,ho⟩:=ho
  refine Le (yS (Kg (tg:=tg) uR hc (tS (X:=c.nox.X) (si hN hv hd hcd)) (g:=fun v σ H Q=>∃ ρ d,RF c.X.K ρ d (kt d ρ) v σ H Q) (tb:=fun D σ H=>∃ ρ,SR c.X.K c.cls E0 ρ (gbd ρ) D σ H) ?_ ?_ hs) fun D σ H ⟨H0,Hs0,la,Hs,f,q⟩=>?_)
  ·exact fun pins s σ H v u Q I r h_2=>by obtain ⟨ρ,d,q⟩:=h_2;exact hg ρ d pins s σ H v u Q I r q
  ·exact fun pins s σ H D I h_3=>by obtain ⟨ρ,q⟩:=h_3;exact hb ρ pins s σ H D I q
  ·obtain ⟨a,o,k1,k2,k3,k4,k5⟩:=f.ow i _ ho
   cases k5 with
   | @lst vs _ r =>
    refine ⟨_,k1,a,rfl,⟨_,.of k2⟩,?_⟩
    have hn:oW c.X.K (upd Hs a (.lst vs)) a vs:=.of b9
    unfold uf at q
    simp only [ho] at q
    have fl:=f.lock ho k1 k2 k3 k4 (.lst r)
    have sub:dk (upd Hs a (.lst vs)) H:=fun b u q=>by
     by_cases hb:b=a
     ·subst hb;rw [b9] at q;cases q;exact k2
     ·rw [bf hb] at q;exact f.st.sub b u q
    refine Lf (E:=c.E) (cls:=c.cls) (kt:=kt) (gb:=gbd) (ρ:=B5 i ρ) (Hs:=Hs) (la:=fun i'=>if i'=i then some a else la i') (tg:=fun v σ H Q=>∃ ρ d,RF c.X.K ρ d (kt d ρ) v σ H Q) (tb:=fun D σ H=>∃ ρ,SR c.X.K c.cls E0 ρ (gbd ρ) D σ H) (B0 hn r) (Lg f.st.all sub) ?_ (fun ρ d v σ H Q h=>⟨ρ,d,h⟩) (fun ρ D σ H h=>⟨ρ,h⟩) ?_
    ·unfold B5
     rw [ho]
     exact fl
    ·cases hr:l5 kt gbd ds (B5 i ρ) with
     | no=>rw [hr] at q;exact q
     | ex c n=>exact (B6 _ _ _ _ hr).elim
     | ok fl =>
      rw [hr] at q
      rcases xu _ _ _ hr with ⟨ρ',rfl⟩ | ⟨d,rfl⟩
      ·exact fun σ' H' Hs' f'=>q σ' H' Hs' (f.unlock ho k4 f')
      ·exact fun v H' Hs' s r=>q v H' Hs' (f.st.unlock s) r
 ·have e:uf i kt gbd ρ=pi (ll fun ρ=>Ed ρ i) kt gbd ρ:=by
   unfold uf
   split
   ·rename_i ds h;exact (ho ⟨ds,h⟩).elim
   ·rfl
  rw [e]
  exact o0 hc (wH (c:=c.nox) (ap (c:=c.nox) i hN hv hd hcd)) hg hb hs ρ
def iS (t:az->R Bool) (b:az->R Fl):Nat->az->R Fl
 | 0,_=>.no
 | n + 1,ρ=>match t ρ with
  | .ok true=>match b ρ with
   | .ok (.nx ρ')=>iS t b n ρ'
   | .ok (.ct ρ')=>iS t b n ρ'
   | .ok (.bk ρ')=>.ok (.nx ρ')
   | .ok (.rt d)=>.ok (.rt d)
   | _=>.no
  | .ok false=>.ok (.nx ρ)
  | _=>.no
theorem CO (n:Nat)  (ht:JT c.nox t gt) (hb:Gh c.nox body gbd):JS c (.While t body [] pos) (iS gt gbd n):=.of fun ρ=>by
 refine Le (yS (Kc uR (tc:=fun σ H Q=>∃ ρ,Iv c.X.K c.cls E0 ρ (gt ρ) σ H Q) (tb:=fun D σ H=>∃ ρ,SR c.X.K c.cls E0 ρ (gbd ρ) D σ H) ?_ ?_) fun D σ H ⟨H0,Hs0,la,Hs,f,q⟩=>?_)
 ·exact fun pins s σ H Q I h_4=>by obtain ⟨ρ,q⟩:=h_4;exact ht ρ pins s σ H Q I q
 ·exact fun pins s σ H D I h_5=>by obtain ⟨ρ,q⟩:=h_5;exact hb ρ pins s σ H D I q
 ·refine ⟨fun m σ H=>∃ ρ Hs,Fr c.X.K H0 Hs0 la ρ σ H Hs/\nB c.X.K c.cls c.E H0 Hs0 la D (iS gt gbd m ρ),⟨n,ρ,Hs,f,q⟩,?_⟩
  rintro m σ H ⟨ρ,Hs,f,q⟩
  cases m with
  | zero=>exact q.elim
  | succ m =>
   unfold iS at q
   refine ⟨ρ,H0,Hs0,la,Hs,f,?_⟩
   cases hg:gt ρ with
   | no=>rw [hg] at q;exact q
   | ex x n=>rw [hg] at q;exact q.elim
   | ok b =>
    rw [hg] at q
    intro H1 Hs1 s1
    cases b with
    | false=>exact Ca (q σ H1 Hs1 (f.step s1))
    | true =>
     refine Cb ⟨fun σ' H'=>∃ ρ' Hs',Fr c.X.K H0 Hs0 la ρ' σ' H' Hs'/\nB c.X.K c.cls c.E H0 Hs0 la D (iS gt gbd m ρ'),fun σ' H' h=>⟨m,eC _,h⟩,ρ,H0,Hs0,la,Hs1,f.step s1,?_⟩
     cases hb':gbd ρ with
     | no=>simp only [hb'] at q;exact q
     | ex x n=>simp only [hb'] at q;exact q.elim
     | ok fl =>
      simp only [hb'] at q
      cases fl with
      | nx ρ'=>exact fun σ' H' Hs' f'=>⟨ρ',Hs',f',q⟩
      | ct ρ'=>exact fun σ' H' Hs' f'=>⟨ρ',Hs',f',q⟩
      | bk ρ'=>exact fun σ' H' Hs' f'=>q σ' H' Hs' f'
      | rt d=>exact q
end
end
section
section
variable {c:C}{e k:aX}{g gk:az->R D}{pos p apos cpos:Pos}{x:Str}
def sB (i:Nat) (g:az->R D):az->R Fl:=fun ρ=>match ρ[i]? with
 | some (Sl.own (.list ds))=>(g ρ).bind fun d=>if ds.length<1000 then .ok (.nx (ρ.set i (.own (.list (ds++[d]))))) else .no
 | _=>.no
theorem nE (i:Nat) (h:JE c e g) (hN:c.X.N[i]?=some x:=by rfl) (hv:O4 c.X.env.scope x:=by first | exact iT rfl | exact ft (iT rfl) | exact ft (ft rfl)) (hd:(x == ("__debug__" : Str))=false:=by decide)
  (hcd:(x == ("__classdict__" : Str))=false:=by decide)
  (hbase:HA (.Name x p) "append" c.X.env (eh (.Name x p) c.X.env)=eh (.Name x p) c.X.env:=by rfl)
  (hfew:((j8 cpos (aK [e] c.X.env)).all (fun x=>!x.1) && (backToKw cpos (NC [] c.X.env)).all (fun x=>x.1.isSome)
   && decide ([e].length + ([] : List yx).length + (if ([] : List yx).isEmpty then 0 else 1)<30))=true:=by rfl)
  (hline:(apos.endLine == cpos.line)=true:=by rfl) (hst:aK [e] c.X.env=(false,eh e c.X.env)::aK [] c.X.env:=by rfl) (hplain:(j8 cpos (aK [] c.X.env)).any (·.1)=false:=by rfl)
  (hs:hW (.Call (.Attribute (.Name x p) "append" apos) [e] [] cpos) none pos.line c.X.env=pure false:=by rfl) :
  JS c (.Expr (.Call (.Attribute (.Name x p) "append" apos) [e] [] cpos) pos) (sB i g):=.of fun ρ=>by
 refine yS (Ax (PQ zq yE yF zz (si hN hv hd hcd) (iE (h ρ) jZ hst) hbase hfew hline hst hplain) hs) fun D σ H h_0=>?_
 obtain ⟨H0,Hs0,la,Hs,f,q⟩:=h_0
 replace q:nB c.X.K c.cls c.E H0 Hs0 la D (sB i g ρ):=q
 unfold sB at q
 split at q
 ·rename_i ds ho
  obtain ⟨a,o,k1,k2,k3,k4,k5⟩:=f.ow i _ ho
  cases k5 with
  | @lst vs _ r =>
   refine ⟨_,k1,.inl ⟨rfl,_,.of k2⟩,?_⟩
   refine sE f q fun d v H1 Hs1 e1 s1 f1 r1=>?_
   rw [e1,bind_ok] at q
   by_cases hl:ds.length<1000
   ·rw [if_pos hl] at q
    have r':=r.same s1.sh
    exact ⟨a,vs,v,rfl,rfl,s1.all _ _ k2,dH (by rw [r.length];omega),q _ _ Hs1 (f1.write i ho k1 (.lst (r'.append (.cons r1 .nil))))⟩
   ·rw [if_neg hl] at q;exact q.elim
 ·exact q.elim
def rO:D->Option fD
 | .int i=>some (.inl i)
 | .str x=>some (.inr x)
 | _=>none
theorem xv  (h:rO d=some y):d=kD y:=by
 cases d<;>cases h<;>rfl
@[simp] theorem keyOf_of (y:fD):rO (kD y)=some y:=by cases y<;>rfl
def wl (kvs:List (D×D)) (k d:D):List (D×D):=if kvs.any (fun kv=>a_ kv.1 k) then kvs.map (fun kv=>if a_ kv.1 k then (kv.1,d) else kv) else kvs++[(k,d)]
theorem B7 (a b:fD):a_ (kD a) (kD b)=decide (a=b):=by
 cases a<;>cases b<;>simp [kD,a_,qu]
theorem RDk.any   (y:fD):∀ {ds:List (D×D)},RDk K H kvs ds->(ds.any fun kv=>a_ kv.1 (kD y))=kvs.any fun kv=>decide (kv.1=y):=by
 induction kvs with
 | nil=>intro ds h;cases h;rfl
 | cons x r ih=>intro ds h;cases h with | cons h t=>rw [dJ,dJ,ih t,B7]
theorem RDk.repl  (y:fD)  (rv:RD K H v d):∀ {kvs:List (fD×V)}{ds:List (D×D)},RDk K H kvs ds ->
  RDk K H (kvs.map fun kv=>if kv.1=y then (kv.1,v) else kv) (ds.map fun kv=>if a_ kv.1 (kD y) then (kv.1,d) else kv)
 | _,_,.nil=>.nil
 | _,_,.cons (k:=k) h t=>by
  rw [aw,aw]
  have e:=B7 k y
  by_cases hk:k=y
  ·subst hk
   rw [show (if k=k then (k,v) else (k,_))=(k,v) from if_pos rfl,show (if a_ (kD k) (kD k)=true then (kD k,d) else (kD k,_))=(kD k,d) from if_pos (by rw [e];simp)]
   exact .cons rv (RDk.repl k rv t)
  ·simp only [e,hk,if_neg,decide_false,bv,not_false_eq_true]
   exact .cons h (RDk.repl y rv t)
theorem RDk.snoc  (y:fD)  (rv:RD K H v d):∀ {kvs:List (fD×V)}{ds:List (D×D)},RDk K H kvs ds->RDk K H (kvs++[(y,v)]) (ds++[(kD y,d)])
 | _,_,.nil=>.cons rv .nil
 | _,_,.cons h t=>.cons h (RDk.snoc y rv t)
theorem RDk.put    (r:RDk K H kvs ds) (y:fD)  (rv:RD K H v d):RDk K H (ml kvs y v) (wl ds (kD y) d):=by
 unfold ml wl
 rw [r.any y]
 split
 ·exact r.repl y rv
 ·exact r.snoc y rv
def hJ (kvs:List (D×D)):Bool:=kvs.all fun kv=>(rO kv.1).isSome
def B8 (i:Nat) (gk g:az->R D):az->R Fl:=fun ρ=>match ρ[i]? with
 | some (Sl.own (.dict kvs))=>(g ρ).bind fun d=>(gk ρ).bind fun k=>match rO k with
  | some _=>if kvs.length<1000/\hJ kvs=true then .ok (.nx (ρ.set i (.own (.dict (wl kvs k d))))) else .no
  | none=>.no
 | _=>.no
theorem F5    (h:RD K H v (kD y)):v=kV y:=by
 cases y<;>cases h<;>rfl
theorem RDt.flat    (h:RDt K H kvs ds) (f:hJ ds=true):kvs=[]/\ds=[]:=by
 cases h with
 | nil=>exact ⟨rfl,rfl⟩
 | cons h t=>simp [hJ,tD,rO] at f
theorem Gm (i:Nat) (h:JE c e g) (hk:JE c k gk) (hu:c.X.A.units + 1<gz) (hN:c.X.N[i]?=some x:=by rfl) (hv:O4 c.X.env.scope x:=by first | exact iT rfl | exact ft (iT rfl) | exact ft (ft rfl)) (hd:(x == ("__debug__" : Str))=false:=by decide)
  (hcd:(x == ("__classdict__" : Str))=false:=by decide) (hs:hW e (some (.Subscript (.Name x p) k apos)) pos.line c.X.env=pure false:=by rfl):JS c (.Assign [.Subscript (.Name x p) k apos] e pos) (B8 i gk g):=.of fun ρ=>by
 refine yS (G4 hu (si hN hv hd hcd) (hk ρ) (h ρ) hs) fun D σ H h_1=>?_
 obtain ⟨H0,Hs0,la,Hs,f,q⟩:=h_1
 replace q:nB c.X.K c.cls c.E H0 Hs0 la D (B8 i gk g ρ):=q
 unfold B8 at q
 split at q
 ·rename_i kvs ho
  obtain ⟨a,o,k1,k2,k3,k4,k5⟩:=f.ow i _ ho
  have main:∀ {H:Hp}{vs:List (fD×V)},Fr c.X.K H0 Hs0 la ρ σ H Hs->H a=some (.dK vs)->RDk c.X.K Hs vs kvs->PV (SD i) (TR c.X.K c.cls c.E ρ (gk ρ)) (TR c.X.K c.cls c.E ρ (g ρ)) D σ H:=fun {H vs} f k2 r=>by
   refine sE f q fun d v H1 Hs1 e1 s1 f1 r1=>?_
   rw [e1,bind_ok] at q
   refine ⟨_,k1,sE f1 q fun y w H2 Hs2 e2 s2 f2 r2=>?_⟩
   rw [e2,bind_ok] at q
   split at q
   ·rename_i ky hy
    obtain rfl:=xv hy
    by_cases hl:kvs.length<1000/\hJ kvs=true
    ·rw [if_pos hl] at q
     have ha:=s2.all _ _ (s1.all _ _ k2)
     have r':=(r.same s1.sh).same s2.sh
     rw [F5 r2]
     exact ⟨a,_,rfl,Cg.k ha (dH (by rw [r.length];omega)),q _ _ Hs2 (f2.write i ho k1 (.dK (r'.put ky (r1.same s2.sh))))⟩
    ·rw [if_neg hl] at q;exact q.elim
   ·exact q.elim
  cases k5 with
  | dK r=>exact main f k2 r
  | dT n r =>
   refine sE f q fun d v H1 Hs1 e1 s1 f1 r1=>?_
   rw [e1,bind_ok] at q
   refine ⟨_,k1,sE f1 q fun y w H2 Hs2 e2 s2 f2 r2=>?_⟩
   rw [e2,bind_ok] at q
   split at q
   ·rw [if_neg (fun z=>n (r.flat z.2).1)] at q;exact q.elim
   ·exact q.elim
  | dF n r =>
   refine sE f q fun d v H1 Hs1 e1 s1 f1 r1=>?_
   rw [e1,bind_ok] at q
   refine ⟨_,k1,sE f1 q fun y w H2 Hs2 e2 s2 f2 r2=>?_⟩
   rw [e2,bind_ok] at q
   split at q
   ·rw [if_neg (fun z=>by cases z.2)] at q;exact q.elim
   ·exact q.elim
 ·exact q.elim
def l9 (kvs:List (D×D)) (k:D):Option D:=(kvs.find? fun kv=>a_ kv.1 k).map (·.2)
theorem RDk.val  : ∀ {kvs:List (fD×V)}{ds:List (D×D)},RDk K H kvs ds->∀ (y:fD),(nz kvs y=none/\l9 ds (kD y)=none)\/∃ v d,nz kvs y=some v/\l9 ds (kD y)=some d/\RD K H v d
 | _,_,.nil,y=>.inl ⟨rfl,rfl⟩
 | _,_,.cons (k:=k) h t,y=>by
  unfold nz l9
  rw [bX,bX,B7]
  by_cases hk:k=y
  ·simp only [hk,decide_true,cH]
   exact .inr ⟨_,_,rfl,rfl,h⟩
  ·simp only [hk,decide_false]
   exact RDk.val t y
def bz:D->D->R D
 | .dict kvs,k=>match rO k with
  | some _=>if hJ kvs=true then (match l9 kvs k with
   | some d=>.ok d
   | none=>.no) else .no
  | none=>.no
 | x,k=>F1 x k
variable {a b:aX}{ga gb:az->R D}
theorem cp (hu:c.X.A.units + 1<gz) (ha:JB c a ga) (hb:JB c b gb) (hs:tV b:=by exact fun _ _=>rfl):JE c (.Subscript a b pos) (g2 ga gb bz):=.of fun ρ=>by
 by_cases hx:∃ kvs,ga ρ=.ok (.dict kvs)
 ·obtain ⟨kvs,hx⟩:=hx
  refine tJ (G3 hu (ha ρ) (hb ρ) hs) fun σ H Q h_2=>?_
  obtain ⟨H0,Hs0,la,Hs,f,q⟩:=h_2
  refine one f q fun d v H1 Hs1 e1 s1 f1 r1=>?_
  rw [hx] at e1
  cases e1
  unfold g2 at q
  rw [hx,bind_ok] at q
  refine one f1 (q.on s1 (q':=fun _=>True) fun _ _=>trivial) fun y w H2 Hs2 e2 s2 f2 r2=>?_
  rw [e2,bind_ok] at q
  unfold bz at q
  simp only at q
  split at q
  ·rename_i ky hy
   obtain rfl:=xv hy
   by_cases hf:hJ kvs=true
   ·rw [if_pos hf] at q
    obtain ⟨p,rfl,h⟩:=(r1.step s2).dict f2.st.sub
    have rk:w=kV ky:=by
     rcases r2 with r2 | ⟨_,o,rfl,_,_,ow⟩
     ·exact F5 r2
     ·cases ky<;>cases ow
    subst rk
    rcases h with ⟨vs,h1,h2⟩ | ⟨vs,h1,hn,h2⟩ | ⟨o,vs,es,rfl,h1,hn,h2⟩
    ·rcases h2.val ky with ⟨_,h3⟩ | ⟨u,d,h3,h4,h5⟩
     ·rw [h3] at q;exact q.elim
     ·rw [h4] at q
      exact ⟨p,u,rfl,by rw [<- h3];exact wc.k h1,q _ H2 Hs2 (s1.trans s2) h5⟩
    ·exact (hn (h2.flat hf).1).elim
    ·cases hf
   ·rw [if_neg hf] at q;exact q.elim
  ·exact q.elim
 ·refine tJ (Tv ha hb hs ρ) fun σ H Q q=>?_
  have e:g2 ga gb bz ρ=g2 ga gb F1 ρ:=by
   unfold g2
   cases hr:ga ρ with
   | ok d =>
    cases d with
    | dict kvs=>exact (hx ⟨kvs,hr⟩).elim
    | _=>rfl
   | _=>rfl
  rw [e] at q
  exact q
def kj:D->R D
 | .dict kvs=>if hJ kvs=true then .ok (.list (kvs.map (·.1))) else .no
 | x=>zI x
theorem CQ  : ∀ {kvs:List (fD×V)}{ds:List (D×D)},RDk K H kvs ds->RDs K H (kvs.map fun p=>kV p.1) (ds.map (·.1))
 | _,_,.nil=>.nil
 | _,_,.cons (k:=k) h t=>.cons (by cases k<;>constructor) (CQ t)
theorem xw (hc:X.calm=true):Iy X (.type "list") (iZ kj):=by
 refine pZ (fun d c n=>?_) fun pins s σ H x u Q Hs d d' I ru sub rx hd q=>?_
 ·unfold kj zI
  split<;>(try split)<;>(try split)<;>exact fun h=>by cases h
 ·by_cases hx:∃ kvs,d=.dict kvs
  ·obtain ⟨kvs,rfl⟩:=hx
   unfold kj at hd
   simp only at hd
   split at hd
   ·rename_i hf
    cases hd
    obtain ⟨a,rfl,⟨vs,h1,h2⟩ | ⟨vs,h1,n,h2⟩ | ⟨o,vs,es,rfl,h1,n,h2⟩⟩:=rx.dict sub
    ·exact xi hc pins s σ H _ _ Q I (.cons ru .nil) ⟨a,vs,rfl,h1,fun l hl=>q _ _ _ (.new sub hl) (.list (.of b9) ((CQ h2).same (cD.new sub hl).sh))⟩
    ·exact (n (h2.flat hf).1).elim
    ·cases hf
   ·cases hd
  ·have e:kj d=zI d:=by
    cases d with
    | dict kvs=>exact (hx ⟨kvs,rfl⟩).elim
    | _=>rfl
   rw [e] at hd
   exact (OH (X:=X)).1 pins s σ H [x] [u] Q I (.cons ru .nil) ⟨Hs,[d],sub,.cons rx .nil,d',hd,q⟩
end
end
section
open PyProof.Rows (envOfC)
section
variable {c:C}{e a b d:aX}{g ga gb gc:az->R D}{pos p cpos:Pos}{x:Str}
theorem Lh        (hx:∀ x y c n,h x y≠.ex c n) (hx':∀ x y c n,h' x y≠.ex c n) (q:TR K cls E ρ (pW ga gb gc h h' ρ) σ H Q) :
  EE (rD K h) (rD K h') (TB K cls E ρ (ga ρ)) (TB K cls E ρ (gb ρ)) (TB K cls E ρ (gc ρ)) σ H Q:=by
 obtain ⟨H0,Hs0,la,Hs,f,q⟩:=q
 refine one f q fun x v H1 Hs1 e1 s1 f1 r1=>?_
 unfold pW at q
 rw [e1,bind_ok] at q
 refine one f1 (q.on s1 (q':=fun _=>True) fun _ _=>trivial) fun y u H2 Hs2 e2 s2 f2 r2=>?_
 rw [e2,bind_ok] at q
 cases hr:h x y with
 | ex c n=>exact (hx x y c n hr).elim
 | no=>rw [hr] at q;exact q.elim
 | ok z =>
  rw [hr,bind_ok] at q
  refine ⟨Hs2,x,y,f2.st.sub,r1.step s2,r2,z,hr,fun w H3 Hs3 s3 r3=>?_⟩
  cases r3 with
  | bool k =>
   refine ⟨k,rfl,?_⟩
   have f3:=f2.step s3
   cases k with
   | false=>exact Ca (q _ H3 Hs3 (s1.trans (s2.trans s3)) (.bool _))
   | true =>
    refine Cb (one f3 (q.on (s1.trans (s2.trans s3)) (q':=fun _=>True) fun _ _=>trivial) fun t u' H4 Hs4 e4 s4 f4 r4=>?_)
    simp only [e4,bind_ok] at q
    cases hr':h' y t with
    | ex c n=>exact (hx' y t c n hr').elim
    | no=>rw [hr'] at q;exact q.elim
    | ok z' =>
     rw [hr'] at q
     exact ⟨Hs4,y,t,f4.st.sub,(r2.step s3).step s4,r4,z',hr',fun w H5 Hs5 s5 r5=>q w H5 Hs5 (s1.trans (s2.trans (s3.trans (s4.trans s5)))) r5⟩
  | none=>exact q.elim
  | int _=>exact q.elim
  | str _=>exact q.elim
  | list _ _=>exact q.elim
  | tuple _ _=>exact q.elim
  | dictK _ _=>exact q.elim
  | dictT _ _ _=>exact q.elim
  | dictF _ _ _=>exact q.elim
theorem CS  (ho:wg c.X (bK op) h) (ho':wg c.X (bK op') h') (ha:JB c a ga) (hb:JB c b gb) (hc:JB c d gc) (hm:Jr [op,op'] [b,d]=false:=by with_unfolding_all rfl):JE c (.Compare a [op,op'] [b,d] pos) (pW ga gb gc h h') :=
 .of fun ρ=>tJ (Ki ho.1 ho'.1 (ha ρ) (hb ρ) (hc ρ) hm) fun σ H Q q=>Lh ho.2 ho'.2 q
theorem Li  (ho:wg c.X (bK op) h) (ho':wg c.X (bK op') h') (ha:JB c a ga) (hb:JB c b gb) (hc:JB c d gc) (hm:Jr [op,op'] [b,d]=false:=by with_unfolding_all rfl):JT c (.Compare a [op,op'] [b,d] pos) (ik (pW ga gb gc h h')) :=
 .of fun ρ=>Tp (Kj ho.1 ho'.1 (ha ρ) (hb ρ) (hc ρ) hm) fun σ H Q q=>Lh ho.2 ho'.2 (Tq q)
inductive TL (K:a8) (w:aZ) (cls:Str->ai) (E:XK) (ρ:az) (r:R (List Str)) (σ:St) (H:Hp) (Q:VK):Prop
 | mk (H0 Hs0:Hp) (la:Nat->Option ai) (Hs:Hp) (f:Fr K H0 Hs0 la ρ σ H Hs) (q:Fin K cls E H Hs r fun ss=>∀ p H' Hs',cD H Hs H' Hs'->H' p=none->Q (.ref p) (upd H' p (lf w p ss))):TL K w cls E ρ r σ H Q
def V2 (K:a8) (w:aZ) (cls:Str->ai) (E:XK) (ρ:az) (r:R (List Str)):TE:=TL K w cls E ρ r
structure ON (c:C) (e:aX) (g:az->R (List Str)):Prop where of ::
 run:∀ ρ,PE c.X e (V2 c.X.K c.X.w c.cls c.E ρ (g ρ))
instance {c:C}{e:aX}{g:az->R (List Str)}:CoeFun (ON c e g) (fun _=>∀ ρ,PE c.X e (V2 c.X.K c.X.w c.cls c.E ρ (g ρ))):=⟨ON.run⟩
theorem Gn {K:a8}{w:aZ}{cls:Str->ai}{E:XK}{ρ:az}{r:R (List Str)}{β:Type}{k:List Str->R β}{σ:St}{H:Hp}{H0 Hs0 Hs:Hp}{la:Nat->Option ai}{Q:V->Hp->Prop}{q:β->Prop} (f:Fr K H0 Hs0 la ρ σ H Hs)
  (h:Fin K cls E H Hs (r.bind k) q) (m:∀ ss p H' Hs',r=.ok ss->cD H Hs H' Hs'->Fr K H0 Hs0 la ρ σ H' Hs'->H' p=none->Q (.ref p) (upd H' p (lf w p ss))):V2 K w cls E ρ r σ H Q:=by
 refine ⟨H0,Hs0,la,Hs,f,?_⟩
 cases r with
 | ok d=>exact fun p H' Hs' s n=>m d p H' Hs' rfl s (f.step s) n
 | ex c n=>exact h
 | no=>exact h
variable {gset:az->R (List Str)}
def sC:D->R (List Str)
 | .list ds=>match eK ds with
  | some ss=>if ss.length<60 then .ok (da [] ss) else .no
  | none=>.no
 | .tuple ds=>match eK ds with
  | some ss=>if ss.length<60 then .ok (da [] ss) else .no
  | none=>.no
 | _=>.no
def o6 (g:az->R D):az->R (List Str):=fun ρ=>(g ρ).bind sC
theorem B9 (hc:c.X.calm=true) (h:JB c e g) (hg2:Gl c.X "set") (hm2:c.X.mg "set"=none) (he:aK [e] c.X.env=(false,eh e c.X.env)::aK [] c.X.env:=by rfl) :
  ON c (.Call (.Name "set" p) [e] [] cpos) (o6 g):=.of fun ρ=>by
 refine tJ (zy (Cv hc) hg2 hm2 PyProof.Rows.boot_set (iE (h ρ) jZ he) (he:=he)) fun σ H Q h_1=>?_
 obtain ⟨H0,Hs0,la,Hs,f,q⟩:=h_1
 refine one f q fun d v H1 Hs1 e1 s1 f1 r1=>?_
 unfold o6 at q
 rw [e1,bind_ok] at q
 unfold sC at q
 split at q
 ·split at q
  ·rename_i ss hs
   by_cases hz:ss.length<60
   ·rw [if_pos hz] at q
    obtain ⟨a,vs,rfl,qa,ra⟩:=r1.list f1.st.sub
    rw [mC hs] at ra
    rw [li ra] at qa
    exact ⟨a,ss,rfl,.inl qa,aA (HH hz 1) (by decide),fun p hp=>q p H1 Hs1 s1 hp⟩
   ·rw [if_neg hz] at q;exact q.elim
  ·exact q.elim
 ·split at q
  ·rename_i ss hs
   by_cases hz:ss.length<60
   ·rw [if_pos hz] at q
    obtain ⟨a,vs,rfl,qa,ra,_⟩:=r1.tuple f1.st.sub
    rw [mC hs] at ra
    rw [li ra] at qa
    exact ⟨a,ss,rfl,.inr qa,aA (HH hz 1) (by decide),fun p hp=>q p H1 Hs1 s1 hp⟩
   ·rw [if_neg hz] at q;exact q.elim
  ·exact q.elim
 ·exact q.elim
def kH (g:az->R (List Str)):az->R D:=fun ρ=>(g ρ).bind fun ss=>if ss.length<64 then .ok (.list ((jA ss).map .str)) else .no
theorem sD (hc:c.X.calm=true) (h:ON c e gset) (hg:Gl c.X "sorted") (hm:c.X.mg "sorted"=none) (he:aK [e] c.X.env=(false,eh e c.X.env)::aK [] c.X.env:=by rfl) :
  JE c (.Call (.Name "sorted" p) [e] [] cpos) (kH gset):=.of fun ρ=>by
 refine tJ (tT (we hc) hg hm lD (iE (h ρ) jZ he) (he:=he)) fun σ H Q h_2=>?_
 obtain ⟨H0,Hs0,la,Hs,f,q⟩:=h_2
 dsimp only [L2.T1,L2.Kl,L2.Ri]
 refine Gn (w:=c.X.w) f q fun ss p H1 Hs1 e1 s1 f1 n1=>?_
 unfold kH at q
 rw [e1,bind_ok] at q
 by_cases hz:ss.length<64
 ·rw [if_pos hz] at q
  have st1:cD H1 Hs1 (upd H1 p (lf c.X.w p ss)) Hs1:=.mine f1.st.sub n1
  exact ⟨p,ss,rfl,b9,hz,fun l hl=>q _ _ _ (s1.trans (st1.trans (.new st1.sub hl))) (.list (.of b9) (ub _))⟩
 ·rw [if_neg hz] at q;exact q.elim
def ug (g:az->R (List Str)):az->R D:=fun ρ=>(g ρ).bind fun ss=>.ok (.int ss.length)
theorem IE (h:ON c e gset) (hg:Gl c.X "len") (hm:c.X.mg "len"=none) (he:aK [e] c.X.env=(false,eh e c.X.env)::aK [] c.X.env:=by rfl) :
  JE c (.Call (.Name "len" p) [e] [] cpos) (ug gset):=.of fun ρ=>by
 refine tJ (tT yQ hg hm cJ (iE (h ρ) jZ he) (he:=he)) fun σ H Q h_3=>?_
 obtain ⟨H0,Hs0,la,Hs,f,q⟩:=h_3
 dsimp only [L2.T1,L2.Kl,L2.Ri]
 refine Gn (w:=c.X.w) f q fun ss p H1 Hs1 e1 s1 f1 n1=>?_
 unfold ug at q
 rw [e1,bind_ok] at q
 have st1:cD H1 Hs1 (upd H1 p (lf c.X.w p ss)) Hs1:=.mine f1.st.sub n1
 exact ⟨p,ss,rfl,b9,q _ _ _ (s1.trans st1) (.int _)⟩
variable {elt iter tg:aX}{ifs:List aX}{scope:fZ}{N':List Str}{nt:Nat}{ix:List Nat}{gi:az->R (List D)}{gt:az->R Bool}{ge:az->R D}
def vb (nt:Nat) (ix:List Nat) (gi:az->R (List D)) (gt:az->R Bool) (ge:az->R D):az->R (List Str):=fun ρ=>(gi ρ).bind fun ds=>if ds.length<=60 then (gM (iQ nt (nD nt ix ρ) gt ge) ds).bind fun ys=>match eK ys with
 | some ss=>.ok (da [] ss)
 | none=>.no else .no
theorem yW  : ∀ {ss:List Str},eK (xs++ys)=some ss->∃ s1 s2,eK xs=some s1/\eK ys=some s2/\ss=s1++s2:=by
 induction xs with
 | nil=>intro ss h;exact ⟨[],ss,rfl,h,rfl⟩
 | cons d r ih =>
  intro ss h
  cases d with
  | str b =>
   have h:(eK (r++ys)).map (b::·)=some ss:=h
   cases hr:eK (r++ys) with
   | none=>rw [hr] at h;cases h
   | some z =>
    rw [hr] at h
    cases h
    obtain ⟨s1,s2,h1,h2,rfl⟩:=ih hr
    exact ⟨b::s1,s2,by show (eK r).map (b::·)=_;rw [h1];rfl,h2,rfl⟩
  | _=>cases h
theorem xx (z:Str):∀ (l acc:List Str),da acc (l++[z])=if z∈da acc l then da acc l else da acc l++[z]
 | [],acc=>rfl
 | x::l,acc=>by
  show da _ (l++[z])=_
  rw [xx z l]
  rfl
inductive Ww (f:D->R (Option D)) (ds:List D) (ss:List Str) (H1 Hs1:Hp) (i m:Nat) (acc:List Str) (H':Hp):Prop
 | mk (done bS zs sa sz Hs':_) (h0:ds=done++bS) (h1:done.length=i) (h2:bS.length=m) (h3:cD H1 Hs1 H' Hs') (h4:acc=da [] sa) (h5:sa.length<=i) (h6:gM f bS=.ok zs) (h7:eK zs=some sz) (h8:ss=sa++sz):Ww f ds ss H1 Hs1 i m acc H'
theorem OO        (hnt:nt=1\/nt=2)
  (q:V2 K w cls E ρ (vb nt ix gi gt ge ρ) σ H Q) :
  KW w nt ix (U_ K cls E ρ (gi ρ)) (ID K nt) (fun σ H Q=>∃ ρ',Iv K cls E0 ρ' (gt ρ') σ H Q) (fun σ H Q=>∃ ρ',TR K cls E0 ρ' (ge ρ') σ H Q) σ H Q:=by
 obtain ⟨H0,Hs0,la,Hs,f,q⟩:=q
 refine ⟨H0,Hs0,la,Hs,f,?_⟩
 unfold vb at q
 cases hi:gi ρ with
 | no=>rw [hi] at q;exact q
 | ex x n=>rw [hi] at q;exact q
 | ok ds =>
  rw [hi,bind_ok] at q
  intro J H1 Hs1 Hn s1 sn it
  by_cases hl:ds.length<=60
  ·rw [if_pos hl] at q
   cases hm:gM (iQ nt (nD nt ix ρ) gt ge) ds with
   | no=>rw [hm] at q;exact q.elim
   | ex x n=>exact (xr (CM _ _ _ _) _ _ _ hm).elim
   | ok ys =>
    rw [hm,bind_ok] at q
    cases hs:eK ys with
    | none=>rw [hs] at q;exact q.elim
    | some ss =>
     rw [hs] at q
     obtain ⟨lb,fb⟩:=(f.step s1).block nt ix
     refine ⟨Ww (iQ nt (nD nt ix ρ) gt ge) ds ss H1 Hs1,
      ⟨ds.length,[],ds,ys,[],ss,Hs1,rfl,rfl,rfl,.refl s1.sub,rfl,cA _,hm,hs,rfl⟩,?_⟩
     rintro i m acc H' ⟨done,bS,zs,sa,sz,Hs',hds,hdl,hrl,st,rfl,yl,hz,hzs,hy⟩
     obtain ⟨igo,istop,iyld⟩:=it H' Hs' (sn.trans st.all) st.sh st.sub
     cases bS with
     | nil =>
      left
      cases hz
      cases hzs
      rw [cf] at hds hy
      subst hy hds
      exact ⟨istop i (by omega),fun p hp=>q p H' Hs' (s1.trans st) hp⟩
     | cons d bS =>
      right
      have hil:i<ds.length:=by rw [hds,aR,bw];omega
      have hol:=fU sa []
      simp at hol
      refine ⟨igo i hil,uK (show (da [] sa).length + 1<=61 by omega) (by decide),fun x H2 hyl=>?_⟩
      obtain ⟨d',Hs2,hd,s2,r2⟩:=iyld i x H2 hil hyl
      have hdd:d'=d:=by
       rw [hds,bq (by omega)] at hd
       simp [hdl] at hd
       exact hd.symm
      subst hdd
      obtain ⟨o,zs',hf,hz',rfl⟩:=xq hz
      have hf:=Gj hf
      obtain ⟨so,sz',hso,hsz,rfl⟩:=yW hzs
      cases hb:TJ nt d' (nD nt ix ρ) with
      | no=>rw [hb] at hf;cases hf
      | ex x n=>rw [hb] at hf;cases hf
      | ok ρ' =>
       rw [hb,bind_ok] at hf
       refine CL hnt ((fb.step st).step s2) r2 hb fun σ2 f2=>⟨ρ',?_⟩
       refine ⟨_,_,_,Hs2,f2,?_⟩
       cases ht:gt ρ' with
       | no=>rw [ht] at hf;cases hf
       | ex x n=>rw [ht] at hf;cases hf
       | ok b =>
        rw [ht,bind_ok] at hf
        intro H3 Hs3 s3
        cases b with
        | false =>
         rw [if_neg bu] at hf
         cases hf
         cases hso
         refine Ca ⟨bS.length,by rw [<- hrl];simp,done++[d'],bS,zs',sa,sz',Hs3,by rw [hds];simp,by simp [hdl],rfl,(st.trans s2).trans s3,rfl,by omega,hz',hsz,by simpa using hy⟩
        | true =>
         rw [if_pos rfl] at hf
         refine Cb ⟨ρ',_,_,_,Hs3,f2.step s3,?_⟩
         cases he:ge ρ' with
         | no=>rw [he] at hf;cases hf
         | ex x n=>rw [he] at hf;cases hf
         | ok y =>
          rw [he,bind_ok] at hf
          cases hf
          intro v H4 Hs4 s4 r4
          cases r4 with
          | str z =>
           cases hso
           exact ⟨z,bS.length,rfl,by rw [<- hrl];simp,done++[d'],bS,zs',sa++[z],sz',Hs4,by rw [hds];simp,by simp [hdl],rfl,((st.trans s2).trans s3).trans s4,(xx z sa []).symm,by simp;omega,hz',hsz,by rw [hy];simp⟩
          | none=>cases hso
          | bool _=>cases hso
          | int _=>cases hso
          | list _ _=>cases hso
          | tuple _ _=>cases hso
          | dictK _ _=>cases hso
          | dictT _ _ _=>cases hso
          | dictF _ _ _=>cases hso
  ·rw [if_neg hl] at q;exact q.elim
theorem Lj (nt:Nat) (hnt:nt=1\/nt=2) (hc:c.X.calm=true) (S:mW c.X scope N' nt ix) (hi:JI c tg iter gi) (hb:ue c N' scope nt tg ifs elt gt ge) (hs:∀ x,e7 iter c.X.env x=pure x:=by intro _;rfl) :
  ON c (.SetComp elt [⟨tg,iter,ifs,0⟩] scope pos) (vb nt ix gi gt ge):=.of fun ρ=>tJ (EU hc S (B4 hnt) (hi ρ) hb.at hs) fun σ H Q q=>OO hnt q
end
def ca (n:Nat) (ds:List D):az:=ds.map Sl.shr++rz (n - ds.length) Sl.no
def gG (n:Nat) (g:az->R Fl):List D->R D:=fun ds=>match g (ca n ds) with
 | .ok (.nx _)=>.ok .none
 | .ok (.rt d)=>.ok d
 | .ex c m=>.ex c m
 | _=>.no
theorem xy {n:Nat}{ds:List D}{i:Nat}{s:Sl} (h:(ca n ds)[i]?=some s):(∃ d,ds[i]?=some d/\s=.shr d)\/s=.no:=by
 unfold ca at h
 by_cases hi:i<ds.length
 ·rw [bd (by simpa using hi),aN] at h
  cases hd:ds[i]? with
  | none=>rw [hd] at h;cases h
  | some z=>rw [hd] at h;cases h;exact .inl ⟨z,rfl,rfl⟩
 ·rw [bq (by simp;omega),b_] at h
  split at h<;>cases h
  exact .inr rfl
theorem IF {N:List Str}{vs:List V}{i:Nat}{v:V} (h:vs[i]?=some v):(L2.start N vs)[i]?=some (some v):=by
 unfold L2.start
 have hi:i<vs.length:=(List.getElem?_eq_some_iff.mp h).1
 rw [bd (by simpa using hi),aN,h]
 rfl
theorem Fr.start {K : a8} {H Hs : Hp} {N : List Str} {vs : List V} {ds : List D} (sub : dk Hs H) (r : RDs K Hs vs ds) : Fr K H Hs (fun _ => none) (ca N.length ds) (L2.start N vs) H Hs := by
  have hl := r.length
  refine ⟨.refl sub, by simp [ca, L2.start, hl], fun i d h => ?_, fun i d h => ?_, fun i d h => ?_, fun i j d e a h _ _ _ => ?_, fun i a h => (nomatch h), fun i d h => ?_, fun i j d e h _ => ?_⟩
  · rcases xy h with ⟨z, hz, e⟩ | e
    · cases e
      obtain ⟨v, k1, k2⟩ := r.get' hz
      exact ⟨v, IF k1, k2⟩
    · cases e
  all_goals (rcases xy h with ⟨z, _, e⟩ | e <;> cases e)
theorem Q9             (F:Ih K x qual st f fd) (S:bU N ps (aB st))
  (h:∀ (cdv:aa) (A:aU) (outer:List Env) (s:ae) (H:Hp) (E:XK),kZ k (A.deeper (s9 qual (aB st) s.heap.objs.size f cdv))->Gh ⟨jO (oY P w) P w K mg base N qual (aB st) f cdv A outer s H E,cls,E⟩ (i6 st) g) :
  rj P w K mg base (oY P w) (k + 1) f fd ps (Q7 K cls ps.length (gG N.length g)):=by
 obtain ⟨oc,od,kV,doc,pm,an,cdv,ct,osl,rfl,lk,hcd⟩:=F.ex
 refine S_ lk hcd S (fun vs H Q E h_4=>by obtain ⟨Hs,ds,sub,hn,r,q⟩:=h_4;exact by rw [r.length];exact hn) fun A outer s H vs Q E hr hsp=>?_
 obtain ⟨Hs,ds,sub,hn,r,q⟩:=hsp
 refine ⟨_,h cdv A outer s H E hr (ca N.length ds),H,Hs,_,Hs,Fr.start sub r,?_⟩
 unfold gG at q
 cases hg:g (ca N.length ds) with
 | no=>rw [hg] at q;exact q
 | ex c n=>rw [hg] at q;exact q
 | ok fl =>
  rw [hg] at q
  cases fl with
  | nx ρ'=>exact fun σ' H' Hs' f'=>q .non H' Hs' f'.st .none
  | rt d=>exact fun v H' Hs' s r=>q v H' Hs' s r
  | bk ρ'=>exact q.elim
  | ct ρ'=>exact q.elim
theorem TM             (F:Ih K x qual st f fd) (S:bU N ps (aB st)) (hm:mg x=some (.ref f)) (hb:l7 K fd ps [])
  (h:∀ (cdv:aa) (A:aU) (outer:List Env) (s:ae) (H:Hp) (E:XK),kZ k (A.deeper (s9 qual (aB st) s.heap.objs.size f cdv))->Gh ⟨jO (oY P w) P w K mg base N qual (aB st) f cdv A outer s H E,cls,E⟩ (i6 st) g) :
  Fn P w K mg base cls x (k + 1) ps.length (gG N.length g):=⟨f,fd,ps,Q9 F S h,hm,F.kp,hb⟩
theorem fL:sk (oY X.prog X.w) X E0:=fun _ _ _ _ _ _ _ h=>by
 obtain ⟨_,_,_,_,_,_,_,_,_,q⟩:=h
 exact q.elim
end
section
def clear2 (ρ:az):az:=ρ.map fun s=>match s with
 | .ow2 _=>.no
 | s=>s
section
variable {K:a8}
theorem Fr.clear2    (f:Fr K H0 Hs0 la ρ σ H Hs):Fr K H0 Hs0 la (clear2 ρ) σ H Hs/\∀ (j:Nat) (d:List (List D)),¬ (J.clear2 ρ)[j]?=some (Sl.ow2 d):=by
 have un:∀ {j:Nat}{s:Sl},(J.clear2 ρ)[j]?=some s->(∀ d,s≠.ow2 d)/\(ρ[j]?=some s\/s=.no):=fun {j s} e=>by
  unfold J.clear2 at e
  rw [aN] at e
  cases h:ρ[j]? with
  | none=>rw [h] at e;cases e
  | some t =>
   rw [h] at e
   cases t with
   | ow2 d=>cases e;exact ⟨fun _ z=>(by cases z),.inr rfl⟩
   | no=>cases e;exact ⟨fun _ z=>(by cases z),.inl rfl⟩
   | shr d=>cases e;exact ⟨fun _ z=>(by cases z),.inl rfl⟩
   | lck d=>cases e;exact ⟨fun _ z=>(by cases z),.inl rfl⟩
   | own d=>cases e;exact ⟨fun _ z=>(by cases z),.inl rfl⟩
 have is:∀ {j:Nat}{s:Sl},s≠.no->(J.clear2 ρ)[j]?=some s->ρ[j]?=some s:=fun {j s} n e=>(un e).2.resolve_right n
 have no2:∀ (j:Nat) (d:List (List D)),¬ (J.clear2 ρ)[j]?=some (Sl.ow2 d):=fun j d e=>(un e).1 d rfl
 exact ⟨⟨f.st,by simp [J.clear2,f.len],fun j d h=>f.sh j d (is (fun z=>by cases z) h),fun j d h=>f.ow j d (is (fun z=>by cases z) h),fun j d h=>f.lk j d (is (fun z=>by cases z) h),fun j k d e a h1 h2=>f.dj j k d e a (is (fun z=>by cases z) h1) (is (fun z=>by cases z) h2),f.lh,fun j d h=>(no2 j d h).elim,fun j k d e h _=>(no2 j d h).elim⟩,no2⟩
end
def q8:List ai->Hp->Hp
 | [],H=>H
 | a::as,H=>q8 as (upd H a (.lst []))
section
variable {c:C}{e:aX}{g gi:az->R D}{pos p apos cpos spos:Pos}{x:Str}
theorem xz:∀ (as:List ai) (H:Hp),(∀ a∈as,H a=none)->as.Nodup->dk H (q8 as H)
 | [],H,_,_=>.refl H
 | a::as,H,h,nd=>by
  obtain ⟨n1,n2⟩:=List.nodup_cons.mp nd
  refine (lQ (h a am)).trans (xz as _ (fun b hb=>?_) n2)
  rw [bf (fun (z:b=a)=>n1 (z ▸ hb))]
  exact h b (ah _ hb)
theorem CT:∀ (as:List ai) (H:Hp),as.Nodup->∀ a∈as,q8 as H a=some (.lst [])
 | a::as,H,nd,b,hb=>by
  obtain ⟨n1,n2⟩:=List.nodup_cons.mp nd
  show q8 as (upd H a (.lst [])) b=_
  by_cases hm:b∈as
  ·exact CT as _ n2 b hm
  ·have e:b=a:=(List.mem_cons.mp hb).resolve_right hm
   subst e
   have:∀ (as:List ai) (H:Hp),b∉as->q8 as H b=H b:=by
    intro as
    induction as with
    | nil=>intro H _;rfl
    | cons c as ih =>
     intro H h
     show q8 as (upd H c (.lst [])) b=_
     rw [ih _ (fun z=>h (ah _ z)),bf (fun (z:b=c)=>h (by rw [z];exact am))]
   rw [this as _ hm,b9]
theorem lU:∀ (as:List ai) (H:Hp) (b:ai),q8 as H b=none->H b=none/\b∉as
 | [],H,b,h=>⟨h,by simp⟩
 | a::as,H,b,h=>by
  obtain ⟨h1,h2⟩:=lU as (upd H a (.lst [])) b h
  by_cases hb:b=a
  ·subst hb;rw [b9] at h1;cases h1
  ·rw [bf hb] at h1
   exact ⟨h1,fun z=>(List.mem_cons.mp z).elim hb h2⟩
def OP (i:Nat):az->R Fl:=fun ρ=>.ok (.nx ((clear2 ρ).set i (.ow2 [[],[],[],[]])))
theorem RH (i:Nat)  (hN:c.X.N.Nodup) (hi:c.X.N[i]?=some x:=by rfl) (hx:Py c.X.env.scope x:=by first | exact iT rfl | exact ft rfl)
  (hs:hW (.List [.List [] p1,.List [] p2,.List [] p3,.List [] p4] p) (some (.Name x pos')) spos.line c.X.env=pure false:=by rfl)
  (hf:c.X.fn x=true\/c.X.env.scope.names.lookup x=some .local:=by first | exact .inl rfl | exact .inr rfl | assumption)
  (h1:aK [.List [] p1,.List [] p2,.List [] p3,.List [] p4] c.X.env=(false,eh (.List [] p1) c.X.env)::aK [.List [] p2,.List [] p3,.List [] p4] c.X.env:=by rfl)
  (h2:aK [.List [] p2,.List [] p3,.List [] p4] c.X.env=(false,eh (.List [] p2) c.X.env)::aK [.List [] p3,.List [] p4] c.X.env:=by rfl)
  (h3:aK [.List [] p3,.List [] p4] c.X.env=(false,eh (.List [] p3) c.X.env)::aK [.List [] p4] c.X.env:=by rfl)
  (h4:aK [.List [] p4] c.X.env=(false,eh (.List [] p4) c.X.env)::aK [] c.X.env:=by rfl) :
  JS c (.Assign [.Name x pos'] (.List [.List [] p1,.List [] p2,.List [] p3,.List [] p4] p) spos) (OP i):=.of fun ρ=>by
 refine yS (EB hN hi hx (sj (iE (sj jZ) (iE (sj jZ) (iE (sj jZ) (iE (sj jZ) jZ h4) h3) h2) h1)) hs hf) fun D σ H h_0=>?_
 obtain ⟨H0,Hs0,la,Hs,f,q⟩:=h_0
 replace q:nB c.X.K c.cls c.E H0 Hs0 la D (OP i ρ):=q
 obtain ⟨f,no2⟩:=f.clear2
 refine ⟨cA _,fun a1 n1=>⟨cA _,fun a2 n2=>⟨cA _,fun a3 n3=>⟨cA _,fun a4 n4=>⟨bW (dH (show 4<=1000 by decide)),fun a n=>?_⟩⟩⟩⟩⟩
 have N:=lU [a1,a2,a3,a4] H a n
 have N4:=lU [a1,a2,a3] H a4 n4
 have N3:=lU [a1,a2] H a3 n3
 have N2:=lU [a1] H a2 n2
 simp only [aY,br,or_false,not_or] at N N4 N3 N2
 have nd:[a1,a2,a3,a4].Nodup:=by
  simp only [jv,aY,br,or_false,not_or,fz,and_true,not_false_eq_true]
  exact ⟨⟨cQ N2.2,cQ N3.2.1,cQ N4.2.1⟩,⟨cQ N3.2.2,cQ N4.2.2.1⟩,cQ N4.2.2.2⟩
 have free:∀ b∈[a1,a2,a3,a4],H b=none:=fun b hb=>by
  simp only [aY,br,or_false] at hb
  rcases hb with rfl | rfl | rfl | rfl
  ·exact n1
  ·exact N2.1
  ·exact N3.1
  ·exact N4.1
 have nd5:(a::[a1,a2,a3,a4]).Nodup:=List.nodup_cons.mpr ⟨by simp only [aY,br,or_false,not_or];exact N.2,nd⟩
 have sm:dk H (q8 [a1,a2,a3,a4] H):=xz _ _ free nd
 have all:dk H (upd (q8 [a1,a2,a3,a4] H) a (.lst [.ref a1,.ref a2,.ref a3,.ref a4])):=sm.trans (lQ n)
 have free5:∀ b∈a::[a1,a2,a3,a4],H b=none:=fun b hb=>(List.mem_cons.mp hb).elim (fun z=>z ▸ N.1) (free b)
 have st:cD H Hs (upd (q8 [a1,a2,a3,a4] H) a (.lst [.ref a1,.ref a2,.ref a3,.ref a4])) Hs:=⟨all,.refl _,f.st.sub.trans all,fun _ _ _ _ z=>z⟩
 have f':=f.step st
 have hl:i<σ.length\/¬ i<σ.length:=Decidable.em _
 have nx:∀ {j:Nat}{s:Sl},(∀ d,s≠.ow2 d)->((clear2 ρ).set i (.ow2 [[],[],[],[]]))[j]?=some s->(clear2 ρ)[j]?=some s/\i≠j:=fun {j s} hs e=>by
  by_cases hj:i=j
  ·subst hj
   by_cases hi:i<(clear2 ρ).length
   ·rw [aC hi] at e;exact absurd (bI e).symm (hs _)
   ·rw [cy (by simpa using hi)] at e;cases e
  ·rw [aj hj] at e;exact ⟨e,hj⟩
 refine q _ _ Hs ⟨f'.st,by simp [f'.len],fun j d h=>?_,fun j d h=>?_,fun j d h=>?_,fun j k d d' b h1 h2 h3 h4=>?_,f'.lh,fun j d h=>?_,fun j k d d' h1 h2=>?_⟩
 ·obtain ⟨h,hj⟩:=nx (fun _ z=>by cases z) h
  rw [aj hj];exact f'.sh j d h
 ·obtain ⟨h,hj⟩:=nx (fun _ z=>by cases z) h
  rw [aj hj];exact f'.ow j d h
 ·obtain ⟨h,hj⟩:=nx (fun _ z=>by cases z) h
  rw [aj hj];exact f'.lk j d h
 ·obtain ⟨h1,hj⟩:=nx (fun _ z=>by cases z) h1
  obtain ⟨h2,hk⟩:=nx (fun _ z=>by cases z) h2
  rw [aj hj] at h3
  rw [aj hk] at h4
  exact f'.dj j k d d' b h1 h2 h3 h4
 ·by_cases hj:i=j
  ·subst hj
   by_cases hi:i<(clear2 ρ).length
   ·rw [aC hi] at h
    cases h
    have at4:=CT [a1,a2,a3,a4] H nd
    have ne:∀ b∈[a1,a2,a3,a4],b≠a:=fun b hb z=>(List.nodup_cons.mp nd5).1 (z ▸ hb)
    have go:∀ b∈[a1,a2,a3,a4],upd (q8 [a1,a2,a3,a4] H) a (.lst [.ref a1,.ref a2,.ref a3,.ref a4]) b=some (.lst []):=fun b hb=>by rw [bf (ne b hb)];exact at4 b hb
    refine ⟨a,[a1,a2,a3,a4],aC (by rw [<- f'.len];exact hi),b9,nd5,fun b hb=>⟨f.st.sub.free (free5 b hb),f.st.all.free (free5 b hb)⟩,fun b hb k e hk=>?_,.cons (go _ (by simp)) .nil (.cons (go _ (by simp)) .nil (.cons (go _ (by simp)) .nil (.cons (go _ (by simp)) .nil .nil)))⟩
    obtain ⟨hk,nk⟩:=nx (fun _ z=>by cases z) hk
    rw [aj nk]
    intro z
    obtain ⟨b',o,k1,k2,_⟩:=f.ow k e hk
    rw [z] at k1
    cases k1
    rw [free5 b hb] at k2;cases k2
   ·rw [cy (by simpa using hi)] at h;cases h
  ·rw [aj hj] at h;exact (no2 j d h).elim
 ·by_cases hj:i=j
  ·by_cases hk:i=k
   ·exact hj.symm.trans hk
   ·rw [aj hk] at h2;exact (no2 k d' h2).elim
  ·rw [aj hj] at h1;exact (no2 j d h1).elim
theorem Lk  (h:JS c st gs):JS c st (fun ρ=>gs (fh ρ)):=.of fun ρ=>yS (h (fh ρ)) fun D σ H h_1=>by
 obtain ⟨H0,Hs0,la,Hs,f,q⟩:=h_1
 obtain ⟨Hs',f'⟩:=f.shared
 exact ⟨H0,Hs0,la,Hs',f',q⟩
def shareAt (i:Nat) (ρ:az):az:=match ρ[i]? with
 | some (Sl.own d)=>ρ.set i (.shr d)
 | _=>ρ
theorem Fr.shareAt     (f:Fr K H0 Hs0 la ρ σ H Hs) (i:Nat):∃ Hs',Fr K H0 Hs0 la (J.shareAt i ρ) σ H Hs':=by
 unfold J.shareAt
 split
 ·rename_i d ho
  obtain ⟨a,o,k1,k2,k3,k4,k5⟩:=f.ow i d ho
  have hil:i<ρ.length:=(List.getElem?_eq_some_iff.mp ho).1
  have up:dk Hs (upd Hs a o):=lQ k3
  have nx:∀ {j:Nat}{s:Sl},(∀ d,s≠.shr d)->(ρ.set i (.shr d))[j]?=some s->ρ[j]?=some s/\i≠j:=fun {j s} hs e=>by
   by_cases hj:i=j
   ·subst hj
    rw [aC hil] at e;exact absurd (bI e).symm (hs d)
   ·rw [aj hj] at e;exact ⟨e,hj⟩
  have ne:∀ (j:Nat) (e:D) (b:ai),i≠j->ρ[j]?=some (Sl.own e)->σ[j]?=some (some (V.ref b))->b≠a:=fun j e b hj h hb z=>by
   subst z
   exact hj (f.dj i j d e b ho h k1 hb)
  refine ⟨upd Hs a o,⟨f.st.all,f.st.sh.trans up,fun b u e=>?_,fun b u e t z=>?_⟩,by simp [f.len],fun j e h=>?_,fun j e h=>?_,fun j e h=>?_,fun j k d1 d2 b h1 h2 h3 h4=>?_,f.lh,fun j e h=>?_,fun j k d1 d2 h1 h2=>?_⟩
  ·by_cases hb:b=a
   ·subst hb;rw [b9] at e;cases e;exact k2
   ·rw [bf hb] at e;exact f.st.sub b u e
  ·rw [bf (bR e k4)];exact f.st.out b u e t z
  ·by_cases hj:i=j
   ·subst hj
    rw [aC hil] at h
    cases h
    exact ⟨_,k1,k5.share k3⟩
   ·rw [aj hj] at h
    obtain ⟨v,q1,q2⟩:=f.sh j e h
    exact ⟨v,q1,q2.same up⟩
  ·obtain ⟨h,hj⟩:=nx (fun _ z=>by cases z) h
   obtain ⟨b,u,q1,q2,q3,q4,q5⟩:=f.ow j e h
   exact ⟨b,u,q1,q2,by rw [bf (ne j e b hj h q1)];exact q3,q4,q5.same up⟩
  ·obtain ⟨h,hj⟩:=nx (fun _ z=>by cases z) h
   obtain ⟨b,u,q1,q2,q3,q4,q5,q6⟩:=f.lk j e h
   exact ⟨b,u,q1,q2,q3,by rw [bf (bR q5 k4)];exact q4,q5,q6.same up⟩
  ·exact f.dj j k d1 d2 b (nx (fun _ z=>by cases z) h1).1 (nx (fun _ z=>by cases z) h2).1 h3 h4
  ·obtain ⟨h,hj⟩:=nx (fun _ z=>by cases z) h
   obtain ⟨b,as,O⟩:=f.o2 j e h
   refine ⟨b,as,O.at_,O.ob,O.nd,fun c hc=>⟨?_,(O.out c hc).2⟩,fun c hc k e' hk=>O.dj c hc k e' (nx (fun _ z=>by cases z) hk).1,O.inn.step (.refl _) up⟩
   rw [bf (fun z=>O.dj c hc i d ho (by rw [z];exact k1))]
   exact (O.out c hc).1
  ·exact f.u2 j k d1 d2 (nx (fun _ z=>by cases z) h1).1 (nx (fun _ z=>by cases z) h2).1
 ·exact ⟨Hs,f⟩
theorem F6 (i:Nat)  (h:JS c st gs):JS c st (fun ρ=>gs (shareAt i ρ)):=.of fun ρ=>yS (h (shareAt i ρ)) fun D σ H h_2=>by
 obtain ⟨H0,Hs0,la,Hs,f,q⟩:=h_2
 obtain ⟨Hs',f'⟩:=f.shareAt i
 exact ⟨H0,Hs0,la,Hs',f',q⟩
theorem zF.get    (h:zF K H Hs as dss):∀ {j:Nat}{ds:List D},dss[j]?=some ds->∃ b vs,as[j]?=some b/\H b=some (.lst vs)/\RDs K Hs vs ds:=by
 induction h with
 | nil=>intro j ds e;cases e
 | cons h r t ih =>
  intro j ds e
  cases j with
  | zero=>cases e;exact ⟨_,_,rfl,h,r⟩
  | succ j=>have q:=ih (j:=j) e;exact q
theorem zF.set    (r':RDs K Hs vs' ds'):∀ {as:List ai}{dss:List (List D)}{j:Nat}{b:ai},zF K H Hs as dss->as[j]?=some b->as.Nodup->zF K (L2.upd H b (.lst vs')) Hs as (dss.set j ds')
 | _,_,_,_,.nil,h,_=>by simp at h
 | _,_,0,b,.cons h r t,e,nd=>by
  simp at e
  subst e
  exact .cons b9 r' (t.upd (List.nodup_cons.mp nd).1)
 | _,_,j + 1,b,.cons (a:=a) h r t,e,nd=>by
  have e':_:=e
  simp only [jz] at e'
  obtain ⟨n1,n2⟩:=List.nodup_cons.mp nd
  have hb:b∈_:=dA e'
  exact .cons (by rw [bf (fun z=>n1 (by rw [z];exact hb))];exact h) r (zF.set r' t e' n2)
def nF (i:Nat) (gi g:az->R D):az->R Fl:=fun ρ=>match ρ[i]? with
 | some (Sl.ow2 dss)=>(gi ρ).bind fun k=>match k with
  | .int j=>if 0<=j then (match dss[j.toNat]? with
   | some ds=>(g ρ).bind fun d=>if ds.length<1000 then .ok (.nx (ρ.set i (.ow2 (dss.set j.toNat (ds++[d]))))) else .no
   | none=>.no) else .no
  | _=>.no
 | _=>.no
variable {ie:aX}
theorem xA (i:Nat) (hie:JE c ie gi) (h:JE c e g) (hN:c.X.N[i]?=some x:=by rfl) (hv:O4 c.X.env.scope x:=by first | exact iT rfl | exact ft (iT rfl) | exact ft (ft rfl)) (hd:(x == ("__debug__" : Str))=false:=by decide)
  (hcd:(x == ("__classdict__" : Str))=false:=by decide) (hpx:tV ie:=by exact fun _ _=>rfl)
  (hbase:HA (.Subscript (.Name x p) ie p3) "append" c.X.env (eh (.Subscript (.Name x p) ie p3) c.X.env)=eh (.Subscript (.Name x p) ie p3) c.X.env:=by rfl)
  (hfew:((j8 cpos (aK [e] c.X.env)).all (fun x=>!x.1) && (backToKw cpos (NC [] c.X.env)).all (fun x=>x.1.isSome)
   && decide ([e].length + ([] : List yx).length + (if ([] : List yx).isEmpty then 0 else 1)<30))=true:=by rfl)
  (hline:(apos.endLine == cpos.line)=true:=by rfl) (hst:aK [e] c.X.env=(false,eh e c.X.env)::aK [] c.X.env:=by rfl) (hplain:(j8 cpos (aK [] c.X.env)).any (·.1)=false:=by rfl)
  (hs:hW (.Call (.Attribute (.Subscript (.Name x p) ie p3) "append" apos) [e] [] cpos) none pos.line c.X.env=pure false:=by rfl) :
  JS c (.Expr (.Call (.Attribute (.Subscript (.Name x p) ie p3) "append" apos) [e] [] cpos) pos) (nF i gi g):=.of fun ρ=>by
 refine yS (Ax (PQ zq yE yF zz (PL wB (si hN hv hd hcd) (hie ρ) hpx) (iE (h ρ) jZ hst) hbase hfew hline hst hplain) hs) fun D σ H h_3=>?_
 obtain ⟨H0,Hs0,la,Hs,f,q⟩:=h_3
 replace q:nB c.X.K c.cls c.E H0 Hs0 la D (nF i gi g ρ):=q
 unfold nF at q
 split at q
 ·rename_i dss ho
  obtain ⟨a,as,O⟩:=f.o2 i dss ho
  refine ⟨_,O.at_,?_⟩
  refine sE f q fun k v H1 Hs1 e1 s1 f1 r1=>?_
  rw [e1,bind_ok] at q
  cases r1 with
  | int j =>
   simp only at q
   by_cases hj:0<=j
   ·rw [if_pos hj] at q
    split at q
    ·rename_i ds hds
     obtain ⟨b,vs,hb,hH,rv⟩:=O.inn.get hds
     have hix:Ec (as.map V.ref) j=some (.ref b):=by
      have:=qy (xs:=as.map V.ref) (j:=j.toNat) (v:=V.ref b) (by rw [aN,hb];rfl)
      rwa [dY hj] at this
     refine ⟨a,_,j,_,rfl,rfl,.of (s1.all _ _ O.ob),hix,.inl ⟨rfl,_,.of (s1.all _ _ hH)⟩,?_⟩
     refine sE f1 q fun d w H2 Hs2 e2 s2 f2 r2=>?_
     rw [e2,bind_ok] at q
     by_cases hl:ds.length<1000
     ·rw [if_pos hl] at q
      have st:=s1.trans s2
      refine ⟨b,vs,w,rfl,rfl,st.all _ _ hH,dH (by rw [rv.length];omega),?_⟩
      have hil:i<ρ.length:=(List.getElem?_eq_some_iff.mp ho).1
      obtain ⟨a',as',O2'⟩:=f2.o2 i dss ho
      have ea:a'=a:=by
       have:=O2'.at_
       rw [O.at_] at this
       cases this;rfl
      subst ea
      have eas:as'=as:=by
       have h1:=O2'.ob
       rw [st.all _ _ O.ob] at h1
       injection h1 with h1
       injection h1 with h1
       exact (JA (fun x y z=>by cases z;rfl) |>.mp h1).symm
      subst eas
      have hbm:b∈a'::as':=ah _ (dA hb)
      have nb:b≠a':=fun z=>(List.nodup_cons.mp O.nd).1 (z ▸ dA hb)
      obtain ⟨bs,b0⟩:=O2'.out b hbm
      have nx:∀ {j':Nat}{s:Sl},(∀ d,s≠.ow2 d)->(ρ.set i (.ow2 (dss.set j.toNat (ds++[d]))))[j']?=some s->ρ[j']?=some s/\i≠j':=fun {j' s} hs e=>by
       by_cases hj:i=j'
       ·subst hj
        rw [aC hil] at e;exact absurd (bI e).symm (hs _)
       ·rw [aj hj] at e;exact ⟨e,hj⟩
      refine q _ _ Hs2 ⟨⟨fun c u e=>?_,f2.st.sh,fun c u e=>?_,f2.st.out⟩,by simp [f2.len],fun j' d' h=>f2.sh j' d' (nx (fun _ z=>by cases z) h).1,fun j' d' h=>?_,fun j' d' h=>?_,fun j' k' d' e' a h1 h2=>f2.dj j' k' d' e' a (nx (fun _ z=>by cases z) h1).1 (nx (fun _ z=>by cases z) h2).1,f2.lh,fun j' d' h=>?_,fun j' k' d' e' h1 h2=>?_⟩
      ·rw [bf (bR e b0)];exact f2.st.all c u e
      ·rw [bf (bR e bs)];exact f2.st.sub c u e
      ·obtain ⟨h,_⟩:=nx (fun _ z=>by cases z) h
       obtain ⟨c',u,k1,k2,k3,k4,k5⟩:=f2.ow j' d' h
       refine ⟨c',u,k1,?_,k3,k4,k5⟩
       rw [bf (fun z=>O2'.dj b hbm j' d' h (by rw [<- z];exact k1))]
       exact k2
      ·obtain ⟨h,_⟩:=nx (fun _ z=>by cases z) h
       obtain ⟨c',u,k1,k2,k3,k4,k5,k6⟩:=f2.lk j' d' h
       refine ⟨c',u,k1,k2,?_,k4,k5,k6⟩
       rw [bf (bR k5 b0)]
       exact k3
      ·by_cases hj':i=j'
       ·subst hj'
        rw [aC hil] at h
        cases h
        refine ⟨a',as',O2'.at_,by rw [bf (cQ nb)];exact O2'.ob,O2'.nd,O2'.out,fun c hc k e' hk=>O2'.dj c hc k e' (nx (fun _ z=>by cases z) hk).1,?_⟩
        exact zF.set ((rv.same st.sh).append (.cons r2 .nil)) O2'.inn hb (List.nodup_cons.mp O2'.nd).2
       ·rw [aj hj'] at h
        exact (hj' (f2.u2 i j' _ _ ho h)).elim
      ·by_cases hj':i=j'
       ·by_cases hk':i=k'
        ·exact hj'.symm.trans hk'
        ·rw [aj hk'] at h2
         exact (hk' (f2.u2 i k' _ _ ho h2)).elim
       ·rw [aj hj'] at h1
        exact (hj' (f2.u2 i j' _ _ ho h1)).elim
     ·rw [if_neg hl] at q;exact q.elim
    ·exact q.elim
   ·rw [if_neg hj] at q;exact q.elim
  | none=>exact q.elim
  | bool _=>exact q.elim
  | str _=>exact q.elim
  | list _ _=>exact q.elim
  | tuple _ _=>exact q.elim
  | dictK _ _=>exact q.elim
  | dictT _ _ _=>exact q.elim
  | dictF _ _ _=>exact q.elim
 ·exact q.elim
end
end
section
open PyProof.Rows (OwnCls)
section
variable {X:Cx}
end
section
variable {c:C}{e:aX}{g:az->R D}{pos p apos cpos:Pos}{x:Str}
end
structure Er (mg:Str->Option aa) (base:bB) (cls:Str->ai) (x:Str):Prop where
 ex:∃ bmB newId initId Bn,OwnCls x (cls x) bmB newId mg base/\ExcBaseFacts Bn newId initId bmB
def xB (x:Str) (gs:az->R (List D)):az->R Fl:=fun ρ=>(gs ρ).bind fun ds=>if ds.length<=1000 then .ex x none else .no
section
variable {P:aH}{w:aZ}{K:a8}{mg:Str->Option aa}{base:bB}{N:List Str}{qual:Str}{scope:fZ}{f:ai}{cd:aa}{A:aU}{outer:List Env}{s:ae}{H:Hp}{E:XK}{cls:Str->ai}
theorem CU {x:Str}{np cpos pos:Pos}{e0:aX}{bS:List aX}{gs:az->R (List D)} (R0:Er mg base cls x)
  (hg:Gl (jO (oY P w) P w K mg base N qual scope f cd A outer s H E) x) (ha:G9 ⟨jO (oY P w) P w K mg base N qual scope f cd A outer s H E,cls,E⟩ (e0::bS) gs)
  (he:aK (e0::bS) (jO (oY P w) P w K mg base N qual scope f cd A outer s H E).env=(false,eh e0 (jO (oY P w) P w K mg base N qual scope f cd A outer s H E).env)::aK bS (jO (oY P w) P w K mg base N qual scope f cd A outer s H E).env:=by rfl)
  (hdb:(x == ("__debug__" : Str))=false:=by decide) (hpl:(j8 cpos (aK bS (jO (oY P w) P w K mg base N qual scope f cd A outer s H E).env)).any (·.1)=false:=by rfl) :
  JS ⟨jO (oY P w) P w K mg base N qual scope f cd A outer s H E,cls,E⟩ (.Raise (some (.Call (.Name x np) (e0::bS) [] cpos)) none pos) (xB x gs):=.of fun ρ=>by
 obtain ⟨bmB,newId,initId,Bn,O,FB⟩:=R0.ex
 refine yS (KR O FB hg (ha ρ) he hdb hpl) fun D σ H1 h_1=>?_
 obtain ⟨H0,Hs0,la,Hs,f,q⟩:=h_1
 replace q:nB K cls E H0 Hs0 la D (xB x gs ρ):=q
 refine ⟨H0,Hs0,la,Hs,f,?_⟩
 unfold xB at q
 cases hr:gs ρ with
 | no=>rw [hr] at q;exact q
 | ex y n=>rw [hr] at q;exact fun H' Hs' s=>q H' Hs' (f.st.trans s)
 | ok ds =>
  rw [hr,bind_ok] at q
  intro vs H2 Hs2 s2 r2
  by_cases hl:ds.length<=1000
  ·rw [if_pos hl] at q
   exact ⟨bW (dH (by rw [r2.length];exact hl)),q H2 Hs2 (f.st.trans s2)⟩
  ·rw [if_neg hl] at q;exact q.elim
end
end
section
structure Bi (mg:Str->Option aa):Prop where
 len:mg "len"=none
 isinstance:mg "isinstance"=none
 all:mg "all"=none
 any:mg "any"=none
 zip:mg "zip"=none
 tuple:mg "tuple"=none
 list:mg "list"=none
 sorted:mg "sorted"=none
 set:mg "set"=none
 range:mg "range"=none
 enumerate:mg "enumerate"=none
 dict:mg "dict"=none
 sum:mg "sum"=none
 max:mg "max"=none
 min:mg "min"=none
 reversed:mg "reversed"=none
 str:mg "str"=none
 int:mg "int"=none
 bool:mg "bool"=none
end
section
def bits (j:Nat):List Bool:=[decide (0=j),decide (1=j),decide (2=j),decide (3=j),decide (4=j),decide (5=j),decide (6=j),decide (7=j),decide (8=j),decide (9=j),decide (10=j)]
section
variable {X:Cx}{cls:Str->ai}{names:List Str}{base:bB}
end
end
end J
section
namespace J
open PySem L2
section
variable {c:C}{body:List dz}{x n:Str}{np np2 np3 hpos cpos rpos pos:Pos}{gb:az->R Fl}{names:List Str}{wh:Str->Option Nat}
end
end J
namespace L2
open PySem
end L2
end
namespace J
open PySem L2
section
open PyProof.Rows (OwnCls)
abbrev OQ:List aa:=[.type "ValueError",.type "Exception",.type "BaseException",.type "object"]
theorem RI {K:a8}{h:bB}{mg:Str->Option aa}{x:Str}{C:ai}{bmB:List aa}{newId:String} (X:K.In h) (G:h.Ns bL mg) (e:fR K bL x=some (some (.ref C))) (q:yG K C bmB newId=true) (m1:dh K C (.type "BaseException")=some true) :
  OwnCls x C bmB newId mg h/\∃ bm,Tf h C bm/\∀ v,(v == bj C)=false->dh K C v=some true->bm.contains v=true:=by
 have hmg:=mU X G e
 unfold yG at q
 split at q
 ·rename_i dd cd sl look
  split at q
  ·rename_i C' bm k0 k1 k2 k3 n k5 hmro hslots
   simp only [aO,beq_iff_eq,JY] at q
   obtain ⟨⟨⟨⟨⟨rfl,rfl⟩,nodel⟩,tl⟩,nsok⟩,noinit⟩:=q
   have slots:sl=#[k0,k1,k2,k3,some (.builtin n),k5]:=by
    cases sl with | mk l=>simp only at hslots;rw [hslots]
   have inMro:∀ v,dh K C' v=some true->cd.mro.contains v=true:=fun v hv=>by
    unfold dh rE at hv
    rw [look] at hv
    simp only [vB] at hv
    split at hv
    ·cases hv
    ·exact bI hv
   have bS:∀ v,(v == bj C')=false->dh K C' v=some true->bm.contains v=true:=fun v nv hv=>by
    have:=inMro v hv
    rw [hmro,JC,nv,tP] at this
    exact this
   obtain ⟨nm,bs,mro,ns,qn,hd,sn,sub,ab,col,del⟩:=cd
   dsimp only at hmro nodel nsok noinit
   subst hmro nodel slots
   have at_:=X _ _ look
   exact ⟨⟨hmg,bm,ns,nm,qn,bs,hd,sn,sub,ab,col,dd,k0,k1,k2,k3,k5,_,at_,.of_isNs (lN X nsok),eA X nsok noinit,PySem.W.tail_of_in X tl⟩,
    bm,⟨⟨nm,qn,ns,bs,hd,sn,sub,ab,col,dd,k0,k1,k2,k3,k5,n,at_⟩,bS _ rfl m1⟩,bS⟩
  ·cases q
 ·cases q
structure TopC (K:a8) (x:Str) (C:ai):Prop where
 ns:fR K bL x=some (some (.ref C))
 ex:yG K C OQ "ValueError.__new__"=true
 mb:dh K C (.type "BaseException")=some true
theorem TopC.er {K:a8}{h:bB}{mg:Str->Option aa}{cls:Str->ai}{x:Str}{C:ai} (T:TopC K x C) (X:K.In h) (G:h.Ns bL mg) (hc:cls x=C):Er mg h cls x:=by
 subst hc
 exact ⟨_,_,_,_,(RI X G T.ns T.ex T.mb).1,PySem.F.excBase_ValueError⟩
inductive TQ (K:a8) (F:List D->R D) (vs:List V) (H:Hp) (Q:VK) (z_3:XK):Prop
 | mk (Hs ds d:_) (h0:dk Hs H) (h1:ds.length=1) (h2:RDs K Hs vs ds) (h3:F ds=.ok d) (h4:∀ v H' Hs',cD H Hs H' Hs'->RD K Hs' v d->Q v H'):TQ K F vs H Q z_3
def TU (K:a8) (F:List D->R D):Sp:=TQ K F
theorem RJ   : ∀ vs H Q E,TU K F vs H Q E->Q7 K cls 1 F vs H Q E:=fun vs H Q E ⟨Hs,ds,d,s,l,r,e,q⟩=>⟨Hs,ds,s,l,r,by rw [e];exact q⟩
def TV (l:List (Str×ai)):Str->ai:=fun x=>(l.lookup x).getD 0
theorem RK {K:a8}{F:List D->R D}{H:Hp}{a:ai}{ns:List Int} (hF:F [.list (ns.map .int)]=.ok (.bool true)) (h:oW K H a (ns.map V.int)):TU K F [.ref a] H (fun v _=>v=.bl true) fun _ _ _=>False:=by
 have ri:∀ ns:List Int,RDs K H (ns.map V.int) (ns.map .int):=fun ns=>by
  induction ns with
  | nil=>exact .nil
  | cons x r ih=>exact .cons (.int x) ih
 refine ⟨H,[.list (ns.map .int)],.bool true,.refl H,rfl,.cons (.list h (ri ns)) .nil,hF,?_⟩
 intro v H' Hs' _ r
 cases r
 rfl
theorem RL      (h:oY P w [] H s (fun _ _ _=>False) e s'):False:=by
 obtain ⟨_,_,_,_,_,_,_,_,_,q⟩:=h
 exact q
theorem walkF {l:vU}{k:Nat}{q:aH}{loose:List Str}{XP:(Str->Option aa)->bB->Prop}{YP:aZ->bB->Prop}{d:DefRec}{K:Params->a8}{x:Str}{F0:List D->R D}
  (hn:l.most=some 63) (hdf:d.params.defaults=[]) (hr:kZ k vy) (hY:∀ (w:aZ) (h:bB),YP w h->(K w.params).In h)
  (F:∀ (w:aZ) (mg:Str->Option aa) (fa:ai) (h:bB),(K w.params).In h->h.Ns bL mg->mg d.name=some (.ref fa) ->
   ∃ fd:eG,(∀ (s:ae) (u:aa),yw s fd ⟨[u],[]⟩ [(x,u)])/\∀ base:bB,(K w.params).In base->base.Ns bL mg->rj l.prog w (K w.params) mg base (oY l.prog w) k fa fd [x] (TU (K w.params) F0))
  (hF:∀ ns:List Int,ns.length<=63->F0 [.list (ns.map .int)]=.ok (.bool true)) :
  Nl q loose XP YP l.row.toRowW d [] (fun f vs=>HB f vs) :=
 L2.Os (n:=63) (k:=k) (x:=x) (CX:=fun w=>oY l.prog w) (sp:=fun w=>TU (K w.params) F0) hn (by decide) hdf hr hY F (fun w H a ns hl _ hS=>RK (hF ns hl) hS) fun _ _ _ _ _ h=>RL h
def Qa (i:Nat) (g:az->R Fl):az->R Fl:=fun ρ=>g (shareAt i ρ)
theorem F7 (i:Nat)  (h:JS c st gs):JS c st (Qa i gs):=F6 i h
end
section
section
variable {s:Sl}{ρ:az}{d x y:D}{ds:List D}
theorem xC {α β:Type} (a:α) (f:α->R β):(R.ok a).bind f=f a:=id rfl
def OR (h:az->R Fl):Fl->R Fl:=fun fl=>match fl with
 | .nx ρ'=>h ρ'
 | fl=>.ok fl
theorem CV (g h:az->R Fl):bp g h (s::ρ)=(g (s::ρ)).bind (OR h):=id rfl
theorem q9 (h:az->R Fl) (ρ:az):OR h (.nx ρ)=h ρ:=id rfl
theorem CW (h:az->R Fl) (d:D):OR h (.rt d)=.ok (.rt d):=id rfl
def VR (g h:az->R Fl) (ρ:az):Bool->R Fl:=fun b=>bif b then g ρ else h ρ
theorem TW (t:az->R Bool) (g h:az->R Fl):h_ t g h (s::ρ)=(t (s::ρ)).bind (VR g h (s::ρ)):=by
 show (t (s::ρ)).bind _=_
 congr 1
 funext b
 cases b<;>rfl
theorem Ll (g h:az->R Fl) (ρ:az):VR g h ρ false=h ρ:=id rfl
theorem Lm (g h:az->R Fl) (ρ:az) (b:Bool):VR g h ρ b=bif b then g ρ else h ρ:=id rfl
def Wx:D->R Fl:=fun d=>.ok (.rt d)
theorem Qb (g:az->R D):eM g (s::ρ)=(g (fh (s::ρ))).bind Wx:=id rfl
theorem TX (d:D):Wx d=.ok (.rt d):=id rfl
def xD:Sl->Sl
 | .own d=>.shr d
 | .ow2 dss=>.shr (.list (dss.map .list))
 | s=>s
theorem Go:fh (s::ρ)=xD s::fh ρ:=by cases s<;>rfl
theorem CY:fh []=[]:=id rfl
theorem Gp:xD .no=.no:=id rfl
theorem CZ (d:D):xD (.shr d)=.shr d:=id rfl
theorem C_ (d:D):xD (.own d)=.shr d:=id rfl
theorem D0 (d:List (List D)):xD (.ow2 d)=.shr (.list (d.map .list)):=id rfl
def TY (i:Nat) (ρ:az):D->R Fl:=fun d=>.ok (.nx (ρ.set i (.shr d)))
theorem Ln (i:Nat) (g:az->R D):i7 i g (s::ρ)=(g (s::ρ)).bind (TY i (s::ρ)):=id rfl
theorem Lo (i:Nat) (ρ:az) (d:D):TY i ρ d=.ok (.nx (ρ.set i (.shr d))):=id rfl
def Qc (i:Nat) (ρ:az):D->R Fl:=fun d=>.ok (.nx (ρ.set i (.own d)))
theorem Lp (i:Nat) (g:az->R D):hG i g (s::ρ)=(g (s::ρ)).bind (Qc i (s::ρ)):=id rfl
theorem Gq (i:Nat) (ρ:az) (d:D):Qc i ρ d=.ok (.nx (ρ.set i (.own d))):=id rfl
def Kt (ρ:az):D->R Fl:=fun _=>.ok (.nx ρ)
theorem Lq (g:az->R D):xn g (s::ρ)=(g (s::ρ)).bind (J.Kt (s::ρ)):=id rfl
theorem Gr (ρ:az) (d:D):J.Kt ρ d=.ok (.nx ρ):=id rfl
def Wz (gb:az->R D) (h:D->D->R D) (ρ:az):D->R D:=fun x=>(gb ρ).bind (h x)
theorem TZ (ga gb:az->R D) (h:D->D->R D):g2 ga gb h (s::ρ)=(ga (s::ρ)).bind (Wz gb h (s::ρ)):=id rfl
theorem Qd (gb:az->R D) (h:D->D->R D) (ρ:az) (x:D):Wz gb h ρ x=(gb ρ).bind (h x):=id rfl
def OS:D->R Bool:=fun d=>match d with
 | .bool b=>.ok b
 | _=>.no
theorem Qe (g:az->R D):ik g (s::ρ)=(g (s::ρ)).bind OS:=id rfl
theorem Lr (b:Bool):OS (.bool b)=.ok b:=id rfl
def T_:Bool->R Bool:=fun b=>.ok (!b)
theorem Qf (g:az->R Bool):nA g (s::ρ)=(g (s::ρ)).bind T_:=id rfl
theorem Ls (b:Bool):T_ b=.ok (!b):=id rfl
def U0 (h:az->R Bool) (ρ:az):Bool->R Bool:=fun b=>bif b then h ρ else .ok false
def WA (h:az->R Bool) (ρ:az):Bool->R Bool:=fun b=>bif b then .ok true else h ρ
theorem Qg (g h:az->R Bool):AU g h (s::ρ)=(g (s::ρ)).bind (U0 h (s::ρ)):=by
 show (g (s::ρ)).bind _=_
 congr 1;funext b;cases b<;>rfl
theorem U1 (g h:az->R Bool):K_ g h (s::ρ)=(g (s::ρ)).bind (WA h (s::ρ)):=by
 show (g (s::ρ)).bind _=_
 congr 1;funext b;cases b<;>rfl
theorem Lu (h:az->R Bool) (ρ:az) (b:Bool):U0 h ρ b=bif b then h ρ else .ok false:=id rfl
theorem Qh (h:az->R Bool) (ρ:az) (b:Bool):WA h ρ b=bif b then .ok true else h ρ:=id rfl
def Qi:Bool->R D:=fun b=>.ok (.bool (!b))
theorem Lv (g:az->R D):CC g (s::ρ)=((g (s::ρ)).bind OS).bind Qi:=id rfl
theorem Gs (b:Bool):Qi b=.ok (.bool (!b)):=id rfl
def Qj (h:az->R D) (ρ:az):Bool->R D:=fun b=>bif b then h ρ else .ok (.bool false)
theorem Lw (g h:az->R D):vH g h (s::ρ)=((g (s::ρ)).bind OS).bind (Qj h (s::ρ)):=by
 show (ik g (s::ρ)).bind _=(ik g (s::ρ)).bind _
 congr 1;funext b;cases b<;>rfl
theorem Gu (h:az->R D) (ρ:az) (b:Bool):Qj h ρ b=bif b then h ρ else .ok (.bool false):=id rfl
def U2 (gb gc:az->R D) (h h':D->D->R D) (ρ:az):D->R D:=fun x=>(gb ρ).bind fun y=>(h x y).bind fun z=>match z with
 | .bool true=>(gc ρ).bind fun w=>h' y w
 | .bool false=>.ok (.bool false)
 | _=>.no
def U3 (gc:az->R D) (h h':D->D->R D) (ρ:az) (x:D):D->R D:=fun y=>(h x y).bind fun z=>match z with
 | .bool true=>(gc ρ).bind fun w=>h' y w
 | .bool false=>.ok (.bool false)
 | _=>.no
def U4 (gc:az->R D) (h':D->D->R D) (ρ:az) (y:D):D->R D:=fun z=>match z with
 | .bool true=>(gc ρ).bind (h' y)
 | .bool false=>.ok (.bool false)
 | _=>.no
theorem Gv (ga gb gc:az->R D) (h h':D->D->R D):pW ga gb gc h h' (s::ρ)=(ga (s::ρ)).bind (U2 gb gc h h' (s::ρ)):=id rfl
theorem Lx (gb gc:az->R D) (h h':D->D->R D) (ρ:az) (x:D):U2 gb gc h h' ρ x=(gb ρ).bind (U3 gc h h' ρ x):=id rfl
theorem Ly (gc:az->R D) (h h':D->D->R D) (ρ:az) (x y:D):U3 gc h h' ρ x y=(h x y).bind (U4 gc h' ρ y):=id rfl
theorem Lz (gc:az->R D) (h':D->D->R D) (ρ:az) (y:D) (b:Bool):U4 gc h' ρ y (.bool b)=bif b then (gc ρ).bind (h' y) else .ok (.bool false):=by cases b<;>rfl
def LA (gs:az->R (List D)) (ρ:az):D->R (List D):=fun d=>(gs ρ).bind fun ds=>.ok (d::ds)
def LB (d:D):List D->R (List D):=fun ds=>.ok (d::ds)
theorem LC (g:az->R D) (gs:az->R (List D)):J.ag g gs (s::ρ)=(g (s::ρ)).bind (LA gs (s::ρ)):=id rfl
theorem D1 (gs:az->R (List D)) (ρ:az) (d:D):LA gs ρ d=(gs ρ).bind (LB d):=id rfl
theorem D2 (d:D) (ds:List D):LB d ds=.ok (d::ds):=id rfl
theorem Qk (ρ:az):J.aT ρ=.ok []:=id rfl
def Ql (k:List D->D):List D->R D:=fun ds=>if ds.length<=1000 then .ok (k ds) else .no
theorem LD (gs:az->R (List D)) (k:List D->D):fg gs k (s::ρ)=(gs (s::ρ)).bind (Ql k):=id rfl
theorem Gw (k:List D->D) (ds:List D):Ql k ds=if ds.length<=1000 then .ok (k ds) else .no:=id rfl
theorem LF (gs:az->R (List D)) (h:List D->R D):cx gs h (s::ρ)=(gs (s::ρ)).bind h:=id rfl
def WB (n:Nat) (F:List D->R D):List D->R D:=fun ds=>if ds.length=n then F ds else .no
theorem U5 (n:Nat) (F:List D->R D) (gs:az->R (List D)):gZ n F gs (s::ρ)=(gs (s::ρ)).bind (WB n F):=id rfl
theorem Qm (n:Nat) (F:List D->R D) (ds:List D):WB n F ds=if ds.length=n then F ds else .no:=id rfl
theorem Qn (h:D->R D) (d:D):iZ h [d]=h d:=id rfl
theorem LG (d:D) (ρ:az):Ed (.shr d::ρ) 0=.ok d:=id rfl
theorem Qo (s:Sl) (ρ:az) (n:Nat):Ed (s::ρ) (n + 1)=Ed ρ n:=by simp [Ed]
theorem LH (d:D) (ρ:az):CB (.shr d::ρ) 0=.ok d:=id rfl
theorem LI (d:D) (ρ:az):CB (.own d::ρ) 0=.ok d:=id rfl
theorem LJ (d:D) (ρ:az):CB (.lck d::ρ) 0=.ok d:=id rfl
theorem Qp (s:Sl) (ρ:az) (n:Nat):CB (s::ρ) (n + 1)=CB ρ n:=by simp [CB]
def U6 (T:String):D->R D:=fun d=>if ua d then .ok (.bool (CH T d)) else .no
theorem Qq (g:az->R D) (T:String):yV g T (s::ρ)=(g (s::ρ)).bind (U6 T):=id rfl
theorem LK (T:String) (d:D):U6 T d=if ua d then .ok (.bool (CH T d)) else .no:=id rfl
def U7 (gl gh:az->R (Option Int)) (ρ:az):D->R D:=fun x=>(gl ρ).bind fun l=>(gh ρ).bind fun h=>Gg x l h
def U8 (gh:az->R (Option Int)) (ρ:az) (x:D):Option Int->R D:=fun l=>(gh ρ).bind fun h=>Gg x l h
theorem U9 (g:az->R D) (gl gh:az->R (Option Int)):Q5 g gl gh (s::ρ)=(g (s::ρ)).bind (U7 gl gh (s::ρ)):=id rfl
theorem LL (gl gh:az->R (Option Int)) (ρ:az) (x:D):U7 gl gh ρ x=(gl ρ).bind (U8 gh ρ x):=id rfl
theorem LM (gh:az->R (Option Int)) (ρ:az) (x:D) (l:Option Int):U8 gh ρ x l=(gh ρ).bind (Gg x l):=id rfl
theorem Qr (ρ:az):Sz ρ=.ok none:=id rfl
def Ua:D->R (Option Int):=fun d=>match d with
 | .int i=>.ok (some i)
 | _=>.no
theorem Qs (g:az->R D):OF g (s::ρ)=(g (s::ρ)).bind Ua:=id rfl
theorem LN (i:Int):Ua (.int i)=.ok (some i):=id rfl
theorem RM (g:az->R D):ll g (s::ρ)=(g (s::ρ)).bind xo:=id rfl
theorem LO (gs:az->R (List D)):zL gs (s::ρ)=(gs (s::ρ)).bind F3:=id rfl
theorem Qt (gs:az->R (List D)):F4 gs (s::ρ)=(gs (s::ρ)).bind V1:=id rfl
theorem Qu (gs:az->R (List D)):OK gs (s::ρ)=(gs (s::ρ)).bind zp:=id rfl
def Qv (nt:Nat) (ix:List Nat) (gt:az->R Bool) (ge:az->R D) (ρ:az):List D->R D:=fun ds=>if ds.length<=1000 then (gM (iQ nt (nD nt ix ρ) gt ge) ds).bind fun ys=>.ok (.list ys) else .no
def Qw:List D->R D:=fun ys=>.ok (.list ys)
theorem LP (nt:Nat) (ix:List Nat) (gi:az->R (List D)) (gt:az->R Bool) (ge:az->R D):fV nt ix gi gt ge (s::ρ)=(gi (s::ρ)).bind (Qv nt ix gt ge (s::ρ)):=id rfl
theorem Gx (nt:Nat) (ix:List Nat) (gt:az->R Bool) (ge:az->R D) (ρ:az) (ds:List D):Qv nt ix gt ge ρ ds=if ds.length<=1000 then (gM (iQ nt (nD nt ix ρ) gt ge) ds).bind Qw else .no:=id rfl
theorem Gy (ys:List D):Qw ys=.ok (.list ys):=id rfl
theorem uh (gi:az->R (List D)) (kt:D->az->R az) (gb:az->R Fl) (ds:List D) (h:gi (s::ρ)=.ok ds):pi gi kt gb (s::ρ)=l5 kt gb ds (s::ρ):=by unfold pi;rw [h]
def LQ (k:D->az->R az) (ρ:az):D->R Fl:=fun d=>match k d ρ with
 | .ok ρ'=>.ok (.nx ρ')
 | _=>.no
theorem Qx (g:az->R D) (k:D->az->R az):AZ g k (s::ρ)=(g (s::ρ)).bind (LQ k (s::ρ)):=id rfl
theorem zM (ds:List D):xo (.list ds)=.ok ds:=id rfl
theorem zN (ds:List D):xo (.tuple ds)=.ok ds:=id rfl
theorem zO (x:Str):xo (.str x)=.ok (mZ x):=id rfl
theorem LR (ds:List D):V1 [.tuple ds]=.ok (oZ 0 ds):=id rfl
theorem Ub (ds es:List D):zp [.tuple ds,.tuple es]=.ok (wk ds es):=id rfl
def zP (ρ:az) (i:Nat):Sl:=Nx ((ρ[i]?).getD .no)
def LS (ix:List Nat) (ρ:az):az:=ix.map (zP ρ)
theorem LU (ix:List Nat) (ρ:az):nD 1 ix ρ=.no::LS ix ρ:=id rfl
theorem LV (ix:List Nat) (ρ:az):nD 2 ix ρ=.no::.no::LS ix ρ:=id rfl
theorem LW (ρ:az):LS [] ρ=[]:=id rfl
theorem LX (i:Nat) (ix:List Nat) (ρ:az):LS (i::ix) ρ=zP ρ i::LS ix ρ:=id rfl
theorem LY (s:Sl) (ρ:az):zP (s::ρ) 0=Nx s:=id rfl
theorem L_ (s:Sl) (ρ:az) (n:Nat):zP (s::ρ) (n + 1)=zP ρ n:=by simp [zP]
theorem zQ (d:D):Nx (.shr d)=.shr d:=id rfl
theorem zR (d:D):Nx (.own d)=.lck d:=id rfl
theorem Ba   (h:ρ[i]?=some (Sl.own d)):shareAt i ρ=ρ.set i (.shr d):=by unfold shareAt;rw [h]
theorem e6 {α:Type} (f:D->R (Option D)) (c:α->D) (h:α->D):∀ (xs:List α),(∀ x∈xs,f (c x)=.ok (some (h x)))->gM f (xs.map c)=.ok (xs.map h)
 | [],_=>rfl
 | x::r,e=>by
  rw [aw,aw]
  unfold gM
  rw [e x am,bind_ok,e6 f c h r fun y hy=>e y (ah _ hy),bind_ok]
theorem gT {α:Type} (f:D->R (Option D)) (c:α->D) (h:α->D) (p:α->Bool):∀ (xs:List α),(∀ x∈xs,f (c x)=.ok (if p x then some (h x) else none))->gM f (xs.map c)=.ok ((xs.filter p).map h)
 | [],_=>rfl
 | x::r,e=>by
  rw [aw]
  unfold gM
  rw [e x am,bind_ok,gT f c h p r fun y hy=>e y (ah _ hy),bind_ok]
  cases hp:p x<;>simp [hp]
theorem Qy    : iQ 1 ρ gt ge d=IC (((gt (ρ.set 0 (.shr d)))).bind fun b=>if b then (ge (ρ.set 0 (.shr d))).bind fun y=>.ok (some y) else .ok none):=id rfl
theorem gD    (h1:gt (ρ.set 0 (.shr d))=.ok true) (h2:ge (ρ.set 0 (.shr d))=.ok y):iQ 1 ρ gt ge d=.ok (some y):=by
 rw [Qy,h1,bind_ok,if_pos rfl,h2];rfl
theorem qG     (h1:gt (ρ.set 0 (.shr d))=.ok b) (h2:b=true->ge (ρ.set 0 (.shr d))=.ok y):iQ 1 ρ gt ge d=.ok (if b then some y else none):=by
 rw [Qy,h1,bind_ok]
 cases b with
 | true=>rw [if_pos rfl,h2 rfl];rfl
 | false=>rfl
theorem OT (h1:-(2 ^ 62)<=j) (h2:j<2 ^ 62):F3 [.int j]=.ok (p_ 0 j.toNat):=by
 have h:-(2 ^ 62)<=j/\j<2 ^ 62:=⟨h1,h2⟩
 unfold F3
 split
 ·rename_i j' e
  have e':j=j':=by injection e with e;injection e
  subst e'
  rw [if_pos h]
 ·rename_i hn
  exact (hn j rfl).elim
end
end
end J
section
namespace L2
open PySem PySem.Spec PyProof.Rows
end L2
namespace J
open PySem L2
open PyProof.Rows (envOfC)
section
variable {c:C}{e a b:aX}{g ga gb:az->R D}{pos rpos:Pos}{es:List aX}{gs:az->R (List D)}{x y:Str}{p q:Pos}
end
section
variable {c:C}{body:List dz}{x n:Str}{np np2 np3 hpos cpos rpos pos:Pos}{gb:az->R Fl}{names:List Str}{wh:Str->Option Nat}
end
theorem WJ {α:Type}{us:List α} (h:us.length=1):∃ a,us=[a]:=by
 rcases us with _ | ⟨a0,_ | ⟨z,r⟩⟩
 ·simp at h
 ·exact ⟨_,rfl⟩
 ·simp at h
theorem WK {α:Type}{us:List α} (h:us.length=2):∃ a b,us=[a,b]:=by
 rcases us with _ | ⟨a0,_ | ⟨a0,_ | ⟨z,r⟩⟩⟩
 ·simp at h
 ·simp at h
 ·exact ⟨_,_,rfl⟩
 ·simp at h
theorem WL {α:Type}{us:List α} (h:us.length=3):∃ a b c,us=[a,b,c]:=by
 rcases us with _ | ⟨a0,_ | ⟨a0,_ | ⟨a0,_ | ⟨z,r⟩⟩⟩⟩
 ·simp at h
 ·simp at h
 ·simp at h
 ·exact ⟨_,_,_,rfl⟩
 ·simp at h
theorem WM {α:Type}{us:List α} (h:us.length=4):∃ a b c d,us=[a,b,c,d]:=by
 rcases us with _ | ⟨a0,_ | ⟨a0,_ | ⟨a0,_ | ⟨a0,_ | ⟨z,r⟩⟩⟩⟩⟩
 ·simp at h
 ·simp at h
 ·simp at h
 ·simp at h
 ·exact ⟨_,_,_,_,rfl⟩
 ·simp at h
theorem WN {α:Type}{us:List α} (h:us.length=5):∃ a b c d e,us=[a,b,c,d,e]:=by
 rcases us with _ | ⟨a0,_ | ⟨a0,_ | ⟨a0,_ | ⟨a0,_ | ⟨a0,_ | ⟨z,r⟩⟩⟩⟩⟩⟩
 ·simp at h
 ·simp at h
 ·simp at h
 ·simp at h
 ·simp at h
 ·exact ⟨_,_,_,_,_,rfl⟩
 ·simp at h
end J
end
namespace J
open PySem L2
section
section
variable {c:C}{e a b l tg:aX}{g ga gb:az->R D}{pos p:Pos}{gs:az->R (List D)}{es:List aX}{x:Str}
end
end
end J
section
namespace HT
open PySem PyProof.Rows
section
open PySem.SeqAt
open PySem.AutoSeq1 (wpAny_loadPart')
open PySem.MeetsSeq PySem.MeetsSeq2 PySem.MeetsSeq3
variable {prog:aH}{w:aZ}{A:aU}{E:aa->ae->Prop}{s:ae}
end
end HT
namespace L2
open PySem PySem.Spec PyProof.Rows
section
variable {X:Cx}{e st:aX}{te ts:TE}{pos p2:Pos}
end
end L2
namespace J
open PySem L2
section
variable {c:C}{e:aX}{g:az->R D}{pos p2 p3 p4:Pos}
end
end J
end
section
namespace L2
open PySem
def JH (mask:Nat):Nat->Nat×Nat->Nat×Nat
 | 0,x=>x
 | n + 1,x=>JH mask n (SetTable.leap mask x.1 x.2)
theorem Gz (mask:Nat):∀ (n m:Nat) (x:Nat×Nat),JH mask (n + m) x=JH mask m (JH mask n x)
 | 0,m,x=>by rw [dW];rfl
 | n + 1,m,x=>by
  rw [Nat.succ_add]
  exact Gz mask n m _
theorem GA (mask:Nat):∀ (n:Nat) (x:Nat×Nat),(JH mask n x).2=x.2 / 32 ^ n
 | 0,x=>by simp [JH]
 | n + 1,x=>by
  show (JH mask n _).2=_
  rw [GA mask n]
  show x.2 / 32 / 32 ^ n=_
  rw [Nat.div_div_eq_div_mul,Nat.pow_succ,Eu]
theorem GB (mask:Nat):∀ (n:Nat) (x:Nat×Nat),x.1<=mask->(JH mask n x).1<=mask
 | 0,x,h=>h
 | n + 1,x,h=>GB mask n _ (by
  show (x.1 * 5 + 1 + x.2 / 32) % (mask + 1)<=mask
  exact vW (Ap _ (Ev _)))
theorem zS  : ∀ (fuel i p:Nat),dq mask owner fuel i p=none->∀ n,n<fuel->(owner.getD (JH mask n (i,p)).1 (some 0)).isSome=true
 | 0,_,_,_,n,h=>absurd h (lO n)
 | fuel + 1,i,p,e,n,h=>by
  unfold dq at e
  split at e
  ·cases e
  ·rename_i hf
   cases n with
   | zero =>
    have h0:=List.find?_eq_none.mp hf 0 (List.mem_range.mpr (by unfold SetTable.runEnd;split<;>omega))
    simp only [mi] at h0
    show (owner.getD i (some 0)).isSome=true
    cases q:owner.getD i (some 0) with
    | none=>rw [q] at h0;exact absurd rfl h0
    | some _=>rfl
   | succ n=>exact zS fuel _ _ e n (Ew h)
theorem zT  : ∀ (fuel i p k:Nat),dq mask owner fuel i p=some k->owner.getD k (some 0)=none
 | 0,_,_,_,e=>nomatch e
 | fuel + 1,i,p,k,e=>by
  unfold dq at e
  split at e
  ·rename_i k' hf
   cases e
   have:=List.find?_some hf
   cases q:owner.getD (i + k') (some 0) with
   | none=>rfl
   | some _=>rw [q] at this;cases this
  ·exact zT fuel _ _ k e
def JJ (mask:Nat):Prop:=mask=7\/mask=15\/mask=31
def Uc (mask:Nat):Bool:=(bD (mask + 1)).all fun i=>(bD (mask + 1)).all fun j=>(bD (mask + 1)).any fun n=>decide ((JH mask n (i,0)).1=j)
theorem OU (h:JJ mask):Uc mask=true:=by
 rcases h with h | h | h<;>subst h<;>decide +kernel
theorem getD_none {owner:Array (Option Nat)}{k:Nat} (h:owner.getD k (some 0)=none):owner.toList[k]?=some none:=by
 by_cases hk:k<owner.size
 ·rw [ii,bt hk] at h
  rw [aE,bt hk]
  simpa using h
 ·rw [ii,cj (by omega)] at h
  cases h
theorem IG {mask:Nat} (hm:JJ mask) {owner:Array (Option Nat)}{j:Nat} (hj:j<=mask) (hn:owner.toList[j]?=some none) {i p:Nat} (hi:i<=mask) (hp:p<2 ^ 64) :
  ∃ k,dq mask owner (pz mask) i p=some k/\owner.toList[k]?=some none:=by
 cases e:dq mask owner (pz mask) i p with
 | some k=>exact ⟨k,rfl,getD_none (zT _ _ _ _ e)⟩
 | none =>
  exfalso
  have hz:(JH mask 13 (i,p)).2=0:=by
   rw [GA]
   exact Nat.div_eq_of_lt (aA hp (by decide))
  have h1:=GB mask 13 (i,p) hi
  have g:=OU hm
  unfold Uc at g
  rw [cg] at g
  have g:=g _ (List.mem_range.mpr (jW h1))
  rw [cg] at g
  have g:=g j (List.mem_range.mpr (jW hj))
  rw [kQ] at g
  obtain ⟨n,hn1,hn2⟩:=g
  have hn1:=List.mem_range.mp hn1
  have hn2:=of_decide_eq_true hn2
  have hs:(JH mask (13 + n) (i,p)).1=j:=by
   rw [Gz,<- hn2,<- hz]
  have:=zS _ _ _ e (13 + n) (by unfold pz;omega)
  rw [hs] at this
  have hq:owner.getD j (some 0)=none:=by
   rw [aE] at hn
   rw [ii,hn]
   rfl
  rw [hq] at this
  cases this
theorem OV (h:Int):mz h<2 ^ 64:=by
 unfold mz
 have:=mV h (show (0:Int)<2 ^ 64 by decide)
 have:=qv h (show (2 ^ 64:Int)≠0 by decide)
 omega
theorem D3:∀ {l:List (Option Nat)}{j:Nat},l[j]?=some none->((l.set j (some k)).filterMap id).Perm (k::l.filterMap id)
 | [],_,h=>nomatch h
 | x::r,0,h=>by
  cases h
  exact .refl _
 | x::r,j + 1,h=>by
  have ih:=D3 (k:=k) (l:=r) (j:=j) h
  cases x with
  | none=>exact ih
  | some y=>exact (ih.cons y).trans (.swap k y _)
theorem D4:∀ {l:List (Option Nat)},(l.filterMap id).length<l.length->∃ j,j<l.length/\l[j]?=some none
 | [],h=>absurd h (bP 0)
 | none::r,_=>⟨0,Ev _,rfl⟩
 | some y::r,h=>by
  obtain ⟨j,h1,h2⟩:=D4 (l:=r) (Ew h)
  exact ⟨j + 1,Nat.succ_lt_succ h1,h2⟩
def GC (mask:Nat) (acc:Option (Array (Option Nat)×Nat)) (h:Int):Option (Array (Option Nat)×Nat):=acc.bind fun x=>(dq mask x.1 (pz mask) (mz h % (mask + 1)) (mz h)).bind fun j=>some (x.1.setIfInBounds j (some x.2),x.2 + 1)
theorem D5 (mask:Nat) (hs:Array Int):tw mask hs=(hs.toList.foldl (GC mask) (some (wV (mask + 1) none,0))).map (·.1):=by
 rw [Array.foldl_toList]
 rfl
theorem GD (hm:JJ mask):∀ (l:List Int) (owner:Array (Option Nat)) (k:Nat),owner.size=mask + 1->(owner.toList.filterMap id).Perm (bD k)->k + l.length<=mask ->
  ∃ o',l.foldl (GC mask) (some (owner,k))=some (o',k + l.length)/\o'.size=mask + 1/\(o'.toList.filterMap id).Perm (bD (k + l.length))
 | [],owner,k,h1,h2,_=>⟨owner,rfl,h1,h2⟩
 | h::r,owner,k,h1,h2,h3=>by
  simp only [bw] at h3 ⊢
  obtain ⟨j,j1,j2⟩:=D4 (l:=owner.toList) (by rw [h2.length_eq,eL,ao,h1];omega)
  rw [ao,h1] at j1
  obtain ⟨m,m1,m2⟩:=IG hm (vW j1) j2 (i:=mz h % (mask + 1)) (vW (Ap _ (Ev _))) (OV h)
  have e:GC mask (some (owner,k)) h=some (owner.setIfInBounds m (some k),k + 1):=by
   unfold GC
   simp only [vB,m1]
  rw [cY,e]
  obtain ⟨o',a1,a2,a3⟩:=GD hm r (owner.setIfInBounds m (some k)) (k + 1) (by rw [As];exact h1) (by
   rw [yH]
   refine (D3 m2).trans ?_
   rw [List.range_succ]
   exact ((h2.cons k).trans (List.perm_append_singleton k _).symm)) (by omega)
  rw [show k + 1 + r.length=k + (r.length + 1) by omega] at a1 a3
  exact ⟨o',a1,a2,a3⟩
theorem GE {n:Nat}{o:Array (Option Nat)} (h:o.size=n):(bD n).filterMap (fun j=>o.getD j none)=o.toList.filterMap id:=by
 have e:(bD n).map (fun j=>o.getD j none)=o.toList:=by
  refine wv (by simp [h]) fun i h1 h2=>?_
  simp only [ak,eL] at h1
  rw [kR,JD,ii,bt (by omega)]
  simp
 rw [<- e,ms]
 rfl
theorem GF {mask finger moves:Nat}{led plain:Bool}{hs:Array Int} (hm:JJ mask) (hl:hs.size<=mask):∃ place order,yq mask finger moves led plain hs=some ({ mask,place,dummies:=#[],finger,led,moves,plain },order)/\place.size=hs.size/\order.toList.Perm (bD hs.size):=by
 obtain ⟨o,h1,h2,h3⟩:=GD hm hs.toList (wV (mask + 1) none) 0 (by simp) (by
  have:(wV (mask + 1) (none:Option Nat)).toList.filterMap id=[]:=by
   rw [Array.toList_replicate,List.filterMap_eq_nil_iff]
   intro x hx
   rw [(List.mem_replicate.mp hx).2]
   rfl
  rw [this]
  exact .refl _) (by rw [ao];omega)
 have hc:tw mask hs=some o:=by
  rw [D5,h1]
  rfl
 rw [dW,ao] at h3
 refine ⟨_,_,by unfold yq;rw [hc];rfl,?_,?_⟩
 ·have e:=congrArg iL (GE h2)
  rw [h3.length_eq,eL] at e
  rw [aQ,ak,<- e]
  rw [vX,vX]
  congr 1
  funext j
  cases o.getD j none<;>rfl
 ·rw [List.map_filterMap]
  refine .trans (.of_eq ?_) h3
  rw [<- GE h2]
  show List.filterMap _ _=List.filterMap _ _
  congr 1
  funext j
  cases o.getD j none<;>rfl
end L2
namespace L2
open PySem
section
variable {P:aH}{w:aZ}{A:aU}{E:aa->ae->Prop}{s:ae}
theorem M0:∀ n:_root_.Fin 31,n.val<cm n.val/\(cm n.val=8\/cm n.val=16\/cm n.val=32):=by decide +kernel
theorem M1 (h:n<=30):n<=cm n - 1/\JJ (cm n - 1)/\cm n<=32:=by
 obtain ⟨h1,h2⟩:=M0 ⟨n,by omega⟩
 simp only at h1 h2
 unfold JJ
 omega
theorem xE {es:Array (Int×aa)}{order:Array Nat} (h:order.toList.Perm (bD es.size)):(order.filterMap (es[·]?)).toList.Perm es.toList:=by
 rw [Array.toList_filterMap]
 refine (h.filterMap _).trans (.of_eq ?_)
 have e:(bD es.size).map (fun i=>es[i]?)=es.toList.map some:=by
  refine wv (by simp) fun i h1 h2=>?_
  simp only [ak,eL] at h1
  rw [kR,JD,kR,Array.getElem_toList]
  exact bt h1
 have e2:(bD es.size).filterMap (fun i=>es[i]?)=((bD es.size).map (fun i=>es[i]?)).filterMap id:=by rw [ms];rfl
 rw [e2,e,ms]
 simp
theorem cR.of     (I:cR w h a es ep t) (p:es'.toList.Perm es.toList) (f:t'.fits es'.size=true) (l:t'.led=t.led) (pl:t'.plain=t.plain):cR w (h.update a (pI es' t')) a es' (ep + 1) t':=by
 have sz:es'.size=es.size:=by rw [<- ao,p.length_eq,ao]
 refine ⟨qz I,fun e he=>I.txt e (p.mem_iff.mp he),(p.map jP).nodup_iff.mpr I.nd,by rw [sz];exact I.few,f,l.trans I.led,?_⟩
 rw [sz,pl]
 exact I.pl
theorem xF {t:j9}{n:Nat} (h:t.fits n=true):t.place.size=n/\t.fill<=t.mask:=by
 unfold mw at h
 rw [aO] at h
 exact ⟨eq_of_beq h.1,of_decide_eq_true h.2⟩
theorem GG {mask finger moves:Nat}{led plain:Bool}{place:Array Nat}{n:Nat} (h:place.size=n) (hm:n<=mask):mw { mask,place,dummies:=#[],finger,led,moves,plain } n=true:=by
 unfold mw JZ
 subst h
 simp only [beq_self_eq_true,tQ,decide_eq_true_eq]
 exact hm
theorem F8 {a:ai}{es:Array (Int×aa)}{ep:Nat}{t:j9}{wanted:Nat}{Q:Unit->ae->Prop} (I:cR w s.heap a es ep t) (hw:wanted<=30) (hz:es.size<=wanted)
  (h:∀ h' es' ep' t',bJ a s.heap h'->cR w h' a es' ep' t'->es'.toList.Perm es.toList->JJ t'.mask->wanted<=t'.mask->Q () { s with heap:=h' }):au (ay P w) A (setRelay a wanted) Q E s:=by
 obtain ⟨w1,w2,w3⟩:=M1 hw
 obtain ⟨place,order,e,hp,ho⟩:=GF (finger:=t.finger) (moves:=t.movedTo (cm wanted - 1)) (led:=t.led) (plain:=t.plain) (hs:=es.map (·.1)) w2 (by rw [jN];omega)
 rw [jN] at hp ho
 have pm:=xE ho
 have sz:(order.filterMap (es[·]?)).size=es.size:=by rw [<- ao,pm.length_eq,ao]
 unfold setRelay
 refine a7 (bx I.at_ rfl I.fits ?_)
 show au _ _ (if cm wanted > sizeLine then _ else _) _ _ s
 have h32:(32:Nat)<=sizeLine:=by decide
 rw [if_neg (by omega)]
 refine a7 ?_
 unfold HC
 rw [e]
 show au _ _ (if ((order.filterMap (es[·]?)).size != es.size)=true then _ else pure (order.filterMap (es[·]?),_)) _ _ s
 rw [if_neg (by rw [sz];simp)]
 refine a9 ?_
 have fit:mw { mask:=cm wanted - 1,place,dummies:=#[],finger:=t.finger,led:=t.led,moves:=t.movedTo (cm wanted - 1),plain:=t.plain } (order.filterMap (es[·]?)).size=true:=GG (by rw [sz];exact hp) (by rw [sz];omega)
 refine iV I.at_ rfl ?_ (by rw [sz];exact e_ I.few)
 exact h _ _ _ _ (bG s.heap a _) (I.of pm fit rfl rfl) pm w2 w1
theorem Bb {a:ai}{es:Array (Int×aa)}{ep:Nat}{t:j9}{more:Nat}{Q:Unit->ae->Prop} (I:cR w s.heap a es ep t) (hz:es.size + more<=15) (hm:es.size≠0\/JJ t.mask)
  (h:∀ h' es' ep' t',bJ a s.heap h'->cR w h' a es' ep' t'->es'.toList.Perm es.toList->(es.size≠0\/JJ t'.mask)->more<=t'.mask->Q () { s with heap:=h' }):au (ay P w) A (setRoomFor a more) Q E s:=by
 obtain ⟨f1,f2⟩:=xF I.fits
 unfold setRoomFor
 refine a7 (bx I.at_ rfl I.fits ?_)
 dsimp only
 unfold SetTable.roomFor
 by_cases hc:(t.fill + more) * 5 ≥ t.mask * 3
 ·rw [if_pos hc]
  refine F8 I (by rw [f1];omega) (by rw [f1];omega) fun h' es' ep' t' a1 a2 a3 a4 a5=>?_
  exact h h' es' ep' t' a1 a2 a3 (.inr a4) (by rw [f1] at a5;omega)
 ·rw [if_neg hc]
  exact a9 (h s.heap es ep t (.refl ..) I (.refl _) hm (by omega))
end
end L2
namespace L2
open PySem
theorem wI {α σ:Type}{M:yu}{A:aU}{E:aa->ae->Prop}{Q:σ->ae->Prop}{f:α->σ->Sem (ForInStep σ)}{b:σ} (I:List α->ae->Prop)
  (step:∀ x r s,I (x::r) s->au M A (f x b) (fun st s'=>st=.yield b/\I r s') E s) (fin:∀ s,I [] s->Q b s):∀ (l:List α) (s:ae),I l s->au M A (forIn l b f) Q E s
 | [],s,h=>by rw [mv];exact a9 (fin s h)
 | x::r,s,h=>by
  rw [jq]
  refine a7 (bH (step x r s h) (fun st s' q=>?_) fun _ _ e=>e)
  obtain ⟨rfl,q⟩:=q
  exact wI I step fin r s' q
section
variable {P:aH}{w:aZ}{A:aU}{E:aa->ae->Prop}{s:ae}
theorem D6  (h:∀ a∈l,∃ es ep t,cR w s.heap a es ep t) (q:Q true s):au (ay P w) A (setsQuiet l) Q E s:=by
 unfold setsQuiet
 refine a7 (wI (fun r s'=>s'=s/\∀ a∈r,∃ es ep t,cR w s.heap a es ep t) (fun a r s' hI=>?_) (fun s' hI=>?_) l s ⟨rfl,h⟩)
 ·obtain ⟨rfl,hI⟩:=hI
  obtain ⟨es,ep,t,I⟩:=hI a am
  unfold setEntries
  refine a7 (a7 (bx I.at_ rfl I.fits (a9 ?_)))
  dsimp only
  rw [<- HI]
  refine a7 (wI (fun r2 s2=>s2=s'/\∀ e∈r2,su w e) (fun e r2 s2 h2=>?_) (fun s2 h2=>?_) es.toList s' ⟨rfl,I.txt⟩)
  ·obtain ⟨rfl,h2⟩:=h2
   obtain ⟨x,tk,rfl⟩:=h2 e am
   exact a9 ⟨rfl,rfl,fun e he=>h2 e (ah _ he)⟩
  ·obtain ⟨rfl,_⟩:=h2
   exact a9 ⟨rfl,rfl,fun b hb=>hI b (ah _ hb)⟩
 ·obtain ⟨rfl,_⟩:=hI
  exact a9 q
theorem IH     (I:cR w s.heap o es ep t) (hb:w.params.followText "set-order"=true\/t.plain=true\/es.size<=1)
  (q:∀ es',es'.toList.Perm es.toList->Q es' s):au (ay P w) A (setWalk o) Q E s:=by
 unfold setWalk
 refine a7 (bx I.at_ rfl I.fits (a7 (eT ?_)))
 cases hw:w.params.followText "set-order" with
 | true =>
  simp only [if_true]
  exact a7 (hX (a9 (q _ (uZ _ _))))
 | false =>
  simp only [bv,if_false]
  have hd:(!t.plain && decide (es.size > 1))=false:=by
   rcases hb with h | h | h
   ·rw [hw] at h;cases h
   ·rw [h];rfl
   ·rw [decide_eq_false (by omega),rF]
  have hl:t.led=true:=by rw [I.led,hw];rfl
  show au _ _ (if (!t.plain && decide (es.size > 1))=true then _ else _) _ _ s
  rw [hd,if_neg bu]
  refine a7 ?_
  show au _ _ (if (!t.led && decide (es.size > 1))=true then _ else pure ()) _ _ s
  rw [hl,if_neg (by simp)]
  exact a9 (a9 (q _ (.refl _)))
theorem wn     (I:cR w s.heap o eo epo to) (J:cR w s.heap a es ep t)
  (q:∀ h' es' ep' t',bJ a s.heap h'->cR w h' a es ep' t'->es'.toList.Perm eo.toList->Q es' { s with heap:=h' }):au (ay P w) A (setWalkUnseen o [a] (some a)) Q E s:=by
 unfold setWalkUnseen
 refine a7 (bx I.at_ rfl I.fits (a7 (eT ?_)))
 cases hc:(w.params.followText "set-order" || to.led && to.plain || decide (eo.size<=1)) with
 | true =>
  rw [if_pos rfl]
  refine IH I ?_ fun es' p=>q s.heap es' ep t (.refl ..) J p
  rw [ju,ju,aO,decide_eq_true_eq] at hc
  rcases hc with (h | h) | h
  ·exact .inl h
  ·exact .inr (.inl h.2)
  ·exact .inr (.inr h)
 | false =>
  rw [if_neg bu]
  rw [FW,FW,decide_eq_false_iff_not] at hc
  obtain ⟨⟨c1,_⟩,c3⟩:=hc
  refine a7 (D6 (fun b hb=>?_) ?_)
  ·rcases List.mem_cons.mp hb with h | h
   ·rw [h];exact ⟨_,_,_,I⟩
   ·rw [List.mem_singleton.mp h];exact ⟨_,_,_,J⟩
  rw [if_neg (by simp)]
  refine a7 (cU ?_)
  dsimp only
  refine a7 (bx J.at_ rfl J.fits ?_)
  dsimp only
  have hpl:to.plain=false:=I.pl.resolve_left (by omega)
  have hled:(t.led && to.led)=t.led:=by rw [I.led,J.led,nP]
  split
  ·refine a7 (iV J.at_ rfl ?_ (e_ J.few))
   refine a9 (q _ _ _ _ (bG s.heap a _) (⟨qz J,J.txt,J.nd,J.few,?_,?_,?_⟩:cR w _ a es (ep + 1) _) (.refl _))
   ·exact J.fits
   ·exact hled.trans J.led
   ·exact .inr (by show (t.plain && to.plain)=false;rw [hpl,rF])
  ·exact a9 (q s.heap eo ep t (.refl ..) J (.refl _))
end
end L2
namespace L2
open PySem
section
variable {P:aH}{w:aZ}{A:aU}{E:aa->ae->Prop}{s:ae}
theorem cR.but     (I:cR w h o eo epo to) (ne:a≠o) (sb:bJ a h h'):cR w h' o eo epo to:=I.keep fun _ e=>(sb.2 o (cQ ne)).trans e
theorem xG {a o:ai}{es eo:Array (Int×aa)}{ep epo:Nat}{t to:j9}{each:Sem Unit}{Q:Unit->ae->Prop} (ne:a≠o) (J:cR w s.heap a es ep t) (I:cR w s.heap o eo epo to)
  (hz:es.size + eo.size<=15) (hm:es.size≠0\/JJ t.mask) (he:∀ (s':ae) (Q':Unit->ae->Prop),cR w s'.heap o eo epo to->Q' () s'->au (ay P w) A each Q' E s')
  (q:∀ h' tk' es' ep' t',bJ a s.heap h'->cR w h' a es' ep' t'->(∀ x,x∈es'.toList.map jP↔x∈es.toList.map jP\/x∈eo.toList.map jP)->(es'.size≠0\/JJ t'.mask)->Q () { s with heap:=h',toks:=tk' }) :
  au (ay P w) A (setMerge a o each) Q E s:=by
 unfold setMerge
 rw [if_neg (by simpa using ne)]
 refine a7 (bx I.at_ rfl I.fits ?_)
 dsimp only
 by_cases h0:eo.size=0
 ·rw [if_pos (by simpa [Array.isEmpty] using h0)]
  have e0:eo=#[]:=kw h0
  exact a9 (q s.heap s.toks es ep t (.refl ..) J (fun x=>by rw [e0];simp) hm)
 rw [if_neg (by simpa [Array.isEmpty] using h0)]
 refine a7 (Bb J hz hm fun h1 es1 ep1 t1 sb1 J1 p1 m1 r1=>?_)
 have I1:=I.but ne sb1
 have sz1:es1.size=es.size:=by rw [<- ao,p1.length_eq,ao]
 refine a7 (bx (s:={ s with heap:=h1 }) J1.at_ rfl J1.fits ?_)
 dsimp only
 obtain ⟨f1,f2⟩:=xF J1.fits
 have hpl:to.plain=false:=I.pl.resolve_left h0
 have hled:(t1.led && to.led)=t1.led:=by rw [I.led,J1.led,nP]
 have kp:∀ x,x∈es1.toList.map jP↔x∈es.toList.map jP:=fun x=>(p1.map jP).mem_iff
 by_cases hf:t1.fill=0
 ·have e1:es.size=0:=by
   unfold JZ at hf
   omega
  have mk:JJ t1.mask:=m1.resolve_left (by omega)
  have ee:es=#[]:=kw e1
  unfold J_
  rw [if_neg (by rw [hf];decide)]
  split
  ·refine iV (s:={ s with heap:=h1 }) J1.at_ rfl ?_ (e_ I.few)
   refine q _ s.toks _ _ _ (sb1.trans (bG h1 a _)) (⟨qz J1,I.txt,I.nd,I.few,?_,?_,?_⟩:cR w _ a eo (ep1 + 1) _) (fun x=>by rw [ee];simp) (.inl h0)
   ·exact I.fits
   ·exact hled.trans J1.led
   ·exact .inr (by show (t1.plain && to.plain)=false;rw [hpl,rF])
  ·obtain ⟨place,order,e,hp,ho⟩:=GF (finger:=t1.finger) (moves:=t1.moves) (led:=t1.led && to.led) (plain:=t1.plain && to.plain) (hs:=eo.map (·.1)) mk (by rw [jN];exact r1)
   rw [jN] at hp ho
   have pm:=xE ho
   have sz:(order.filterMap (eo[·]?)).size=eo.size:=by rw [<- ao,pm.length_eq,ao]
   refine a7 ?_
   rw [e]
   show au _ _ (if ((order.filterMap (eo[·]?)).size != eo.size)=true then _ else pure (order.filterMap (eo[·]?),_)) _ _ _
   rw [if_neg (by rw [sz];simp)]
   refine a9 ?_
   refine iV (s:={ s with heap:=h1 }) J1.at_ rfl ?_ (by rw [sz];exact e_ I.few)
   refine q _ s.toks _ _ _ (sb1.trans (bG h1 a _)) (⟨qz J1,fun x hx=>I.txt x (pm.mem_iff.mp hx),(pm.map jP).nodup_iff.mpr I.nd,by rw [sz];exact I.few,GG (by rw [sz];exact hp) (by rw [sz];exact r1),hled.trans J1.led,.inr ?_⟩:cR w _ a (order.filterMap (eo[·]?)) (ep1 + 1) _) (fun x=>?_) (.inl (by rw [sz];exact h0))
   ·show (t1.plain && to.plain)=false;rw [hpl,rF]
   ·rw [(pm.map jP).mem_iff,ee];simp
  ·rename_i hq
   split at hq<;>cases hq
 ·unfold J_
  rw [if_pos (by simpa using hf)]
  dsimp only
  refine a7 (wn (s:={ s with heap:=h1 }) I1 J1 fun h2 es2 ep2 t2 sb2 J2 p2=>?_)
  rw [<- HI]
  have hl:es2.toList.length=eo.size:=by rw [p2.length_eq,ao]
  refine a7 (wI (fun r s'=>∃ h' tk' e' p' t',s'={ s with heap:=h',toks:=tk' }/\bJ a s.heap h'/\cR w h' a e' p' t'/\e'.size + r.length<=15/\(∀ e∈r,su w e)/\∀ x,(x∈e'.toList.map jP\/x∈r.map jP)↔x∈es.toList.map jP\/x∈eo.toList.map jP) ?_ ?_ es2.toList _ ⟨h2,s.toks,es1,ep2,t2,rfl,sb1.trans sb2,J2,by omega,fun e he=>I.txt e (p2.mem_iff.mp he),fun x=>by rw [kp,(p2.map jP).mem_iff]⟩)
  ·rintro e r s' ⟨h',tk',e',p',t',rfl,sb',J',z',tx',k'⟩
   obtain ⟨x,tk,rfl⟩:=tx' e am
   simp only [bw] at z'
   dsimp only
   refine a7 (de (zC (s:={ s with heap:=h',toks:=tk' }) (⟨e',p',t',J',.refl _⟩:k_ w h' a (e'.toList.map jP)) (by rw [ak,ao];exact aA (show e'.size + 1<100 by omega) (by decide)) fun h'' tk'' sb'' S''=>?_))
   obtain ⟨e'',p'',t'',J'',pm''⟩:=S''
   have sb3:=sb'.trans sb''
   have I3:=I.but ne sb3
   refine a7 (he _ _ I3 ?_)
   refine a7 (bx (s:={ s with heap:=h'',toks:=tk'' }) I3.at_ rfl I3.fits ?_)
   dsimp only
   rw [if_neg (by simp)]
   refine a9 ⟨rfl,h'',tk'',e'',p'',t'',rfl,sb3,J'',?_,fun e he=>tx' e (ah _ he),fun y=>?_⟩
   ·have:=pm''.length_eq
    rw [ak,ao] at this
    have l2:(if x∈e'.toList.map jP then e'.toList.map jP else e'.toList.map jP++[x]).length<=e'.size + 1:=by
     split<;>simp
    omega
   ·rw [<- k' y,pm''.mem_iff]
    have ek:jP (hashStr w x,jx x tk)=x:=rfl
    rw [aw,aY,ek]
    split
    ·rename_i hx
     constructor
     ·rintro (h | h)
      ·exact .inl h
      ·exact .inr (.inr h)
     ·rintro (h | h | h)
      ·exact .inl h
      ·rw [h];exact .inl hx
      ·exact .inr h
    ·rw [d_,bZ]
     constructor
     ·rintro ((h | h) | h)
      ·exact .inl h
      ·exact .inr (.inl h)
      ·exact .inr (.inr h)
     ·rintro (h | h | h)
      ·exact .inl (.inl h)
      ·exact .inl (.inr h)
      ·exact .inr h
  ·rintro s' ⟨h',tk',e',p',t',rfl,sb',J',z',tx',k'⟩
   refine a9 (q h' tk' e' p' t' sb' J' (fun x=>?_) (.inl ?_))
   ·rw [<- k' x];simp
   ·intro e0
    obtain ⟨e,hh⟩:∃ e,e∈eo.toList:=by
     cases hq:eo.toList with
     | nil=>rw [<- ao,hq] at h0;exact absurd rfl h0
     | cons e r=>exact ⟨e,am⟩
    have:=(k' (jP e)).mpr (.inr (bC hh))
    rw [kw e0] at this
    simp at this
end
end L2
namespace L2
open PySem PyProof.Rows
theorem Bc:NI table "set.__or__"=some jr.«frozenset.__or__»:=Em (id':="frozenset.__or__") (by kernel_rfl) rfl (by decide +kernel) (by kernel_rfl)
section
variable {P:aH}{w:aZ}{A:aU}{E:aa->ae->Prop}{s:ae}
theorem cR.ty    (I:cR w s.heap a es ep t):s.TypeIs (.ref a) "set":=⟨_,I.at_,rfl⟩
theorem sF     (I:cR w s.heap a es ep t) (q:Q true s):au (ay P w) A (re (.ref a)) Q E s:=by
 unfold re
 refine a7 (fQ I.ty JU ?_)
 exact a9 q
theorem M2  (e:h.get? a=some (eQ w)):cR w h a #[] 0 (.fresh 0 0 (!w.params.followText "set-order")) :=
 ⟨e,(fun _ h=>nomatch h),fz,by decide,rfl,rfl,.inl rfl⟩
theorem OW   (ha:k_ w s.heap a xs) (hb:k_ w s.heap b ys) (ne:a≠b) (hz:xs.length + ys.length<=15)
  (q:∀ h' tk',bJ s.heap.objs.size (s.heap.push (eQ w)) h'->k_ w h' s.heap.objs.size (da xs ys)->Q (.ref s.heap.objs.size) { s with heap:=h',toks:=tk' }) :
  au (ay P w) A (g6 .BitOr (.ref a) (.ref b)) Q E s:=by
 obtain ⟨ea,pa,ta,Ia,ma⟩:=ha
 obtain ⟨eb,pb,tb,Ib,mb⟩:=hb
 have sa:ea.size=xs.length:=by rw [<- ma.length_eq,ak,ao]
 have sb:eb.size=ys.length:=by rw [<- mb.length_eq,ak,ao]
 refine wpAny_binaryOp_same Ia.ty Ib.ty F.fills_set_or F.slot_set_or (bF F.slot_set_or Ia.ty Bc ?_ (F.args_set_or_2 _ _))
 have lt1:a<s.heap.objs.size:=aq Ia.at_
 have lt2:b<s.heap.objs.size:=aq Ib.at_
 show au _ _ (NS "__or__" ⟨[.ref a,.ref b],[]⟩ >>= _) _ _ s
 refine a7 (a7 (a9 (a9 ?_)))
 dsimp only
 refine a7 (a7 (sF Ia (sF Ib ?_)))
 rw [if_neg (by simp)]
 refine a7 (a9 (a7 ?_))
 show au _ _ (sg a >>= _) _ _ s
 refine a7 ?_
 unfold sg NT
 refine a7 (a7 (fQ Ia.ty JU (a9 ?_)))
 rw [if_pos rfl]
 refine a7 (rM ?_)
 have g0:(s.heap.push (eQ w)).get? s.heap.objs.size=some (eQ w):=av _ rfl
 have J0:=M2 g0
 have Ia1:cR w (s.heap.push (eQ w)) a ea pa ta:=Ia.keep fun _ e=>ac _ e
 have Ib1:cR w (s.heap.push (eQ w)) b eb pb tb:=Ib.keep fun _ e=>ac _ e
 have na:s.heap.objs.size≠a:=cQ (aD lt1)
 have nb:s.heap.objs.size≠b:=cQ (aD lt2)
 refine a7 (a9 (a7 (xG (s:={ s with heap:=s.heap.push (eQ w) }) na J0 Ia1 (by show 0 + ea.size<=15;omega) (.inr (.inl rfl)) (fun _ _ _ q=>a9 q) fun h1 tk1 e1 p1 t1 sb1 J1 k1 m1=>a9 ?_)))
 have Ib2:=Ib1.but nb sb1
 have n1:(e1.toList.map jP).length<=ea.size:=by
  have:=(iN J1.nd Ia.nd).mpr fun x=>by rw [k1];simp
  rw [this.length_eq,ak,ao]
  exact ar _
 rw [ak,ao] at n1
 show au _ _ (if (bj b != bj a)=true then _ else _) _ _ _
 rw [if_pos (by simp;exact cQ ne)]
 refine a7 (a9 (a7 (de ?_)))
 show au _ _ (jt _ s.heap.objs.size (bj b)) _ _ _
 unfold jt
 refine a7 (sF (s:={ s with heap:=h1,toks:=tk1 }) Ib2 ?_)
 rw [if_pos rfl]
 refine a7 (a9 ?_)
 unfold NU setEpoch
 refine a7 (a7 (bx (s:={ s with heap:=h1,toks:=tk1 }) Ib2.at_ rfl Ib2.fits (a9 ?_)))
 refine xG (s:={ s with heap:=h1,toks:=tk1 }) nb J1 Ib2 (by omega) m1 (fun s' Q' I' q'=>?_) fun h2 tk2 e2 p2 t2 sb2 J2 k2 m2=>?_
 ·unfold NV setEpoch
  refine a7 (a7 (bx I'.at_ rfl I'.fits (a9 ?_)))
  dsimp only
  rw [if_neg (by simp)]
  exact a9 q'
 ·refine a9 (a9 ⟨_,rfl,(fun z=>nomatch z),q h2 tk2 (sb1.trans sb2) ⟨e2,p2,t2,J2,?_⟩⟩)
  refine (iN J2.nd (iq _ _ (ma.nodup_iff.mp Ia.nd))).mpr fun x=>?_
  rw [k2,iF,k1,ma.mem_iff,mb.mem_iff]
  simp
end
end L2
namespace L2
open PySem PyProof.Rows
theorem RN:pC X (g6 .BitOr) (fun x y H Q=>∃ a b xs ys,x=.ref a/\y=.ref b/\a≠b/\H a=some (lf X.w a xs)/\H b=some (lf X.w b ys)/\xs.length + ys.length<=15/\∀ p,H p=none->Q (.ref p) (upd H p (lf X.w p (da xs ys)))):=by
 intro pins s σ H x y v u Q I rx ry h
 obtain ⟨a,b,xs,ys,rfl,rfl,ne,ha,hb,hz,q⟩:=h
 cases rx
 cases ry
 have Sa:=(show c_ X.prog X.w H s.heap a (lf X.w a xs) from I.hok a _ ha).1
 have Sb:=(show c_ X.prog X.w H s.heap b (lf X.w b ys) from I.hok b _ hb).1
 refine OW Sa Sb ne hz fun h' tk' sb S=>?_
 refine ⟨.ref s.heap.objs.size,_,I.laid (t':=tk') (fun b o e=>?_) (ar _) (AN S),rfl,q _ (I.hok.fresh (ar _))⟩
 exact (sb.2 b (aD (aq e))).trans (ac _ e)
end L2
namespace J
open PySem L2
section
variable {c:C}{a b:aX}{ga gb:az->R (List Str)}{pos:Pos}
def RO (xs ys:List Str):R (List Str):=if xs.length + ys.length<=15 then .ok (da xs ys) else .no
def M3 (ga gb:az->R (List Str)):az->R (List Str):=fun ρ=>(ga ρ).bind fun xs=>(gb ρ).bind (J.RO xs)
theorem RP (ha:ON c a ga) (hb:ON c b gb):ON c (.BinOp a .BitOr b pos) (M3 ga gb):=.of fun ρ=>tJ (PF RN (ha ρ) (hb ρ)) fun σ H Q h_0=>by
 obtain ⟨H0,Hs0,la,Hs,f,q⟩:=h_0
 refine Gn (w:=c.X.w) f q fun xs p H1 Hs1 e1 s1 f1 n1=>?_
 unfold M3 at q
 rw [e1,bind_ok] at q
 have s2:cD H1 Hs1 (upd H1 p (lf c.X.w p xs)) Hs1:=.mine f1.st.sub n1
 refine Gn (w:=c.X.w) (f1.step s2) (q.on (s1.trans s2) (q':=fun _=>True) fun _ _=>trivial) fun ys p2 H2 Hs2 e2 s3 f2 n2=>?_
 rw [e2,bind_ok] at q
 unfold J.RO at q
 by_cases hz:xs.length + ys.length<=15
 ·rw [if_pos hz] at q
  have k1:H2 p=some (lf c.X.w p xs):=s3.all p _ b9
  have ne:p≠p2:=fun z=>by rw [z,n2] at k1;cases k1
  have s4:cD H2 Hs2 (upd H2 p2 (lf c.X.w p2 ys)) Hs2:=.mine f2.st.sub n2
  exact ⟨p,p2,xs,ys,rfl,rfl,ne,by rw [bf ne];exact k1,b9,hz,fun l hl=>q l _ _ (s1.trans (s2.trans (s3.trans s4))) hl⟩
 ·rw [if_neg hz] at q;exact q.elim
end
end J
namespace J
open PySem L2
section
variable {c:C}{a b:aX}{gs:az->R (List D)}{pos px py pt pt2:Pos}{x y:Str}
def VS (i j:Nat) (ρ:az):List D->R Fl
 | [d,e]=>.ok (.nx ((ρ.set i (.shr d)).set j (.shr e)))
 | _=>.no
def M4 (i j:Nat) (gs:az->R (List D)):az->R Fl:=fun ρ=>(gs ρ).bind (VS i j ρ)
theorem RQ (i j:Nat) (hc:c.X.calm=true) (hN:c.X.N.Nodup) (ha:G9 c [a,b] gs) (hi:c.X.N[i]?=some x:=by rfl) (hj:c.X.N[j]?=some y:=by rfl) (hij:i≠j:=by decide)
  (hx:c.X.env.scope.names.lookup x=some .local:=by rfl) (hy:c.X.env.scope.names.lookup y=some .local:=by rfl) (hw:wq [.Tuple [.Name x px,.Name y py] kt pt] (.Tuple [a,b] k2 pt2) c.X.env=pure (some [x,y]):=by rfl)
  (hs:wp [.Tuple [.Name x px,.Name y py] kt pt] (.Tuple [a,b] k2 pt2) pos.line c.X.env=pure false:=by rfl):JS c (.Assign [.Tuple [.Name x px,.Name y py] kt pt] (.Tuple [a,b] k2 pt2) pos) (M4 i j gs):=.of fun ρ=>yS (R5 hc hN hi hj hij hx hy (ha ρ) hw hs) fun D σ H h_0=>by
 obtain ⟨H0,Hs0,la,Hs,f,q⟩:=h_0
 refine ⟨H0,Hs0,la,Hs,f,?_⟩
 unfold M4 at q
 cases hr:gs ρ with
 | ok ds =>
  rw [hr,bind_ok] at q
  intro vs H' Hs' s r
  match ds,r,q with
  | [],_,q=>exact q.elim
  | [_],_,q=>exact q.elim
  | [d,e],.cons r1 (.cons r2 .nil),q=>exact ⟨_,_,rfl,q _ _ Hs' (((f.step s).set i r1).set j r2)⟩
  | _::_::_::_,_,q=>exact q.elim
 | ex z n =>
  rw [hr] at q
  exact fun H' Hs' s=>q H' Hs' (f.st.trans s)
 | no=>rw [hr] at q;exact q.elim
end
end J
namespace J
open PySem L2
end J
end
section
namespace L2
open PySem PySem.Spec PyProof.Rows
section
variable {prog:aH}{w:aZ}{A:aU}{E:aa->ae->Prop}{s:ae}{R:rZ->ae->Prop}
end
end L2
namespace L2
open PySem PySem.Spec PyProof.Rows
section
variable {prog:aH}{w:aZ}{A:aU}{E:aa->ae->Prop}{s:ae}{R:rZ->ae->Prop}
end
end L2
namespace L2
open PySem PySem.Spec PyProof.Rows
end L2
namespace J
open PySem L2
section
variable {c:C}{e:aX}{g:az->R D}{p cpos:Pos}
end
end J
namespace L2
open PySem PySem.Spec PyProof.Rows
end L2
namespace J
open PySem L2
section
variable {c:C}{a:aX}{gs:az->R (List D)}{p pos:Pos}
end
end J
namespace L2
open PySem PySem.Spec PyProof.Rows
end L2
namespace J
open PySem L2
section
variable {c:C}{tg a:aX}{gs:az->R (List D)}{p pos:Pos}
end
end J
namespace J
open PySem L2
end J
end
namespace J
open PySem L2 PyProof.Rows
section
structure En where
 P:aH
 w:aZ
 K:a8
 mg:Str->Option aa
 base:bB
 cls:Str->ai
abbrev FN (e:En):=Fn e.P e.w e.K e.mg e.base e.cls
abbrev ER (e:En):=Er e.mg e.base e.cls
abbrev Cn (mg:Str->Option aa) (x:Str) (n:Int):Prop:=∃ t,mg x=some (.int n t)
structure iW (K:a8) (mg:Str->Option aa) (x:Str) (st:dz):Prop where
 ex:∃ f fd,Ih K x x st f fd/\mg x=some (.ref f)
section
variable {K:a8}{h:bB}{mg:Str->Option aa}{x:Str}
theorem d_in {st:dz}{A:ai}{od an:Option ai}{sl:Array (Option aa)}{oc kV dc pm cv ct:aa} (X:K.In h) (G:h.Ns bL mg) (a:fR K bL x=some (some (.ref A)))
  (l:K.lookup A=some ⟨oc,od,.func (fP x x (kh st) (i6 st) (aB st) .none kV dc pm an cv ct),sl⟩) (c:lL K cv x=true) (k:f9 K (.ref A)=true):iW K mg x st :=
 ⟨_,_,Ks l c k,mU X G a⟩
theorem cn_in  (X:K.In h) (G:h.Ns bL mg) (t:fR K bL x=some (some (.int n tk))):Cn mg x n:=⟨_,mU X G t⟩
inductive Zs (K:a8):List Str->Prop
 | nil:Zs K []
 | cons {x:Str}{r:List Str}:fR K bL x=some none->Zs K r->Zs K (x::r)
theorem Zs.get (z:Zs K r):∀ x∈r,fR K bL x=some none:=by
 induction z with
 | nil=>exact fun _ h=>nomatch h
 | cons a _ ih =>
  intro y hy
  rcases List.mem_cons.mp hy with e | e
  ·rw [e];exact a
  ·exact ih y e
abbrev zn:List Str:=["len","isinstance","all","any","zip","tuple","list","sorted","set","range","enumerate","dict","sum","max","min","reversed","str","int","bool","ValueError"]
theorem Ud (X:K.In h) (G:h.Ns bL mg) (z:Zs K zn):Bi mg:=by
 have q:∀ x∈zn,mg x=none:=fun x hx=>PySem.W.mg_none_of X G (z.get x hx)
 exact ⟨q _ (by decide),q _ (by decide),q _ (by decide),q _ (by decide),q _ (by decide),q _ (by decide),q _ (by decide),q _ (by decide),q _ (by decide),q _ (by decide),q _ (by decide),q _ (by decide),q _ (by decide),q _ (by decide),q _ (by decide),q _ (by decide),q _ (by decide),q _ (by decide),q _ (by decide)⟩
end
section
variable {P:aH}{w:aZ}{K:a8}{mg:Str->Option aa}{base:bB}{N:List Str}{qual:Str}{scope:fZ}{f:ai}{cd:aa}{A:aU}{outer:List Env}{s:ae}{H:Hp}{E:XK}
theorem px:sk (oY P w) (jO (oY P w) P w K mg base N qual scope f cd A outer s H E) E:=Cy fun _ _ h=>h
end
section
variable {c:C}{x y:Str}{e:aX}{es:List aX}{gs:az->R (List D)}{p q pos:Pos}
theorem jc  (G:Fn c.X.prog c.X.w c.X.K c.X.mg c.X.base c.cls x k n F) (hr:kZ j c.X.A) (hx:sk (oY c.X.prog c.X.w) c.X c.E) (ha:G9 c (e::es) gs)
  (hk:k<=j:=by decide) (hg:Gl c.X x:=by exact rfl) (hdb:(x == ("__debug__" : Str))=false:=by decide) (he:aK (e::es) c.X.env=(false,eh e c.X.env)::aK es c.X.env:=by rfl) (hpl:(j8 pos (aK es c.X.env)).any (·.1)=false:=by rfl) :
  JE c (.Call (.Name x p) (e::es) [] pos) (gZ n F gs):=OI G (hr.mono hk) hg hx ha hdb he hpl
end
abbrev Bq (x:Str) (st:dz) (us:List aa) (r:List (Str×aa)):Prop:=∀ (kV doc pm:aa) (an:Option ai) (cdv ct:aa),NB (fP x x (kh st) (i6 st) (aB st) .none kV doc pm an cdv ct) ⟨us,[]⟩=pure r
section
variable {K:a8}{x:Str}{st:dz}{f:ai}{fd:eG}
theorem b1 (F:Ih K x x st f fd) (h:∀ u,Bq x st [u] [(a,u)]:=by exact fun _ _ _ _ _ _ _=>rfl):l7 K fd [a] []:=F.binds fun _ _ _ _ _ _ us hl=>by obtain ⟨_,rfl⟩:=WJ hl;exact h ..
theorem b2 (F:Ih K x x st f fd) (h:∀ u v,Bq x st [u,v] [(a,u),(b,v)]:=by exact fun _ _ _ _ _ _ _ _=>rfl):l7 K fd [a,b] []:=F.binds fun _ _ _ _ _ _ us hl=>by obtain ⟨_,_,rfl⟩:=WK hl;exact h ..
theorem b3 (F:Ih K x x st f fd) (h:∀ u v w,Bq x st [u,v,w] [(a,u),(b,v),(c,w)]:=by exact fun _ _ _ _ _ _ _ _ _=>rfl):l7 K fd [a,b,c] []:=F.binds fun _ _ _ _ _ _ us hl=>by obtain ⟨_,_,_,rfl⟩:=WL hl;exact h ..
theorem b4 (F:Ih K x x st f fd) (h:∀ u v w z,Bq x st [u,v,w,z] [(a,u),(b,v),(c,w),(d,z)]:=by exact fun _ _ _ _ _ _ _ _ _ _=>rfl):l7 K fd [a,b,c,d] []:=F.binds fun _ _ _ _ _ _ us hl=>by obtain ⟨_,_,_,_,rfl⟩:=WM hl;exact h ..
theorem b5 (F:Ih K x x st f fd) (h:∀ u v w z y,Bq x st [u,v,w,z,y] [(a,u),(b,v),(c,w),(d,z),(e,y)]:=by exact fun _ _ _ _ _ _ _ _ _ _ _=>rfl):l7 K fd [a,b,c,d,e] []:=F.binds fun _ _ _ _ _ _ us hl=>by obtain ⟨_,_,_,_,_,rfl⟩:=WN hl;exact h ..
end
theorem rP {e:En}{x:Str}{st:dz}{N ps:List Str}{k:Nat}{g:az->R Fl} (D:iW e.K e.mg x st) (S:bU N ps (aB st)) (b:∀ {f:ai}{fd:eG},Ih e.K x x st f fd->l7 e.K fd ps [])
  (h:∀ (f:ai) (cdv:aa) (A:aU) (outer:List Env) (s:ae) (H:Hp) (E:XK),kZ k (A.deeper (s9 x (aB st) s.heap.objs.size f cdv))->Gh ⟨jO (oY e.P e.w) e.P e.w e.K e.mg e.base N x (aB st) f cdv A outer s H E,e.cls,E⟩ (i6 st) g) :
  FN e x (k + 1) ps.length (gG N.length g):=by
 obtain ⟨f,fd,F,hm⟩:=D.ex
 exact TM F S hm (b F) (h f)
def WC (N P:List Str) (sc:fZ):Bool:=decide (sc.kind=.function) && !sc.isCoroutine && !sc.isGenerator && decide N.Nodup && decide (N.take P.length=P) && P.all (fun x=>decide (sc.names.lookup x=some .local) || decide (sc.names.lookup x=some .cell)) && sc.names.all fun y=>decide (y.2≠.free)
theorem eN  (h:WC N P sc=true):bU N P sc:=by
 unfold WC at h
 simp only [aO,decide_eq_true_eq,JY,cg,ju] at h
 obtain ⟨⟨⟨⟨⟨⟨a,b⟩,c⟩,d⟩,e⟩,f⟩,g⟩:=h
 exact ⟨a,b,c,d,e,f,g⟩
structure Cw (K:a8) (x:Str) (C:ai):Prop where
 ns:fR K bL x=some (some (.ref C))
 cl:∃ cd,rE K C=some cd
 ty:K0 K (.ref C)=some (.type "type")
theorem cw_in {K:a8}{x:Str}{C:ai}{cd:ClassData} (a:fR K bL x=some (some (.ref C))) (i:rE K C=some cd) (y:K0 K (.ref C)=some (.type "type")):Cw K x C:=⟨a,⟨_,i⟩,y⟩
inductive Sb (K:a8) (C:ai):List (ai×Bool)->Prop
 | nil:Sb K C []
 | cons {D:ai}{b:Bool}{l:List (ai×Bool)}:No K (.ref C) (.ref D)=some b->(b=false->C≠D)->Sb K C l->Sb K C ((D,b)::l)
structure Wy (K:a8) (C CP:ai) (l:List (ai×Bool)):Prop where
 x1:lK K (.ref C) "__getattribute__"=some (some (.builtin "BaseException.__getattribute__"))
 x2:lK K (.ref C) "__getattr__"=some none
 x3:lK K (.ref C) "__class__"=some (some (.builtin "object.__class__"))
 x4:FR K (.builtin "object.__class__") "__get__"=some (some (.builtin "getset_descriptor.__get__"))
 x5:Js K (.builtin "object.__class__")=some true
 x6:dh K C (.type "object")=some true
 x7:dh K C (.ref CP)=some true
 x8:No K (.ref C) (.type "ValueError")=some true
 x9:(bj CP == bj C)=false
 sb:Sb K C l
end
end J
section
namespace L2
open PySem PySem.Spec PyProof.Rows
section
variable {prog:aH}{w:aZ}{A:aU}{E:aa->ae->Prop}{s:ae}{it d:ai}{i n ep:Nat}{o:Obj}{es:Array lM}
theorem GH  (hit:s.heap.IsKeyIter it d i es.size ep) (hd:s.heap.get? d=some o) (ho:o.data=.dict es ep) (he:es[i]?=some e)
  (h:∀ h':bB,h'.IsKeyIter it d (i + 1) es.size ep->bJ it s.heap h'->Q (some e.key) { s with heap:=h' }) :
  au (ay prog w) A (kU (.ref it)) Q E s:=by
 obtain ⟨⟨c0,d0,dt,sl⟩,q1,q2,q3⟩:=id hit
 simp only at q2 q3
 subst q2 q3
 unfold kU
 refine a7 (jM ?_)
 refine cc (name:=gy "__next__") hit.typeIs fc ?_
 refine bF fc hit.typeIs rG ?_ (rf _)
 refine a7 (eO (a:=.ref it) rfl ?_)
 refine a7 (a7 (a7 (ij hit.typeIs (a9 ?_))))
 refine a7 (Ep q1 rfl ?_)
 show au _ _ (if (bj d == dI)=true then _ else _) _ _ s
 rw [if_neg (by simp)]
 refine a7 (eO (a:=d) rfl ?_)
 refine a7 (yI hd ho ?_)
 show au _ _ (if ((es.size:Int) != (es.size:Int))=true then _ else _) _ _ s
 rw [if_neg (by simp)]
 refine a7 (eO (a:=d) rfl ?_)
 refine a7 (C1 hd ho ?_)
 show au _ _ (if ((ep:Int) != (ep:Int))=true then _ else _) _ _ s
 rw [if_neg (by simp)]
 refine a9 ?_
 have e0:(if (i:Int)<0 then none else es[(i:Int).toNat]?)=some e:=by
  rw [if_neg (by omega)]
  simpa using he
 simp only [e0]
 refine a7 (a7 (ij hit.typeIs (a9 ?_)))
 refine a7 (Np hit.typeIs ?_)
 refine a7 (g9 q1 rfl (by simp [lE]) ?_)
 have st:∀ k x,k=1->x=c7 ((i:Int) + 1)->(s.heap.update it (dR (·.setIfInBounds k x))).IsKeyIter it d (i + 1) es.size ep:=fun k x hk hx=>by
  subst hk hx
  have q:=fG (dR (·.setIfInBounds 1 (c7 ((i:Int) + 1)))) q1 rfl
  refine ⟨_,q,rfl,?_⟩
  show Data.fields ((#[.ref d,.int i 0,.int es.size 0,.int ep 0] : Array aa).setIfInBounds 1 (c7 ((i:Int) + 1)))=_
  simp [c7]
 have st1:=st _ _ rfl rfl
 refine a7 (de (a7 (Np st1.typeIs ?_)))
 refine a9 ?_
 exact a9 ⟨_,rfl,a9 (h _ st1 (bG ..))⟩
theorem M5 (hh:A.handled=none) (hit:s.heap.IsKeyIter it d i es.size ep) (hd:s.heap.get? d=some o) (ho:o.data=.dict es ep) (he:es.size<=i)
  (h:∀ h':bB,FU it s.heap h'->Q none { s with heap:=h' }) :
  au (ay prog w) A (kU (.ref it)) Q E s:=by
 obtain ⟨⟨c0,d0,dt,sl⟩,q1,q2,q3⟩:=id hit
 simp only at q2 q3
 subst q2 q3
 unfold kU
 refine a7 (jM ?_)
 refine cc (name:=gy "__next__") hit.typeIs fc ?_
 refine bF fc hit.typeIs rG ?_ (rf _)
 refine a7 (eO (a:=.ref it) rfl ?_)
 refine a7 (a7 (a7 (ij hit.typeIs (a9 ?_))))
 refine a7 (Ep q1 rfl ?_)
 show au _ _ (if (bj d == dI)=true then _ else _) _ _ s
 rw [if_neg (by simp)]
 refine a7 (eO (a:=d) rfl ?_)
 refine a7 (yI hd ho ?_)
 show au _ _ (if ((es.size:Int) != (es.size:Int))=true then _ else _) _ _ s
 rw [if_neg (by simp)]
 refine a7 (eO (a:=d) rfl ?_)
 refine a7 (C1 hd ho ?_)
 show au _ _ (if ((ep:Int) != (ep:Int))=true then _ else _) _ _ s
 rw [if_neg (by simp)]
 refine a9 ?_
 have e0:(if (i:Int)<0 then none else es[(i:Int).toNat]?)=none:=by
  rw [if_neg (by omega)]
  simpa using he
 simp only [e0]
 refine a7 (a7 (ij hit.typeIs (a9 ?_)))
 refine a7 (g9 q1 rfl (by simp [lE]) ?_)
 show au _ _ (se (.type "StopIteration") [] >>= _) _ _ _
 refine a7 ?_
 simp only [se,NJ]
 refine a7 (bM ?_ (by size_fits))
 refine a7 (m:=kY _ _) (eO (a:=dI) ?_ ?_)
 ·first
   | rfl
   | (simp only [kY];rfl)
 refine bM ?_ (by size_fits)
 simp only [rc]
 refine a7 (HE ?_)
 rw [show A.in1.handled=none from hh]
 refine a7 (a9 (NK ?_))
 refine a7 (fQ (T:="StopIteration") (b:=true) ⟨_,av _ rfl,rfl⟩ uO ?_)
 exact a9 (h _ (((bG ..).extBut.push _).push _))
theorem M6 (hs:(d == eJ)=false) (hd:s.heap.get? d=some o) (hx:o.ExactDict) (ho:o.data=.dict es ep)
  (h:Q (.ref s.heap.objs.size) { s with heap:=s.heap.push { cls:=.type "dict_keyiterator",data:=.fields #[.ref d,.int 0 0,.int es.size 0,.int ep 0] } }) :
  au (ay prog w) A (wQ (.ref d)) Q E s:=by
 have ty:s.TypeIs (.ref d) "dict":=⟨o,hd,hx.1⟩
 refine yB ty At (bF At ty PySem.F.entry_dict_iter ?_ (PySem.F.args_dict_iter_1 _))
 refine a7 (a7 (wpAny_notOrdered_dict ty (a7 (eO (a:=(bj d,[])) rfl (a9 ?_)))))
 refine a7 (eO (a:=d) rfl ?_)
 refine a7 (eO (a:=()) (by unfold Builtin.Dict.showsAll;rw [hs];rfl) ?_)
 refine a7 (yI hd ho ?_)
 refine a7 (C1 hd ho ?_)
 refine a7 (bM ?_ (by size_fits))
 exact a9 ⟨_,rfl,"dict_keyiterator",_,⟨_,av _ rfl,rfl⟩,PySem.F.slot_dict_keyiterator_next.lookup,h⟩
end
def VT (a:ai) (o:Obj) (kvs:List (List fD×V)):It :=
 ⟨fun i H=>H a=some (.frz o (.dT kvs))/\i<kvs.length,fun i H x H'=>H'=H/\∃ k v b,kvs[i]?=some (k,v)/\x=.ref b/\H b=some (.tup (k.map kV)),fun i H=>H a=some (.frz o (.dT kvs))/\kvs.length<=i⟩
theorem II {α β:Type}{F:α->β->Prop}{l:List α}{m:List β} (h:Ee F l m):∀ {i:Nat}{x:α},l[i]?=some x->∃ y,m[i]?=some y/\F x y:=by
 induction h with
 | nil=>intro i x e;simp at e
 | cons a _ ih =>
  intro i x e
  cases i with
  | zero=>cases e;exact ⟨_,rfl,a⟩
  | succ i=>exact ih e
theorem qc       (ok:pd P w H h) (e:H a=some (.frz o (.dT kvs))):(a == eJ)=false/\h.get? a=some o/\o.ExactDict/\∃ es ep,o.data=.dict es ep/\es.size=kvs.length /\
  ∀ (i:Nat) (k:List fD) (v:V),kvs[i]?=some (k,v)->∃ (en:lM) (b:ai),es[i]?=some en/\en.key=bj b/\H b=some (.tup (k.map kV)):=by
 obtain ⟨h0,z,y,xs,r,o',es,ep,h1,h2,h3,h4,h5⟩:=(show c_ P w H h a (.frz o (.dT kvs)) from ok a _ e)
 rw [h0] at h1
 cases h1
 refine ⟨y,h0,h2,es,ep,h3,?_,fun i k v hk=>?_⟩
 ·rw [<- ao,h4,ak]
  exact (j0 r).symm
 ·obtain ⟨q,q1,q2⟩:=II r hk
  refine ⟨entryOfKey (r9 (fS P w)) q,q.2.1,?_,?_,q2.2.1⟩
  ·rw [<- aE,h4,aN,q1]
   rfl
  ·rfl
theorem IJ {P:aH}{w:aZ}{K:a8}{tg:aX}{a it:ai}{o:Obj}{kvs:List (List fD×V)}{es:Array lM}{ep:Nat} (hd:o.data=.dict es ep) (hn:es.size=kvs.length) :
  yK P w K tg (VT a o kvs) [it] it (fun i h=>h.IsKeyIter it a i es.size ep) where
 mem:=by simp
 obj:=fun i h st b hb=>by
  have e:b=it:=by simpa using hb
  subst e
  obtain ⟨o,e,c,d⟩:=st
  exact ⟨o,e,fun v z=>by rw [d] at z;cases z⟩
 keep:=fun i h h' st k=>st.at fun o e=>k it (by simp) o e
 item:=by
  intro X hP hw hK hc i pins s σ H E I hf st hg
  subst hP hw hK
  obtain ⟨hq,hi⟩:=hg
  obtain ⟨_,g1,_,es',ep',g2,g3,g4⟩:=qc I.hok hq
  rw [hd] at g2
  cases g2
  obtain ⟨en,b,e1,e2,e3⟩:=g4 i _ _ (aV hi)
  obtain ⟨f0,f1,f2,f3,f4,f5⟩:=hf it (by simp)
  refine GH st g1 hd e1 fun h' st' sb=>?_
  have I1:bQ X pins σ H { s with heap:=h' }:=I.turned (t':=s.toks) (fun b o hb e=>(sb.2 b hb).trans e) f0 f1 f3 f4 f5
  obtain ⟨o',e,c,d⟩:=id st'
  refine ⟨_,rfl,F_ (s:={ s with heap:=h' }) e c d (by decide) ⟨.ref b,H,I1,?_,⟨rfl,_,_,b,aV hi,rfl,e3⟩,st',fun b hb=>(hf b hb).1⟩⟩
  rw [e2]
  rfl
 done:=by
  intro X hP hw hK hc i pins s σ H E I hf st hg
  subst hP hw hK
  obtain ⟨hq,hi⟩:=hg
  obtain ⟨_,g1,_,es',ep',g2,g3,g4⟩:=qc I.hok hq
  obtain ⟨f0,f1,f2,f3,f4,f5⟩:=hf it (by simp)
  exact M5 (I.ok.hd hc) st g1 hd (by omega) fun h' eb=>⟨rfl,I.turned (t':=s.toks) (fun b o hb e=>eb b o hb e) f0 f1 f3 f4 f5⟩
 self:=fun _ _ _ _ _ st h=>NW st h
def Ue (tl:TE):TI:=fun σ H R=>tl σ H fun x H1=>∃ a o kvs,x=.ref a/\H1 a=some (.frz o (.dT kvs))/\R (VT a o kvs) H1
theorem OX {X:Cx}{tg l:aX}{tl:TE} (hl:PE X l tl):PI X tg l (Ue tl):=by
 intro pins s σ H R I h
 refine fK (hl pins s σ H _ I h) fun v s1 h1=>?_
 obtain ⟨x,H1,I1,r1,q1⟩:=h1
 obtain ⟨a,o,kvs,e,hq,q⟩:=q1
 subst e
 cases r1
 obtain ⟨y,g1,g0,es,ep,g2,g3,g4⟩:=qc I1.hok hq
 refine M6 y g1 g0 g2 ?_
 refine ⟨s1.heap.objs.size,[s1.heap.objs.size],_,_,H1,rfl,I1.kept (t':=s1.toks) fun b o e=>ac _ e,IJ g2 g3,⟨_,av _ rfl,rfl,rfl⟩,fun b hb=>?_,q⟩
 rw [List.mem_singleton.mp hb]
 exact I1.fpOk (ar _) (I1.hok.fresh (ar _))
def WO (tk tv:TE):TE:=fun σ H Q=>∀ p,H p=none->tk σ (upd H p (.dT [])) fun y H1=>tv σ H1 fun v H2=>∃ kvs k b,H2 p=some (.dT kvs)/\y=.ref b/\H2 b=some (.tup (k.map kV))/\kvs.length<sizeLine/\Q (.ref p) (upd H2 p (.dT (ml kvs k v)))
theorem M7    (hu:X.A.units + 1<gz) (hk:PE X k tk) (hv:PE X v tv):PE X (.Dict [some k] [v] pos) (WO tk tv):=by
 intro pins s σ H Q I h
 refine wpAny_Dict_any rfl rfl (by simp) (by simp) ?_
 have I0:bQ X pins σ (upd H s.heap.objs.size (.dT [])) { s with heap:=s.heap.push { cls:=.type "dict",data:=.dict #[] } }:=I.laid (a:=s.heap.objs.size) (o:=.dT []) (t':=s.toks) (fun _ _ q=>ac _ q) (ar _) (Kv s.heap I.big)
 have h0:=h s.heap.objs.size (I.hok.fresh (ar _))
 simp only [pairTrees,evalPairs]
 refine a7 (fK (hk pins _ σ _ _ I0 h0) fun u1 s1 h1=>?_)
 obtain ⟨y,H1,I1,r1,q1⟩:=h1
 refine a7 (de (a7 (fK (hv pins s1 σ H1 _ I1 q1) fun u2 s2 h2=>?_)))
 obtain ⟨z,H2,I2,r2,q2⟩:=h2
 obtain ⟨kvs,ks,b,e1,e2,e3,e4,q⟩:=q2
 refine a7 (iJ (a9 ?_))
 refine a7 (de (a9 (a9 ?_)))
 subst e2
 cases r1
 unfold storeAll
 simp only [jq,mv,bind_assoc]
 obtain ⟨z1,hd,xs,rel,dd⟩:=PU I2.hok e1
 have hz:xs.length<=sizeLine:=by rw [<- j0 rel];exact z1
 have hl:(ml kvs ks z).length<=sizeLine:=by have:=pR kvs ks z;omega
 refine a7 (wpAny_dictSet_heap (by show X.A.units<gz;omega) (uX I2.hok e3) dd (fun h' dd' hs=>?_) hz)
 obtain ⟨o',es,ep,hq,g2,g3,g4,_,g5⟩:=dd'
 have I3:=AE (t':=s2.toks + (r9 (fS X.prog X.w)).draws ks) I2 (by rw [e1];exact iK) hs ⟨o',hq⟩ (ob:=.dT (ml kvs ks z)) ⟨hl,hd,_,(rel.put ks e3 r2).keeps fun c ys ec=>(by rw [bf (K6 ec e1 (fun z=>nomatch z))];exact ec),o',es,ep,hq,g2,g3,g4,g5⟩
 exact a9 ⟨.ref s.heap.objs.size,_,I3,rfl,q⟩
end L2
namespace J
open PySem L2
def keysOf:List D->Option (List fD)
 | []=>some []
 | d::r=>(rO d).bind fun k=>(keysOf r).map (k::·)
def o_:D->Option (List fD)
 | .tuple ds=>keysOf ds
 | _=>none
theorem zU:∀ {ds:List D}{ks:List fD},keysOf ds=some ks->ds=ks.map kD
 | [],ks,h=>by cases h;rfl
 | d::r,ks,h=>by
  unfold keysOf at h
  cases hk:rO d with
  | none=>rw [hk] at h;cases h
  | some y =>
   rw [hk,vB] at h
   cases hr:keysOf r with
   | none=>rw [hr] at h;cases h
   | some l =>
    rw [hr] at h
    cases h
    rw [aw,<- xv hk,<- zU hr]
theorem ui  (h:o_ d=some ks):d=tD ks:=by
 cases d<;>first | (cases h;done) | skip
 rename_i ds
 unfold tD
 rw [<- zU (show keysOf ds=some ks from h)]
theorem zV:∀ ks:List fD,keysOf (ks.map kD)=some ks
 | []=>rfl
 | k::r=>by rw [aw,keysOf,keyOf_of,zV r];rfl
theorem M8 (ks:List fD):o_ (tD ks)=some ks:=zV ks
theorem GI:∀ a b:List fD,eV (a.map kD) (b.map kD)=decide (a=b)
 | [],[]=>by simp [eV]
 | [],_::_=>by simp [eV]
 | _::_,[]=>by simp [eV]
 | x::a,y::b=>by
  rw [aw,aw]
  simp only [eV]
  rw [B7,GI a b]
  by_cases h:x=y<;>by_cases h2:a=b<;>simp [h,h2]
theorem Bd (a b:List fD):a_ (tD a) (tD b)=decide (a=b):=by
 unfold tD
 simp only [a_]
 exact GI a b
theorem RDt.any   (y:List fD):∀ {ds:List (D×D)},RDt K H kvs ds->(ds.any fun kv=>a_ kv.1 (tD y))=kvs.any fun kv=>decide (kv.1=y):=by
 induction kvs with
 | nil=>intro ds h;cases h;rfl
 | cons x r ih=>intro ds h;cases h with | cons h t=>rw [dJ,dJ,ih t,Bd]
theorem RDt.repl  (y:List fD)  (rv:RD K H v d):∀ {ds:List (D×D)},RDt K H kvs ds ->
  RDt K H (kvs.map fun kv=>if kv.1=y then (kv.1,v) else kv) (ds.map fun kv=>if a_ kv.1 (tD y) then (kv.1,d) else kv):=by
 induction kvs with
 | nil=>intro ds h;cases h;exact .nil
 | cons x r ih =>
  intro ds h
  cases h with
  | @cons k _ _ _ _ h t =>
   rw [aw,aw]
   have e:=Bd k y
   by_cases hk:k=y
   ·subst hk
    rw [show (if k=k then (k,v) else (k,_))=(k,v) from if_pos rfl,show (if a_ (tD k) (tD k)=true then (tD k,d) else (tD k,_))=(tD k,d) from if_pos (by rw [e];simp)]
    exact .cons rv (ih t)
   ·simp only [e,hk,if_neg,decide_false,bv,not_false_eq_true]
    exact .cons h (ih t)
theorem RDt.snoc  (y:List fD)  (rv:RD K H v d):∀ {ds:List (D×D)},RDt K H kvs ds->RDt K H (kvs++[(y,v)]) (ds++[(tD y,d)]):=by
 induction kvs with
 | nil=>intro ds h;cases h;exact .cons rv .nil
 | cons x r ih=>intro ds h;cases h with | cons h t=>exact .cons h (ih t)
theorem RDt.put    (r:RDt K H kvs ds) (y:List fD)  (rv:RD K H v d):RDt K H (ml kvs y v) (wl ds (tD y) d):=by
 unfold ml wl
 rw [r.any y]
 split
 ·exact r.repl y rv
 ·exact r.snoc y rv
theorem RS {κ:Type} [DecidableEq κ] {kvs:List (κ×V)}{y:κ}{v:V}:ml kvs y v≠[]:=by
 unfold ml
 split
 ·rename_i h
  intro z
  have:=List.map_eq_nil_iff.mp z
  subst this
  cases h
 ·simp
theorem RDt.val   (y:List fD):∀ {ds:List (D×D)},RDt K H kvs ds->(nz kvs y=none/\l9 ds (tD y)=none)\/∃ v d,nz kvs y=some v/\l9 ds (tD y)=some d/\RD K H v d:=by
 induction kvs with
 | nil=>intro ds h;cases h;exact .inl ⟨rfl,rfl⟩
 | cons x r ih =>
  intro ds h
  cases h with
  | @cons k _ _ _ _ h t =>
   unfold nz l9
   rw [bX,bX,Bd]
   by_cases hk:k=y
   ·simp only [hk,decide_true,cH]
    exact .inr ⟨_,_,rfl,rfl,h⟩
   ·simp only [hk,decide_false]
    exact ih t
def GJ:List (D×D)->List (D×D)
 | (.none,_)::r=>r
 | l=>l
def jD (ds:List (D×D)):Bool:=!ds.isEmpty && ds.all fun kv=>(o_ kv.1).isSome
theorem RDk.notT    (h:RDk K H kvs ds) (e:jD (GJ ds)=true):False:=by
 cases h with
 | nil=>cases e
 | @cons k _ _ _ _ h t =>
  cases k<;>simp [GJ,jD,kD,o_] at e
theorem RDt.un    (h:RDt K H kvs ds):GJ ds=ds:=by
 cases h<;>rfl
theorem wJ    (sub:dk Hs H) (h:RB K H Hs v (tD ks)):∃ b,v=.ref b/\H b=some (.tup (ks.map kV)):=by
 rcases h with h | ⟨_,o,rfl,_,_,ow⟩
 ·cases h with
  | tuple q r =>
   have:=AS (c:=kD) (k:=kV) (fun h=>F5 h) r
   subst this
   exact ⟨_,rfl,sub _ _ q⟩
 ·cases ow
theorem GK    (sub:dk Hs H) (h:RB K H Hs v (.dict ds)) (e:jD (GJ ds)=true):∃ a kvs,v=.ref a/\RDt K Hs kvs (GJ ds)/\∀ (b:ai) (k:List fD),H b=some (.tup (k.map kV))->wc H a (.ref b) (nz kvs k):=by
 obtain ⟨a,ea,hh⟩:=h.dict sub
 clear h
 subst ea
 rcases hh with ⟨kvs,h1,h2⟩ | ⟨kvs,h1,hn,h2⟩ | ⟨o,kvs,es,rfl,h1,hn,h2⟩
 ·exact (h2.notT e).elim
 ·exact ⟨a,kvs,rfl,by rw [h2.un];exact h2,fun b k hb=>wc.t h1 hb⟩
 ·exact ⟨a,kvs,rfl,h2,fun b k hb=>.inr ⟨kvs,k,b,.inr ⟨o,h1⟩,rfl,hb,rfl⟩⟩
def M9:D->D->R D
 | .dict ds,k=>match o_ k with
  | some _=>if jD (GJ ds)=true then (match l9 (GJ ds) k with
   | some d=>.ok d
   | none=>.no) else .no
  | none=>.no
 | _,_=>.no
section
variable {c:C}{a b e k:aX}{ga gb g gk:az->R D}{pos p apos:Pos}{x:Str}
theorem Ma (hu:c.X.A.units + 1<gz) (ha:JB c a ga) (hb:JB c b gb) (hs:tV b:=by exact fun _ _=>rfl):JE c (.Subscript a b pos) (g2 ga gb M9):=.of fun ρ=>by
 refine tJ (G3 hu (ha ρ) (hb ρ) hs) fun σ H Q h_2=>?_
 obtain ⟨H0,Hs0,la,Hs,f,q⟩:=h_2
 refine one f q fun d v H1 Hs1 e1 s1 f1 r1=>?_
 unfold g2 at q
 rw [e1,bind_ok] at q
 refine one f1 (q.on s1 (q':=fun _=>True) fun _ _=>trivial) fun y w H2 Hs2 e2 s2 f2 r2=>?_
 rw [e2,bind_ok] at q
 unfold M9 at q
 split at q
 ·rename_i ds
  split at q
  ·rename_i ky hy
   obtain rfl:=ui hy
   by_cases hf:jD (GJ ds)=true
   ·rw [if_pos hf] at q
    obtain ⟨p,kvs,rfl,h2,h3⟩:=GK f2.st.sub (r1.step s2) hf
    obtain ⟨b,rfl,hb⟩:=wJ f2.st.sub r2
    rcases h2.val ky with ⟨_,h4⟩ | ⟨u,d,h4,h5,h6⟩
    ·rw [h4] at q;exact q.elim
    ·rw [h5] at q
     exact ⟨p,u,rfl,by rw [<- h4];exact h3 b ky hb,q _ H2 Hs2 (s1.trans s2) h6⟩
   ·rw [if_neg hf] at q;exact q.elim
  ·exact q.elim
 ·exact q.elim
def OY (neg:Bool):D->D->R D
 | k,.dict ds=>match o_ k with
  | some _=>if jD (GJ ds)=true then .ok (.bool (if neg then !(l9 (GJ ds) k).isSome else (l9 (GJ ds) k).isSome)) else .no
  | none=>.no
 | _,_=>.no
theorem zW (hu:c.X.A.units + 1<gz):wg c.X (bK .NotIn) (OY true):=by
 refine ⟨fun pins s σ H x y v u Q I rv ru h=>?_,fun x y c n=>?_⟩
 ·obtain ⟨Hs,dx,dy,sub,rx,ry,d,hd,q⟩:=h
  unfold OY at hd
  split at hd
  ·rename_i ds
   split at hd
   ·rename_i ky hy
    obtain rfl:=ui hy
    split at hd
    ·rename_i hf
     cases hd
     obtain ⟨p,kvs,rfl,h2,h3⟩:=GK sub ry hf
     obtain ⟨b,rfl,hb⟩:=wJ sub rx
     cases ru
     refine L2.Ot hu I (h3 b ky hb) rv fun s' I'=>⟨.bl _,H,I',rfl,?_⟩
     have e:(nz kvs ky).isSome=(l9 (GJ ds) (tD ky)).isSome:=by
      rcases h2.val ky with ⟨h4,h5⟩ | ⟨u,d,h4,h5,h6⟩<;>rw [h4,h5]<;>rfl
     rw [e]
     exact q _ H Hs (.refl sub) (.bool _)
    ·cases hd
   ·cases hd
  ·cases hd
 ·unfold OY
  split<;>(try split)<;>(try split)<;>exact fun h=>by cases h
def rQ (i:Nat) (gk g:az->R D):az->R Fl:=fun ρ=>match ρ[i]? with
 | some (Sl.own (.dict kvs))=>(g ρ).bind fun d=>(gk ρ).bind fun k=>match o_ k with
  | some _=>if kvs.length<1000/\jD kvs=true then .ok (.nx (ρ.set i (.own (.dict (wl kvs k d))))) else .no
  | none=>.no
 | _=>.no
theorem D7 (i:Nat) (h:JE c e g) (hk:JE c k gk) (hu:c.X.A.units + 1<gz) (hN:c.X.N[i]?=some x:=by rfl) (hv:O4 c.X.env.scope x:=by first | exact iT rfl | exact ft (iT rfl) | exact ft (ft rfl)) (hd:(x == ("__debug__" : Str))=false:=by decide)
  (hcd:(x == ("__classdict__" : Str))=false:=by decide) (hs:hW e (some (.Subscript (.Name x p) k apos)) pos.line c.X.env=pure false:=by rfl):JS c (.Assign [.Subscript (.Name x p) k apos] e pos) (rQ i gk g):=.of fun ρ=>by
 refine yS (G4 hu (si hN hv hd hcd) (hk ρ) (h ρ) hs) fun D σ H h_1=>?_
 obtain ⟨H0,Hs0,la,Hs,f,q⟩:=h_1
 replace q:nB c.X.K c.cls c.E H0 Hs0 la D (rQ i gk g ρ):=q
 unfold rQ at q
 split at q
 ·rename_i kvs ho
  obtain ⟨a,o,k1,k2,k3,k4,k5⟩:=f.ow i _ ho
  refine sE f q fun d v H1 Hs1 e1 s1 f1 r1=>?_
  rw [e1,bind_ok] at q
  refine ⟨_,k1,sE f1 q fun y w H2 Hs2 e2 s2 f2 r2=>?_⟩
  rw [e2,bind_ok] at q
  split at q
  ·rename_i ky hy
   obtain rfl:=ui hy
   by_cases hl:kvs.length<1000/\jD kvs=true
   ·rw [if_pos hl] at q
    cases k5 with
    | dK r=>exact (r.notT (by cases r with | nil=>exact hl.2 | @cons k _ _ _ _ _ _=>cases k<;>exact hl.2)).elim
    | dF n r=>cases hl.2
    | dT n r =>
     have ha:=s2.all _ _ (s1.all _ _ k2)
     have r':=(r.same s1.sh).same s2.sh
     obtain ⟨b,rfl,hb⟩:=wJ f2.st.sub (.inl r2)
     exact ⟨a,_,rfl,Cg.t ha hb (dH (by rw [r.length];omega)),q _ _ Hs2 (f2.write i ho k1 (.dT RS (r'.put ky (r1.same s2.sh))))⟩
   ·rw [if_neg hl] at q;exact q.elim
  ·exact q.elim
 ·exact q.elim
end
end J
namespace J
open PySem L2
def kJ (i:Nat) (ρ:az):az:=match ρ[i]? with
 | some (Sl.own (.dict ((.tuple ks,v)::r)))=>ρ.set i (.own (.dict ((.none,.none)::(.tuple ks,v)::r)))
 | _=>ρ
theorem OZ       (I:bQ X pins σ H s) (h:H a=some (.dT kvs)):∃ o,bQ X pins σ (upd H a (.frz o (.dT kvs))) s:=by
 obtain ⟨z,y,xs,pr,o,es,ep,e1,e2,e3,e4,e5⟩:=(show c_ X.prog X.w H s.heap a (.dT kvs) from I.hok a _ h)
 have new:c_ X.prog X.w (upd H a (.frz o (.dT kvs))) s.heap a (.frz o (.dT kvs)) :=
  ⟨e1,z,y,xs,Paired.mapP pr fun p q w=>⟨w.1,by rw [bf (K6 w.2.1 h (fun z=>nomatch z))];exact w.2.1,w.2.2⟩,o,es,ep,e1,e2,e3,e4,e5⟩
 have:=I.write (x:=a) (e:=a) (h':=s.heap) (t':=s.toks) (by rw [h];trivial) (.inl rfl) (fun b u _ q=>q) ⟨o,e1⟩ new
 exact ⟨o,this⟩
theorem Uf   (h:PS X st t):PS X st (fun D σ H=>t D σ H\/∃ a kvs,H a=some (.dT kvs)/\∀ o,t D σ (upd H a (.frz o (.dT kvs)))):=fun pins s σ H D I q=>by
 rcases q with q | ⟨a,kvs,ha,q⟩
 ·exact h pins s σ H D I q
 ·obtain ⟨o,I'⟩:=OZ I ha
  exact h pins s σ _ D I' (q o)
theorem RT (i:Nat)  (h:JS c st gs):JS c st (fun ρ=>gs (kJ i ρ)):=.of fun ρ=>yS (Uf (h (kJ i ρ))) fun D' σ H hh=>by
 obtain ⟨H0,Hs0,la,Hs,f,q⟩:=hh
 by_cases hx:∃ ks v r,ρ[i]?=some (Sl.own (.dict ((.tuple ks,v)::r)))
 ·obtain ⟨ks,v,r,ho⟩:=hx
  have e:kJ i ρ=ρ.set i (.own (.dict ((.none,.none)::(.tuple ks,v)::r))):=by unfold kJ;rw [ho]
  obtain ⟨a,o,k1,k2,k3,k4,k5⟩:=f.ow i _ ho
  generalize hd:E8 ((.tuple ks,v)::r)=d0 at k5
  cases k5 with
  | lst r=>cases hd
  | dK rk =>
   cases hd
   generalize hd:((.tuple ks,v)::r:List (D×D))=d1 at rk
   cases rk with
   | nil=>cases hd
   | @cons k _ _ _ _ _ _=>cases k<;>cases hd
  | dF n r=>cases hd
  | dT n r =>
   cases hd
   exact .inr ⟨a,_,k2,fun o=>⟨H0,Hs0,la,Hs,by rw [e];exact f.write i ho k1 (.dF n r),q⟩⟩
 ·have e:kJ i ρ=ρ:=by
   unfold kJ
   split
   ·rename_i ks v r ho;exact (hx ⟨ks,v,r,ho⟩).elim
   ·rfl
  refine .inl ⟨H0,Hs0,la,Hs,by rw [e];exact f,q⟩
def Be:D->R (List D)
 | .dict ((.none,.none)::ds)=>.ok (ds.map (·.1))
 | _=>.no
def Mb (g:az->R D):az->R (List D):=fun ρ=>(g ρ).bind Be
theorem RDt.get   : ∀ {ds:List (D×D)}{i:Nat}{k:List fD}{v:V},RDt K H kvs ds->kvs[i]?=some (k,v)->∃ d,ds[i]?=some (tD k,d):=by
 induction kvs with
 | nil=>intro ds i k v h e;simp at e
 | cons x r ih =>
  intro ds i k v h e
  cases h with
  | cons h t =>
   cases i with
   | zero=>cases e;exact ⟨_,rfl⟩
   | succ i=>have q:=ih (i:=i) t e;exact q
theorem Mc  : ∀ ks:List fD,RDs K H (ks.map kV) (ks.map kD)
 | []=>.nil
 | k::r=>.cons (by cases k<;>constructor) (Mc r)
theorem O_      (h:Hn a=some (.frz o (.dT kvs))) (r:RDt K Hs kvs ds):Nw K (VT a o kvs) (ds.map (·.1)) Hn Hs:=fun H2 Hs2 e1 e2 e3=>by
 have q:=e1 _ _ h
 have hl:=r.length
 refine ⟨fun i hi=>⟨q,?_⟩,fun i hi=>⟨q,?_⟩,fun i x H3 hi y=>?_⟩
 ·rw [ak] at hi;omega
 ·rw [ak] at hi;omega
 ·obtain ⟨rfl,k,v,b,y1,rfl,y3⟩:=y
  obtain ⟨d,y4⟩:=r.get y1
  have same:dk Hs2 (upd Hs2 b (.tup (k.map kV))):=fun c u e=>by
   by_cases hc:c=b
   ·subst hc
    have:=e3 _ _ e
    rw [y3] at this
    cases this
    exact b9
   ·rw [bf hc];exact e
  refine ⟨tD k,upd Hs2 b (.tup (k.map kV)),by rw [aN,y4];rfl,⟨.refl _,same,fun c u e=>?_,fun c u e t z=>?_⟩,.tuple b9 (Mc k)⟩
  ·by_cases hc:c=b
   ·subst hc;rw [b9] at e;cases e;exact y3
   ·rw [bf hc] at e;exact e3 _ _ e
  ·by_cases hc:c=b
   ·subst hc;rw [y3] at e;cases e;cases t
   ·rw [bf hc];exact z
section
variable {c:C}{tg l k v e:aX}{g gk gv:az->R D}{pos:Pos}
theorem P0 (h:JB c l g):JI c tg l (Mb g):=.of fun ρ=>by
 refine IB (OX (h ρ)) fun σ H Q hh=>?_
 obtain ⟨H0,Hs0,la,Hs,f,q⟩:=hh
 refine one f q fun d v H1 Hs1 e1 s1 f1 r1=>?_
 unfold Mb at q
 rw [e1,bind_ok] at q
 unfold Be at q
 split at q
 ·obtain ⟨a,ea,hh⟩:=r1.dict f1.st.sub
  rcases hh with ⟨kvs,h1,h2⟩ | ⟨kvs,h1,hn,h2⟩ | ⟨o,kvs,es,he,h1,hn,h2⟩
  ·generalize hd:((.none,.none)::_:List (D×D))=d0 at h2
   cases h2 with
   | nil=>cases hd
   | @cons k _ _ _ _ _ _=>cases k<;>cases hd
  ·generalize hd:((.none,.none)::_:List (D×D))=d0 at h2
   cases h2<;>cases hd
  ·cases he
   exact ⟨a,o,kvs,ea,h1,q _ H1 Hs1 H1 s1 (.refl _) (O_ h1 h2)⟩
 ·exact q.elim
def Qz (gk gv:az->R D):az->R D:=fun ρ=>(gk ρ).bind fun k=>(gv ρ).bind fun v=>match o_ k with
 | some _=>.ok (.dict [(k,v)])
 | none=>.no
theorem D8 (hu:c.X.A.units + 1<gz) (hk:JE c k gk) (hv:JE c v gv):JN c (.Dict [some k] [v] pos) (Qz gk gv):=.of fun ρ=>by
 refine tJ (M7 hu (hk ρ) (hv ρ)) fun σ H Q hh=>?_
 obtain ⟨H0,Hs0,la,Hs,f,q⟩:=hh
 intro p hp
 have sm:cD H Hs (upd H p (.dT [])) Hs:=.mine f.st.sub hp
 have np:Hs p=none:=f.st.sub.free hp
 unfold Qz at q
 refine AT (f.step sm) (q.on sm (q':=fun _=>True) fun _ _=>trivial) fun y w H1 Hs1 e1 s1 f1 r1=>?_
 rw [e1,bind_ok] at q
 refine AT f1 (q.on (sm.trans s1) (q':=fun _=>True) fun _ _=>trivial) fun z u H2 Hs2 e2 s2 f2 r2=>?_
 rw [e2,bind_ok] at q
 split at q
 ·rename_i ky hy
  obtain rfl:=ui hy
  obtain ⟨b,rfl,hb⟩:=wJ f1.st.sub (.inl r1)
  have s12:=s1.trans s2
  have hp2:H2 p=some (.dT []):=s12.all _ _ b9
  have hn2:Hs2 p=none:=s12.out _ _ b9 rfl np
  let H3:Hp:=fun x=>if x=p then none else H2 x
  have h3:∀ x,x≠p->H3 x=H2 x:=fun x hx=>if_neg hx
  have st:cD H Hs H3 Hs2:=by
   refine ⟨fun x o e=>?_,s12.sh,fun x o e=>?_,fun x o e t n=>?_⟩
   ·have hx:=bR e hp
    rw [h3 x hx]
    exact s12.all _ _ (by rw [bf hx];exact e)
   ·have hx:x≠p:=fun z=>by rw [z,hn2] at e;cases e
    rw [h3 x hx]
    exact f2.st.sub _ _ e
   ·have hx:=bR e hp
    exact s12.out _ _ (by rw [bf hx];exact e) t n
  have:=q p (.dT [(ky,u)]) H3 Hs2 st (if_pos rfl) (.dT (by simp) (.cons r2 .nil))
  have e3:upd H3 p (.dT [(ky,u)])=upd H2 p (.dT (ml [] ky u)):=by
   funext x
   by_cases hx:x=p
   ·subst hx;rw [b9,b9];rfl
   ·rw [bf hx,bf hx,h3 x hx]
  rw [e3] at this
  exact ⟨[],ky,b,hp2,rfl,s2.all _ _ hb,by rw [gK];decide,this⟩
 ·exact q.elim
def Bf (g:az->R D):az->R Bool:=fun ρ=>(g ρ).bind fun d=>match d with
 | .list ds=>.ok (!ds.isEmpty)
 | _=>.no
theorem RU (h:JB c e g) (he:∀ whole,uI e c.X.env whole=(do let v <- whole;vw e.pos;holding [v] (truthy v)):=by intro _;rfl):JT c e (Bf g):=.of fun ρ=>Tp (Kk (h ρ) he) fun σ H Q hh=>by
 obtain ⟨H0,Hs0,la,Hs,f,q⟩:=hh
 refine one f q fun d v H1 Hs1 e1 s1 f1 r1=>?_
 unfold Bf at q
 rw [e1,bind_ok] at q
 split at q
 ·obtain ⟨a,vs,rfl,qa,ra⟩:=r1.list f1.st.sub
  refine ⟨_,.inl ⟨vs,qa,rfl⟩,?_⟩
  cases ra with
  | nil=>exact q H1 Hs1 s1
  | cons _ _=>exact q H1 Hs1 s1
 ·exact q.elim
end
end J
namespace L2
open PySem PySem.Spec PyProof.Rows
end L2
namespace J
open PySem L2
end J
namespace J
open PySem L2
def RV (i:Nat) (g:az->R Fl):az->R Fl:=fun ρ=>g (kJ i ρ)
theorem Md (i:Nat)  (h:JS c st gs):JS c st (RV i gs):=RT i h
end J
namespace J
open PySem L2
end J
namespace J
open PySem L2
def rS (i:Nat) (ρ:az):R D:=Ed ρ i
def rB (i:Nat) (ρ:az):R D:=CB ρ i
def kI (n:Int) (_:az):R D:=.ok (.int n)
def kB (b:Bool) (_:az):R D:=.ok (.bool b)
def kN (_:az):R D:=.ok .none
def kT (_:az):R Bool:=.ok true
theorem Ug (i:Nat) (ρ:az):rS i ρ=Ed ρ i:=id rfl
theorem RW (i:Nat) (ρ:az):rB i ρ=CB ρ i:=id rfl
theorem Uh (n:Int) (ρ:az):kI n ρ=.ok (.int n):=id rfl
theorem Ui (b:Bool) (ρ:az):kB b ρ=.ok (.bool b):=id rfl
theorem Uj (ρ:az):kN ρ=.ok .none:=id rfl
end J
end
section
namespace L2
open PySem PySem.Spec PyProof.Rows
section
variable {X:Cx}{tg:aX}
end
end L2
namespace J
open PySem L2
section
variable {c:C}{tg a b d:aX}{p pos:Pos}{gs:az->R (List D)}
end
end J
end
namespace L2
open PySem PySem.Spec PyProof.Rows
section
open Builtin Builtin.ObjectAttr
inductive GL (h:bB) (bmB:List aa) (nms:List Str):List aa->Prop
 | base:GL h bmB nms bmB
 | own {A:ai}{c0:aa}{dd:Option ai}{cd:ClassData}{sl:Array (Option aa)}{mA:Str->Option aa}{tl:List aa} :
   h.get? A=some { cls:=c0,dict:=dd,data:=.cls cd,slots:=sl }->h.Ns cd.ns mA->(∀ n∈nms,mA n=none)->GL h bmB nms tl->GL h bmB nms (.ref A::tl)
section
variable {M:yu}{A:aU}{E:aa->ae->Prop}{h:bB}{g:Array Eg}{d:Jp}{t:Nat}{os:OsState}
variable {nm q:Str}{C N x:ai}{bs bm bmB:List aa}{hdct:Bool}{sn:List Str}{sub:List aa}{ab:Bool}{col:Option Bool}{dd:Option ai}{k0 k1 k2 k3 k5:Option aa}{B newId initId sa owner:String}{nms:List Str}{name:Str}{v:aa}{mN:Str->Option aa}
end
section
variable {prog:aH}{w:aZ}{A:aU}{E:aa->ae->Prop}{h:bB}{g:Array Eg}{d:Jp}{t:Nat}{os:OsState}
variable {nm q:Str}{C N x:ai}{bs bm bmB:List aa}{sn:List Str}{sub:List aa}{ab:Bool}{col:Option Bool}{dd:Option ai}{k0 k1 k2 k3 k5:Option aa}{B newId initId sa owner:String}{nms:List Str}{name:Str}{v:aa}{mN:Str->Option aa}
end
end
section
section
variable {prog:aH}{w:aZ}{A:aU}{E:aa->ae->Prop}{h:bB}{g:Array Eg}{d:Jp}{t:Nat}{os:OsState}
variable {nm q:Str}{C N:ai}{bs bm bmB:List aa}{hdct:Bool}{sn:List Str}{sub:List aa}{ab:Bool}{col:Option Bool}{dd:Option ai}{k0 k1 k2 k3 k5:Option aa}{B newId initId:String}
end
section
variable {M:yu}{A:aU}{E:aa->ae->Prop}{env:Env}
variable {nm q:Str}{C N:ai}{bs bm:List aa}{hdct:Bool}{sn:List Str}{sub:List aa}{ab:Bool}{col:Option Bool}{dd:Option ai}{k0 k1 k2 k3 k5:Option aa}{newId:String}
end
section
variable {prog:aH}{w:aZ}{A:aU}{E:aa->ae->Prop}{s:ae}{env:Env}
variable {nm q:Str}{C N:ai}{bs bm bmB:List aa}{hdct:Bool}{sn:List Str}{sub:List aa}{ab:Bool}{col:Option Bool}{dd:Option ai}{k0 k1 k2 k3 k5:Option aa}{B newId initId:String}
end
end
section
structure RX (h:bB) (fI:ai):Prop where
 ex:∃ (oI:Obj) (fd:eG) (p1 p2 p3 p4:Pos),h.get? fI=some oI/\oI.cls=.type "function"/\oI.data=.func fd/\h.CodeRec fd.code fd.qualname/\fd.scope.isCoroutine=false/\fd.scope.isGenerator=false/\fd.scope.kind=.function /\
  fd.scope.names=[(("self" : Str),pA),(("number" : Str),pA)]/\fd.body=.stmts [.Assign [.Attribute (.Name "self" p1) "number" p2] (.Name "number" p3) p4]/\∀ (s:ae) (e v:aa),(∀ b o,h.get? b=some o->s.heap.get? b=some o)->yw s fd ⟨[e,v],[]⟩ [("self",e),("number",v)]
section
variable {prog:aH}{w:aZ}{A:aU}{E:aa->ae->Prop}{s:ae}
variable {nm q:Str}{C N e fI:ai}{bs bm bmB:List aa}{sn:List Str}{sub:List aa}{ab:Bool}{col:Option Bool}{dd:Option ai}{k0 k1 k2 k3 k5:Option aa}{B newId initId sa owner:String}{nms:List Str}{v:aa}{mN:Str->Option aa}
end
section
variable {M:yu}{A:aU}{E:aa->ae->Prop}{s:ae}
end
end
section
structure VU (x:Str) (C:ai) (mg:Str->Option aa) (base:bB):Prop where
 bound:mg x=some (.ref C)
 obj:∃ nm q N bs bm sn sub ab col dd k0 k1 k2 k3 k5 mN fI,base.get? C=some (excClassObj nm q C N bs bm true sn sub ab col dd k0 k1 k2 k3 k5 "ValueError.__new__")/\base.Ns N mN/\mN "__init__"=some (.ref fI)/\mN "__setattr__"=none/\mN "number"=none /\
  GL base [.type "ValueError",.type "Exception",.type "BaseException",.type "object"] ["__init__","__setattr__","number"] bm/\RX base fI
section
variable {P:aH}{w:aZ}{K:a8}{mg:Str->Option aa}{base:bB}{N:List Str}{qual:Str}{scope:fZ}{f:ai}{cd:aa}{A:aU}{outer:List Env}{s:ae}{H:Hp}{E:XK}
end
end
end L2
namespace J
open PySem L2
section
open PySem.W (nsIn nsOkIn codeIn fnOf)
theorem Uk      (X:K.In h) (G:h.Ns N mg) (e:nsIn K N n=some (some v)):mg n=some v:=by
 obtain ⟨o,es,ep,ho,hd,_,hf⟩:=G
 unfold fR at e
 split at e
 ·rename_i c d es' n' sl q
  have:=X _ _ q
  rw [ho] at this
  cases this
  cases hd
  split at e
  ·rename_i he
   rw [<- hf]
   unfold nsFind findBy
   rw [<- Hw,he]
   cases e
   rfl
  ·split at e<;>cases e
 ·cases e
structure VV (K:a8) (x:Str) (C:ai) (st:dz):Prop where
 ns:nsIn K bL x=some (some (.ref C))
 own:∀ {h:bB}{mg:Str->Option aa},K.In h->h.Ns bL mg->VU x C mg h
 mb:dh K C (.type "BaseException")=some true
 ox:∀ {h:bB},K.In h->∃ bm,Tf h C bm/\∀ v,(v == bj C)=false->dh K C v=some true->bm.contains v=true
theorem topN {K:a8}{x:Str}{C CP fI T0 Nn NP:ai}{st:dz}{nm qn nmP qnP fq:Str}{bs bsP mroP subP sub:List aa}{sn snP:List Str}{ab abP hdP delP:Bool}{col colP:Option Bool}{dd dP od dT an:Option ai}{k0 k1 k2 k3 k5:Option aa}{c0 kV doc pm cdv ct cT:aa}{slP slF slT:Array (Option aa)}{nT:Nat}{p1 p2 p3 p4:Pos}{cN cM:aa}{dN dM:Option ai}{esN esM:Array lM}{epN epM:Nat}{slN slM:Array (Option aa)}
  (a1:nsIn K bL x=some (some (.ref C))) (a4:dh K C (.type "BaseException")=some true)
  (a2:K.lookup C=some ⟨.type "type",dd,.cls ⟨nm,bs,[.ref C,.ref CP,.type "ValueError",.type "Exception",.type "BaseException",.type "object"],Nn,qn,true,sn,sub,ab,col,false⟩,#[k0,k1,k2,k3,some (.builtin "ValueError.__new__"),k5]⟩)
  (a3:K.lookup CP=some ⟨c0,dP,.cls ⟨nmP,bsP,mroP,NP,qnP,hdP,snP,subP,abP,colP,delP⟩,slP⟩)
  (b1:nsIn K Nn "__init__"=some (some (.ref fI))) (b2:nsIn K Nn "__setattr__"=some none) (b3:nsIn K Nn "number"=some none)
  (c1:nsIn K NP "__init__"=some none) (c2:nsIn K NP "__setattr__"=some none) (c3:nsIn K NP "number"=some none)
  (d1:K.lookup fI=some ⟨.type "function",od,.func (fnOf "__init__" fq (kh st) (i6 st) (aB st) (.ref T0) kV doc pm an cdv ct),slF⟩)
  (d2:K.lookup T0=some ⟨cT,dT,.seq #[.none] nT,slT⟩) (d3:codeIn K cdv fq=true)
  (g1:K.lookup Nn=some ⟨cN,dN,.dict esN epN,slN⟩) (g2:K.lookup NP=some ⟨cM,dM,.dict esM epM,slM⟩) (g3:(esN.toList.all fun e=>match e.key with | .str _ _=>true | _=>false)=true) (g4:(esM.toList.all fun e=>match e.key with | .str _ _=>true | _=>false)=true)
  (f1:i6 st=[.Assign [.Attribute (.Name "self" p1) "number" p2] (.Name "number" p3) p4]) (f2:(aB st).names=[(("self" : Str),pA),(("number" : Str),pA)])
  (f3:(aB st).isCoroutine=false) (f4:(aB st).isGenerator=false) (f5:(aB st).kind=.function)
  (f6:∀ e v,∃ k,NB (fnOf "__init__" fq (kh st) (i6 st) (aB st) (.ref T0) kV doc pm an cdv ct) ⟨[e,v],[]⟩=Jw (.ref T0) >>= k/\k (some #[.none])=pure [(("self" : Str),e),(("number" : Str),v)]):VV K x C st:=by
 have e1:nsOkIn K Nn=true:=by unfold K1;rw [g1];show esN.all _=true;rw [<- vY];exact g3
 have e2:nsOkIn K NP=true:=by unfold K1;rw [g2];show esM.all _=true;rw [<- vY];exact g4
 refine ⟨a1,fun {h mg} X G=>⟨mU X G a1,nm,qn,Nn,bs,_,sn,sub,ab,col,dd,k0,k1,k2,k3,k5,h.nsMap Nn,fI,X _ _ a2,.of_isNs (lN X e1),?_,eA X e1 b2,eA X e1 b3,?_,⟨_,_,p1,p2,p3,p4,X _ _ d1,rfl,rfl,Ei X d3,f3,f4,f5,f2,congrArg FuncBody.stmts f1,fun s e v kb=>?_⟩⟩,a4,fun {h} X=>⟨_,⟨⟨nm,qn,Nn,bs,true,sn,sub,ab,col,dd,k0,k1,k2,k3,k5,_,X _ _ a2⟩,rfl⟩,fun v nv hv=>?_⟩⟩
 ·exact Uk X (.of_isNs (lN X e1)) b1
 ·refine .own (X _ _ a3) (.of_isNs (lN X e2)) (fun n hn=>?_) .base
  rcases List.mem_cons.mp hn with z | hn
  ·rw [z];exact eA X e2 c1
  rcases List.mem_cons.mp hn with z | hn
  ·rw [z];exact eA X e2 c2
  ·rw [List.mem_singleton.mp hn];exact eA X e2 c3
 ·obtain ⟨k,k1,k2⟩:=f6 e v
  exact BindsTo.of_defaults rfl (kb _ _ (X _ _ d2)) rfl k1 k2
 ·unfold dh rE at hv
  rw [a2] at hv
  have:(bj C::[bj CP,.type "ValueError",.type "Exception",.type "BaseException",.type "object"]).contains v=true:=by simpa using hv
  rw [JC,nv,tP] at this
  exact this
section
variable {P:aH}{w:aZ}{K:a8}{mg:Str->Option aa}{base:bB}{N:List Str}{qual:Str}{scope:fZ}{f:ai}{cd:aa}{A:aU}{outer:List Env}{s:ae}{H:Hp}{E:XK}{cls:Str->ai}
end
end
section
section
variable {c:C}{e:aX}{g:az->R D}{pos p:Pos}
end
end
end J
section
namespace L2
open PySem PySem.Spec PyProof.Rows
end L2
namespace L2
open PySem PySem.Spec PyProof.Rows
end L2
namespace J
open PySem L2
end J
end
namespace J
open PySem L2
section
end
end J
namespace L2
open PySem PySem.Spec PyProof.Rows
section
section
variable {prog:aH}{w:aZ}{A:aU}{R:rZ->ae->Prop}{s:ae}
end
def Tks (H H':Hp):Prop:=∀ b ys,H b=some (.tup ys)->H' b=some (.tup ys)
end
end L2
namespace J
open PySem L2
section
section
variable {c:C}{pos:Pos}{x:Str}{kx vx iter tg:aX}{ifs:List aX}{scope:fZ}{N':List Str}{nt:Nat}{ix:List Nat}{gi:az->R (List D)}{gt:az->R Bool}{gk gv:az->R D}
end
end
end J
section
namespace L2
open PySem PySem.Spec PyProof.Rows
end L2
namespace J
open PySem L2
section
variable {c:C}{pos:Pos}{x:Str}{kx vx iter tg:aX}{ifs:List aX}{scope:fZ}{N':List Str}{nt:Nat}{ix:List Nat}{gi:az->R (List D)}{gt:az->R Bool}{gk gv:az->R D}
end
end J
end
namespace J
open PySem L2
section
end
section
end
section
def VW (p:HO->Bool) (H Hs:Hp):Hp:=fun b=>match Hs b,H b with
 | some o,_=>some o
 | none,some o=>if p o then some o else none
 | none,none=>none
def WP (p:HO->Bool) (H Hs Hs1:Hp):Hp:=fun b=>match Hs b,H b with
 | none,some o=>if p o then none else Hs1 b
 | _,_=>Hs1 b
section
variable {p:HO->Bool}{H Hs H' Hs' Hs1:Hp}{K:a8}
end
inductive Ul (p:HO->Bool) (K:a8) (cls:Str->ai) (E:XK) (ρ:az) (r:R (List D)) (σ:St) (H:Hp) (Q:List V->Hp->Prop):Prop
 | mk (H0 Hs0:Hp) (la:Nat->Option ai) (Hs:Hp) (f:Fr K H0 Hs0 la ρ σ H Hs) (q:Fin K cls E H Hs r fun d=>∀ v H' Hs',cD H Hs H' Hs'->RDs K (VW p H' Hs') v d->Q v H'):Ul p K cls E ρ r σ H Q
structure JL (p:HO->Bool) (c:C) (es:List aX) (g:az->R (List D)):Prop where of ::
 run:∀ ρ,PA c.X es (Ul p c.X.K c.cls c.E ρ (g ρ))
section
variable {p:HO->Bool}{c:C}{e:aX}{es:List aX}{g:az->R D}{gs:az->R (List D)}{pos:Pos}
end
end
section
section
variable {p:HO->Bool}{c:C}{e:aX}{es:List aX}{g:az->R D}{gs:az->R (List D)}{pos spos pn apos cpos:Pos}{x:Str}
end
end
end J
section
namespace L2
open PySem PySem.Spec PyProof.Rows
end L2
namespace J
open PySem L2
end J
end
namespace J
open PySem L2
section
section
variable {c:C}{e:aX}{g:az->R D}{pn cpos pos:Pos}
end
end
end J
section
namespace L2
open PySem PySem.Spec PyProof.Rows
inductive Um (X:Cx) (CX:HY) (E:XK) (t:TA) (σ:St) (Q:VK) (v:V) (H1:Hp):Prop
 | mk (k:Nat) (f:ai) (fd:eG) (ps:List Str) (sp:Sp) (h0:v=.ref f) (F:rj X.prog X.w X.K X.mg X.base CX k f fd ps sp) (hr:kZ k X.A) (hk:f9 X.K (.ref f)=true) (hb:l7 X.K fd ps []) (q:PK sp [] E t σ H1 Q):Um X CX E t σ Q v H1
end L2
namespace J
open PySem L2
inductive D9 (c:C) (n j:Nat):List aX->List (List D->R D)->List ai->Prop
 | nil:D9 c n j [] [] []
 | cons {x:Str}{p:Pos}{F:List D->R D}{k:Nat}{f:ai}{fd:eG}{ps:List Str}{es:List aX}{Fs:List (List D->R D)}{as:List ai} (hf:rj c.X.prog c.X.w c.X.K c.X.mg c.X.base (oY c.X.prog c.X.w) k f fd ps (Q7 c.X.K c.cls n F)) (hm:c.X.mg x=some (.ref f)) (hk:f9 c.X.K (.ref f)=true) (hb:l7 c.X.K fd ps []) (hj:k<=j) (hg:Gl c.X x) (hdb:(x == ("__debug__" : Str))=false) (r:D9 c n j es Fs as):D9 c n j (.Name x p::es) (F::Fs) (f::as)
section
variable {c:C}{n j:Nat}{es:List aX}{Fs:List (List D->R D)}{x:Str}{p pos:Pos}
inductive Me (c:C) (n j:Nat) (F:List D->R D) (f:ai):Prop
 | mk (k:Nat) (fd:eG) (ps:List Str) (hf:rj c.X.prog c.X.w c.X.K c.X.mg c.X.base (oY c.X.prog c.X.w) k f fd ps (Q7 c.X.K c.cls n F)) (hk:f9 c.X.K (.ref f)=true) (hb:l7 c.X.K fd ps []) (hj:k<=j):Me c n j F f
theorem IK (h:D9 c n j es Fs as):∀ {i:Nat}{F:List D->R D},Fs[i]?=some F->∃ f,as[i]?=some f/\Me c n j F f:=by
 induction h with
 | nil=>intro i F e;simp at e
 | @cons x p F k f fd ps es Fs as hf hm hk hb hj hg hdb r ih =>
  intro i F e
  cases i with
  | zero=>cases e;exact ⟨f,rfl,k,fd,ps,hf,hk,hb,hj⟩
  | succ i=>have q:=ih (i:=i) e;exact q
def QA (Fs:List (List D->R D)) (n:Nat) (gi:az->R D) (gs:az->R (List D)) (ρ:az):R Fl:=(gi ρ).bind fun d=>match d with
 | .int k=>if 0<=k then (match Fs[k.toNat]? with
  | some F=>(gs ρ).bind fun ds=>if ds.length=n then (F ds).bind fun d=>.ok (.rt d) else .no
  | none=>.no) else .no
 | _=>.no
variable {e ie:aX}{gi:az->R D}{gs:az->R (List D)}{ess:List aX}
theorem AH       (P:D9 c n j es Fs as) (hr:kZ j c.X.A) (f:Fr c.X.K H0 Hs0 la ρ σ H Hs) (ha:H a=some (.lst (as.map V.ref))) (q:nB c.X.K c.cls c.E H0 Hs0 la D' (QA Fs n gi gs ρ)) :
  TR c.X.K c.cls c.E ρ (gi ρ) σ H fun y H2=>T6 c.X.K (.ref a) y H2 (Um c.X (oY c.X.prog c.X.w) c.E (UX c.X.K c.cls c.E ρ (gs ρ)) σ D'.rt):=by
 refine sE f q fun d v H2 Hs2 e1 s1 f2 r1=>?_
 unfold QA at q
 rw [e1,bind_ok] at q
 cases r1 with
 | int k =>
  simp only at q
  by_cases hk:0<=k
  ·rw [if_pos hk] at q
   split at q
   ·rename_i F hF
    obtain ⟨g,h1,k',fd,ps,hf,hkp,hb,hj⟩:=IK P hF
    have hix:Ec (as.map V.ref) k=some (.ref g):=by
     have:=qy (xs:=as.map V.ref) (j:=k.toNat) (v:=V.ref g) (by rw [aN,h1];rfl)
     rwa [dY hk] at this
    refine ⟨a,as.map V.ref,k,.ref g,rfl,rfl,.of (s1.all _ _ ha),hix,k',g,fd,ps,_,rfl,hf,hr.mono hj,hkp,hb,H0,Hs0,la,Hs2,f2,?_⟩
    cases hg:gs ρ with
    | no=>rw [hg] at q;exact q.elim
    | ex y m=>rw [hg] at q;exact fun H3 Hs3 s3=>q H3 Hs3 (f2.st.trans s3)
    | ok ds =>
     rw [hg,bind_ok] at q
     intro vs H3 Hs3 s3 r3
     have f3:=f2.step s3
     by_cases hn:ds.length=n
     ·rw [if_pos hn] at q
      show Q7 _ _ _ _ (vs++[]) _ _ _
      rw [cf]
      refine ⟨Hs3,ds,f3.st.sub,hn,r3,?_⟩
      cases hFd:F ds with
      | no=>rw [hFd] at q;exact q.elim
      | ex y m=>rw [hFd] at q;exact fun H4 Hs4 s4=>q H4 Hs4 (f3.st.trans s4)
      | ok d=>rw [hFd] at q;exact fun v H4 Hs4 s4 r4=>q v H4 Hs4 (f3.st.trans s4) r4
     ·rw [if_neg hn] at q;exact q.elim
   ·exact q.elim
  ·rw [if_neg hk] at q;exact q.elim
 | list _ _=>exact q.elim
 | none=>exact q.elim
 | bool _=>exact q.elim
 | str _=>exact q.elim
 | tuple _ _=>exact q.elim
 | dictK _ _=>exact q.elim
 | dictT _ _ _=>exact q.elim
 | dictF _ _ _=>exact q.elim
end
end J
namespace J
open PySem L2
end J
end
namespace TS
open PySem PyProof.Rows
section
def P1:Bool->cq->Array cq->Nat->Nat->Nat->StateT dX Sem (Option Nat):=sortPriv% PySem.Builtin.gallop
section
variable {prog:aH}{w:aZ}{A:aU}{E:aa->ae->Prop}{s:ae}{kd:mj}{rk:aa->Nat}{L:List cq}
def Cp (prog:aH) (w:aZ) (A:aU) (s:ae) (kd:mj) (rk:aa->Nat) (L:List cq):Prop :=
 ∀ x∈L,∀ y∈L,∀ (Q:Bool->ae->Prop) (E:aa->ae->Prop),Q (decide (rk x.1<rk y.1)) s->au (ay prog w) A (keyLt' kd x.1 y.1) Q E s
theorem Mf {x y:cq}{Q:Option Bool->dX->Prop}{st:dX} (hC:Cp prog w A s kd rk L) (hk:kindOf st=kd) (hx:x∈L) (hy:y∈L)
  (h:Q (some (decide (rk x.1<rk y.1))) st):wpS (ay prog w) A E s (lt' x y) Q st:=by
 rw [lt'_eq]
 refine ax (mf ?_)
 rw [hk]
 exact ax (rg (jM (hC x hx y hy _ _ ⟨rfl,aL h⟩)))
theorem fj {a:Array cq}{i:Nat}{p:cq}{Q:cq->dX->Prop}{st:dX} (hi:a[i]?=some p) (h:Q p st):wpS (ay prog w) A E s (elem' a i) Q st:=by
 rw [elem'_eq,hi];exact aL h
structure Uo (rk:aa->Nat) (L:List cq) (a:Array cq) (b n:Nat) (g:Nat->Nat):Prop where
 at_:∀ i,i<n->∃ p,a[b + i]?=some p/\p∈L/\rk p.1=g i
 up:∀ i j,i<j->j<n->g i<g j
variable {l:Bool}{k:cq}{a:Array cq}{b n h i:Nat}{g:Nat->Nat}{st:dX}
theorem GM (hC:Cp prog w A s kd rk L) (hk:kindOf st=kd) (hr:Uo rk L a b n g) (hx:k∈L) (hne:∀ i,i<n->g i≠rk k.1) (hi:i<n)
  (h:Q (some (decide (g i<rk k.1))) st):wpS (ay prog w) A E s (do
   let x <- elem' a (b + i)
   if l=true then lt' x k else do
    let o <- lt' k x
    pure (o.map (fun x=>!x))) Q st:=by
 obtain ⟨p,e,m,r⟩:=hr.at_ i hi
 refine ax (fj e ?_)
 cases l with
 | true=>rw [if_pos rfl];refine Mf hC hk m hx ?_;rw [r];exact h
 | false =>
  rw [if_neg (by decide)]
  refine ax (Mf hC hk hx m (aL ?_))
  have e:(!decide (rk k.1<rk p.1))=decide (g i<rk k.1):=by
   have:=hne i hi
   rw [r]
   rcases Nat.lt_trichotomy (g i) (rk k.1) with h | h | h
   ·simp [h,bW h]
   ·exact absurd h this
   ·simp [h,Nat.not_lt.2 (bW h)]
  rw [cH,e];exact h
theorem nG (hC:Cp prog w A s kd rk L) (hk:kindOf st=kd) (hr:Uo rk L a b n g) (hx:k∈L) (hne:∀ i,i<n->g i≠rk k.1) (hh:h<n)
  (q:∀ m,m<=n->(∀ i,i<m->g i<rk k.1)->(∀ i,m<=i->i<n->rk k.1<g i)->Q (some m) st):wpS (ay prog w) A E s (P1 l k a b n h) Q st:=by
 have lo_of:∀ j,j<n->g j<rk k.1->∀ i,i<j + 1->g i<rk k.1:=fun j hj hl i hi=>by
  rcases cG i j with h | h
  ·exact eI (hr.up i j h hj) hl
  ·rw [show i=j by omega];exact hl
 have hi_of:∀ j,j<n->¬ g j<rk k.1->∀ i,j<=i->i<n->rk k.1<g i:=fun j hj hl i hi hn=>by
  have h1:=hne j hj
  have h2:rk k.1<g j:=by omega
  rcases cG j i with h | h
  ·exact eI h2 (hr.up j i h hn)
  ·rw [show i=j by omega];exact h2
 refine ax (GM hC hk hr hx hne hh ?_)
 dsimp (config:={ zeta:=false }) only
 extract_lets jp
 have J:∀ x y lo hi,lo<=hi->hi<=n->(∀ i,i<lo->g i<rk k.1)->(∀ i,hi<=i->i<n->rk k.1<g i)->wpS (ay prog w) A E s (jp () x y lo hi) Q st:=by
  intro x y lo hi h1 h2 h3 h4
  refine ax (e8 (cK (I:=fun x c st'=>st'=st/\∃ l r,c=(none,l,r)/\l<=r/\r<=n/\r - l<=n - x/\(∀ i,i<l->g i<rk k.1)/\(∀ i,r<=i->i<n->rk k.1<g i))
   (Q:=fun c st'=>st'=st/\∃ l,c=(none,l,l)/\l<=n/\(∀ i,i<l->g i<rk k.1)/\(∀ i,l<=i->i<n->rk k.1<g i)) ?_ ?_ ⟨rfl,lo,hi,rfl,h1,h2,by omega,h3,h4⟩) ?_)
  ·rintro x c st' - hx' ⟨rfl,l,r,rfl,a1,a2,a3,a4,a5⟩
   dsimp only
   by_cases hge:l ≥ r
   ·rw [if_pos hge]
    have:l=r:=by omega
    subst this
    exact aL ⟨rfl,l,rfl,a2,a4,a5⟩
   ·rw [if_neg hge]
    refine ax (GM hC hk hr hx hne (by omega) ?_)
    dsimp only
    by_cases hb:g (l + (r - l) / 2)<rk k.1
    ·rw [if_pos (by simpa using hb)]
     exact aL ⟨rfl,_,r,rfl,by omega,a2,by omega,lo_of _ (by omega) hb,a5⟩
    ·rw [if_neg (by simpa using hb)]
     exact aL ⟨rfl,l,_,rfl,by omega,by omega,by omega,a4,hi_of _ (by omega) hb⟩
  ·rintro c st' ⟨rfl,l,r,rfl,a1,a2,a3,a4,a5⟩
   have:l=r:=by omega
   subst this
   exact ⟨rfl,l,rfl,a2,a4,a5⟩
  ·rintro c st' ⟨rfl,l,rfl,a2,a4,a5⟩
   exact aL (q l a2 a4 a5)
 by_cases hb:g h<rk k.1
 ·rw [if_pos (by simpa using hb)]
  refine ax (e8 (cK (I:=fun x c st'=>st'=st/\∃ u v,c=(none,u,v)/\u<v/\x<v/\h + u<n/\g (h + u)<rk k.1)
   (Q:=fun c st'=>st'=st/\∃ u v,c=(none,u,v)/\u<v/\h + u<n/\g (h + u)<rk k.1/\(n - h<=v\/(h + v<n/\¬ g (h + v)<rk k.1))) ?_ ?_ ⟨rfl,0,1,rfl,by omega,by omega,by omega,hb⟩) ?_)
  ·rintro x c st' - hx' ⟨rfl,u,v,rfl,a1,a2,a3,a4⟩
   dsimp only
   by_cases hge:v ≥ n - h
   ·rw [if_pos hge];exact aL ⟨rfl,u,v,rfl,a1,a3,a4,.inl hge⟩
   ·rw [if_neg hge]
    refine ax (GM hC hk hr hx hne (by omega) ?_)
    dsimp only
    by_cases hc:g (h + v)<rk k.1
    ·rw [if_neg (by simp [hc])];exact aL ⟨rfl,v,_,rfl,by omega,by omega,by omega,hc⟩
    ·rw [if_pos (by simp [hc])];exact aL ⟨rfl,u,v,rfl,a1,a3,a4,.inr ⟨by omega,hc⟩⟩
  ·rintro c st' ⟨rfl,u,v,rfl,a1,a2,a3,a4⟩
   exact ⟨rfl,u,v,rfl,a1,a3,a4,.inl (by omega)⟩
  ·rintro c st' ⟨rfl,u,v,rfl,a1,a3,a4,a5⟩
   refine J u v (h + u + 1) (h + min v (n - h)) (by omega) (by omega) (lo_of _ a3 a4) ?_
   rcases Nat.le_total (n - h) v with h1 | h1
   ·intro i h2 h3;rw [Nat.min_eq_right h1] at h2;omega
   ·rcases a5 with a5 | ⟨a5,a6⟩
    ·intro i h2 h3;rw [lP h1] at h2;omega
    ·rw [lP h1];exact hi_of _ a5 a6
 ·rw [if_neg (by simpa using hb)]
  refine ax (e8 (cK (I:=fun x c st'=>st'=st/\∃ u v,c=(none,u,v)/\u<v/\x<v/\u<=h/\¬ g (h - u)<rk k.1)
   (Q:=fun c st'=>st'=st/\∃ u v,c=(none,u,v)/\u<v/\u<=h/\¬ g (h - u)<rk k.1/\(h + 1<=v\/(v<=h/\g (h - v)<rk k.1))) ?_ ?_ ⟨rfl,0,1,rfl,by omega,by omega,by omega,hb⟩) ?_)
  ·rintro x c st' - hx' ⟨rfl,u,v,rfl,a1,a2,a3,a4⟩
   dsimp only
   by_cases hge:v ≥ h + 1
   ·rw [if_pos hge];exact aL ⟨rfl,u,v,rfl,a1,a3,a4,.inl hge⟩
   ·rw [if_neg hge]
    refine ax (GM hC hk hr hx hne (by omega) ?_)
    dsimp only
    by_cases hc:g (h - v)<rk k.1
    ·rw [if_pos (by simp [hc])];exact aL ⟨rfl,u,v,rfl,a1,a3,a4,.inr ⟨by omega,hc⟩⟩
    ·rw [if_neg (by simp [hc])];exact aL ⟨rfl,v,_,rfl,by omega,by omega,by omega,hc⟩
  ·rintro c st' ⟨rfl,u,v,rfl,a1,a2,a3,a4⟩
   exact ⟨rfl,u,v,rfl,a1,a3,a4,.inl (by omega)⟩
  ·rintro c st' ⟨rfl,u,v,rfl,a1,a3,a4,a5⟩
   refine J u v (h + 1 - min v (h + 1)) (h - u) (by omega) (by omega) ?_ (hi_of _ (by omega) a4)
   rcases a5 with a5 | ⟨a5,a6⟩
   ·intro i h2;omega
   ·intro i h2;exact lo_of (h - v) (by omega) a6 i (by omega)
end
end
section
structure Mg {α:Type} (lt:α->α->Prop) (T out ra rb:List α):Prop where
 perm:(out++ra++rb).Perm T
 so:out.Pairwise lt
 sa:ra.Pairwise lt
 sb:rb.Pairwise lt
 oa:∀ x∈out,∀ y∈ra,lt x y
 ob:∀ x∈out,∀ y∈rb,lt x y
section
variable {α:Type}{lt:α->α->Prop}{T out ra rb p:List α}
theorem Mg.comm (h:Mg lt T out ra rb):Mg lt T out rb ra :=
 ⟨by
  refine nQ ?_ h.perm
  rw [dQ,dQ]
  exact List.Perm.append_left _ List.perm_append_comm,h.so,h.sb,h.sa,h.ob,h.oa⟩
theorem Mg.take (h:Mg lt T out (p++ra) rb) (hp:∀ x∈p,∀ y∈rb,lt x y):Mg lt T (out++p) ra rb:=by
 have s2:=gx.1 h.sa
 refine ⟨by simpa [dQ] using h.perm,gx.2 ⟨h.so,s2.1,fun x hx y hy=>h.oa x hx y (bg _ hy)⟩,s2.2.1,h.sb,?_,?_⟩
 ·intro x hx y hy
  rcases d_.1 hx with hx | hx
  ·exact h.oa x hx y (aF _ hy)
  ·exact s2.2.2 x hx y hy
 ·intro x hx y hy
  rcases d_.1 hx with hx | hx
  ·exact h.ob x hx y hy
  ·exact hp x hx y hy
theorem Mg.fin (h:Mg lt T out ra rb) (hp:∀ x∈ra,∀ y∈rb,lt x y):(out++ra++rb).Perm T/\(out++ra++rb).Pairwise lt :=
 ⟨h.perm,gx.2 ⟨gx.2 ⟨h.so,h.sa,h.oa⟩,h.sb,fun x hx y hy=>(d_.1 hx).elim (fun hx=>h.ob x hx y hy) fun hx=>hp x hx y hy⟩⟩
end
section
variable {a:Array cq}{i k:Nat}{x:cq}
theorem Da (h:x∈a.toList.drop i):∃ j,i<=j/\a[j]?=some x:=by
 obtain ⟨n,hn⟩:=kz.1 h
 rw [uE] at hn
 exact ⟨i + n,by omega,by rw [<- aE];exact hn⟩
theorem m_ (h:x∈(a.toList.drop i).take k):∃ j,i<=j/\j<i + k/\a[j]?=some x:=by
 obtain ⟨n,hn⟩:=kz.1 h
 rw [JF] at hn
 split at hn
 ·rw [uE] at hn
  exact ⟨i + n,by omega,by omega,by rw [<- aE];exact hn⟩
 ·cases hn
theorem Db (h:x∈a.toList.take k):∃ j,j<k/\a[j]?=some x:=by
 obtain ⟨j,_,h1,h2⟩:=m_ (i:=0) (k:=k) h
 exact ⟨j,by omega,h2⟩
theorem eD (h:a[i]?=some x):x∈a.toList:=by
 rw [<- aE] at h;exact dA h
theorem GN (h:a[i]?=some x):a.toList.drop i=[x]++a.toList.drop (i + 1):=by
 rw [<- aE] at h
 obtain ⟨hl,rfl⟩:=nj.1 h
 exact Ao hl
theorem GO (h:a[i]?=some x):a.toList.take (i + 1)=a.toList.take i++[x]:=by
 rw [<- aE] at h
 rw [K2,h];rfl
theorem zX:a.toList.drop i=(a.toList.drop i).take k++a.toList.drop (i + k):=by
 rw [<- zr];exact (fJ k _).symm
theorem fk (h:i<a.size):∃ p,a[i]?=some p:=⟨a[i],bt h⟩
theorem Dc:(a.extract i (i + k)).toList=(a.toList.drop i).take k:=by
 rw [gd,dS,List.take_drop]
theorem qH:(a.extract i a.size).toList=a.toList.drop i:=by
 rw [gd,dS]
 rw [jR (by simp)]
end
def P2 (rk:aa->Nat) (a:Array cq):Prop:=∀ (i j:Nat) (p q:cq),i<j->a[i]?=some p->a[j]?=some q->rk p.1<rk q.1
def dm (rk:aa->Nat) (a:Array cq) (i:Nat):Nat:=(a[i]?.map fun p=>rk p.1).getD 0
section
variable {rk:aa->Nat}{a:Array cq}{L:List cq}
theorem bE  (h:a[i]?=some p):dm rk a i=rk p.1:=by unfold dm;rw [h];rfl
theorem P2.pw (h:P2 rk a):a.toList.Pairwise fun x y=>rk x.1<rk y.1:=by
 rw [nl]
 intro i j hi hj hij
 exact h i j _ _ hij (by rw [<- aE];exact aV hi) (by rw [<- aE];exact aV hj)
theorem P2.run (h:P2 rk a) (hL:∀ p∈a.toList,p∈L) (hn:b + n<=a.size):Uo rk L a b n (fun i=>dm rk a (b + i)):=by
 refine ⟨fun i hi=>?_,fun i j hij hj=>?_⟩
 ·obtain ⟨p,hp⟩:=fk (a:=a) (i:=b + i) (by omega)
  exact ⟨p,hp,hL p (eD hp),(bE hp).symm⟩
 ·obtain ⟨p,hp⟩:=fk (a:=a) (i:=b + i) (by omega)
  obtain ⟨q,hq⟩:=fk (a:=a) (i:=b + j) (by omega)
  show dm rk a _<dm rk a _
  rw [bE hp,bE hq]
  exact h _ _ p q (by omega) hp hq
end
end
section
def Mh:Array cq->Array cq->StateT dX Sem (Array cq):=sortPriv% PySem.Builtin.mergeLo
def Uq:Nat->StateT dX Sem Unit:=sortPriv% PySem.Builtin.setMinGallop
def Sm (st st':dX):Prop:=kindOf st'=kindOf st/\aJ st'=aJ st/\bN st'=bN st/\uS st'=uS st
section
variable {prog:aH}{w:aZ}{A:aU}{E:aa->ae->Prop}{s:ae}{kd:mj}{rk:aa->Nat}{L:List cq}{st st':dX}
theorem Sm.rfl:Sm st st:=⟨NX _,NX _,NX _,NX _⟩
theorem Bg   (hm:Sm st0 st) (h:∀ st',Sm st0 st'->Q () st'):wpS (ay prog w) A E s (Uq n) Q st :=
 nW (h _ hm)
structure Mi (rk:aa->Nat) (L:List cq) (a b:Array cq):Prop where
 sa:P2 rk a
 sb:P2 rk b
 la:∀ p∈a.toList,p∈L
 lb:∀ p∈b.toList,p∈L
 ne:∀ p∈a.toList,∀ q∈b.toList,rk p.1≠rk q.1
def RY (rk:aa->Nat) (x y:cq):Prop:=rk x.1<rk y.1
def nH (rk:aa->Nat) (a b r:Array cq):Prop:=r.toList.Perm (a.toList++b.toList)/\r.toList.Pairwise (RY rk)
def V (rk:aa->Nat) (a b out:Array cq) (ia ib:Nat):Prop:=Mg (RY rk) (a.toList++b.toList) out.toList (a.toList.drop ia) (b.toList.drop ib)
variable {a b out:Array cq}{ia ib k:Nat}{p q:cq}
theorem wK {x y:cq} (t:P2 rk b) (hq:b[ib]?=some q) (h:rk x.1<rk q.1) (hy:y∈b.toList.drop ib):rk x.1<rk y.1:=by
 obtain ⟨j,hj,e⟩:=Da hy
 rcases cG ib j with h1 | h1
 ·exact eI h (t _ _ _ _ h1 hq e)
 ·rw [show j=ib by omega,hq] at e;cases e;exact h
theorem V.pushA (v:V rk a b out ia ib) (t:Mi rk L a b) (hp:a[ia]?=some p) (hq:b[ib]?=some q) (h:rk p.1<rk q.1):V rk a b (out.push p) (ia + 1) ib:=by
 unfold V at *
 rw [i8]
 rw [GN hp] at v
 exact v.take fun x hx y hy=>by
  rw [bZ.1 hx];exact wK t.sb hq h hy
theorem V.pushB (v:V rk a b out ia ib) (t:Mi rk L a b) (hp:a[ia]?=some p) (hq:b[ib]?=some q) (h:rk q.1<rk p.1):V rk a b (out.push q) ia (ib + 1):=by
 unfold V at *
 rw [i8]
 rw [GN hq] at v
 exact (v.comm.take fun x hx y hy=>by
  rw [bZ.1 hx];exact wK t.sa hp h hy).comm
theorem V.moreA (v:V rk a b out ia ib) (t:Mi rk L a b) (hq:b[ib]?=some q) (h:∀ i,i<k->dm rk a (ia + i)<rk q.1):V rk a b (out++a.extract ia (ia + k)) (ia + k) ib:=by
 unfold V at *
 rw [c6,Dc]
 rw [zX (k:=k)] at v
 exact v.take fun x hx y hy=>by
  obtain ⟨j,h1,h2,e⟩:=m_ hx
  refine wK t.sb hq ?_ hy
  have:=h (j - ia) (by omega)
  rwa [show ia + (j - ia)=j by omega,bE e] at this
theorem V.moreB (v:V rk a b out ia ib) (t:Mi rk L a b) (hp:a[ia]?=some p) (h:∀ i,i<k->dm rk b (ib + i)<rk p.1):V rk a b (out++b.extract ib (ib + k)) ia (ib + k):=by
 unfold V at *
 rw [c6,Dc]
 rw [zX (a:=b) (k:=k)] at v
 exact (v.comm.take fun x hx y hy=>by
  obtain ⟨j,h1,h2,e⟩:=m_ hx
  refine wK t.sa hp ?_ hy
  have:=h (j - ib) (by omega)
  rwa [show ib + (j - ib)=j by omega,bE e] at this).comm
theorem V.done (v:V rk a b out ia ib) (h:ib=b.size):nH rk a b (out++a.extract ia a.size++b.extract ib b.size):=by
 unfold V at v
 have e:b.toList.drop ib=[]:=List.drop_eq_nil_of_le (by simp [h])
 unfold nH
 rw [c6,c6,qH,qH]
 exact v.fin fun x _ y hy=>by rw [e] at hy;cases hy
theorem V.last (v:V rk a b out ia ib) (hp:a[ia]?=some p) (h:ia + 1=a.size) (hl:∀ y∈b.toList,rk y.1<rk p.1):nH rk a b (out++b.extract ib b.size++a.extract ia a.size):=by
 unfold V at v
 unfold nH
 rw [c6,c6,qH,qH]
 refine v.comm.fin fun x hx y hy=>?_
 obtain ⟨j,hj,e⟩:=Da hy
 have:j<a.size:=by
  rcases cG j a.size with h | h
  ·exact h
  ·rw [cj h] at e;cases e
 rw [show j=ia by omega,hp] at e;cases e
 exact hl x (List.mem_of_mem_drop hx)
theorem eg {β:Type}{c:Prop} [Decidable c] {m1 m2:StateT dX Sem β}{Q:β->dX->Prop} (h1:c->wpS (ay prog w) A E s m1 Q st) (h2:¬ c->wpS (ay prog w) A E s m2 Q st):wpS (ay prog w) A E s (if c then m1 else m2) Q st:=by
 by_cases h:c
 ·rw [if_pos h];exact h1 h
 ·rw [if_neg h];exact h2 h
theorem jE {β:Type}{m n:Nat}{m1 m2:StateT dX Sem β}{Q:β->dX->Prop} (h1:m=n->wpS (ay prog w) A E s m1 Q st) (h2:m≠n->wpS (ay prog w) A E s m2 Q st):wpS (ay prog w) A E s (if (m == n)=true then m1 else m2) Q st :=
 eg (fun h=>h1 (beq_iff_eq.1 h)) fun h=>h2 fun e=>h (beq_iff_eq.2 e)
def GP (rk:aa->Nat) (a b:Array cq) (x:Nat) (st:dX) (r:ForInStep (Option (Array cq)×Array cq×Nat×Nat×Nat×Nat×Nat)) (st':dX):Prop:=Sm st st'/\match r with
 | .done c=>(∃ r z,c=(some r,z)/\nH rk a b r)\/∃ out ia ib g n1 n2,c=(none,out,ia,ib,g,n1,n2)/\V rk a b out ia ib/\ia + 1<a.size/\ib<b.size/\x + 2<=ia + ib
 | .yield c=>∃ out ia ib g n1 n2,c=(none,out,ia,ib,g,n1,n2)/\V rk a b out ia ib/\ia + 1<a.size/\ib<b.size/\x + 2<=ia + ib
theorem IL (hC:Cp prog w A s kd rk L) (hk:kindOf st=kd) (t:Mi rk L a b)
  (hp0:a[0]?=some p0) (hq0:b[0]?=some q0) (h0:rk q0.1<rk p0.1) (hl:∀ p,a[a.size - 1]?=some p->∀ y∈b.toList,rk y.1<rk p.1)
  (h:∀ r st',Sm st st'->nH rk a b r->Q r st'):wpS (ay prog w) A E s (Mh a b) Q st:=by
 have lastp:∀ {ia p out ib},V rk a b out ia ib->ia + 1=a.size->a[ia]?=some p->nH rk a b (out++b.extract ib b.size++a.extract ia a.size):=fun v e hp=>v.last hp e (hl _ (by rw [<- e];exact hp))
 have V0:V rk a b #[q0] 0 1:=V.pushB (out:=#[]) ⟨by simp,by simp,t.sa.pw,t.sb.pw,by simp,by simp⟩ t hp0 hq0 h0
 have sza:0<a.size:=by
  rcases fH a.size with e | e
  ·rw [cj (by omega)] at hp0;cases hp0
  ·exact e
 have szb:0<b.size:=by
  rcases fH b.size with e | e
  ·rw [cj (by omega)] at hq0;cases hq0
  ·exact e
 refine ax (rg (cU ⟨rfl,?_⟩))
 refine ax (fj hq0 ?_)
 refine jE (m:=1) (n:=b.size) (fun e1=>aL (h _ _ .rfl (V0.done e1))) fun e1=>?_
 refine jE (m:=0 + 1) (n:=a.size) (fun e2=>aL (h _ _ .rfl (lastp V0 e2 hp0))) fun e2=>?_
 refine ax (mf ?_)
 refine ax (e8 (cK
  (I:=fun x c st'=>Sm st st'/\∃ out ia ib g,c=(none,out,ia,ib,g)/\V rk a b out ia ib/\ia + 1<a.size/\ib<b.size/\x + 1<=ia + ib)
  (Q:=fun c st'=>Sm st st'/\∃ r z,c=(some r,z)/\nH rk a b r) ?step ?fin ⟨.rfl,_,0,1,_,rfl,V0,by omega,by omega,by omega⟩) ?post)
 case fin =>
  rintro c st' ⟨_,out,ia,ib,g,rfl,v,h1,h2,h3⟩
  omega
 case post =>
  rintro c st' ⟨m,r,z,rfl,f⟩
  exact aL (h r st' m f)
 case step =>
  rintro x c st1 - hx ⟨m1,out,ia,ib,g,rfl,v,h1,h2,h3⟩
  refine ax (e8 (cK
   (I:=fun y c st'=>Sm st st'/\∃ out ia ib n1 n2,c=(none,out,ia,ib,n1,n2)/\V rk a b out ia ib/\ia + 1<a.size/\ib<b.size/\x + 1 + y<=ia + ib)
   (Q:=fun c st'=>Sm st st'/\((∃ r z,c=(some r,z)/\nH rk a b r)\/∃ out ia ib n1 n2,c=(none,out,ia,ib,n1,n2)/\V rk a b out ia ib/\ia + 1<a.size/\ib<b.size/\x + 2<=ia + ib))
   ?istep ?ifin ⟨m1,out,ia,ib,0,0,rfl,v,h1,h2,by omega⟩) ?ipost)
  case ifin =>
   rintro c st' ⟨m,out,ia,ib,n1,n2,rfl,v,h1,h2,h3⟩
   exact ⟨m,.inr ⟨out,ia,ib,n1,n2,rfl,v,h1,h2,by omega⟩⟩
  case istep =>
   rintro y c st' - hy ⟨m,out,ia,ib,n1,n2,rfl,v,h1,h2,h3⟩
   dsimp only
   obtain ⟨p,hp⟩:=fk (a:=a) (i:=ia) (by omega)
   obtain ⟨q,hq⟩:=fk h2
   refine ax (fj hq (ax (fj hp (ax (Mf hC (m.1.trans hk) (t.lb q (eD hq)) (t.la p (eD hp)) ?_)))))
   dsimp only
   by_cases hlt:rk q.1<rk p.1
   ·rw [if_pos (by simpa using hlt)]
    refine ax (fj hq ?_)
    have v':=v.pushB t hp hq hlt
    by_cases e3:ib + 1=b.size
    ·rw [if_pos (by simpa using e3)]
     exact aL ⟨m,.inl ⟨_,_,rfl,v'.done e3⟩⟩
    rw [if_neg (by simpa using e3)]
    by_cases e4:n2 + 1 ≥ g
    ·rw [if_pos e4];exact aL ⟨m,.inr ⟨_,_,_,_,_,rfl,v',h1,by omega,by omega⟩⟩
    ·rw [if_neg e4];exact aL ⟨m,_,_,_,_,_,rfl,v',h1,by omega,by omega⟩
   ·rw [if_neg (by simpa using hlt)]
    have hlt':rk p.1<rk q.1:=by have:=t.ne p (eD hp) q (eD hq);omega
    refine ax (fj hp ?_)
    have v':=v.pushA t hp hq hlt'
    by_cases e3:ia + 1 + 1=a.size
    ·rw [if_pos (by simpa using e3)]
     obtain ⟨p',hp'⟩:=fk (a:=a) (i:=ia + 1) (by omega)
     exact aL ⟨m,.inl ⟨_,_,rfl,lastp v' e3 hp'⟩⟩
    rw [if_neg (by simpa using e3)]
    by_cases e4:n1 + 1 ≥ g
    ·rw [if_pos e4];exact aL ⟨m,.inr ⟨_,_,_,_,_,rfl,v',by omega,h2,by omega⟩⟩
    ·rw [if_neg e4];exact aL ⟨m,_,_,_,_,_,rfl,v',by omega,h2,by omega⟩
  case ipost =>
   rintro c st2 ⟨m2,⟨r,z,rfl,f⟩ | ⟨out,ia,ib,n1,n2,rfl,v,h1,h2,h3⟩⟩
   ·exact aL ⟨m2,r,_,rfl,f⟩
   refine ax (rg (cU ⟨rfl,?_⟩))
   refine ax (e8 (cK
    (I:=fun y c st'=>Sm st st'/\∃ out ia ib g n1 n2,c=(none,out,ia,ib,g,n1,n2)/\V rk a b out ia ib/\ia + 1<a.size/\ib<b.size/\x + 2<=ia + ib)
    (Q:=fun c st'=>Sm st st'/\((∃ r z,c=(some r,z)/\nH rk a b r)\/∃ out ia ib g n1 n2,c=(none,out,ia,ib,g,n1,n2)/\V rk a b out ia ib/\ia + 1<a.size/\ib<b.size/\x + 2<=ia + ib))
    ?gstep ?gfin ⟨m2,out,ia,ib,_,n1,n2,rfl,v,h1,h2,by omega⟩) ?gpost)
   case gfin =>
    rintro c st' ⟨m,out,ia,ib,g,n1,n2,rfl,v,h1,h2,h3⟩
    exact ⟨m,.inr ⟨out,ia,ib,g,n1,n2,rfl,v,h1,h2,h3⟩⟩
   case gpost =>
    rintro c st2 ⟨m2,⟨r,z,rfl,f⟩ | ⟨out,ia,ib,g,n1,n2,rfl,v,h1,h2,h3⟩⟩
    ·exact aL ⟨m2,r,_,rfl,f⟩
    exact ax (Bg m2 fun st' m'=>aL ⟨m',out,ia,ib,_,rfl,v,h1,h2,h3⟩)
   case gstep =>
    rintro y c st' - hy ⟨m,out,ia,ib,g,n1,n2,rfl,v,h1,h2,h3⟩
    extract_lets s1 out' s2 ia' s3 ib' s4 g' s5 n1' n2' ib1 jp
    have J:∀ g,wpS (ay prog w) A E s (jp () g) (GP rk a b x st) st':=by
     intro g
     obtain ⟨q,hq⟩:=fk h2
     have sa:=t.sa.run (b:=ia) (n:=a.size - ia) t.la (by omega)
     have na:∀ i,i<a.size - ia->dm rk a (ia + i)≠rk q.1:=fun i hi=>by
      obtain ⟨p,hp⟩:=fk (a:=a) (i:=ia + i) (by omega)
      rw [bE hp];exact t.ne p (eD hp) q (eD hq)
     refine ax (Bg m fun st' m'=>?_)
     refine ax (fj (a:=b) (i:=ib) hq ?_)
     refine ax (nG (a:=a) (b:=ia) (n:=a.size - ia) (h:=0) hC (m'.1.trans hk) sa (t.lb q (eD hq)) na (by omega) fun k k1 k2 k3=>?_)
     have v1:=v.moreA t hq k2
     have k4:ia + k<a.size:=by
      obtain ⟨p,hp⟩:=fk (a:=a) (i:=a.size - 1) (by omega)
      rcases cG (ia + k) a.size with h | h
      ·exact h
      ·have h4:=k2 (a.size - 1 - ia) (by omega)
       have h5:=hl p hp q (eD hq)
       rw [show ia + (a.size - 1 - ia)=a.size - 1 by omega,bE hp] at h4
       omega
     obtain ⟨p,hp⟩:=fk k4
     have hpq:rk q.1<rk p.1:=by
      have:=k3 k (by omega) (by omega)
      rwa [bE hp] at this
     dsimp (config:={ zeta:=false }) only
     extract_lets nn jp1
     have J1:∀ out,V rk a b out (ia + k) ib->ia + k + 1<a.size->wpS (ay prog w) A E s (jp1 () out (ia + k)) (GP rk a b x st) st':=by
      intro out v1 k5
      refine ax (fj (a:=b) (i:=ib) hq ?_)
      have v2:=v1.pushB t hp hq hpq
      refine jE (m:=ib + 1) (n:=b.size) (fun e=>aL ⟨m',.inl ⟨_,_,rfl,v2.done e⟩⟩) fun e=>?_
      refine ax (fj (a:=a) (i:=ia + k) hp ?_)
      have sb:=t.sb.run (b:=ib + 1) (n:=b.size - (ib + 1)) t.lb (by omega)
      have nb:∀ i,i<b.size - (ib + 1)->dm rk b (ib + 1 + i)≠rk p.1:=fun i hi=>by
       obtain ⟨q',hq'⟩:=fk (a:=b) (i:=ib + 1 + i) (by omega)
       rw [bE hq'];exact fun e=>t.ne p (eD hp) q' (eD hq') e.symm
      refine ax (nG (a:=b) (b:=ib + 1) (n:=b.size - (ib + 1)) (h:=0) hC (m'.1.trans hk) sb (t.la p (eD hp)) nb (by omega) fun k' c1 c2 c3=>?_)
      have v3:=v2.moreB t hp c2
      dsimp (config:={ zeta:=false }) only
      extract_lets nn' ia1 jp2
      have J2:∀ out,V rk a b out (ia + k) (ib + 1 + k')->ib + 1 + k'<b.size->wpS (ay prog w) A E s (jp2 () out (ib + 1 + k')) (GP rk a b x st) st':=by
       intro out v3 c5
       obtain ⟨q',hq'⟩:=fk c5
       have hqp:rk p.1<rk q'.1:=by
        have:=c3 k' (by omega) (by omega)
        rwa [bE hq'] at this
       have v4:=v3.pushA t hp hq' hqp
       refine ax (fj (a:=a) (i:=ia + k) hp ?_)
       refine jE (m:=ia + k + 1 + 1) (n:=a.size) (fun e=>?_) fun e=>?_
       ·obtain ⟨p',hp'⟩:=fk (a:=a) (i:=ia + k + 1) (by omega)
        exact aL ⟨m',.inl ⟨_,_,rfl,lastp v4 e hp'⟩⟩
       ·refine eg (fun _=>aL ⟨m',.inr ⟨_,ia + k + 1,ib + 1 + k',_,_,_,rfl,v4,by omega,by omega,by omega⟩⟩) fun _=>aL ⟨m',_,ia + k + 1,ib + 1 + k',_,_,_,rfl,v4,by omega,by omega,by omega⟩
      refine eg (fun _=>?_) fun hz=>?_
      ·refine jE (m:=ib + 1 + k') (n:=b.size) (fun e=>aL ⟨m',.inl ⟨_,_,rfl,v3.done e⟩⟩) fun e=>J2 _ v3 (by omega)
      ·obtain rfl:k'=0:=by omega
       exact J2 _ v2 (by omega)
     refine eg (fun _=>?_) fun hz=>?_
     ·refine jE (m:=ia + k + 1) (n:=a.size) (fun e=>aL ⟨m',.inl ⟨_,_,rfl,lastp v1 e hp⟩⟩) fun e=>?_
      refine jE (m:=ia + k) (n:=a.size) (fun e=>by omega) fun e=>J1 _ v1 (by omega)
     ·obtain rfl:k=0:=by omega
      exact J1 _ v (by omega)
    exact e8 (eg (fun _=>J _) fun _=>J _) fun r _ hh=>by cases r<;>exact hh
end
end
section
def Mj:Array cq->Array cq->StateT dX Sem (Array cq):=sortPriv% PySem.Builtin.mergeHi
section
variable {prog:aH}{w:aZ}{A:aU}{E:aa->ae->Prop}{s:ae}{kd:mj}{rk:aa->Nat}{L:List cq}{st st':dX}
def W (rk:aa->Nat) (a b out:Array cq) (na nb:Nat):Prop:=Mg (fun x y=>RY rk y x) (a.toList++b.toList) out.toList (a.toList.take na).reverse (b.toList.take nb).reverse
variable {a b out:Array cq}{n m k:Nat}{p q:cq}
theorem wL {x y:cq} (t:P2 rk b) (hq:b[m]?=some q) (h:rk q.1<rk x.1) (hy:y∈(b.toList.take (m + 1)).reverse):rk y.1<rk x.1:=by
 obtain ⟨j,hj,e⟩:=Db (kS.1 hy)
 rcases cG j m with h1 | h1
 ·exact eI (t _ _ _ _ h1 e hq) h
 ·rw [show j=m by omega,hq] at e;cases e;exact h
theorem W.pushA (v:W rk a b out (n + 1) (m + 1)) (t:Mi rk L a b) (hp:a[n]?=some p) (hq:b[m]?=some q) (h:rk q.1<rk p.1):W rk a b (out.push p) n (m + 1):=by
 unfold W at *
 rw [i8]
 rw [GO hp,tG] at v
 exact v.take fun x hx y hy=>by
  rw [E9] at hx
  rw [bZ.1 hx];exact wL t.sb hq h hy
theorem W.pushB (v:W rk a b out (n + 1) (m + 1)) (t:Mi rk L a b) (hp:a[n]?=some p) (hq:b[m]?=some q) (h:rk p.1<rk q.1):W rk a b (out.push q) (n + 1) m:=by
 unfold W at *
 rw [i8]
 rw [GO hq,tG] at v
 exact (v.comm.take fun x hx y hy=>by
  rw [E9] at hx
  rw [bZ.1 hx];exact wL t.sa hp h hy).comm
theorem zY {l:List cq} (h:k<=n):(l.take n).reverse=((l.take n).drop k).reverse++(l.take k).reverse:=by
 rw [<- tG]
 conv=>lhs;rw [<- fJ k (l.take n)]
 rw [List.take_take,lP h]
theorem GQ:(a.extract k n).reverse.toList=((a.toList.take n).drop k).reverse:=by
 rw [rh,gd,dS,List.take_eq_take_min]
theorem nI:(a.extract 0 n).toList=a.toList.take n:=by
 rw [gd,dS];simp
theorem rR (h:x∈(a.toList.take n).drop k):∃ j,k<=j/\j<n/\a[j]?=some x:=by
 obtain ⟨i,hi⟩:=kz.1 h
 rw [uE,JF] at hi
 split at hi
 ·exact ⟨k + i,by omega,by omega,by rw [<- aE];exact hi⟩
 ·cases hi
theorem W.moreA (v:W rk a b out n (m + 1)) (t:Mi rk L a b) (hq:b[m]?=some q) (hk:k<=n) (h:∀ i,k<=i->i<n->rk q.1<dm rk a (0 + i)):W rk a b (out++(a.extract k n).reverse) k (m + 1):=by
 unfold W at *
 rw [c6,GQ]
 rw [zY hk] at v
 exact v.take fun x hx y hy=>by
  obtain ⟨j,h1,h2,e⟩:=rR (kS.1 hx)
  refine wL t.sb hq ?_ hy
  have:=h j h1 h2
  rwa [dW,bE e] at this
theorem W.moreB (v:W rk a b out (n + 1) m) (t:Mi rk L a b) (hp:a[n]?=some p) (hk:k<=m) (h:∀ i,k<=i->i<m->rk p.1<dm rk b (0 + i)):W rk a b (out++(b.extract k m).reverse) (n + 1) k:=by
 unfold W at *
 rw [c6,GQ]
 rw [zY (n:=m) hk] at v
 exact (v.comm.take fun x hx y hy=>by
  obtain ⟨j,h1,h2,e⟩:=rR (kS.1 hx)
  refine wL t.sa hp ?_ hy
  have:=h j h1 h2
  rwa [dW,bE e] at this).comm
theorem W.done (v:W rk a b out n m) (h:n=0):nH rk a b (a.extract 0 n++b.extract 0 m++out.reverse):=by
 subst h
 have f:=v.comm.fin fun x _ y hy=>by rw [List.take_zero] at hy;cases hy
 unfold nH
 rw [c6,c6,nI,nI,rh]
 refine ⟨?_,?_⟩
 ·refine nQ ?_ f.1
  refine (nu _).symm.trans ?_
  simp
 ·have:=kA.2 f.2
  simpa using this
theorem W.last (v:W rk a b out n m) (hq:b[0]?=some q) (h:m=1) (hl:∀ y∈a.toList,rk q.1<rk y.1):nH rk a b (b.extract 0 m++a.extract 0 n++out.reverse):=by
 subst h
 have f:=v.fin fun x hx y hy=>by
  obtain ⟨j,hj,e⟩:=Db (kS.1 hy)
  rw [show j=0 by omega,hq] at e;cases e
  exact hl x (List.mem_of_mem_take (kS.1 hx))
 unfold nH
 rw [c6,c6,nI,nI,rh]
 refine ⟨?_,?_⟩
 ·refine nQ ?_ f.1
  refine (nu _).symm.trans ?_
  simp
 ·have:=kA.2 f.2
  simpa using this
def HP (rk:aa->Nat) (a b:Array cq) (x:Nat) (st:dX) (r:ForInStep (Option (Array cq)×Nat×Nat×Array cq×Nat×Nat×Nat)) (st':dX):Prop:=Sm st st'/\match r with
 | .done c=>(∃ r z,c=(some r,z)/\nH rk a b r)\/∃ out na nb g n1 n2,c=(none,na + 1,nb + 2,out,g,n1,n2)/\W rk a b out (na + 1) (nb + 2)/\na + 1<=a.size/\nb + 2<=b.size/\na + nb + 3 + x + 2<=a.size + b.size
 | .yield c=>∃ out na nb g n1 n2,c=(none,na + 1,nb + 2,out,g,n1,n2)/\W rk a b out (na + 1) (nb + 2)/\na + 1<=a.size/\nb + 2<=b.size/\na + nb + 3 + x + 2<=a.size + b.size
theorem IM (hC:Cp prog w A s kd rk L) (hk:kindOf st=kd) (t:Mi rk L a b)
  (hp0:a[a.size - 1]?=some p0) (hq0:b[b.size - 1]?=some q0) (h0:rk q0.1<rk p0.1) (hq1:b[0]?=some q1) (hl:∀ y∈a.toList,rk q1.1<rk y.1)
  (h:∀ r st',Sm st st'->nH rk a b r->Q r st'):wpS (ay prog w) A E s (Mj a b) Q st:=by
 have sza:0<a.size:=by
  rcases fH a.size with e | e
  ·rw [cj (by omega)] at hp0;cases hp0
  ·exact e
 have szb:0<b.size:=by
  rcases fH b.size with e | e
  ·rw [cj (by omega)] at hq0;cases hq0
  ·exact e
 have V0:W rk a b #[p0] (a.size - 1) b.size:=by
  have e:b.size=b.size - 1 + 1:=by omega
  rw [e]
  refine W.pushA (out:=#[]) ?_ t hp0 hq0 h0
  rw [<- e,show a.size - 1 + 1=a.size by omega]
  unfold W
  rw [jR (by simp),jR (by simp)]
  refine ⟨?_,by simp,kA.2 t.sa.pw,kA.2 t.sb.pw,by simp,by simp⟩
  exact (nu _).append (nu _)
 refine ax (rg (cU ⟨rfl,?_⟩))
 refine ax (fj hp0 ?_)
 refine jE (m:=a.size - 1) (n:=0) (fun e1=>aL (h _ _ .rfl (V0.done e1))) fun e1=>?_
 refine jE (m:=b.size) (n:=1) (fun e2=>aL (h _ _ .rfl (V0.last hq1 e2 hl))) fun e2=>?_
 refine ax (mf ?_)
 refine ax (e8 (cK
  (I:=fun x c st'=>Sm st st'/\∃ out na nb g,c=(none,na + 1,nb + 2,out,g)/\W rk a b out (na + 1) (nb + 2)/\na + 1<=a.size/\nb + 2<=b.size/\na + nb + 3 + x + 1<=a.size + b.size)
  (Q:=fun c st'=>Sm st st'/\∃ r z,c=(some r,z)/\nH rk a b r) ?step ?fin ⟨.rfl,#[p0],a.size - 2,b.size - 2,gallopOf st,?e1,?e2,by omega,by omega,by omega⟩) ?post)
 case e1=>rw [show a.size - 2 + 1=a.size - 1 by omega,show b.size - 2 + 2=b.size by omega]
 case e2=>rw [show a.size - 2 + 1=a.size - 1 by omega,show b.size - 2 + 2=b.size by omega];exact V0
 case fin =>
  rintro c st' ⟨_,out,na,nb,g,rfl,v,h1,h2,h3⟩
  omega
 case post =>
  rintro c st' ⟨m,r,z,rfl,f⟩
  exact aL (h r st' m f)
 case step =>
  rintro x c st1 - hx ⟨m1,out,na,nb,g,rfl,v,h1,h2,h3⟩
  refine ax (e8 (cK
   (I:=fun y c st'=>Sm st st'/\∃ out na nb n1 n2,c=(none,na + 1,nb + 2,out,n1,n2)/\W rk a b out (na + 1) (nb + 2)/\na + 1<=a.size/\nb + 2<=b.size/\na + nb + 3 + x + 1 + y<=a.size + b.size)
   (Q:=fun c st'=>Sm st st'/\((∃ r z,c=(some r,z)/\nH rk a b r)\/∃ out na nb n1 n2,c=(none,na + 1,nb + 2,out,n1,n2)/\W rk a b out (na + 1) (nb + 2)/\na + 1<=a.size/\nb + 2<=b.size/\na + nb + 3 + x + 2<=a.size + b.size))
   ?istep ?ifin ⟨m1,out,na,nb,0,0,rfl,v,h1,h2,by omega⟩) ?ipost)
  case ifin =>
   rintro c st' ⟨m,out,na,nb,n1,n2,rfl,v,h1,h2,h3⟩
   exact ⟨m,.inr ⟨out,na,nb,n1,n2,rfl,v,h1,h2,by omega⟩⟩
  case istep =>
   rintro y c st' - hy ⟨m,out,na,nb,n1,n2,rfl,v,h1,h2,h3⟩
   dsimp only
   obtain ⟨p,hp⟩:=fk (a:=a) (i:=na) (by omega)
   obtain ⟨q,hq⟩:=fk (a:=b) (i:=nb + 1) (by omega)
   refine ax (fj hq (ax (fj hp (ax (Mf hC (m.1.trans hk) (t.lb q (eD hq)) (t.la p (eD hp)) ?_)))))
   dsimp only
   by_cases hlt:rk q.1<rk p.1
   ·rw [if_pos (by simpa using hlt)]
    refine ax (fj hp ?_)
    have v':=v.pushA t hp hq hlt
    refine jE (m:=na) (n:=0) (fun e3=>aL ⟨m,.inl ⟨_,_,rfl,v'.done e3⟩⟩) fun e3=>?_
    obtain ⟨na,rfl⟩:∃ n,na=n + 1:=⟨na - 1,by omega⟩
    exact eg (fun _=>aL ⟨m,.inr ⟨_,na,nb,_,_,rfl,v',by omega,by omega,by omega⟩⟩) fun _=>aL ⟨m,_,na,nb,_,_,rfl,v',by omega,by omega,by omega⟩
   ·rw [if_neg (by simpa using hlt)]
    have hlt':rk p.1<rk q.1:=by have:=t.ne p (eD hp) q (eD hq);omega
    refine ax (fj hq ?_)
    have v':=v.pushB t hp hq hlt'
    refine jE (m:=nb + 1) (n:=1) (fun e3=>aL ⟨m,.inl ⟨_,_,rfl,v'.last hq1 e3 hl⟩⟩) fun e3=>?_
    obtain ⟨nb,rfl⟩:∃ n,nb=n + 1:=⟨nb - 1,by omega⟩
    exact eg (fun _=>aL ⟨m,.inr ⟨_,na,nb,_,_,rfl,v',by omega,by omega,by omega⟩⟩) fun _=>aL ⟨m,_,na,nb,_,_,rfl,v',by omega,by omega,by omega⟩
  case ipost =>
   rintro c st2 ⟨m2,⟨r,z,rfl,f⟩ | ⟨out,na,nb,n1,n2,rfl,v,h1,h2,h3⟩⟩
   ·exact aL ⟨m2,r,_,rfl,f⟩
   refine ax (rg (cU ⟨rfl,?_⟩))
   refine ax (e8 (cK
    (I:=fun y c st'=>Sm st st'/\∃ out na nb g n1 n2,c=(none,na + 1,nb + 2,out,g,n1,n2)/\W rk a b out (na + 1) (nb + 2)/\na + 1<=a.size/\nb + 2<=b.size/\na + nb + 3 + x + 2<=a.size + b.size)
    (Q:=fun c st'=>Sm st st'/\((∃ r z,c=(some r,z)/\nH rk a b r)\/∃ out na nb g n1 n2,c=(none,na + 1,nb + 2,out,g,n1,n2)/\W rk a b out (na + 1) (nb + 2)/\na + 1<=a.size/\nb + 2<=b.size/\na + nb + 3 + x + 2<=a.size + b.size))
    ?gstep ?gfin ⟨m2,out,na,nb,_,n1,n2,rfl,v,h1,h2,by omega⟩) ?gpost)
   case gfin =>
    rintro c st' ⟨m,out,na,nb,g,n1,n2,rfl,v,h1,h2,h3⟩
    exact ⟨m,.inr ⟨out,na,nb,g,n1,n2,rfl,v,h1,h2,h3⟩⟩
   case gpost =>
    rintro c st2 ⟨m2,⟨r,z,rfl,f⟩ | ⟨out,na,nb,g,n1,n2,rfl,v,h1,h2,h3⟩⟩
    ·exact aL ⟨m2,r,_,rfl,f⟩
    exact ax (Bg m2 fun st' m'=>aL ⟨m',out,na,nb,_,rfl,v,h1,h2,by omega⟩)
   case gstep =>
    rintro y c st' - hy ⟨m,out,na,nb,g,n1,n2,rfl,v,h1,h2,h3⟩
    extract_lets s1 na' s2 nb' s3 out' s4 g' s5 n1' n2' nb1 jp
    have J:∀ g,wpS (ay prog w) A E s (jp () g) (HP rk a b x st) st':=by
     intro g
     obtain ⟨q,hq⟩:=fk (a:=b) (i:=nb + 1) (by omega)
     have sa:=t.sa.run (b:=0) (n:=na + 1) t.la (by omega)
     have ne1:∀ i,i<na + 1->dm rk a (0 + i)≠rk q.1:=fun i hi=>by
      obtain ⟨p,hp⟩:=fk (a:=a) (i:=0 + i) (by omega)
      rw [bE hp];exact t.ne p (eD hp) q (eD hq)
     refine ax (Bg m fun st' m'=>?_)
     refine ax (fj (a:=b) (i:=nb + 1) hq ?_)
     refine ax (nG (a:=a) (b:=0) (n:=na + 1) (h:=na) hC (m'.1.trans hk) sa (t.lb q (eD hq)) ne1 (by omega) fun k k1 k2 k3=>?_)
     have v1:=v.moreA t hq k1 k3
     dsimp (config:={ zeta:=false }) only
     extract_lets kk nn jp1
     have J1:∀ out i,k=i + 1->W rk a b out (i + 1) (nb + 2)->wpS (ay prog w) A E s (jp1 () (i + 1) out) (HP rk a b x st) st':=by
      intro out i ei v1
      obtain ⟨p,hp⟩:=fk (a:=a) (i:=i) (by omega)
      have hpq:rk p.1<rk q.1:=by
       have:=k2 i (by omega)
       rwa [dW,bE hp] at this
      refine ax (fj (a:=b) (i:=nb + 1) hq ?_)
      have v2:=v1.pushB t hp hq hpq
      refine jE (m:=nb + 1) (n:=1) (fun e=>aL ⟨m',.inl ⟨_,_,rfl,v2.last hq1 e hl⟩⟩) fun e=>?_
      refine ax (fj (a:=a) (i:=i) hp ?_)
      have sb:=t.sb.run (b:=0) (n:=nb + 1) t.lb (by omega)
      have ne2:∀ i,i<nb + 1->dm rk b (0 + i)≠rk p.1:=fun i hi=>by
       obtain ⟨q',hq'⟩:=fk (a:=b) (i:=0 + i) (by omega)
       rw [bE hq'];exact fun e=>t.ne p (eD hp) q' (eD hq') e.symm
      refine ax (nG (a:=b) (b:=0) (n:=nb + 1) (h:=nb) hC (m'.1.trans hk) sb (t.la p (eD hp)) ne2 (by omega) fun k' c1 c2 c3=>?_)
      have v3:=v2.moreB t hp c1 c3
      have c4:0<k':=by
       rcases fH k' with e | e
       ·have h4:=c3 0 (by omega) (by omega)
        rw [bE hq1] at h4
        have h5:=hl p (eD hp)
        omega
       ·exact e
      dsimp (config:={ zeta:=false }) only
      extract_lets kk' nn' ia1 jp2
      have J2:∀ out j,k'=j + 2->W rk a b out (i + 1) (j + 2)->wpS (ay prog w) A E s (jp2 () (j + 2) out) (HP rk a b x st) st':=by
       intro out j ej v3
       obtain ⟨q',hq'⟩:=fk (a:=b) (i:=j + 1) (by omega)
       have hqp:rk q'.1<rk p.1:=by
        have:=c2 (j + 1) (by omega)
        rwa [dW,bE hq'] at this
       have v4:=v3.pushA t hp hq' hqp
       refine ax (fj (a:=a) (i:=i) hp ?_)
       refine jE (m:=i) (n:=0) (fun e=>aL ⟨m',.inl ⟨_,_,rfl,v4.done e⟩⟩) fun e=>?_
       obtain ⟨i,rfl⟩:∃ n,i=n + 1:=⟨i - 1,by omega⟩
       exact eg (fun _=>aL ⟨m',.inr ⟨_,i,j,_,_,_,rfl,v4,by omega,by omega,by omega⟩⟩) fun _=>aL ⟨m',_,i,j,_,_,_,rfl,v4,by omega,by omega,by omega⟩
      refine eg (fun _=>?_) fun hz=>?_
      ·refine jE (m:=k') (n:=1) (fun e=>aL ⟨m',.inl ⟨_,_,rfl,v3.last hq1 e hl⟩⟩) fun e=>?_
       refine jE (m:=k') (n:=0) (fun e=>by omega) fun e=>?_
       obtain ⟨j,rfl⟩:∃ j,k'=j + 2:=⟨k' - 2,by omega⟩
       exact J2 _ j rfl v3
      ·have hz':¬ nb + 1 - k' > 0:=hz
       obtain ⟨j,rfl⟩:∃ j,nb=j + 1:=⟨nb - 1,by omega⟩
       exact J2 _ j (by omega) v2
     refine eg (fun _=>?_) fun hz=>?_
     ·refine jE (m:=k) (n:=0) (fun e=>aL ⟨m',.inl ⟨_,_,rfl,v1.done e⟩⟩) fun e=>?_
      obtain ⟨j,rfl⟩:∃ j,k=j + 1:=⟨k - 1,by omega⟩
      exact J1 _ j rfl v1
     ·have hz':¬ na + 1 - k > 0:=hz
      exact J1 _ na (by omega) v
    exact e8 (eg (fun _=>J _) fun _=>J _) fun r _ hh=>by cases r<;>exact hh
end
end
section
def RZ:Nat->Nat->StateT dX Sem (Option Nat):=sortPriv% PySem.Builtin.countRun
def VX:Nat->Nat->Nat->StateT dX Sem Bool:=sortPriv% PySem.Builtin.binarySort
structure Bs (kd:mj) (L:List cq) (st:dX):Prop where
 kind:kindOf st=kd
 perm:(aJ st).toList.Perm L
 ok:uS st=none
def Up (rk:aa->Nat) (a:Array cq) (lo n:Nat):Prop:=∀ i j,lo<=i->i<j->j<lo + n->dm rk a i<dm rk a j
def Dn (rk:aa->Nat) (a:Array cq) (lo n:Nat):Prop:=∀ i j,lo<=i->i<j->j<lo + n->dm rk a j<dm rk a i
section
variable {prog:aH}{w:aZ}{A:aU}{E:aa->ae->Prop}{s:ae}{kd:mj}{rk:aa->Nat}{L:List cq}{st:dX}{a:Array cq}
theorem Bs.size (B:Bs kd L st):(aJ st).size=L.length:=by rw [<- B.perm.length_eq];simp
theorem Bs.get (B:Bs kd L st) (hi:i<L.length):∃ p,(aJ st)[i]?=some p/\p∈L:=by
 obtain ⟨p,hp⟩:=fk (a:=aJ st) (i:=i) (by rw [B.size];exact hi)
 exact ⟨p,hp,B.perm.mem_iff.1 (eD hp)⟩
theorem Bs.ne (B:Bs kd L st) (hn:(L.map fun p=>rk p.1).Nodup) (hi:i<L.length) (hj:j<L.length) (h:i≠j):dm rk (aJ st) i≠dm rk (aJ st) j:=by
 have hn':=(B.perm.map fun p=>rk p.1).nodup_iff.2 hn
 obtain ⟨p,hp,_⟩:=B.get hi
 obtain ⟨q,hq,_⟩:=B.get hj
 rw [bE hp,bE hq]
 intro e
 have h1:((aJ st).toList.map fun p=>rk p.1)[i]?=some (rk p.1):=by rw [aN,aE,hp];rfl
 have h2:((aJ st).toList.map fun p=>rk p.1)[j]?=some (rk p.1):=by rw [aN,aE,hq,e];rfl
 obtain ⟨l1,h1⟩:=nj.1 h1
 obtain ⟨l2,h2⟩:=nj.1 h2
 exact h ((Nj hn').1 (h1.trans h2.symm))
theorem Bs.put (B:Bs kd L st) (h:xs.Perm (aJ st)):Bs kd L (setArr st xs):=⟨B.kind,(Array.perm_iff_toList_perm.1 h).trans B.perm,B.ok⟩
theorem vc  (hC:Cp prog w A s kd rk L) (B:Bs kd L st) (hi:i<L.length) (hj:j<L.length)
  (h:Q (some (decide (dm rk (aJ st) i<dm rk (aJ st) j))) st):wpS (ay prog w) A E s (ltAt' i j) Q st:=by
 obtain ⟨p,hp,lp⟩:=B.get hi
 obtain ⟨q,hq,lq⟩:=B.get hj
 rw [bE hp,bE hq] at h
 rw [ltAt'_eq]
 exact ax (mf (ax (fj hp (ax (fj hq (Mf hC B.kind lp lq h))))))
theorem jb  (h:a[i]?=b[j]?):dm rk a i=dm rk b j:=by unfold dm;rw [h]
theorem vJ (hj:j<=a.size) (k:Nat):dm rk (Ex a i j ((j - i) / 2)) k=if i<=k/\k<j then dm rk a (i + j - 1 - k) else dm rk a k:=by
 have e:=getElem?_mirror_all (i:=i) hj k
 by_cases h:i<=k/\k<j
 ·rw [if_pos h] at e ⊢;exact jb e
 ·rw [if_neg h] at e ⊢;exact jb e
theorem vK (hs:src<a.size) (hd:d<=src) (k:Nat) :
  dm rk (bubble a src d) k=if k=src - d then dm rk a src else if src - d<k/\k<=src then dm rk a (k - 1) else dm rk a k:=by
 have e:=getElem?_bubble hs d hd k
 by_cases h:k=src - d
 ·rw [if_pos h] at e ⊢;exact jb e
 ·rw [if_neg h] at e ⊢
  by_cases h2:src - d<k/\k<=src
  ·rw [if_pos h2] at e ⊢;exact jb e
  ·rw [if_neg h2] at e ⊢;exact jb e
theorem Up.more {lo n:Nat} (u:Up rk a lo n) (h:1<=n->dm rk a (lo + n - 1)<dm rk a (lo + n)):Up rk a lo (n + 1):=by
 intro i j h1 h2 h3
 rcases cG j (lo + n) with h4 | h4
 ·exact u i j h1 h2 h4
 ·obtain rfl:j=lo + n:=by omega
  rcases cG i (lo + n - 1) with h5 | h5
  ·exact eI (u i (lo + n - 1) h1 h5 (by omega)) (h (by omega))
  ·rw [show i=lo + n - 1 by omega];exact h (by omega)
theorem Dn.more {lo n:Nat} (u:Dn rk a lo n) (h:1<=n->dm rk a (lo + n)<dm rk a (lo + n - 1)):Dn rk a lo (n + 1):=by
 intro i j h1 h2 h3
 rcases cG j (lo + n) with h4 | h4
 ·exact u i j h1 h2 h4
 ·obtain rfl:j=lo + n:=by omega
  rcases cG i (lo + n - 1) with h5 | h5
  ·exact eI (h (by omega)) (u i (lo + n - 1) h1 h5 (by omega))
  ·rw [show i=lo + n - 1 by omega];exact h (by omega)
def Kp (lo:Nat) (a b:Array cq):Prop:=∀ i,i<lo->b[i]?=a[i]?
theorem GR {lo r:Nat}{Q:Option Nat->dX->Prop} (hC:Cp prog w A s kd rk L) (hn:(L.map fun p=>rk p.1).Nodup) (B:Bs kd L st) (h1:1<=r) (hr:lo + r<=L.length)
  (h:∀ n st',Bs kd L st'->bN st'=bN st->Kp lo (aJ st) (aJ st')->1<=n->n<=r->Up rk (aJ st') lo n->Q (some n) st') :
  wpS (ay prog w) A E s (RZ lo r) Q st:=by
 refine ax (e8 (cK (I:=fun x c st'=>st'=st/\c=(none,x)/\Up rk (aJ st) lo x)
  (Q:=fun c st'=>st'=st/\∃ n,c=(none,n)/\1<=n/\n<=r/\Up rk (aJ st) lo n/\(n=r\/dm rk (aJ st) (lo + n)<dm rk (aJ st) (lo + n - 1))) ?_ ?_ ⟨rfl,rfl,fun i j h1 h2 h3=>by omega⟩) ?_)
 ·rintro x c st' hx1 hx2 ⟨rfl,rfl,u⟩
  refine ax (vc (i:=lo + x) (j:=lo + x - 1) hC B (by omega) (by omega) ?_)
  by_cases hl:dm rk (aJ st') (lo + x)<dm rk (aJ st') (lo + x - 1)
  ·exact eg (fun _=>aL ⟨rfl,x,rfl,hx1,by omega,u,.inr hl⟩) fun h=>absurd (by simpa using hl) h
  ·refine eg (fun h=>absurd (by simpa using h) hl) fun _=>aL ⟨rfl,rfl,u.more fun _=>?_⟩
   have:=B.ne hn (i:=lo + x) (j:=lo + x - 1) (by omega) (by omega) (by omega)
   omega
 ·rintro c st' ⟨rfl,rfl,u⟩
  rw [show max 1 r=r by omega] at u ⊢
  exact ⟨rfl,r,rfl,h1,ar _,u,.inl rfl⟩
 rintro c st' ⟨rfl,n,rfl,n1,n2,u,e⟩
 refine jE (m:=n) (n:=r) (fun e=>aL (h n st' B rfl (fun _ _=>rfl) n1 n2 u)) fun ne=>?_
 have e:=e.resolve_left ne
 extract_lets jp
 refine eg (fun hg=>?_) fun hg=>?_
 ·refine ax (vc (i:=lo) (j:=lo + n - 1) hC B (by omega) (by omega) ?_)
  have hl:dm rk (aJ st') lo<dm rk (aJ st') (lo + n - 1):=u lo (lo + n - 1) (ar _) (by have:n > 1:=hg;omega) (by have:n > 1:=hg;omega)
  exact eg (fun _=>aL (h n st' B rfl (fun _ _=>rfl) n1 n2 u)) fun h=>absurd (by simpa using hl) h
 obtain rfl:n=1:=by have:¬ n > 1:=hg;omega
 refine ax (rg (cU ⟨rfl,?_⟩))
 refine ax (e8 (cK (I:=fun x c st''=>st''=st'/\c=(none,x,0)/\Dn rk (aJ st') lo x)
  (Q:=fun c st''=>st''=st'/\∃ n,c=(none,n,0)/\1<=n/\n<=r/\Dn rk (aJ st') lo n) ?_ ?_ ⟨rfl,rfl,Dn.more (n:=1) (fun i j h1 h2 h3=>by omega) fun _=>e⟩) ?_)
 ·rintro x c st'' hx1 hx2 ⟨rfl,rfl,u⟩
  refine ax (vc (i:=lo + x) (j:=lo + x - 1) hC B (by omega) (by omega) ?_)
  by_cases hl:dm rk (aJ st'') (lo + x)<dm rk (aJ st'') (lo + x - 1)
  ·refine eg (fun _=>?_) fun h=>absurd (by simpa using hl) h
   exact eg (fun h=>absurd h (bP 0)) fun _=>aL ⟨rfl,rfl,u.more fun _=>hl⟩
  ·refine eg (fun h=>absurd (by simpa using h) hl) fun _=>?_
   refine ax (vc (i:=lo + x - 1) (j:=lo + x) hC B (by omega) (by omega) ?_)
   have:=B.ne hn (i:=lo + x) (j:=lo + x - 1) (by omega) (by omega) (by omega)
   have hl':dm rk (aJ st'') (lo + x - 1)<dm rk (aJ st'') (lo + x):=by omega
   exact eg (fun _=>aL ⟨rfl,x,rfl,by omega,by omega,u⟩) fun h=>absurd (by simpa using hl') h
 ·rintro c st'' ⟨rfl,rfl,u⟩
  rw [show max (1 + 1) r=r by omega] at u ⊢
  exact ⟨rfl,r,rfl,h1,ar _,u⟩
 rintro c st'' ⟨rfl,n,rfl,n1,n2,d⟩
 refine eg (fun h=>absurd h (bP 0)) fun _=>?_
 refine ax (nW (f:=fun s=>setArr s (Ex (aJ s) lo (lo + n) ((lo + n - lo) / 2))) ?_)
 have hsz:lo + n<=(aJ st'').size:=by rw [B.size];omega
 have B':Bs kd L (setArr st'' (Ex (aJ st'') lo (lo + n) ((lo + n - lo) / 2))):=B.put (mirror_perm _ _ _ _)
 have kp:Kp lo (aJ st'') (Ex (aJ st'') lo (lo + n) ((lo + n - lo) / 2)):=fun i hi=>by
  rw [getElem?_mirror_all hsz,if_neg (by omega)]
 have up:Up rk (Ex (aJ st'') lo (lo + n) ((lo + n - lo) / 2)) lo n:=by
  intro i j h1 h2 h3
  rw [vJ hsz,vJ hsz,if_pos (by omega),if_pos (by omega)]
  exact d _ _ (by omega) (by omega) (by omega)
 generalize hst:setArr st'' (Ex (aJ st'') lo (lo + n) ((lo + n - lo) / 2))=st3 at B'
 have har:aJ st3=Ex (aJ st'') lo (lo + n) ((lo + n - lo) / 2):=by rw [<- hst]
 have hpe:bN st3=bN st'':=by rw [<- hst]
 rw [<- har] at kp up
 refine ax (e8 (cK (I:=fun x c st'=>st'=st3/\c=(none,x)/\Up rk (aJ st3) lo x)
  (Q:=fun c st'=>st'=st3/\∃ n,c=(none,n)/\1<=n/\n<=r/\Up rk (aJ st3) lo n) ?_ ?_ ⟨rfl,rfl,up⟩) ?_)
 ·rintro x c st' hx1 hx2 ⟨rfl,rfl,u⟩
  have hx1:n<=x:=hx1
  refine ax (vc (i:=lo + x) (j:=lo + x - 1) hC B' (by omega) (by omega) ?_)
  by_cases hl:dm rk (aJ st') (lo + x)<dm rk (aJ st') (lo + x - 1)
  ·exact eg (fun _=>aL ⟨rfl,x,rfl,by omega,by omega,u⟩) fun h=>absurd (by simpa using hl) h
  ·refine eg (fun h=>absurd (by simpa using h) hl) fun _=>aL ⟨rfl,rfl,u.more fun _=>?_⟩
   have:=B'.ne hn (i:=lo + x) (j:=lo + x - 1) (by omega) (by omega) (by omega)
   omega
 ·rintro c st' ⟨rfl,rfl,u⟩
  rw [show max n r=r by omega] at u ⊢
  exact ⟨rfl,r,rfl,h1,ar _,u⟩
 rintro c st' ⟨rfl,n,rfl,n1,n2,u⟩
 exact aL (h n st' B' hpe kp n1 n2 u)
theorem QB {lo n k0:Nat}{Q:Bool->dX->Prop} (hC:Cp prog w A s kd rk L) (hn:(L.map fun p=>rk p.1).Nodup) (B:Bs kd L st) (hr:lo + n<=L.length) (hk:1<=k0) (hkn:k0<=n) (u:Up rk (aJ st) lo k0)
  (h:∀ st',Bs kd L st'->bN st'=bN st->Kp lo (aJ st) (aJ st')->Up rk (aJ st') lo n->Q true st') :
  wpS (ay prog w) A E s (VX lo n k0) Q st:=by
 refine ax (e8 (cK (I:=fun k c st'=>c=(none,())/\Bs kd L st'/\bN st'=bN st/\Kp lo (aJ st) (aJ st')/\Up rk (aJ st') lo k)
  (Q:=fun c st'=>c=(none,())/\Bs kd L st'/\bN st'=bN st/\Kp lo (aJ st) (aJ st')/\Up rk (aJ st') lo n) ?step ?fin ⟨rfl,B,rfl,fun _ _=>rfl,by rw [show max k0 1=k0 by omega];exact u⟩) ?post)
 case post =>
  rintro c st' ⟨rfl,B',pe,kp,u⟩
  exact aL (h st' B' pe kp u)
 case fin =>
  rintro c st' ⟨rfl,B',pe,kp,u⟩
  rw [show max (max k0 1) n=n by omega] at u
  exact ⟨rfl,B',pe,kp,u⟩
 case step =>
  rintro k c st1 hk1 hk2 ⟨rfl,B',pe,kp,u⟩
  refine ax (e8 (cK (I:=fun x c st''=>st''=st1/\∃ l r,c=(none,l,r)/\l<=r/\r<=k/\r - l<=k - x /\
    (∀ i,i<l->dm rk (aJ st1) (lo + i)<dm rk (aJ st1) (lo + k))/\(∀ i,r<=i->i<k->dm rk (aJ st1) (lo + k)<dm rk (aJ st1) (lo + i)))
   (Q:=fun c st''=>st''=st1/\∃ l r,c=(none,l,r)/\l<=k /\
    (∀ i,i<l->dm rk (aJ st1) (lo + i)<dm rk (aJ st1) (lo + k))/\(∀ i,l<=i->i<k->dm rk (aJ st1) (lo + k)<dm rk (aJ st1) (lo + i))) ?_ ?_ ⟨rfl,0,k,rfl,by omega,by omega,by omega,fun i hi=>by omega,fun i h1 h2=>by omega⟩) ?_)
  ·rintro x c st' - hx ⟨rfl,l,r,rfl,a1,a2,a3,a4,a5⟩
   refine eg (fun hg=>?_) fun hg=>?_
   ·have hg:l ≥ r:=hg
    obtain rfl:l=r:=by omega
    exact aL ⟨rfl,l,l,rfl,a2,a4,a5⟩
   have hg:¬ l ≥ r:=hg
   refine ax (vc (i:=lo + k) (j:=lo + (l + r) / 2) hC B' (by omega) (by omega) ?_)
   by_cases hl:dm rk (aJ st') (lo + k)<dm rk (aJ st') (lo + (l + r) / 2)
   ·refine eg (fun _=>aL ⟨rfl,l,(l + r) / 2,rfl,by omega,by omega,by omega,a4,fun i h1 h2=>?_⟩) fun h=>absurd (by simpa using hl) h
    rcases cG ((l + r) / 2) i with h3 | h3
    ·exact eI hl (u _ _ (by omega) (by omega) (by omega))
    ·rw [show i=(l + r) / 2 by omega];exact hl
   ·refine eg (fun h=>absurd (by simpa using h) hl) fun _=>aL ⟨rfl,(l + r) / 2 + 1,r,rfl,by omega,by omega,by omega,fun i h1=>?_,a5⟩
    have ne:=B'.ne hn (i:=lo + k) (j:=lo + (l + r) / 2) (by omega) (by omega) (by omega)
    have hl':dm rk (aJ st') (lo + (l + r) / 2)<dm rk (aJ st') (lo + k):=by omega
    rcases cG i ((l + r) / 2) with h3 | h3
    ·exact eI (u _ _ (by omega) (by omega) (by omega)) hl'
    ·rw [show i=(l + r) / 2 by omega];exact hl'
  ·rintro c st' ⟨rfl,l,r,rfl,a1,a2,a3,a4,a5⟩
   obtain rfl:l=r:=by omega
   exact ⟨rfl,l,l,rfl,a2,a4,a5⟩
  ·rintro c st' ⟨rfl,l,r,rfl,a2,a4,a5⟩
   refine ax (nW (f:=fun s=>setArr s (bubble (aJ s) (lo + k) (lo + k - (lo + l)))) (aL ⟨rfl,B'.put (bubble_perm _ _ _),pe,?_,?_⟩))
   ·intro i hi
    rw [<- kp i hi]
    show (bubble (aJ st') (lo + k) (lo + k - (lo + l)))[i]?=_
    rw [getElem?_bubble (by rw [B'.size];omega) _ (by omega),if_neg (by omega),if_neg (by omega)]
   ·intro i j h1 h2 h3
    show dm rk (bubble (aJ st') (lo + k) (lo + k - (lo + l))) i<dm rk (bubble (aJ st') (lo + k) (lo + k - (lo + l))) j
    have hs:lo + k<(aJ st').size:=by rw [B'.size];omega
    rw [vK hs (by omega),vK hs (by omega),show lo + k - (lo + k - (lo + l))=lo + l by omega]
    repeat' split
    all_goals first
     | (exfalso;omega)
     | exact u _ _ (by omega) (by omega) (by omega)
     | (have:=a5 (j - 1 - lo) (by omega) (by omega);rwa [show lo + (j - 1 - lo)=j - 1 by omega] at this)
     | (have:=a4 (i - lo) (by omega);rwa [show lo + (i - lo)=i by omega] at this)
end
end
section
def R_:Nat->StateT dX Sem Bool:=sortPriv% PySem.Builtin.mergeAt
section
variable {prog:aH}{w:aZ}{A:aU}{E:aa->ae->Prop}{s:ae}{kd:mj}{rk:aa->Nat}{L:List cq}{st:dX}{a:Array cq}
theorem GS (c:Nat):∀ (l:List cq) (i:Nat) (a:Array cq),c + i + l.length<=a.size ->
  ((l.zipIdx i).foldl (fun a x=>match x with | (p,j)=>a.setIfInBounds (c + j) p) a).toList=a.toList.take (c + i)++l++a.toList.drop (c + i + l.length)
 | [],i,a,_=>by simp
 | p::l,i,a,h=>by
  have hl:(p::l).length=l.length + 1:=rfl
  rw [ww,cY,GS c l (i + 1) _ (by rw [As];omega)]
  dsimp only
  rw [yH,show c + (i + 1)=c + i + 1 by omega,hl,show c + i + (l.length + 1)=c + i + 1 + l.length by omega]
  rw [List.drop_set_of_lt (by omega)]
  have e:List.take (c + i + 1) (a.toList.set (c + i) p)=a.toList.take (c + i)++[p]:=by
   rw [K2,List.take_set_of_le (ar _),aC (by simp;omega)]
   rfl
  rw [e];simp
theorem Ur  (h:Q ⟨⟩ st'):wpS (ay prog w) A E s (set st':StateT dX Sem PUnit) Q st:=by
 unfold wpS;exact a9 ⟨rfl,h⟩
theorem F9  (h:(a.extract i j)[k]?=some p):i + k<j/\a[i + k]?=some p:=by
 rw [g_] at h
 split at h
 ·exact ⟨by omega,h⟩
 ·cases h
theorem Up.srt {i j lo n:Nat} (u:Up rk a lo n) (h1:lo<=i) (h2:j<=lo + n):P2 rk (a.extract i j):=by
 intro x y p q hxy hp hq
 obtain ⟨l1,e1⟩:=F9 hp
 obtain ⟨l2,e2⟩:=F9 hq
 rw [<- bE (rk:=rk) e1,<- bE (rk:=rk) e2]
 exact u _ _ (by omega) (by omega) (by omega)
theorem jF  (h:p∈(a.extract i j).toList):∃ k,i<=k/\k<j/\a[k]?=some p:=by
 obtain ⟨k,hk⟩:=kz.1 h
 rw [aE] at hk
 obtain ⟨h1,h2⟩:=F9 hk
 exact ⟨i + k,by omega,h1,h2⟩
theorem Bs.ne' (B:Bs kd L st) (hn:(L.map fun p=>rk p.1).Nodup) {i j:Nat}{p q:cq} (hi:(aJ st)[i]?=some p) (hj:(aJ st)[j]?=some q) (h:i≠j):rk p.1≠rk q.1:=by
 have l1:i<L.length:=by rw [<- B.size];exact (fw.1 hi).1
 have l2:j<L.length:=by rw [<- B.size];exact (fw.1 hj).1
 have:=B.ne hn l1 l2 h
 rwa [bE hi,bE hj] at this
theorem Mk (x y z:Nat×Nat×Nat):((#[x,y].setIfInBounds 0 z).eraseIdxIfInBounds (0 + 1)).size=1:=by
 simp [Array.eraseIdxIfInBounds]
theorem Us (h:a.toList.Pairwise (RY rk)):Up rk a 0 a.size:=by
 intro i j _ h2 h3
 obtain ⟨p,hp⟩:=fk (a:=a) (i:=i) (by omega)
 obtain ⟨q,hq⟩:=fk (a:=a) (i:=j) (by omega)
 rw [bE hp,bE hq]
 rw [nl] at h
 have:=h i j (by simp;omega) (by simp;omega) h2
 obtain ⟨_,rfl⟩:=fw.1 hp
 obtain ⟨_,rfl⟩:=fw.1 hq
 exact this
theorem IN {n m pw:Nat}{Q:Bool->dX->Prop} (hC:Cp prog w A s kd rk L) (hn:(L.map fun p=>rk p.1).Nodup) (B:Bs kd L st)
  (pe:bN st=#[(0,n,pw),(n,m,0)]) (h1:0<n) (h2:0<m) (hr:n + m=L.length) (u1:Up rk (aJ st) 0 n) (u2:Up rk (aJ st) n m)
  (h:∀ st',Bs kd L st'->(bN st').size=1->Up rk (aJ st') 0 L.length->Q true st'):wpS (ay prog w) A E s (R_ 0) Q st:=by
 have sz:=B.size
 obtain ⟨q0,hq0,lq0⟩:=B.get (i:=n) (by omega)
 have mem:∀ {i p},(aJ st)[i]?=some p->p∈L:=fun e=>B.perm.mem_iff.1 (eD e)
 refine ax (mf ?_)
 rw [show (sortPriv% PySem.Builtin.SortState.pending) st=#[(0,n,pw),(n,m,0)] from pe]
 refine ax (Ur ?_)
 refine ax (fj hq0 ?_)
 have r1:Uo rk L (aJ st) 0 n (fun i=>dm rk (aJ st) (0 + i)):=⟨fun i hi=>by
  obtain ⟨p,hp,lp⟩:=B.get (i:=0 + i) (by omega)
  exact ⟨p,hp,lp,(bE hp).symm⟩,fun i j hij hj=>u1 _ _ (by omega) (by omega) (by omega)⟩
 have r2:Uo rk L (aJ st) n m (fun i=>dm rk (aJ st) (n + i)):=⟨fun i hi=>by
  obtain ⟨p,hp,lp⟩:=B.get (i:=n + i) (by omega)
  exact ⟨p,hp,lp,(bE hp).symm⟩,fun i j hij hj=>u2 _ _ (by omega) (by omega) (by omega)⟩
 refine ax (nG (a:=aJ st) (b:=0) (n:=n) (h:=0) hC B.kind r1 lq0 (fun i hi=>?_) h1 fun k k1 k2 k3=>?_)
 ·have:=B.ne hn (i:=0 + i) (j:=n) (by omega) (by omega) (by omega)
  rwa [bE hq0] at this
 refine jE (m:=n - k) (n:=0) (fun e=>aL (h _ ⟨B.kind,B.perm,B.ok⟩ (Mk ..) ?_)) fun e=>?_
 ·intro i j _ hij hj
  rcases cG j n with c1 | c1
  ·exact u1 i j (by omega) hij (by omega)
  ·rcases cG i n with c2 | c2
   ·have c3:=k2 i (by omega)
    rw [dW] at c3
    show dm rk (aJ st) i<dm rk (aJ st) j
    rcases cG n j with c4 | c4
    ·have c5:=u2 n j (by omega) c4 (by omega)
     rw [bE hq0] at c5;omega
    ·rw [show j=n by omega,bE hq0];exact c3
   ·exact u2 i j (by omega) hij (by omega)
 obtain ⟨p0,hp0,lp0⟩:=B.get (i:=n - 1) (by omega)
 refine ax (fj (i:=0 + k + (n - k) - 1) (by rw [show 0 + k + (n - k) - 1=n - 1 by omega];exact hp0) ?_)
 refine ax (nG (a:=aJ st) (b:=n) (n:=m) (h:=m - 1) hC B.kind r2 lp0 (fun i hi=>?_) (by omega) fun k' c1 c2 c3=>?_)
 ·have:=B.ne hn (i:=n + i) (j:=n - 1) (by omega) (by omega) (by omega)
  rwa [bE hp0] at this
 have c0:0<k':=by
  rcases fH k' with e0 | e0
  ·have c4:=c3 0 (by omega) (by omega)
   have c5:=k3 (n - 1) (by omega) (by omega)
   rw [dW,bE hp0] at c5
   rw [mi,bE hq0] at c4
   omega
  ·exact e0
 refine jE (m:=k') (n:=0) (fun e=>by omega) fun _=>?_
 have t:Mi rk L ((aJ st).extract (0 + k) n) ((aJ st).extract n (n + k')):=by
  refine ⟨u1.srt (by omega) (by omega),u2.srt (by omega) (by omega),fun p hp=>?_,fun p hp=>?_,fun p hp q hq=>?_⟩
  ·obtain ⟨_,_,_,e⟩:=jF hp;exact mem e
  ·obtain ⟨_,_,_,e⟩:=jF hp;exact mem e
  ·obtain ⟨_,_,_,e1⟩:=jF hp
   obtain ⟨_,_,_,e2⟩:=jF hq
   exact B.ne' hn e1 e2 (by omega)
 have za:((aJ st).extract (0 + k) n).size=n - k:=by rw [HJ];omega
 have zb:((aJ st).extract n (n + k')).size=k':=by rw [HJ];omega
 obtain ⟨pk,hpk,_⟩:=B.get (i:=0 + k) (by omega)
 obtain ⟨ql,hql,_⟩:=B.get (i:=n + (k' - 1)) (by omega)
 have e1:((aJ st).extract (0 + k) n)[0]?=some pk:=by rw [g_,if_pos (by omega)];exact hpk
 have e2:((aJ st).extract n (n + k'))[0]?=some q0:=by rw [g_,if_pos (by omega)];exact hq0
 have e3:((aJ st).extract (0 + k) n)[((aJ st).extract (0 + k) n).size - 1]?=some p0:=by
  rw [za,g_,if_pos (by omega),show 0 + k + (n - k - 1)=n - 1 by omega];exact hp0
 have e4:((aJ st).extract n (n + k'))[((aJ st).extract n (n + k')).size - 1]?=some ql:=by
  rw [zb,g_,if_pos (by omega)];exact hql
 have g1:rk q0.1<rk pk.1:=by
  have:=k3 k (ar _) (by omega)
  rwa [bE hpk] at this
 have g2:∀ y∈((aJ st).extract n (n + k')).toList,rk y.1<rk p0.1:=fun y hy=>by
  obtain ⟨j,j1,j2,e⟩:=jF hy
  have:=c2 (j - n) (by omega)
  rwa [show n + (j - n)=j by omega,bE e] at this
 have g3:∀ y∈((aJ st).extract (0 + k) n).toList,rk q0.1<rk y.1:=fun y hy=>by
  obtain ⟨j,j1,j2,e⟩:=jF hy
  have:=k3 j (by omega) (by omega)
  rwa [dW,bE e] at this
 extract_lets x y jp
 have J:∀ r st',kindOf st'=kd->aJ st'=aJ st->uS st'=none->(bN st').size=1->nH rk ((aJ st).extract (0 + k) n) ((aJ st).extract n (n + k')) r->wpS (ay prog w) A E s (jp r) Q st':=by
  rintro r st' z1 z2 z3 z4 ⟨f1,f2⟩
  have rl:r.toList.length=n - k + k':=by rw [f1.length_eq,aR,ao,ao,za,zb]
  have pa:=GS (0 + k) r.toList 0 (aJ st') (by rw [z2,rl];omega)
  refine ax (nW (ax (mf (aL ?_))))
  have e5:(uS st').isNone=true:=by rw [z3];rfl
  show Q ((uS st').isNone) _
  rw [e5]
  generalize hb:List.foldl (fun a x=>match x with | (p,j)=>a.setIfInBounds (0 + k + j) p) (aJ st') r.toList.zipIdx=nw at pa
  have hT:(aJ st').toList.take (0 + k + 0)=((aJ st).extract 0 k).toList:=by rw [z2,nI,mi,dW]
  have hD:(aJ st').toList.drop (0 + k + 0 + r.toList.length)=((aJ st).extract (n + k') (aJ st).size).toList:=by
   rw [z2,qH,rl];congr 1;omega
  rw [hT,hD] at pa
  have hpm:nw.toList.Perm L:=by
   refine nQ ?_ B.perm
   rw [pa]
   refine ((f1.append_left _).append_right _).trans (FX ?_)
   rw [nI,qH,gd,gd,dS,dS]
   conv=>rhs;rw [<- fJ k (aJ st).toList,<- fJ (n - k) ((aJ st).toList.drop k),zr,<- fJ k' ((aJ st).toList.drop (k + (n - k))),zr]
   rw [show k + (n - k)=n by omega,List.drop_take,List.drop_take,show n + k' - n=k' by omega,dW]
   simp [dQ]
  have low:∀ x∈((aJ st).extract 0 k).toList,rk x.1<rk q0.1:=fun x hx=>by
   obtain ⟨i,_,i2,e⟩:=jF hx
   have:=k2 i i2
   rwa [dW,bE e] at this
  have high:∀ {j y},n<=j->(aJ st)[j]?=some y->rk q0.1<=rk y.1:=fun {j y} hj e=>by
   have lj:j<(aJ st).size:=(fw.1 e).1
   rcases cG n j with h | h
   ·have:=u2 n j (ar _) h (by omega)
    rw [bE hq0,bE e] at this;omega
   ·rw [show j=n by omega,hq0] at e;cases e;exact ar _
  refine h _ ⟨z1,hpm,z3⟩ z4 ?_
  have up:=Us (a:=nw) (rk:=rk) ?_
  ·have:nw.size=L.length:=by rw [<- hpm.length_eq];simp
   rwa [this] at up
  rw [pa]
  refine gx.2 ⟨gx.2 ⟨(u1.srt (by omega) (by omega)).pw,f2,fun x hx y hy=>?_⟩,(u2.srt (by omega) (by omega)).pw,fun x hx y hy=>?_⟩
  ·have l:=low x hx
   rcases d_.1 (f1.mem_iff.1 hy) with hy | hy
   ·exact eI l (g3 y hy)
   ·obtain ⟨j,j1,_,e⟩:=jF hy
    exact aA l (high j1 e)
  ·obtain ⟨j,j1,j2,e⟩:=jF hy
   rcases d_.1 hx with hx | hx
   ·exact aA (low x hx) (high (by omega) e)
   ·rcases d_.1 (f1.mem_iff.1 hx) with hx | hx
    ·obtain ⟨i,i1,i2,e'⟩:=jF hx
     have l:=c3 (j - n) (by omega) (by omega)
     rw [show n + (j - n)=j by omega,bE e] at l
     rcases cG i (n - 1) with h | h
     ·have:=u1 i (n - 1) (by omega) h (by omega)
      rw [bE hp0,bE e'] at this;exact eI this l
     ·rw [show i=n - 1 by omega,hp0] at e';cases e';exact l
    ·obtain ⟨i,i1,i2,e'⟩:=jF hx
     have:=u2 i j (by omega) (by omega) (by omega)
     rwa [bE e,bE e'] at this
 refine eg (fun _=>ax (IL hC B.kind t e1 e2 g1 (fun p hp=>?_) fun r st' m f=>?_)) fun _=>ax (IM hC B.kind t e3 e4 (g2 ql (eD e4)) e2 g3 fun r st' m f=>?_)
 ·rw [e3] at hp;cases hp;exact g2
 ·exact J r st' (m.1.trans B.kind) m.2.1 (m.2.2.2.trans B.ok) (by rw [m.2.2.1];exact Mk ..) f
 ·exact J r st' (m.1.trans B.kind) m.2.1 (m.2.2.2.trans B.ok) (by rw [m.2.2.1];exact Mk ..) f
end
end
section
section
variable {prog:aH}{w:aZ}{A:aU}{E:aa->ae->Prop}{s:ae}{kd:mj}{rk:aa->Nat}{L:List cq}{st:dX}{a:Array cq}
theorem IP (h2:2<=N) (h64:N<=64):1<=Ea N N 0/\Ea N N 0<=N/\N<=2 * Ea N N 0:=by
 obtain ⟨f,hf⟩:∃ f,N=f + 1:=⟨N - 1,by omega⟩
 by_cases h:N<64
 ·have:Ea (f + 1) N 0=N:=by rw [minRun'_succ,if_pos h];rfl
  rw [<- hf] at this;rw [this];omega
 ·obtain rfl:N=64:=by omega
  have:Ea 64 64 0=32:=by rfl
  rw [this];omega
theorem S0 (hC:Cp prog w A s kd rk L) (hn:(L.map fun p=>rk p.1).Nodup) (B:Bs kd L st) (pe:bN st=#[]) (h2:2<=L.length) (h64:L.length<=64)
  (h:∀ st',Bs kd L st'->Up rk (aJ st') 0 L.length->Q () st'):wpS (ay prog w) A E s sortRuns' Q st:=by
 obtain ⟨m1,m2,m3⟩:=IP h2 h64
 refine ax (mf ?_)
 extract_lets size mr lo
 have hsz:size=L.length:=B.size
 have hmr:mr=Ea L.length L.length 0:=by rw [<- hsz];rfl
 rw [<- hmr] at m1 m2 m3
 clear_value size mr
 subst hsz
 refine ax (e8 (cK
  (I:=fun x c st'=>Bs kd L st'/\((x=0/\c=(none,0)/\bN st'=#[])\/(x=1/\∃ n,c=(none,n)/\bN st'=#[(0,n,0)]/\mr<=n/\n<=L.length/\Up rk (aJ st') 0 n) \/
   (∃ n m pw,c=(none,L.length)/\bN st'=#[(0,n,pw),(n,m,0)]/\0<n/\0<m/\n + m=L.length/\Up rk (aJ st') 0 n/\Up rk (aJ st') n m)))
  (Q:=fun c st'=>Bs kd L st'/\((∃ n,c=(none,n)/\(bN st').size=1/\Up rk (aJ st') 0 L.length) \/
   (∃ n m pw,c=(none,L.length)/\bN st'=#[(0,n,pw),(n,m,0)]/\0<n/\0<m/\n + m=L.length/\Up rk (aJ st') 0 n/\Up rk (aJ st') n m))) ?step ?fin ⟨B,.inl ⟨rfl,rfl,pe⟩⟩) ?post)
 case fin =>
  rintro c st' ⟨B',⟨e,_⟩ | ⟨e,_⟩ | c3⟩
  ·omega
  ·omega
  ·exact ⟨B',.inr c3⟩
 case step =>
  rintro x c st1 - hx ⟨B1,⟨rfl,rfl,p1⟩ | ⟨rfl,n,rfl,p1,n1,n2,u⟩ | ⟨n,m,pw,rfl,p1,n1,n2,n3,u1,u2⟩⟩
  ·refine eg (fun hg=>?_) fun _=>?_
   ·have hg:0 ≥ L.length:=hg;omega
   refine ax (GR (lo:=0) (r:=L.length - 0) hC hn B1 (by omega) (by omega) fun n st2 B2 p2 k2 n1 n2 u2=>?_)
   dsimp (config:={ zeta:=false }) only
   extract_lets nn jp
   have J:∀ n st',Bs kd L st'->bN st'=#[]->mr<=n->n<=L.length->Up rk (aJ st') 0 n->wpS (ay prog w) A E s (jp () n) (fun r st'=>∃ c,r=.yield c/\Bs kd L st'/\∃ n,c=(none,n)/\bN st'=#[(0,n,0)]/\mr<=n/\n<=L.length/\Up rk (aJ st') 0 n) st':=by
    intro n st' B' p' l1 l2 u
    refine ax (mf ?_)
    extract_lets jp1
    rw [show (sortPriv% PySem.Builtin.SortState.pending) st'=#[] from p']
    refine ax (nW (aL ⟨_,rfl,⟨B'.kind,B'.perm,B'.ok⟩,n,?_,?_,l1,l2,u⟩))
    ·show ((none,0 + n):Option Unit×Nat)=(none,n)
     rw [dW]
    ·show (bN st').push _=_
     rw [p'];rfl
   refine e8 (Q:=fun r st'=>∃ c,r=.yield c/\Bs kd L st'/\∃ n,c=(none,n)/\bN st'=#[(0,n,0)]/\mr<=n/\n<=L.length/\Up rk (aJ st') 0 n) (eg (fun hl=>?_) fun hl=>?_) ?_
   ·have hl:n<mr:=hl
    refine ax (rg (cU ⟨rfl,?_⟩))
    have hf:min (L.length - 0) mr=mr:=by omega
    refine ax (QB (lo:=0) (n:=min (L.length - 0) mr) hC hn B2 (by omega) n1 (by omega) u2 fun st3 B3 p3 k3 u3=>?_)
    refine eg (fun h=>by cases h) fun _=>?_
    rw [hf] at u3
    exact J (min (L.length - 0) mr) st3 B3 (p3.trans (p2.trans p1)) (by omega) (by omega) (by rw [hf];exact u3)
   ·have hl:¬ n<mr:=hl
    exact J n st2 B2 (p2.trans p1) (by omega) (by omega) u2
   ·rintro r st' ⟨c,rfl,B',n,rfl,p',l1,l2,u⟩
    exact ⟨B',.inr (.inl ⟨rfl,n,rfl,p',l1,l2,u⟩)⟩
  ·refine eg (fun hg=>aL ⟨B1,.inl ⟨n,rfl,by rw [p1];rfl,?_⟩⟩) fun hg=>?_
   ·have hg:n ≥ L.length:=hg
    rw [show L.length=n by omega];exact u
   have hg:¬ n ≥ L.length:=hg
   refine ax (GR (lo:=n) (r:=L.length - n) hC hn B1 (by omega) (by omega) fun m st2 B2 p2 k2 m1 m2 u2=>?_)
   dsimp (config:={ zeta:=false }) only
   extract_lets nn jp
   have up:∀ {st':dX},Kp n (aJ st1) (aJ st')->Up rk (aJ st') 0 n:=fun {st'} kp i j h1 h2 h3=>by
    rw [jb (rk:=rk) (kp i (by omega)),jb (rk:=rk) (kp j (by omega))]
    exact u i j h1 h2 h3
   have J:∀ m st',Bs kd L st'->bN st'=#[(0,n,0)]->n + m=L.length->0<m->Up rk (aJ st') 0 n->Up rk (aJ st') n m->wpS (ay prog w) A E s (jp () m) (fun r st'=>∃ c,r=.yield c/\Bs kd L st'/\∃ n m pw,c=(none,L.length)/\bN st'=#[(0,n,pw),(n,m,0)]/\0<n/\0<m/\n + m=L.length/\Up rk (aJ st') 0 n/\Up rk (aJ st') n m) st':=by
    intro m st' B' p' l1 l2 u1 u2
    refine ax (mf ?_)
    extract_lets jp1
    rw [show (sortPriv% PySem.Builtin.SortState.pending) st'=#[(0,n,0)] from p']
    refine ax (e8 (cK (I:=fun _ c st''=>st''=st'/\c=(none,())) (Q:=fun c st''=>st''=st'/\c=(none,())) ?_ (fun _ _ hh=>hh) ⟨rfl,rfl⟩) ?_)
    ·rintro x c st'' - _ ⟨rfl,rfl⟩
     refine ax (mf ?_)
     rw [show (sortPriv% PySem.Builtin.SortState.pending) st''=#[(0,n,0)] from p']
     exact aL ⟨rfl,rfl⟩
    ·rintro c st'' ⟨rfl,rfl⟩
     refine ax (nW (ax (nW (aL ⟨_,rfl,⟨B'.kind,B'.perm,B'.ok⟩,n,m,(sortPriv% PySem.Builtin.power) L.length (2 * 0 + n) (2 * 0 + n + n + m) L.length,?_,?_,by omega,l2,l1,u1,u2⟩))))
     ·show ((none,n + m):Option Unit×Nat)=(none,L.length)
      rw [l1]
     ·show Array.push (Array.modify (bN st'') ((bN st'').size - 1) _) _=_
      rw [p'];rfl
   refine e8 (Q:=fun r st'=>∃ c,r=.yield c/\Bs kd L st'/\∃ n m pw,c=(none,L.length)/\bN st'=#[(0,n,pw),(n,m,0)]/\0<n/\0<m/\n + m=L.length/\Up rk (aJ st') 0 n/\Up rk (aJ st') n m) (eg (fun hl=>?_) fun hl=>?_) ?_
   ·have hl:m<mr:=hl
    refine ax (rg (cU ⟨rfl,?_⟩))
    have hf:min (L.length - n) mr=L.length - n:=by omega
    refine ax (QB (lo:=n) (n:=min (L.length - n) mr) hC hn B2 (by omega) m1 (by omega) u2 fun st3 B3 p3 k3 u3=>?_)
    refine eg (fun h=>by cases h) fun _=>?_
    exact J (min (L.length - n) mr) st3 B3 (p3.trans (p2.trans p1)) (by omega) (by omega) (up fun i hi=>(k3 i hi).trans (k2 i hi)) u3
   ·have hl:¬ m<mr:=hl
    exact J m st2 B2 (p2.trans p1) (by omega) (by omega) (up k2) u2
   ·rintro r st' ⟨c,rfl,B',hh⟩
    exact ⟨B',.inr (.inr hh)⟩
  ·exact eg (fun _=>aL ⟨B1,.inr ⟨n,m,pw,rfl,p1,n1,n2,n3,u1,u2⟩⟩) fun hg=>absurd (ar _) hg
 case post =>
  have fin:∀ {st'},Bs kd L st'->(bN st').size=1->Up rk (aJ st') 0 L.length->Bs kd L st'/\(bN st').size=1/\Up rk (aJ st') 0 L.length:=fun b p u=>⟨b,p,u⟩
  rintro c st1 ⟨B1,hh⟩
  obtain ⟨lo,rfl⟩:∃ lo,c=(none,lo):=by
   rcases hh with ⟨n,rfl,_⟩ | ⟨n,m,pw,rfl,_⟩
   ·exact ⟨_,rfl⟩
   ·exact ⟨_,rfl⟩
  refine ax (e8 (cK
   (I:=fun x c st'=>c=(none,())/\Bs kd L st'/\(((bN st').size=1/\Up rk (aJ st') 0 L.length)\/(x=0/\∃ n m pw,bN st'=#[(0,n,pw),(n,m,0)]/\0<n/\0<m/\n + m=L.length/\Up rk (aJ st') 0 n/\Up rk (aJ st') n m)))
   (Q:=fun c st'=>c=(none,())/\Bs kd L st'/\Up rk (aJ st') 0 L.length) ?_ ?_ ⟨rfl,B1,?_⟩) ?_)
  ·rintro x c st' - hx ⟨rfl,B',⟨p1,u⟩ | ⟨rfl,n,m,pw,p1,n1,n2,n3,u1,u2⟩⟩
   ·refine ax (mf (eg (fun _=>aL ⟨rfl,B',u⟩) fun hg=>absurd ?_ hg))
    show (bN st').size<=1
    omega
   ·refine ax (mf ?_)
    rw [show (sortPriv% PySem.Builtin.SortState.pending) st'=#[(0,n,pw),(n,m,0)] from p1]
    refine eg (fun h=>?_) fun _=>?_
    ·have h:(2:Nat)<=1:=h
     omega
    refine ax (IN hC hn B' p1 n1 n2 n3 u1 u2 fun st2 B2 p2 u=>?_)
    exact eg (fun h=>by cases h) fun _=>aL ⟨rfl,B2,.inl ⟨p2,u⟩⟩
  ·rintro c st' ⟨rfl,B',⟨p1,u⟩ | ⟨e,_⟩⟩
   ·exact ⟨rfl,B',u⟩
   ·omega
  ·rcases hh with ⟨n,_,p,u⟩ | ⟨n,m,pw,_,hh⟩
   ·exact .inl ⟨p,u⟩
   ·exact .inr ⟨rfl,n,m,pw,hh⟩
  ·rintro c st' ⟨rfl,B',u⟩
   exact aL (h st' B' u)
end
end
end TS
namespace TS
open PySem PyProof.Rows PySem.W
section
def Ss:List aa->List Str->Prop
 | [],[]=>True
 | v::vs,x::xs=>(∃ t,v=.str x t)/\Ss vs xs
 | _,_=>False
def tl:List Str->List Str->Bool
 | [],[]=>false
 | [],_::_=>true
 | _::_,[]=>false
 | x::xs,y::ys=>if x=y then tl xs ys else decide (x.cps.toList<y.cps.toList)
def Tk (h:bB) (v:aa) (x:List Str):Prop:=∃ a o vs n,v=.ref a/\h.get? a=some o/\o.cls=.type "tuple"/\o.data=.seq vs n/\Ss vs.toList x
section
variable {prog:aH}{w:aZ}{A:aU}{E:aa->ae->Prop}{s:ae}
theorem uj  : tl (x::xs) (y::ys)=if x=y then tl xs ys else decide (x.cps.toList<y.cps.toList):=rfl
theorem GT  : ∀ {vs us:List aa}{x y:List Str}{i:Nat},Ss vs x->Ss us y->fin=decide (vs.length<us.length)->Q (tl x y) s->KatLex prog w A true fin Q (vs.zip us) i s
 | [],[],[],[],_,_,_,e,q=>by subst e;exact q
 | [],_::_,[],_::_,_,_,_,e,q=>by subst e;rw [List.zip_nil_left];refine kat_nil ?_;simpa [tl] using q
 | _::_,[],_::_,[],_,_,_,e,q=>by subst e;rw [List.zip_nil_right];refine kat_nil ?_;simpa [tl] using q
 | v::vs,u::us,x::xs,y::ys,i,h1,h2,e,q=>by
  obtain ⟨⟨t,rfl⟩,h1⟩:=h1
  obtain ⟨⟨t',rfl⟩,h2⟩:=h2
  rw [uF]
  refine kat_cons (Am ?_)
  rw [uj] at q
  by_cases hxy:x=y
  ·rw [if_pos hxy] at q
   have e':(x == y)=true:=by simp [hxy]
   first | rw [e'] | (rw [show decide (x=y)=true by simp [hxy]])
   exact kat_yes (GT h1 h2 (by rw [e];simp) q)
  ·rw [if_neg hxy] at q
   have e':(x == y)=false:=by simp [hxy]
   first | rw [e'] | (rw [show decide (x=y)=false by simp [hxy]])
   refine kat_no ?_
   cases (true && i == 0) with
   | true=>exact oneLt_str q
   | false=>exact kat_one _ _ (lt_str q)
 | [],_,_::_,_,_,h,_,_,_=>h.elim
 | _::_,_,[],_,_,h,_,_,_=>h.elim
 | _,[],_,_::_,_,_,h,_,_=>h.elim
 | _,_::_,_,[],_,_,h,_,_=>h.elim
theorem P3   (h1:Tk s.heap v x) (h2:Tk s.heap u y) (q:Q (tl x y) s):au (ay prog w) A (keyLt' (tuples' true) v u) Q E s:=by
 obtain ⟨a,o,vs,n,rfl,e1,_,e2,e3⟩:=h1
 obtain ⟨b,o',us,m,rfl,f1,_,f2,f3⟩:=h2
 exact kat_lt e1 e2 f1 f2 (GT e3 f3 (by simp) q)
theorem rT   (hx:Tk s.heap (.ref a) x) (hy:Tk s.heap (.ref b) y) (h:P (.done (.ret (.bool (tl x y)))) s) :
  au (ay prog w) A (jr.«tuple.__lt__» ⟨[.ref a,.ref b],[]⟩) P E s:=by
 obtain ⟨_,oa,xs,na,ea,hoa,hca,hda,hia⟩:=hx
 obtain ⟨_,ob,ys,nb,eb,hob,hcb,hdb,hib⟩:=hy
 cases ea;cases eb
 show au _ _ (isInstance (.ref b) (.type "tuple") >>= _) _ _ s
 refine a7 (fQ (T:="tuple") ⟨_,hob,hcb⟩ isSubtype_tuple_tuple ?_)
 simp only [jg,bv,if_false]
 refine a7 (wpAny_tupleItemsOf hoa hda ?_)
 refine a7 (wpAny_tupleItemsOf hob hdb ?_)
 refine a7 ?_
 refine wpAny_forIn_list _
  (fun bS r s'=>r.1=none/\s'=s/\∃ x' y' xs' ys',bS=List.zip xs' ys'/\Ss xs' x'/\Ss ys' y'/\tl x' y'=tl x y/\(decide (xs'.length<ys'.length))=(decide (xs.size<ys.size)))
  _ ?_ ?_ _ _ ⟨rfl,rfl,x,y,xs.toList,ys.toList,rfl,hia,hib,rfl,by simp⟩
 ·rintro ⟨u,v⟩ bS r s' ⟨hr,rfl,x',y',xs',ys',hz,hx',hy',hdec,hlen⟩
  match x',y',xs',ys',hz,hx',hy',hdec,hlen with
  | k1::x',k2::y',u'::xs',v'::ys',hz,⟨⟨t,e1⟩,hx'⟩,⟨⟨t',e2⟩,hy'⟩,hdec,hlen =>
   rw [uF] at hz
   obtain ⟨e3,rfl⟩:=wW hz
   obtain ⟨rfl,rfl⟩:=Prod.mk.inj e3
   subst e1;subst e2
   refine a7 (Am ?_)
   rw [uj] at hdec
   by_cases hk:k1=k2
   ·rw [if_pos hk] at hdec
    have e':(k1 == k2)=true:=by simp [hk]
    first | rw [e'] | (rw [show decide (k1=k2)=true by simp [hk]])
    simp only [jg,bv,if_false]
    refine a9 ⟨rfl,rfl,x',y',xs',ys',rfl,hx',hy',hdec,by simpa using hlen⟩
   ·rw [if_neg hk] at hdec
    have e':(k1 == k2)=false:=by simp [hk]
    first | rw [e'] | (rw [show decide (k1=k2)=false by simp [hk]])
    simp only [iO,if_true]
    rw [<- hdec] at h
    refine a7 (cU (a7 (lt_str ?_)))
    exact a7 (a9 (a9 (a9 h)))
  | [],_,u'::xs',_,_,h,_,_,_=>exact h.elim
  | _::_,_,[],_,hz,h,_,_,_=>exact h.elim
  | [],_,[],_,hz,_,_,_,_=>simp at hz
  | _::_,[],_::_,v'::ys',hz,_,h,_,_=>exact h.elim
  | _::_,_::_,_::_,[],hz,_,h,_,_=>exact h.elim
  | _::_,[],_::_,[],hz,_,_,_,_=>simp at hz
 ·rintro ⟨r1,r2⟩ s' ⟨hr,rfl,x',y',xs',ys',hz,hx',hy',hdec,hlen⟩
  simp only at hr
  subst hr
  refine a9 ?_
  have hfin:decide (xs.size<ys.size)=tl x y:=by
   rw [<- hdec,<- hlen]
   match x',y',xs',ys',hz,hx',hy' with
   | [],[],[],[],_,_,_=>simp [tl]
   | [],_::_,[],_::_,_,_,_=>simp [tl]
   | _::_,[],_::_,[],_,_,_=>simp [tl]
   | _::_,_::_,_::_,_::_,hz,_,_=>simp at hz
   | [],_,_::_,_,_,h,_=>exact h.elim
   | _::_,_,[],_,_,h,_=>exact h.elim
   | _,[],_,_::_,_,_,h=>exact h.elim
   | _,_::_,_,[],_,_,h=>exact h.elim
  show P (.done (.ret (.bool (decide (xs.size<ys.size))))) s'
  rw [hfin];exact h
theorem Tk.typeIs  (h:Tk s.heap v x):s.TypeIs v "tuple":=by
 obtain ⟨a,o,vs,n,rfl,e1,e2,_⟩:=h
 exact ⟨_,e1,e2⟩
theorem S1   (hu:A.units<gz) (h1:Tk s.heap v x) (h2:Tk s.heap u y) (q:Q (tl x y) s):au (ay prog w) A (keyLt' general' v u) Q E s:=by
 have h1':=h1;have h2':=h2
 obtain ⟨a,_,_,_,rfl,_⟩:=h1'
 obtain ⟨b,_,_,_,rfl,_⟩:=h2'
 refine kat_one _ _ (wpAny_richCompare_same_room (op:=.Lt) h1.typeIs h2.typeIs rH
  (bF rH h1.typeIs F.entry_tuple_lt (rT h1 h2 ⟨_,rfl,(fun e=>nomatch e),q⟩) (F.args_tuple_lt_2 _ _)) hu)
theorem S2   (hu:A.units<gz) (h1:Tk s.heap v x) (h2:Tk s.heap u y) (q:Q (tl x y) s):au (ay prog w) A (keyLt' oneType' v u) Q E s:=by
 have h1':=h1;have h2':=h2
 obtain ⟨a,_,_,_,rfl,_⟩:=h1'
 obtain ⟨b,_,_,_,rfl,_⟩:=h2'
 rw [keyLt'_oneType,oneLt'_eq]
 simp only [if_true]
 refine a7 (wpAny_cRoomFor_or (.inr hu) ?_)
 refine a7 (wpAny_callSpecialIfBound?_slot h1.typeIs rH (bF rH h1.typeIs F.entry_tuple_lt (rT h1 h2 ⟨_,rfl,?_⟩) (F.args_tuple_lt_2 _ _)))
 exact cW q
end
end
section
theorem S3 {x y:Str} (h:x.cps.toList=y.cps.toList):x=y:=by
 cases x;cases y;exact congrArg _ (vZ.1 h)
theorem tl_irrefl:∀ x:List Str,tl x x=false
 | []=>rfl
 | x::xs=>by rw [uj,if_pos rfl];exact tl_irrefl xs
theorem tl_total:∀ x y:List Str,tl x y=false->tl y x=false->x=y
 | [],[],_,_=>rfl
 | [],_::_,h,_=>by cases h
 | _::_,[],_,h=>by cases h
 | x::xs,y::ys,h1,h2=>by
  rw [uj] at h1 h2
  by_cases e:x=y
  ·subst e
   rw [if_pos rfl] at h1 h2
   rw [tl_total xs ys h1 h2]
  ·rw [if_neg e] at h1
   rw [if_neg (cQ e)] at h2
   exact absurd (S3 (PyProof.Rows.strKind.total x.cps.toList y.cps.toList h1 h2)) e
theorem tl_trans:∀ x y z:List Str,tl x y=true->tl y z=true->tl x z=true
 | [],_,[],h1,h2=>by
  rename_i y
  cases y with
  | nil=>cases h1
  | cons=>cases h2
 | [],_,_::_,_,_=>rfl
 | _::_,[],_,h,_=>by cases h
 | _::_,_::_,[],_,h=>by cases h
 | x::xs,y::ys,z::zs,h1,h2=>by
  rw [uj] at h1 h2 ⊢
  by_cases e:x=y
  ·subst e
   rw [if_pos rfl] at h1
   by_cases e':x=z
   ·subst e'
    rw [if_pos rfl] at h2 ⊢
    exact tl_trans xs ys zs h1 h2
   ·rw [if_neg e'] at h2 ⊢;exact h2
  ·rw [if_neg e] at h1
   by_cases e':y=z
   ·subst e'
    rw [if_neg e];exact h1
   ·rw [if_neg e'] at h2
    have h3:=PyProof.Rows.strKind.trans x.cps.toList y.cps.toList z.cps.toList h1 h2
    rw [if_neg fun e2=>by subst e2;rw [PyProof.Rows.strKind.irrefl] at h3;cases h3]
    exact h3
theorem zZ {α:Type}{p q:α->Bool}:∀ {l:List α}{a:α},(∀ z∈l,p z=true->q z=true)->a∈l->p a=false->q a=true->l.countP p<l.countP q
 | b::l,a,h,ha,pa,qa=>by
  rw [Nq,Nq]
  have mono:l.countP p<=l.countP q:=List.countP_mono_left fun z hz=>h z (ah _ hz)
  rcases aY.1 ha with rfl | ha
  ·rw [if_neg (by simp [pa]),if_pos qa];omega
  ·have:=zZ (fun z hz=>h z (ah _ hz)) ha pa qa
   have hb:=h b (am ..)
   cases hpb:p b with
   | false=>simp;split<;>omega
   | true=>rw [hb hpb];simp;omega
def Dd (xs:List (List Str)) (x:List Str):Nat:=xs.countP fun y=>tl y x
theorem GU  (hx:x∈xs) (h:tl x y=true):Dd xs x<Dd xs y :=
 zZ (fun z _ hz=>tl_trans z x y hz h) hx (tl_irrefl x) h
theorem uk  (hx:x∈xs) (hy:y∈xs):decide (Dd xs x<Dd xs y)=tl x y:=by
 cases h:tl x y with
 | true=>exact decide_eq_true (GU hx h)
 | false =>
  refine decide_eq_false fun hl=>?_
  cases h2:tl y x with
  | true=>have:=GU hy h2;omega
  | false=>rw [tl_total x y h h2] at hl;omega
theorem Ml  (hx:x∈xs) (hy:y∈xs) (h:Dd xs x=Dd xs y):x=y:=by
 refine tl_total x y ?_ ?_
 ·rw [<- uk hx hy];simp [h]
 ·rw [<- uk hy hx];simp [h]
theorem Ss.inj:∀ {vs:List aa}{x y:List Str},Ss vs x->Ss vs y->x=y
 | [],[],[],_,_=>rfl
 | v::vs,x::xs,y::ys,h1,h2=>by
  obtain ⟨⟨t,rfl⟩,h1⟩:=h1
  obtain ⟨⟨t',e⟩,h2⟩:=h2
  cases e
  rw [Ss.inj h1 h2]
 | [],_::_,_,h,_=>h.elim
 | [],[],_::_,_,h=>h.elim
 | _::_,[],_,h,_=>h.elim
 | _::_,_::_,[],_,h=>h.elim
theorem Tk.inj   (h1:Tk h v x) (h2:Tk h v y):x=y:=by
 obtain ⟨a,o,vs,n,rfl,e1,_,e2,e3⟩:=h1
 obtain ⟨_,o',us,m,ea,f1,_,f2,f3⟩:=h2
 cases ea
 rw [e1] at f1;cases f1
 rw [e2] at f2;cases f2
 exact e3.inj f3
def Tks (h:bB):List aa->List (List Str)->Prop
 | [],[]=>True
 | v::vs,x::xs=>Tk h v x/\Tks h vs xs
 | _,_=>False
theorem Tks.len:∀ {vs:List aa}{xs:List (List Str)},Tks h vs xs->vs.length=xs.length
 | [],[],_=>rfl
 | _::_,_::_,t=>congrArg (· + 1) t.2.len
 | [],_::_,t=>t.elim
 | _::_,[],t=>t.elim
theorem Tks.mem  : ∀ {vs:List aa}{xs:List (List Str)},Tks h vs xs->v∈vs->∃ x∈xs,Tk h v x
 | v'::vs,x::xs,t,hm=>by
  rcases aY.1 hm with rfl | hm
  ·exact ⟨x,am ..,t.1⟩
  ·obtain ⟨y,hy,e⟩:=Tks.mem t.2 hm
   exact ⟨y,ah _ hy,e⟩
 | [],_,_,hm=>by cases hm
 | _::_,[],t,_=>t.elim
theorem Tks.keep (k:∀ v x,Tk h v x->Tk h' v x):∀ {vs:List aa}{xs:List (List Str)},Tks h vs xs->Tks h' vs xs
 | [],[],_=>trivial
 | _::_,_::_,t=>⟨k _ _ t.1,Tks.keep k t.2⟩
 | [],_::_,t=>t.elim
 | _::_,[],t=>t.elim
theorem Tks.perm:∀ {vs us:List aa}{xs:List (List Str)},vs.Perm us->Tks h us xs->∃ ys,Tks h vs ys/\ys.Perm xs:=by
 intro vs us xs p
 induction p generalizing xs with
 | nil=>exact fun t=>⟨xs,t,.refl _⟩
 | cons v p ih =>
  intro t
  cases xs with
  | nil=>exact t.elim
  | cons x xs =>
   obtain ⟨ys,t2,p2⟩:=ih t.2
   exact ⟨x::ys,⟨t.1,t2⟩,p2.cons x⟩
 | swap v u l =>
  intro t
  match xs,t with
  | x::y::xs,t=>exact ⟨y::x::xs,⟨t.2.1,t.1,t.2.2⟩,.swap x y xs⟩
  | [_],t=>exact t.2.elim
  | [],t=>exact t.elim
 | trans p q ih1 ih2 =>
  intro t
  obtain ⟨ys,t2,p2⟩:=ih2 t
  obtain ⟨zs,t3,p3⟩:=ih1 t2
  exact ⟨zs,t3,p3.trans p2⟩
open Classical in
noncomputable def IQ (h:bB) (xs:List (List Str)) (v:aa):Nat:=if e:∃ x,Tk h v x then Dd xs e.choose else 0
theorem qI    (t:Tk h v x):IQ h xs v=Dd xs x:=by
 have e:∃ x,Tk h v x:=⟨x,t⟩
 unfold IQ
 rw [dif_pos e,e.choose_spec.inj t]
section
variable {prog:aH}{w:aZ}{A:aU}{E:aa->ae->Prop}{s:ae}
def Kd (kd:mj):Prop:=kd=tuples' true\/kd=general'\/kd=oneType'
theorem Ut   (hu:A.units<gz) (k:Kd kd) (t:Tks s.heap vs xs):Cp prog w A s kd (IQ s.heap xs) (vs.zip vs):=by
 intro x hx y hy Q E q
 obtain ⟨e1,m1⟩:=yJ hx
 obtain ⟨e2,m2⟩:=yJ hy
 obtain ⟨a,ha,ta⟩:=t.mem m1
 obtain ⟨b,hb,tb⟩:=t.mem m2
 rw [qI ta,qI tb,uk ha hb] at q
 rcases k with rfl | rfl | rfl
 ·exact P3 ta tb q
 ·exact S1 hu ta tb q
 ·exact S2 hu ta tb q
theorem De:∀ {vs:List aa}{xs ys:List (List Str)}{h:bB},Tks h vs xs->(∀ x∈xs,x∈ys)->xs.Nodup->((vs.zip vs).map fun p=>IQ h ys p.1).Nodup
 | [],[],_,_,_,_,_=>fz
 | v::vs,x::xs,ys,h,t,s,n=>by
  rw [uF,aw,jv]
  refine ⟨fun hm=>?_,De t.2 (fun x hx=>s x (ah _ hx)) (jv.1 n).2⟩
  obtain ⟨p,hp,e⟩:=jQ.1 hm
  obtain ⟨y,hy,ty⟩:=t.2.mem (yJ hp).2
  rw [qI ty,qI t.1] at e
  rw [Ml (s y (ah _ hy)) (s x (am ..)) e] at hy
  exact (jv.1 n).1 hy
 | [],_::_,_,_,t,_,_=>t.elim
 | _::_,[],_,_,t,_,_=>t.elim
theorem Mm   (t:Tk s.heap v x) (q:∀ o,(o=none\/∃ b u,o=some (.str b u))->Q o s):au (ay prog w) A (firstOfTuple' v) Q E s:=by
 obtain ⟨a,o,vs,n,rfl,e1,e0,e2,e3⟩:=t
 rw [kas_first_eq]
 refine a7 (Looks.here (show Looks (ay prog w) s.heap (typeOf (.ref a)) o.cls from (Looks.ld e1).andThen .now) ?_)
 rw [e0,if_neg (by first | decide | simp)]
 refine a7 (listItems_at e1 e2 (a9 (q _ ?_)))
 rw [<- aE]
 match vs.toList,x,e3 with
 | [],[],_=>exact .inl rfl
 | v::vs,x::xs,h=>obtain ⟨⟨t,rfl⟩,_⟩:=h;exact .inr ⟨x,t,rfl⟩
theorem z_:∀ {vs:List aa}{xs:List (List Str)}{Q:List (Option aa)->ae->Prop},Tks s.heap vs xs->(∀ os:List (Option aa),os.length=vs.length->(∀ o∈os,o=none\/∃ b u,o=some (.str b u))->Q os s)->au (ay prog w) A (vs.mapM firstOfTuple') Q E s
 | [],[],_,_,q=>by rw [List.mapM_nil];exact a9 (q [] rfl (by simp))
 | v::vs,x::xs,Q,t,q=>by
  rw [List.mapM_cons]
  refine a7 (Mm t.1 fun o ho=>a7 (z_ t.2 fun os hl ha=>a9 (q _ (by simp [hl]) ?_)))
  intro o' ho'
  rcases aY.1 ho' with rfl | ho'
  ·exact ho
  ·exact ha _ ho'
 | [],_::_,_,t,_=>t.elim
 | _::_,[],_,t,_=>t.elim
theorem Mn {vs:List aa}{T:aa}{Q:Option aa->ae->Prop} (hn:0<vs.length) (hT:∀ v∈vs,Looks (ay prog w) s.heap (typeOf v) T) (hT2:(T == T)=true) (q:Q (some T) s):au (ay prog w) A (oneTypeOnly' vs.toArray) Q E s:=by
 match vs,hn with
 | v::vs,_ =>
  rw [oneTypeOnly'_eq,K3,map_eq_pure_bind]
  refine a7 (a7 (kas_mapM (r:=T) _ (fun v hv Q' hq=>(hT v hv).here hq) (a9 ?_)))
  have hall2:((rJ (fun _=>T) (v::vs)).toArray.all fun x=>x == T)=true:=by
   simp only [List.all_toArray,jS,cg]
   intro _ _
   exact hT2
  have h0:(rJ (fun _=>T) (v::vs)).toArray[0]?=some T:=by simp
  rw [h0]
  simp only [hall2,if_true]
  exact a9 q
theorem P4 {vs:List aa}{xs:List (List Str)}{Q:mj->ae->Prop} (hn:2<=vs.length) (t:Tks s.heap vs xs) (q:∀ kd,Kd kd->Q kd s):au (ay prog w) A (keyKind' vs.toArray) Q E s:=by
 rw [kat_kind_eq,K3,map_eq_pure_bind]
 refine a7 (a7 (z_ t fun os hl ha=>a9 ?_))
 by_cases hall:(os.toArray.all fun x=>x.isSome)=true
 ·rw [if_pos hall]
  refine a7 (cU ?_)
  have hs:∀ o∈os,∃ b u,o=some (.str b u):=fun o ho=>by
   rcases ha o ho with rfl | h
   ·simp at hall;have:=hall _ ho;cases this
   ·exact h
  have hfm:os.toArray.filterMap id=(os.filterMap id).toArray:=by simp
  rw [hfm]
  have hl2:(os.filterMap id).length=os.length:=by
   have:∀ os:List (Option aa),(∀ o∈os,∃ b u,o=some (.str b u))->(os.filterMap id).length=os.length:=by
    intro os
    induction os with
    | nil=>intro _;rfl
    | cons o os ih =>
     intro hs
     obtain ⟨b,u,rfl⟩:=hs o (am ..)
     rw [lJ];simp only [id]
     rw [bw,ih fun o ho=>hs o (ah _ ho)];rfl
   exact this os hs
  refine a7 (Mn (T:=.type "str") (by omega) (fun v hv=>?_) (by rfl) (a9 (q _ (.inl rfl))))
  obtain ⟨o,ho,e⟩:=List.mem_filterMap.1 hv
  obtain ⟨b,u,rfl⟩:=hs o ho
  cases e
  exact .now
 ·rw [if_neg hall]
  by_cases h0:(os.toArray[0]?.bind id).isSome=true
  ·rw [if_pos h0]
   exact a9 (q _ (.inr (.inl rfl)))
  ·rw [if_neg h0]
   refine a7 (Mn (T:=.type "tuple") (by omega) (fun v hv=>?_) (by rfl) (a9 (q _ (.inr (.inr rfl)))))
   obtain ⟨x,_,a,o,us,n,rfl,e1,e2,_⟩:=t.mem hv
   rw [<- e2]
   exact (Looks.ld e1).andThen .now
end
end
section
section
variable {prog:aH}{w:aZ}{A:aU}{E:aa->ae->Prop}{s:ae}
theorem Tks.inj:∀ {vs:List aa}{xs ys:List (List Str)},Tks h vs xs->Tks h vs ys->xs=ys
 | [],[],[],_,_=>rfl
 | _::_,_::_,_::_,t1,t2=>by rw [t1.1.inj t2.1,Tks.inj t1.2 t2.2]
 | [],_::_,_,t,_=>t.elim
 | [],[],_::_,_,t=>t.elim
 | _::_,[],_,t,_=>t.elim
 | _::_,_::_,[],_,t=>t.elim
theorem Tk.keepNe    (ha:h.get? a=some (iR "list" vs n)) (k:∀ b o,b≠a->h.get? b=some o->h'.get? b=some o) (v:aa) (x:List Str) (t:Tk h v x):Tk h' v x:=by
 obtain ⟨b,o,us,m,rfl,e1,e2,e3⟩:=t
 refine ⟨b,o,us,m,rfl,k b o (fun e=>?_) e1,e2,e3⟩
 subst e
 rw [ha] at e1;cases e1
 simp at e2
theorem P5 {vs:List aa}{xs:List cq} (p:xs.Perm (vs.zip vs)):(xs.map (·.2)).Perm vs/\xs.map (·.1)=xs.map (·.2):=by
 refine ⟨?_,gL fun p' hp=>(yJ (p.mem_iff.1 hp)).1⟩
 have:=p.map (·.2)
 rwa [Nr (ar _)] at this
theorem xH  : ∀ {xs:List cq}{zs:List (List Str)},Tks h (xs.map (·.1)) zs->(∀ z∈zs,z∈ys)->xs.Pairwise (RY (IQ h ys))->zs.Pairwise (fun a b=>tl a b=true)
 | [],[],_,_,_=>pG
 | x::xs,z::zs,t,hm,p=>by
  have p':=jy.1 p
  refine jy.2 ⟨fun b hb=>?_,xH t.2 (fun z hz=>hm z (ah _ hz)) p'.2⟩
  have:∀ {us:List cq}{ws:List (List Str)},Tks h (us.map (·.1)) ws->b∈ws->∃ u∈us,Tk h u.1 b:=by
   intro us
   induction us with
   | nil=>intro ws t hb;cases ws with
    | nil=>cases hb
    | cons=>exact t.elim
   | cons u us ih=>intro ws t hb;cases ws with
    | nil=>cases hb
    | cons w ws =>
     rcases aY.1 hb with rfl | hb
     ·exact ⟨u,am ..,t.1⟩
     ·obtain ⟨u',h1,h2⟩:=ih t.2 hb
      exact ⟨u',ah _ h1,h2⟩
  obtain ⟨u,hu,tu⟩:=this t.2 hb
  have l:=p'.1 u hu
  unfold RY at l
  rw [qI t.1,qI tu] at l
  rw [<- uk (hm z (am ..)) (hm b (ah _ hb))]
  exact decide_eq_true l
 | [],_::_,t,_,_=>t.elim
 | _::_,[],t,_,_=>t.elim
theorem Uu  (u:Up rk a 0 a.size):a.toList.Pairwise (RY rk):=by
 rw [nl]
 intro i j hi hj hij
 have hi':i<a.size:=by simpa using hi
 have hj':j<a.size:=by simpa using hj
 have:=u i j (cA _) hij (by omega)
 rw [bE (bt hi'),bE (bt hj')] at this
 exact this
theorem Df {a:ai}{vs:List aa}{xs:List (List Str)}{n:Nat}{P:Fin->ae->Prop} (hu:A.units<gz) (ho:s.heap.get? a=some (iR "list" vs.toArray n))
  (t:Tks s.heap vs xs) (hx:xs.Nodup) (h64:vs.length<=64)
  (h:∀ (vs':List aa) (xs':List (List Str)),vs'.Perm vs->Tks s.heap vs' xs'->xs'.Perm xs->xs'.Pairwise (fun a b=>tl a b=true)->P (.done (.ret .none)) { s with heap:=sortedHeap s.heap a vs vs'.toArray }) :
  au (ay prog w) A (jr.«list.sort» ⟨[.ref a],[]⟩) P E s:=by
 rw [list_sort_plain]
 have ha:a<s.heap.objs.size:=aq ho
 have zl:vs.length<=sizeLine:=by rw [gK];omega
 refine a7 (listItems_at ho rfl ?_)
 refine a7 (HK ho rfl ?_ (by simpa using zl) (cA _))
 obtain ⟨e1,ho1⟩:∃ e1,(s.heap.update a (gE fun _=>#[])).get? a=some (iR "list" #[] e1):=⟨_,get?_update_seq ho (fun _=>#[])⟩
 refine a7 (NY ho1 rfl ?_)
 refine a7 (wpAny_newTuple ?_ (by simpa using zl))
 refine a7 (HF ?_ (cA _))
 refine de ?_
 have ho6:(((s.heap.update a (gE fun _=>#[])).push (iR "tuple" vs.toArray 0)).push (iR "list" #[] 0)).get? a=some (iR "list" #[] e1):=by
  rw [K4 _ _ _ (by rw [size_push',wz];exact aD (dU ha)),K4 _ _ _ (by rw [wz];exact aD ha)]
  exact ho1
 have t6:Tks (((s.heap.update a (gE fun _=>#[])).push (iR "tuple" vs.toArray 0)).push (iR "list" #[] 0)) vs xs :=
  t.keep (Tk.keepNe ho fun b o hb e=>ac _ (ac _ ((eY _ _ (cQ hb)).trans e)))
 show au (ay prog w) A _ P E { s with heap:=((s.heap.update a (gE fun _=>#[])).push (iR "tuple" vs.toArray 0)).push (iR "list" #[] 0) }
 dsimp only
 have hsz:vs.toArray.size=vs.length:=by simp
 by_cases h2:vs.toArray.size<2
 ·rw [if_pos h2,if_pos h2]
  refine a7 (a9 ?_)
  rw [StateT.run_pure]
  refine a7 (a9 ?_)
  dsimp only
  refine a7 (NY ho6 rfl ?_)
  refine a7 (HK ho6 rfl ?_ (hsz2:=by rw [jN,Array.size_zip,aQ,Ey];exact v_ zl))
  simp only [bne_self_eq_false,bv,if_false]
  have e:(vs.toArray.zip vs.toArray).map (·.2)=vs.toArray:=by
   apply vZ.1;rw [Array.toList_map,K5,Nr (ar _)]
  refine a9 ?_
  have:=h vs xs (.refl _) t (.refl _) (by
   have:=t.len
   match xs,this with
   | [],_=>exact .nil
   | [_],_=>exact C2 ..
   | _::_::_,e=>simp at e;omega)
  rw [<- e] at this
  exact this
 ·rw [if_neg h2,if_neg h2]
  refine a7 (P4 (by omega) t6 fun kd hk=>?_)
  refine a7 (bH (S0 (kd:=kd) (L:=vs.zip vs) (st:=SortSt.mk' kd (vs.toArray.zip vs.toArray) #[] 7 none)
   (Q:=fun _ st'=>(aJ st').toList.Perm (vs.zip vs)/\uS st'=none/\Up (IQ _ xs) (aJ st') 0 (vs.zip vs).length)
   (Ut hu hk t6) (De t6 (fun _ h=>h) hx) ⟨rfl,by rw [K5],rfl⟩ rfl (by rw [pK];omega) (by rw [pK];omega) fun st' b u=>⟨b.perm,b.ok,u⟩) ?_ fun _ _ e=>e)
  rintro ⟨⟨⟩,st'⟩ s' ⟨rfl,hp,hf,hs⟩
  dsimp only
  have hpl:(aJ st').size=vs.length:=by
   have:=hp.length_eq;rw [ao,pK,Ey] at this;exact this
  refine a7 (NY ho6 rfl ?_)
  refine a7 (HK ho6 rfl ?_ (hsz2:=by rw [jN];show (aJ st').size<=_;rw [hpl,gK];omega))
  rw [hf]
  simp only [bne_self_eq_false,bv,if_false]
  refine a9 ?_
  obtain ⟨z1,z2⟩:=P5 hp
  obtain ⟨ys,t7,p7⟩:=t6.perm z1
  obtain ⟨ys',t8,p8⟩:=t.perm z1
  rw [<- z2] at t7
  have len2:(vs.zip vs).length=(aJ st').size:=by rw [pK,hpl,Ey]
  rw [len2] at hs
  have so:=xH (ys:=xs) t7 (fun z hz=>p7.mem_iff.1 hz) (Uu hs)
  have:ys'=ys:=by
   rw [z2] at t7
   exact Tks.inj (t8.keep (Tk.keepNe ho fun b o hb e=>ac _ (ac _ ((eY _ _ (cQ hb)).trans e)))) t7
  subst this
  have:=h _ ys' z1 t8 p8 so
  have e:(aJ st').map (·.2)=((aJ st').toList.map (·.2)).toArray:=by apply vZ.1;simp
  rw [<- e] at this
  exact this
theorem sorted_T  (hu:A.units + 2<gz) (hc:au (ay prog w) A.in1 (yD x) (fun vs s1=>∃ xs,Tks s1.heap vs xs/\xs.Nodup/\vs.length<=64 /\
   ∀ (h':bB) (vs':List aa) (xs':List (List Str)) (e:Nat),(∀ b o,s1.heap.get? b=some o->h'.get? b=some o)->h'.get? s1.heap.objs.size=some (iR "list" vs'.toArray e)->vs'.Perm vs->Tks s1.heap vs' xs'->xs'.Perm xs->xs'.Pairwise (fun a b=>tl a b=true) ->
    Q (.ref s1.heap.objs.size) { s1 with heap:=h' }) E s):au (ay prog w) A (call (.builtin "sorted") [x]) Q E s:=by
 refine mT kind_sorted plain_sorted entry_sorted (args_sorted1 _) ?_
 unfold jr.«sorted»
 refine a7 (m:=checkCount "sorted" 1 1 _) (a9 ?_)
 refine a7 (bH hc (fun vs s1 z=>?_) fun _ _ z=>z)
 obtain ⟨xs,t,hx,h64,hq⟩:=z
 refine a7 (HF ?_ (by rw [gK];omega))
 have at1:(s1.heap.push (iR "list" vs.toArray 0)).get? s1.heap.objs.size=some (iR "list" vs.toArray 0):=av _ rfl
 show au _ _ _ _ _ { s1 with heap:=s1.heap.push (iR "list" vs.toArray 0) }
 have up:∀ v x,Tk s1.heap v x->Tk (s1.heap.push (iR "list" vs.toArray 0)) v x:=fun v x ⟨b,o,us,m,e0,e1,e2⟩=>⟨b,o,us,m,e0,ac _ e1,e2⟩
 refine a7 (de (bF slot_list_sort ⟨_,at1,rfl⟩ entry_list_sort (Df (by show A.units + 1 + 1<gz;omega) at1 (t.keep up) hx h64 fun vs' xs' a1 a2 a3 a4=>⟨_,rfl,?_⟩) (args_list_sort _)))
 obtain ⟨e,at2⟩:=sortedHeap_at (out:=vs'.toArray) at1
 obtain ⟨ys,t9,p9⟩:=t.perm a1
 obtain rfl:ys=xs':=(t9.keep up).inj a2
 refine a9 ⟨_,rfl,hq _ _ ys e (fun b o q=>?_) at2 a1 t9 a3 a4⟩
 have hb:=aq q
 rw [sortedHeap_old (aD hb) (by rw [size_push'];exact dU hb)]
 exact ac _ q
end
end
end TS
namespace L2
open PySem PySem.Spec PyProof.Rows PySem.W
section
def IR (x:List Str):List (List Str)->List (List Str)
 | []=>[x]
 | y::l=>if TS.tl x y=true then x::y::l else y::IR x l
def kK:List (List Str)->List (List Str)
 | []=>[]
 | x::l=>IR x (kK l)
theorem vd (x:List Str):∀ l,(IR x l).Perm (x::l)
 | []=>.refl _
 | y::l=>by
  unfold IR
  split
  ·exact .refl _
  ·exact ((vd x l).cons y).trans (.swap x y l)
theorem k7:∀ l,(kK l).Perm l
 | []=>.refl _
 | x::l=>(vd x _).trans ((k7 l).cons x)
abbrev SB (l:List (List Str)):Prop:=l.Pairwise fun a b=>TS.tl a b=true
theorem GV:∀ {l:List (List Str)},SB l->x∉l->SB (IR x l)
 | [],_,_=>C2 ..
 | y::l,h,hx=>by
  have h':=jy.1 h
  unfold IR
  split
  ·rename_i e
   refine jy.2 ⟨fun z hz=>?_,h⟩
   rcases aY.1 hz with rfl | hz
   ·exact e
   ·exact TS.tl_trans x y z e (h'.1 z hz)
  ·rename_i e
   refine jy.2 ⟨fun z hz=>?_,GV h'.2 fun q=>hx (ah _ q)⟩
   rcases aY.1 ((vd x l).mem_iff.1 hz) with rfl | hz
   ·cases q:TS.tl y z with
    | true=>rfl
    | false=>exact absurd (aY.2 (.inl (TS.tl_total z y (by simpa using e) q))) hx
   ·exact h'.1 z hz
theorem ul:∀ {l:List (List Str)},l.Nodup->SB (kK l)
 | [],_=>.nil
 | x::l,h=>GV (ul (jv.1 h).2) fun q=>(jv.1 h).1 ((k7 l).mem_iff.1 q)
theorem Mo (hl:SB l) (hm:SB m) (p:l.Perm m):l=m :=
 List.Perm.eq_of_pairwise (le:=fun a b=>TS.tl a b=true) (fun a b _ _ h1 h2=>by
  have:=TS.tl_trans a b a h1 h2
  rw [TS.tl_irrefl] at this;cases this) hl hm p
theorem Mp (n:l.Nodup) (p:l'.Perm l) (h:SB l'):l'=kK l:=Mo h (ul n) (p.trans (k7 l).symm)
theorem Dg (n:l.Nodup) (p:l'.Perm l):kK l'=kK l:=Mo (ul (p.nodup_iff.2 n)) (ul n) ((k7 _).trans (p.trans (k7 _).symm))
def A1 (H:Hp):List ai->List (List Str)->Prop
 | [],[]=>True
 | a::as,x::xs=>H a=some (.tup (x.map V.str))/\A1 H as xs
 | _,_=>False
section
theorem QC {pins σ H s} (I:bQ X pins σ H s)  (h:H a=some (.tup (x.map V.str))):TS.Tk s.heap (.ref a) x:=by
 obtain ⟨its,r,⟨o,h1,h2,n,h3⟩,_⟩:=I.tuple (.inl (.of h))
 refine ⟨a,o,its.toArray,n,rfl,h1,h2,h3,?_⟩
 have:∀ {vs:List aa}{x:List Str},pv vs x->TS.Ss vs x:=by
  intro vs x q
  induction q with
  | nil=>trivial
  | cons x t _ ih=>exact ⟨⟨t,rfl⟩,ih⟩
 exact this (jB r)
theorem Fa {pins σ H s} (I:bQ X pins σ H s):∀ {as:List ai}{xs:List (List Str)},A1 H as xs->TS.Tks s.heap (as.map bj) xs
 | [],[],_=>trivial
 | _::_,_::_,t=>⟨QC I t.1,Fa I t.2⟩
 | [],_::_,t=>t.elim
 | _::_,[],t=>t.elim
theorem A1.mem  : ∀ {as:List ai}{xs:List (List Str)},A1 H as xs->a∈as->∃ x:List Str,H a=some (.tup (x.map V.str))
 | b::as,x::xs,t,h=>by
  rcases aY.1 h with rfl | h
  ·exact ⟨x,t.1⟩
  ·exact A1.mem t.2 h
 | [],_,_,h=>by cases h
 | _::_,[],t,_=>t.elim
theorem QD {pins σ H s} (I:bQ X pins σ H s)  (t:A1 H as xs):∀ {bs:List ai}{ys:List (List Str)},(∀ b∈bs,b∈as)->TS.Tks s.heap (bs.map bj) ys->A1 H bs ys
 | [],[],_,_=>trivial
 | b::bs,y::ys,h,q=>by
  obtain ⟨x,e⟩:=t.mem (h b (am ..))
  rw [(QC I e).inj q.1] at e
  exact ⟨e,QD I t (fun b hb=>h b (ah _ hb)) q.2⟩
 | [],_::_,_,q=>q.elim
 | _::_,[],_,q=>q.elim
theorem GW:∀ {as:List ai}{us:List aa},du (as.map V.ref) us->us=as.map bj
 | [],_,.nil=>rfl
 | _::_,_,.cons r t=>by cases r;rw [GW t];rfl
theorem ve:∀ as:List ai,du (as.map V.ref) (as.map bj)
 | []=>.nil
 | a::as=>.cons rfl (ve as)
theorem IS  (p:us.Perm (as.map bj)):∃ bs:List ai,us=bs.map bj/\bs.Perm as:=by
 refine ⟨us.map fun v=>match v with | .ref a=>a | _=>0,?_,?_⟩
 ·rw [cn]
  refine (List.map_id us).symm.trans (gL fun v hv=>?_)
  obtain ⟨a,_,rfl⟩:=jQ.1 (p.mem_iff.1 hv)
  rfl
 ·have:=p.map fun v=>match v with | .ref a=>a | _=>(0:ai)
  rw [cn] at this
  refine this.trans (FX ?_)
  exact (gL fun a _=>rfl).trans (List.map_id as)
theorem xI {pins σ H s} (hu:X.A.units + 2<gz) (I:bQ X pins σ H s)    (t:A1 H as xs) (hn:xs.Nodup) (hz:as.length<=64)
  (hc:∀ (P:List aa->ae->Prop),(∀ (h':bB) (tk:Nat),(∀ b o,s.heap.get? b=some o->h'.get? b=some o)->s.heap.objs.size<=h'.objs.size->P (as.map bj) { s with heap:=h',toks:=tk })->au (ay X.prog X.w) X.A.in1 (yD v) P X.xe s)
  (q:∀ l bs,H l=none->bs.Perm as->A1 H bs (kK xs)->Q (.ref l) (upd H l (.lst (bs.map V.ref)))) :
  au (ay X.prog X.w) X.A (call (.builtin "sorted") [v]) (EP X pins σ Q) X.xe s:=by
 refine TS.sorted_T hu (hc _ fun h' tk kp sz=>⟨xs,(Fa I t).keep ?_,hn,by rw [ak];exact hz,fun h2 vs' ys e kp2 at2 p2 t2 p3 u=>?_⟩)
 ·exact fun v x ⟨b,o,us,m,e0,e1,e2⟩=>⟨b,o,us,m,e0,kp b o e1,e2⟩
 ·obtain ⟨bs,rfl,pb⟩:=IS p2
  obtain rfl:=Mp hn p3 u
  obtain ⟨ys,t9,_⟩:=(Fa I t).perm p2
  have:=(t9.keep fun v x ⟨b,o,us,m,e0,e1,e2⟩=>(⟨b,o,us,m,e0,kp b o e1,e2⟩:TS.Tk h' v x)).inj t2
  subst this
  have kk:∀ b o,s.heap.get? b=some o->h2.get? b=some o:=fun b o e=>kp2 b o (kp b o e)
  have ok2:c_ X.prog X.w (upd H h'.objs.size (.lst (bs.map V.ref))) h2 h'.objs.size (.lst (bs.map V.ref)) :=
   ⟨by rw [ak,pb.length_eq];exact bV hz (by rw [gK];decide),bs.map bj,e,ve bs,at2⟩
  exact ⟨.ref h'.objs.size,_,I.laid (t':=tk) kk sz ok2,rfl,q _ bs (I.hok.fresh sz) pb (QD I t (fun b hb=>pb.mem_iff.1 hb) t9)⟩
end
end
section
theorem GX      (hs:(d == eJ)=false) (hx:o.ExactDict) (ho:o.data=.dict es ep) :
  KdlSrc prog w "dict" d d es.size (fun i v=>∃ e,es[i]?=some e/\v=e.key) (fun h=>h.get? d=some o) where
 type:=fun s e=>⟨o,e,hx.1⟩
 there:=fun h e=>⟨aq e,aq e⟩
 keep:=fun h h' e k=>k d (.inl rfl) o e
 notList:=by decide
 notTuple:=by decide
 hint:=fun A E s Q e q=>kdl_hint_dict ⟨o,e,hx.1⟩ q
 iter:=fun A s hh e=>by
  refine ⟨{ cls:=.type "dict_keyiterator",data:=.fields #[.ref d,.int 0 0,.int es.size 0,.int ep 0] },fun i h=>h.IsKeyIter s.heap.objs.size d i es.size ep/\h.get? d=some o,fun E Q q=>M6 hs e hx ho q,?_,⟨_,av _ rfl,rfl,rfl⟩,ac _ e⟩
  have ne:d≠s.heap.objs.size:=aD (aq e)
  refine ⟨by simp,fun i h h' st k=>⟨st.1.at fun o q=>k _ (by simp) o q,k _ (by simp) o st.2⟩,fun i s' Q E hi st q=>?_,fun s' Q E st q=>?_,fun i s' Q E st q=>NW st.1 q⟩
  ·refine GH st.1 st.2 ho (bt hi) fun h' st' sb=>q _ h' s'.toks ⟨_,bt hi,rfl⟩ ⟨st',(sb.2 d ne).trans st.2⟩ fun b o hb e=>(sb.2 b (by simpa using hb)).trans e
  ·exact M5 hh st.1 st.2 ho (ar _) fun h' eb=>q h' s'.toks fun b o hb e=>eb b o (by simpa using hb) e
section
variable {prog:aH}{w:aZ}{A:aU}{E:aa->ae->Prop}{s:ae}{d:ai}{o:Obj}{es:Array lM}{ep:Nat}
theorem Bh (hh:A.handled=none) (hs:(d == eJ)=false) (hx:o.ExactDict) (ho:o.data=.dict es ep) (hd:s.heap.get? d=some o) (hz:es.size<=sizeLine)
  (h:∀ (vs:List aa) (h':bB) (tk:Nat),vs=es.toList.map (·.key)->(∀ b o,s.heap.get? b=some o->h'.get? b=some o)->s.heap.objs.size<=h'.objs.size->Q vs { s with heap:=h',toks:=tk }) :
  au (ay prog w) A (yD (.ref d)) Q E s:=by
 have hlt:=aq hd
 unfold yD
 refine a7 (El (gJ Jx ?_))
 rw [eE Jy _]
 show au _ A.in1 (newList [] >>= fun l=>NA (.builtin "list.__iadd__" ⟨[l,.ref d],[]⟩)) _ _ s
 refine a7 (bM ?_)
 refine a9 ⟨pJ oU _,gJ F.entry_list_iadd ?_⟩
 rw [eE oU _]
 have at1:(s.heap.push { cls:=.type "list",data:=.seq ([] : List aa).toArray }).get? s.heap.objs.size=some { cls:=.type "list",data:=.seq ([] : List aa).toArray }:=av _ rfl
 show au _ A.in1 (ke (.ref s.heap.objs.size) (.ref d) (.ref s.heap.objs.size)) _ _ { s with heap:=s.heap.push { cls:=.type "list",data:=.seq ([] : List aa).toArray } }
 refine kdl_extend (R:=fun r s'=>match r with | .ok (.ret v)=>au (ay prog w) A (match v with | .ref a=>(do let o <- load a;match o.data with | .seq xs _=>pure xs.toList | _=>uN "internal:collect") | _=>uN "internal:collect") Q E s' | .ok _=>False | .error e=>E e s') (s:={ s with heap:=s.heap.push { cls:=.type "list",data:=.seq ([] : List aa).toArray } }) (GX hs hx ho) (by simpa using hh) (ac _ hd) s.heap.objs.size (eF hlt) (eF hlt) _ 0 at1 (fun h' tk acc c kp at2 ia=>?_) hz
 show au _ A (load s.heap.objs.size >>= _) _ _ _
 refine a7 (wpAny_load at2 (a9 ?_))
 refine h _ h' tk ?_ (fun b o e=>kp b o (aD (aq e)) (ac _ e)) (bW (aq at2))
 apply vA
 intro j
 rw [aE,aN,aE]
 by_cases hj:j<acc.size
 ·obtain ⟨e,e1,e2⟩:=ia.2 j acc[j] (bt hj)
  rw [e1,bt hj,e2];rfl
 ·rw [cj (by omega),cj (by rw [<- ia.1];omega)];rfl
end
theorem xJ {P:aH}{w:aZ}{H:Hp}{es:Array lM}:∀ {kvs:List (List fD×V)}{xs:List (List Str)}{l:List lM},l.length=kvs.length->kvs.map (·.1)=xs.map (fun x=>x.map hV) ->
  (∀ (i:Nat) (k:List fD) (v:V),kvs[i]?=some (k,v)->∃ (en:lM) (b:ai),l[i]?=some en/\en.key=bj b/\H b=some (.tup (k.map kV)))->∃ as:List ai,l.map (·.key)=as.map bj/\A1 H as xs
 | [],[],[],_,_,_=>⟨[],rfl,trivial⟩
 | (k,v)::kvs,x::xs,en::l,hl,hk,h=>by
  obtain ⟨en',b,e1,e2,e3⟩:=h 0 k v rfl
  cases e1
  rw [aw,aw] at hk
  obtain ⟨e0,hk'⟩:=wW hk
  have e0:k=x.map hV:=e0
  subst e0
  obtain ⟨as,f1,f2⟩:=xJ (P:=P) (w:=w) (H:=H) (es:=es) (l:=l) (by simpa using hl) hk' fun i k v hi=>h (i + 1) k v hi
  refine ⟨b::as,by rw [aw,aw,e2,f1],?_,f2⟩
  rw [e3,cn];rfl
 | [],_::_,_,_,hk,_=>by cases hk
 | _::_,[],_,_,hk,_=>by cases hk
 | [],[],_::_,hl,_,_=>by cases hl
 | _::_,_::_,[],hl,_,_=>by cases hl
section
variable {X:Cx}
theorem xK (hu:X.A.units + 2<gz):ji X (.builtin "sorted") (fun xs H Q=>∃ p as ts,xs=[.ref p]/\oW X.K H p (as.map V.ref)/\A1 H as ts/\ts.Nodup/\as.length<=64/\∀ l bs,H l=none->bs.Perm as->A1 H bs (kK ts)->Q (.ref l) (upd H l (.lst (bs.map V.ref)))):=by
 intro pins s σ H xs us Q I r h
 obtain ⟨p,as,ts,rfl,hq,t,hn,hz,q⟩:=h
 obtain ⟨u,rfl,rx⟩:=kF r
 cases rx
 obtain ⟨its,r',pl,hl⟩:=I.list hq
 obtain rfl:=GW r'
 refine xI hu I t hn hz (fun P hp=>collect_list pl.isList ?_ (by rw [ak] at hl ⊢;exact hl)) q
 refine hp _ s.toks (fun b o e=>?_) ?_
 ·have hb:=aq e
  exact (eY _ _ (eF hb)).trans (ac _ e)
 ·rw [wz,bY];exact jL _
theorem xL (hc:X.calm=true) (hu:X.A.units + 2<gz):ji X (.builtin "sorted") (fun xs H Q=>∃ p o kvs ts,xs=[.ref p]/\H p=some (.frz o (.dT kvs))/\kvs.map (·.1)=ts.map (fun x=>x.map hV)/\ts.Nodup/\ts.length<=64/\∀ l bs,H l=none->A1 H bs (kK ts)->Q (.ref l) (upd H l (.lst (bs.map V.ref)))):=by
 intro pins s σ H xs us Q I r h
 obtain ⟨p,o,kvs,ts,rfl,hq,hk,hn,hz,q⟩:=h
 obtain ⟨u,rfl,rx⟩:=kF r
 cases rx
 obtain ⟨y,g1,g0,es,ep,g2,g3,g4⟩:=qc I.hok hq
 have lk:kvs.length=ts.length:=by simpa using congrArg iL hk
 obtain ⟨as,ea,ta⟩:=xJ (P:=X.prog) (w:=X.w) (es:=es) (H:=H) (l:=es.toList) (by rw [ao];exact g3) hk fun i k v hi=>by
  obtain ⟨en,b,e1,e2⟩:=g4 i k v hi
  exact ⟨en,b,by rw [aE];exact e1,e2⟩
 have la:as.length=ts.length:=by
  have:=congrArg iL ea
  rw [ak,ak,ao,g3,lk] at this
  exact this.symm
 refine xI hu I ta hn (by omega) (fun P hp=>Bh (by simpa using I.ok.hd hc) y g0 g2 g1 (by rw [g3,lk,gK];omega) fun vs h' tk ev kp sz=>?_) fun l bs h1 _ h3=>q l bs h1 h3
 subst ev
 rw [ea]
 exact hp h' tk kp sz
end
end
end L2
namespace J
open PySem L2
section
def o7:List D->Option (List (List Str))
 | []=>some []
 | .tuple ds::r=>(eK ds).bind fun x=>(o7 r).map (x::·)
 | _::_=>none
def um (x:List Str):D:=.tuple (x.map .str)
theorem sG:∀ xs:List (List Str),o7 (xs.map um)=some xs
 | []=>rfl
 | x::xs=>by
  show (eK (x.map aS)).bind (fun y=>(o7 (xs.map um)).map (y::·))=_
  rw [strsOf_map,sG xs];rfl
theorem mE:∀ {ds:List D}{xs:List (List Str)},o7 ds=some xs->ds=xs.map um
 | [],xs,h=>by cases h;rfl
 | d::ds,xs,h=>by
  cases d with
  | tuple ts =>
   have h:(eK ts).bind (fun y=>(o7 ds).map (y::·))=some xs:=h
   cases h1:eK ts with
   | none=>rw [h1] at h;cases h
   | some x =>
    cases h2:o7 ds with
    | none=>rw [h1,h2] at h;cases h
    | some ys =>
     rw [h1,h2] at h;cases h
     rw [aw,<- mE h2,mC h1];rfl
  | _=>cases h
def nJ (ts:List (List Str)):R D:=if ts.Nodup/\ts.length<=64 then .ok (.list ((kK ts).map um)) else .no
def qJ:D->R D
 | .list ds=>match o7 ds with
  | some ts=>nJ ts
  | none=>.no
 | .dict ((.none,.none)::ds)=>match o7 (ds.map (·.1)) with
  | some ts=>nJ ts
  | none=>.no
 | _=>.no
theorem Dh  : ∀ {vs:List V}{xs:List (List Str)},RDs K H vs (xs.map um)->∃ as:List ai,vs=as.map V.ref/\A1 H as xs
 | _,[],.nil=>⟨[],rfl,trivial⟩
 | _,x::xs,.cons h t=>by
  obtain ⟨as,e,ta⟩:=Dh t
  subst e
  unfold um at h
  cases h with
  | @tuple a ys _ q r =>
   rw [li r] at q
   exact ⟨a::as,rfl,q,ta⟩
theorem sH  : ∀ {bs:List ai}{ys:List (List Str)}{Hs:Hp},A1 H bs ys->dk Hs H->∃ Hs2,cD H Hs H Hs2/\RDs K Hs2 (bs.map V.ref) (ys.map um)
 | [],[],Hs,_,s=>⟨Hs,.refl s,.nil⟩
 | b::bs,y::ys,Hs,t,s=>by
  obtain ⟨Hs1,st,r⟩:=sH (K:=K) t.2 s
  have sub:=st.sub
  have same:dk Hs1 (upd Hs1 b (.tup (y.map V.str))):=fun c u e=>by
   by_cases hc:c=b
   ·subst hc
    have:=sub _ _ e
    rw [t.1] at this
    cases this
    exact b9
   ·rw [bf hc];exact e
  refine ⟨upd Hs1 b (.tup (y.map V.str)),st.trans ⟨.refl _,same,fun c u e=>?_,fun c u e n z=>?_⟩,.cons (.tuple b9 (ub y)) (r.same same)⟩
  ·by_cases hc:c=b
   ·subst hc;rw [b9] at e;cases e;exact t.1
   ·rw [bf hc] at e;exact sub _ _ e
  ·by_cases hc:c=b
   ·subst hc;rw [t.1] at e;cases e;cases n
   ·rw [bf hc];exact z
 | [],_::_,_,t,_=>t.elim
 | _::_,[],_,t,_=>t.elim
theorem GY (s:dk Hs H):∀ {as:List ai}{xs:List (List Str)},A1 Hs as xs->A1 H as xs
 | [],[],_=>trivial
 | _::_,_::_,t=>⟨s _ _ t.1,GY s t.2⟩
 | [],_::_,t=>t.elim
 | _::_,[],t=>t.elim
theorem GZ:∀ {as:List ai}{xs:List (List Str)},A1 H as xs->as.length=xs.length
 | [],[],_=>rfl
 | _::_,_::_,t=>congrArg (· + 1) (GZ t.2)
 | [],_::_,t=>t.elim
 | _::_,[],t=>t.elim
theorem Di:∀ {k:List fD}{x:List Str},k.map kD=x.map aS->k=x.map hV
 | [],[],_=>rfl
 | .inr a::k,x::xs,h=>by
  simp only [aw,uT] at h
  obtain ⟨h1,h2⟩:=h
  cases h1
  rw [Di h2];rfl
 | .inl _::_,_::_,h=>by
  simp only [aw,uT] at h
  cases h.1
 | [],_::_,h=>by cases h
 | _::_,[],h=>by cases h
theorem xM  : ∀ {kvs:List (List fD×V)}{ds:List (D×D)}{xs:List (List Str)},RDt K H kvs ds->ds.map (·.1)=xs.map um->kvs.map (·.1)=xs.map fun x=>x.map hV
 | _,_,[],.nil,_=>rfl
 | _,_,x::xs,.cons h t,e=>by
  rw [aw,aw] at e
  obtain ⟨e1,e2⟩:=wW e
  rw [aw,aw,xM t e2]
  have e1:tD _=um x:=e1
  unfold tD um at e1
  injection e1 with e1
  rw [Di e1]
 | _,_,_::_,.nil,e=>by cases e
 | _,_,[],.cons _ _,e=>by cases e
theorem Fb (hc:X.calm=true) (hu:X.A.units + 64<gz):Iy X (.builtin "sorted") (iZ qJ):=by
 have hu:X.A.units + 2<gz:=by omega
 refine pZ (fun d c n=>?_) fun pins s σ H x u Q Hs d d' I ru sub rx hd q=>?_
 ·unfold qJ nJ
  split<;>(try split)<;>(try split)<;>exact fun h=>by cases h
 ·have fin:∀ {ts:List (List Str)}{l:ai}{bs:List ai},H l=none->A1 H bs (kK ts)->Q (.ref l) (upd H l (.lst (bs.map V.ref)))\/d'≠.list ((kK ts).map um):=fun {ts l bs} hl tb=>by
   by_cases e:d'=.list ((kK ts).map um)
   ·subst e
    obtain ⟨Hs2,st,r⟩:=sH (K:=X.K) tb sub
    have s2:cD H Hs2 (upd H l (.lst (bs.map V.ref))) (upd Hs2 l (.lst (bs.map V.ref))):=.new st.sub hl
    exact .inl (q _ _ _ (st.trans s2) (.list (.inl (.of b9)) (r.same s2.sh)))
   ·exact .inr e
  unfold qJ at hd
  split at hd
  ·split at hd
   ·rename_i ts ht
    unfold nJ at hd
    split at hd
    ·rename_i hz
     cases hd
     obtain ⟨a,vs,rfl,qa,ra⟩:=rx.list sub
     rw [mE ht] at ra
     obtain ⟨as,rfl,ta⟩:=Dh ra
     exact xK hu pins s σ H _ _ Q I (.cons ru .nil) ⟨a,as,ts,rfl,qa,GY sub ta,hz.1,by rw [GZ ta];exact hz.2,fun l bs hl _ tb=>(fin hl tb).resolve_right fun h=>h rfl⟩
    ·cases hd
   ·cases hd
  ·split at hd
   ·rename_i ts ht
    unfold nJ at hd
    split at hd
    ·rename_i hz
     cases hd
     obtain ⟨a,ea,hh⟩:=rx.dict sub
     subst ea
     rcases hh with ⟨kvs,h1,h2⟩ | ⟨kvs,h1,hn,h2⟩ | ⟨o,kvs,es,he,h1,hn,h2⟩
     ·generalize hd:((.none,.none)::_:List (D×D))=d0 at h2
      cases h2 with
      | nil=>cases hd
      | @cons k _ _ _ _ _ _=>cases k<;>cases hd
     ·generalize hd:((.none,.none)::_:List (D×D))=d0 at h2
      cases h2<;>cases hd
     ·cases he
      exact xL hc hu pins s σ H _ _ Q I (.cons ru .nil) ⟨a,o,kvs,ts,rfl,h1,xM h2 (mE ht),hz.1,hz.2,fun l bs hl tb=>(fin hl tb).resolve_right fun h=>h rfl⟩
    ·cases hd
   ·cases hd
  ·cases hd
end
end J
section
namespace L2
open PySem PySem.Spec PyProof.Rows PySem.W
theorem Bj (hc:X.calm=true):ji X (.type "list") (fun xs H Q=>∃ p o kvs ts,xs=[.ref p]/\H p=some (.frz o (.dT kvs))/\kvs.map (·.1)=ts.map (fun x=>x.map hV)/\ts.length<=64/\∀ l bs,H l=none->A1 H bs ts->Q (.ref l) (upd H l (.lst (bs.map V.ref)))):=by
 intro pins s σ H xs us Q I r h
 obtain ⟨p,o,kvs,ts,rfl,hq,hk,hz,q⟩:=h
 obtain ⟨u,rfl,rx⟩:=kF r
 cases rx
 obtain ⟨y,g1,g0,es,ep,g2,g3,g4⟩:=qc I.hok hq
 have lk:kvs.length=ts.length:=by simpa using congrArg iL hk
 obtain ⟨as,ea,ta⟩:=xJ (P:=X.prog) (w:=X.w) (es:=es) (H:=H) (l:=es.toList) (by rw [ao];exact g3) hk fun i k v hi=>by
  obtain ⟨en,b,e1,e2⟩:=g4 i k v hi
  exact ⟨en,b,by rw [aE];exact e1,e2⟩
 refine kdl_call (GX y g0 g2) (I.ok.hd hc) g1 (by rw [g3,lk,gK];omega) fun h' tk acc c kp at2 ia=>?_
 have ev:acc.toList=as.map bj:=by
  rw [<- ea]
  apply vA
  intro j
  rw [aE,aN,aE]
  by_cases hj:j<acc.size
  ·obtain ⟨e,e1,e2⟩:=ia.2 j acc[j] (bt hj)
   rw [e1,bt hj,e2];rfl
  ·rw [cj (by omega),cj (by rw [<- ia.1];omega)];rfl
 have la:as.length=ts.length:=by
  have:=congrArg iL ea
  rw [ak,ak,ao,g3,lk] at this
  exact this.symm
 have ok2:c_ X.prog X.w (upd H s.heap.objs.size (.lst (as.map V.ref))) h' s.heap.objs.size (.lst (as.map V.ref)) :=
  ⟨by rw [ak,la,gK];omega,as.map bj,c,ve as,by rw [<- ev];exact at2⟩
 exact ⟨.ref s.heap.objs.size,_,I.laid (t':=tk) kp (ar _) ok2,rfl,q _ as (I.hok.fresh (ar _)) ta⟩
end L2
namespace J
open PySem L2
def A2:D->R D
 | .dict ((.none,.none)::ds)=>match o7 (ds.map (·.1)) with
  | some ts=>if ts.length<=64 then .ok (.list (ts.map um)) else .no
  | none=>.no
 | _=>.no
theorem Mq (hc:X.calm=true):Iy X (.type "list") (iZ A2):=by
 refine pZ (fun d c n=>?_) fun pins s σ H x u Q Hs d d' I ru sub rx hd q=>?_
 ·unfold A2
  split<;>(try split)<;>(try split)<;>exact fun h=>by cases h
 ·unfold A2 at hd
  split at hd
  ·split at hd
   ·rename_i ts ht
    split at hd
    ·rename_i hz
     cases hd
     obtain ⟨a,ea,hh⟩:=rx.dict sub
     subst ea
     rcases hh with ⟨kvs,h1,h2⟩ | ⟨kvs,h1,hn,h2⟩ | ⟨o,kvs,es,he,h1,hn,h2⟩
     ·generalize hd:((.none,.none)::_:List (D×D))=d0 at h2
      cases h2 with
      | nil=>cases hd
      | @cons k _ _ _ _ _ _=>cases k<;>cases hd
     ·generalize hd:((.none,.none)::_:List (D×D))=d0 at h2
      cases h2<;>cases hd
     ·cases he
      refine Bj hc pins s σ H _ _ Q I (.cons ru .nil) ⟨a,o,kvs,ts,rfl,h1,xM h2 (mE ht),hz,fun l bs hl tb=>?_⟩
      obtain ⟨Hs2,st,r⟩:=sH (K:=X.K) tb sub
      have s2:cD H Hs2 (upd H l (.lst (bs.map V.ref))) (upd Hs2 l (.lst (bs.map V.ref))):=.new st.sub hl
      exact q _ _ _ (st.trans s2) (.list (.inl (.of b9)) (r.same s2.sh))
    ·cases hd
   ·cases hd
  ·cases hd
end J
end
namespace Z
open PySem L2 J
section
def jG:az->R Fl:=(eM (CC (cx (ag (fV 1 [1] (ll (rB 0)) kT (g2 (rB 0) (rB 1) (BZ false))) aT) (iZ (gf fun bs=>bs.any id)))))
def fW:List D->R D:=gG 2 jG
def qK:az->R Fl:=(eM (cx (ag (fV 1 [1] (ll (rB 0)) (ik (g2 (rB 0) (rB 1) (BZ true))) (rS 0)) aT) (iZ gF)))
def qL:List D->R D:=gG 2 qK
def uo:az->R Fl:=(eM (cx (ag (kH (M3 (o6 (rB 0)) (o6 (rB 1)))) aT) (iZ gF)))
def uq:List D->R D:=gG 2 uo
def qM:az->R Fl:=(bp (h_ (K_ (nA (ik (yV (rB 0) "str"))) (nA (ik (pW (kI 1) (cx (ag (rB 0) aT) (iZ mo)) (kI 6) Q2 Q2)))) (eM (kB false)) (fun ρ=>.ok (.nx ρ))) (eM (cx (ag (fV 1 [] (ll (rB 0)) kT (pW (fun _=>.ok (.str "a")) (rB 0) (fun _=>.ok (.str "z")) Q2 Q2)) aT) (iZ (gf fun bs=>bs.all id)))))
def nK:List D->R D:=gG 1 qM
def gU:az->R Fl:=(bp (h_ (K_ (nA (ik (yV (rB 0) "tuple"))) (nA (ik (cx (ag (fV 1 [] (ll (rB 0)) kT (gZ 1 nK (ag (rS 0) aT))) aT) (iZ (gf fun bs=>bs.all id)))))) (eM (kB false)) (fun ρ=>.ok (.nx ρ))) (eM (cx (ag (fV 2 [] (OK (ag (rS 0) (ag (Q5 (rB 0) (OF (kI 1)) Sz) aT))) kT (g2 (rB 0) (rB 1) yT)) aT) (iZ (gf fun bs=>bs.all id)))))
def fm:List D->R D:=gG 1 gU
def mF:az->R Fl:=(eM (vH (gZ 1 fm (ag (rS 1) aT)) (cx (ag (fV 1 [0] (ll (rB 1)) kT (g2 (rB 0) (rB 1) (BZ false))) aT) (iZ (gf fun bs=>bs.all id)))))
def jk:List D->R D:=gG 2 mF
def o8:az->R Fl:=(bp (h_ (K_ (nA (ik (yV (rB 0) "int"))) (ik (yV (rB 0) "bool"))) (eM (kB false)) (fun ρ=>.ok (.nx ρ))) (eM (pW (rB 1) (rB 0) (rB 2) Q2 Q2)))
def o9:List D->R D:=gG 3 o8
def mG:az->R Fl:=(bp (h_ (K_ (nA (ik (yV (rB 1) "tuple"))) (ik (g2 (cx (ag (rB 1) aT) (iZ mo)) (kI 6) (rN true)))) (eM (kB false)) (fun ρ=>.ok (.nx ρ))) (bp (AZ (rS 1) (nC 6 (cX (cb 2) (cX (cb 3) (cX (cb 4) (cX (cb 5) (cX (cb 6) (cX (cb 7) ph)))))))) (bp (h_ (K_ (nA (ik (gZ 1 nK (ag (rS 2) aT)))) (nA (ik (gZ 3 o9 (ag (rS 7) (ag (kI 0) (ag (kI 9) aT))))))) (eM (kB false)) (fun ρ=>.ok (.nx ρ))) (bp (h_ (nA (ik (cx (ag (fV 1 [0] (ll (fg (ag (rS 3) (ag (rS 4) (ag (rS 5) (ag (rS 6) aT)))) .tuple)) kT (gZ 2 jk (ag (rS 1) (ag (rS 0) aT)))) aT) (iZ (gf fun bs=>bs.all id))))) (eM (kB false)) (fun ρ=>.ok (.nx ρ))) (eM (vH (gZ 2 fW (ag (rS 3) (ag (rS 4) aT))) (gZ 2 fW (ag (rS 5) (ag (rS 6) aT)))))))))
def mH:List D->R D:=gG 8 mG
def qN:az->R Fl:=(bp (h_ (K_ (nA (ik (yV (rB 0) "tuple"))) (ik (g2 (cx (ag (rB 0) aT) (iZ mo)) (kI 2) (rN true)))) (eM (kB false)) (fun ρ=>.ok (.nx ρ))) (bp (AZ (rS 0) (nC 2 (cX (cb 1) (cX (cb 2) ph)))) (bp (h_ (K_ (nA (ik (gZ 1 fm (ag (rS 1) aT)))) (ik (g2 (cx (ag (rB 1) aT) (iZ mo)) (kI 6) Sy))) (eM (kB false)) (fun ρ=>.ok (.nx ρ))) (bp (h_ (K_ (nA (ik (yV (rB 2) "tuple"))) (ik (g2 (cx (ag (rB 2) aT) (iZ mo)) (kI 6) Sy))) (eM (kB false)) (fun ρ=>.ok (.nx ρ))) (bp (h_ (nA (ik (cx (ag (fV 1 [1] (ll (rB 2)) kT (gZ 2 mH (ag (rS 1) (ag (rS 0) aT)))) aT) (iZ (gf fun bs=>bs.all id))))) (eM (kB false)) (fun ρ=>.ok (.nx ρ))) (eM (g2 (ug (vb 1 [] (ll (rB 2)) kT (g2 (rB 0) (kI 0) bz))) (cx (ag (rB 2) aT) (iZ mo)) (rN false))))))))
def qO:List D->R D:=gG 3 qN
def kn:az->R Fl:=(h_ (nA (ik (gZ 2 jk (ag (g2 (rB 0) (kI 0) bz) (ag (rS 1) aT))))) (xB "NoState" (ag (fun _=>.ok (.str "a state is a rising tuple of the book's facts, none twice")) aT)) (fun ρ=>.ok (.nx ρ)))
def ko:List D->R D:=gG 2 kn
def qP:az->R Fl:=(bp (AZ (rS 1) (nC 2 (cX (cb 2) (cX (cb 3) ph)))) (eM (vH (cx (ag (fV 1 [0] (ll (rB 2)) kT (g2 (rB 0) (rB 1) (BZ false))) aT) (iZ (gf fun bs=>bs.all id))) (gZ 2 fW (ag (rS 3) (ag (rS 0) aT))))))
def qQ:List D->R D:=gG 4 qP
def mI:az->R Fl:=(eM (gZ 2 qQ (ag (rS 1) (ag (fg (ag (g2 (rB 0) (kI 1) bz) (ag (g2 (rB 0) (kI 2) bz) aT)) .tuple) aT))))
def kL:List D->R D:=gG 2 mI
def jH:az->R Fl:=(bp (M4 2 3 (ag (g2 (rB 0) (kI 3) bz) (ag (g2 (rB 0) (kI 4) bz) aT))) (eM (gZ 2 uq (ag (gZ 2 qL (ag (rS 1) (ag (rS 3) aT))) (ag (rS 2) aT)))))
def jI:List D->R D:=gG 4 jH
def qR:az->R Fl:=(bp (h_ (nA (ik (gZ 1 qO (ag (rS 0) aT)))) (xB "NoBook" (ag (fun _=>.ok (.str "a book is a tuple of facts and errands, each as the document tells")) aT)) (fun ρ=>.ok (.nx ρ))) (eM (rS 0)))
def qS:List D->R D:=gG 1 qR
def kq:az->R Fl:=(bp (xn (gZ 1 qS (ag (rS 0) aT))) (xn (gZ 2 ko (ag (rS 0) (ag (rS 1) aT)))))
def i_:List D->R D:=gG 2 kq
def lm:az->R Fl:=(eM (fV 1 [1] (ll (g2 (rB 0) (kI 1) bz)) (ik (gZ 2 kL (ag (rS 0) (ag (rS 1) aT)))) (fg (ag (rS 0) (ag (gZ 2 jI (ag (rS 0) (ag (rS 1) aT))) aT)) .tuple)))
def jJ:List D->R D:=gG 2 lm
def lr:az->R Fl:=(bp (hG 2 (Qz (rS 1) (fg aT .list))) (bp (hG 3 (fg (ag (rS 1) aT) .list)) (bp (iS (Bf (rB 3)) (bp (hG 4 (fg aT .list)) (bp (uf 3 (cb 5) (pi (ll (gZ 2 jJ (ag (rS 0) (ag (rS 5) aT)))) (nC 2 (cX (cb 6) (cX (cb 7) ph))) (h_ (ik (g2 (rB 7) (rB 2) (OY true))) (bp (rQ 2 (rS 7) (g2 (g2 (rB 2) (rB 5) M9) (fg (ag (g2 (rB 6) (kI 0) bz) aT) .list) dL)) (sB 4 (rS 7))) (fun ρ=>.ok (.nx ρ))))) (Qa 4 (i7 3 (rS 4))))) 100000) (RV 2 (eM (rS 2))))))
def jK:List D->R D:=gG 8 lr
def qT:az->R Fl:=(bp (xn (gZ 2 i_ (ag (rS 0) (ag (rS 1) aT)))) (eM (cx (ag (gZ 2 jK (ag (rS 0) (ag (rS 1) aT))) aT) (iZ qJ))))
def nL:List D->R D:=gG 2 qT
def Bk:az->R Fl:=(bp (xn (gZ 2 i_ (ag (rS 0) (ag (rS 1) aT)))) (bp (i7 2 (cx (ag (gZ 2 jK (ag (rS 0) (ag (rS 1) aT))) aT) (iZ A2))) (eM (fV 1 [2] (ll (g2 (rB 0) (kI 1) bz)) (nA (ik (cx (ag (fV 1 [0] (ll (rB 1)) kT (gZ 2 kL (ag (rS 1) (ag (rS 0) aT)))) aT) (iZ (gf fun bs=>bs.any id))))) (g2 (rB 0) (kI 0) bz)))))
def Bl:List D->R D:=gG 3 Bk
def kr:az->R Fl:=(bp (h_ (ik (g2 (rB 1) (cx (ag (rB 0) aT) (iZ mo)) yT)) (eM (g2 (rB 0) (rB 1) bz)) (fun ρ=>.ok (.nx ρ))) (bp (h_ (ik (g2 (rB 0) (fg aT .list) (rN false))) (eM (kI 0)) (fun ρ=>.ok (.nx ρ))) (eM (g2 (g2 (g2 (rB 0) (g2 (rB 1) (cx (ag (rB 0) aT) (iZ mo)) Iw) bz) (kI 31) wj) (rB 1) dL))))
def ku:List D->R D:=gG 2 kr
def mJ:az->R Fl:=(bp (i7 3 (g2 (g2 (g2 (g2 (gZ 2 ku (ag (rS 0) (ag (rS 1) aT))) (g2 (kI 7919) (rB 1) wj) dL) (kI 1) dL) (kI 48271) wj) (kI 2147483647) Iw)) (eM (g2 (g2 (g2 (g2 (g2 (rB 3) (rB 3) wj) (g2 (kI 7) (rB 3) wj) dL) (rB 1) dL) (kI 2147483629) Iw) (rB 2) Iw)))
def bA:List D->R D:=gG 4 mJ
def og:az->R Fl:=(bp (i7 2 (fun _=>.ok (.str ""))) (bp (pi (zL (ag (g2 (fg (ag (kI 1) (ag (kI 2) (ag (kI 3) (ag (kI 6) (ag (kI 1) (ag (kI 4) aT)))))) .list) (gZ 3 bA (ag (rS 0) (ag (rS 1) (ag (kI 6) aT)))) bz) aT)) (cb 3) (i7 2 (g2 (rB 2) (g2 (fun _=>.ok (.str "abcdefghijklmnopqrstuvwxyz")) (gZ 3 bA (ag (rS 0) (ag (g2 (g2 (rB 1) (kI 1) dL) (rB 3) dL) (ag (kI 26) aT)))) bz) dL))) (eM (rS 2))))
def k8:List D->R D:=gG 4 og
def mK:az->R Fl:=(bp (hG 3 (fun _=>.ok (.dict []))) (bp (pi (zL (ag (gZ 3 bA (ag (rS 0) (ag (rS 1) (ag (g2 (rB 2) (kI 1) dL) aT)))) aT)) (cb 4) (B8 3 (gZ 2 k8 (ag (rS 0) (ag (g2 (g2 (rB 1) (kI 1) dL) (g2 (kI 8) (rB 4) wj) dL) aT))) (kB true))) (eM (cx (ag (cx (ag (cx (ag (rB 3) aT) (iZ kj)) aT) (iZ qF)) aT) (iZ gF)))))
def mL:List D->R D:=gG 5 mK
def oh:az->R Fl:=(eM (cx (ag (fV 2 [0,1,3] (F4 (ag (rS 2) aT)) (ik (g2 (gZ 3 bA (ag (rS 2) (ag (g2 (rB 3) (rB 0) dL) (ag (kI 12) aT)))) (rB 4) yT)) (rS 1)) aT) (iZ gF)))
def oj:List D->R D:=gG 4 oh
def om:az->R Fl:=(bp (i7 4 (g2 (rB 2) (gZ 3 bA (ag (rS 0) (ag (g2 (rB 1) (kI 10) dL) (ag (cx (ag (rB 2) aT) (iZ mo)) aT)))) bz)) (bp (i7 5 (g2 (rB 2) (gZ 3 bA (ag (rS 0) (ag (g2 (rB 1) (kI 11) dL) (ag (cx (ag (rB 2) aT) (iZ mo)) aT)))) bz)) (bp (i7 6 (g2 (rB 2) (gZ 3 bA (ag (rS 0) (ag (g2 (rB 1) (kI 12) dL) (ag (cx (ag (rB 2) aT) (iZ mo)) aT)))) bz)) (bp (i7 7 (Q5 (fg (ag (rS 4) (ag (rS 5) aT)) .list) Sz (OF (g2 (kI 1) (g2 (gZ 3 bA (ag (rS 0) (ag (g2 (rB 1) (kI 13) dL) (ag (kI 3) aT)))) (kI 2) L5) dL)))) (bp (hG 8 (fV 1 [7,0,1] (ll (fg (ag (rS 6) aT) .list)) (AU (ik (g2 (rB 0) (rB 1) (BZ true))) (ik (g2 (gZ 3 bA (ag (rS 2) (ag (g2 (rB 3) (kI 14) dL) (ag (kI 4) aT)))) (kI 0) (rN false)))) (rS 0))) (bp (hG 9 (fV 1 [6,0,1] (ll (fg (ag (rS 4) aT) .list)) (AU (ik (g2 (rB 0) (rB 1) (rN true))) (ik (g2 (gZ 3 bA (ag (rS 2) (ag (g2 (rB 3) (kI 15) dL) (ag (kI 3) aT)))) (kI 0) (rN false)))) (rS 0))) (bp (Qa 8 (Qa 9 (hG 10 (fV 1 [] (ll (fg (ag (rS 7) (ag (rS 8) (ag (fg (ag (rS 6) aT) .list) (ag (rS 9) aT)))) .tuple)) kT (cx (ag (kH (o6 (rB 0))) aT) (iZ gF)))))) (eM (fg (ag (rS 3) (ag (g2 (rB 10) (kI 0) bz) (ag (g2 (rB 10) (kI 1) bz) (ag (g2 (rB 10) (kI 2) bz) (ag (g2 (rB 10) (kI 3) bz) (ag (gZ 3 bA (ag (rS 0) (ag (rS 1) (ag (kI 5) aT)))) aT)))))) .tuple)))))))))
def oo:List D->R D:=gG 11 om
def iG:az->R Fl:=(bp (h_ (AU (ik (g2 (rB 2) (fg aT .tuple) (rN true))) (ik (g2 (gZ 3 bA (ag (rS 0) (ag (kI 97) (ag (kI 2) aT)))) (kI 0) (rN false)))) (eM (gZ 4 oo (ag (rS 0) (ag (rS 1) (ag (rS 2) (ag (rS 3) aT)))))) (fun ρ=>.ok (.nx ρ))) (bp (OP 4) (bp (pi (F4 (ag (rS 2) aT)) (nC 2 (cX (cb 5) (cX (cb 6) ph))) (bp (i7 7 (gZ 3 bA (ag (rS 0) (ag (g2 (g2 (rB 1) (kI 10) dL) (rB 5) dL) (ag (kI 8) aT))))) (bp (h_ (ik (g2 (rB 7) (kI 3) yT)) (nF 4 (g2 (fg (ag (kI 0) (ag (kI 0) (ag (kI 1) aT))) .list) (rB 7) bz) (rS 6)) (fun ρ=>.ok (.nx ρ))) (bp (i7 7 (gZ 3 bA (ag (rS 0) (ag (g2 (g2 (rB 1) (kI 20) dL) (rB 5) dL) (ag (kI 8) aT))))) (h_ (ik (g2 (rB 7) (kI 4) yT)) (nF 4 (g2 (fg (ag (kI 2) (ag (kI 2) (ag (kI 3) (ag (kI 3) aT)))) .list) (rB 7) bz) (rS 6)) (fun ρ=>.ok (.nx ρ))))))) (bp (fun ρ=>(hG 8 (fV 1 [] (ll (rB 4)) kT (cx (ag (rB 0) aT) (iZ gF)))) (fh ρ)) (eM (fg (ag (rS 3) (ag (g2 (rB 8) (kI 0) bz) (ag (g2 (rB 8) (kI 1) bz) (ag (g2 (rB 8) (kI 2) bz) (ag (g2 (rB 8) (kI 3) bz) (ag (gZ 3 bA (ag (rS 0) (ag (rS 1) (ag (kI 5) aT)))) aT)))))) .tuple))))))
def iH:List D->R D:=gG 9 iG
def lV:az->R Fl:=(bp (i7 4 (gZ 3 mL (ag (rS 0) (ag (rS 1) (ag (rS 2) aT))))) (bp (hG 5 (fun _=>.ok (.dict []))) (bp (pi (zL (ag (gZ 3 bA (ag (rS 0) (ag (g2 (rB 1) (kI 60) dL) (ag (g2 (rB 3) (kI 1) dL) aT)))) aT)) (cb 6) (bp (i7 7 (gZ 2 k8 (ag (rS 0) (ag (g2 (g2 (rB 1) (kI 70) dL) (g2 (kI 40) (rB 6) wj) dL) aT)))) (B8 5 (rS 7) (gZ 4 iH (ag (rS 0) (ag (g2 (g2 (rB 1) (kI 80) dL) (g2 (kI 40) (rB 6) wj) dL) (ag (rS 4) (ag (rS 7) aT)))))))) (bp (i7 8 (cx (ag (rB 5) aT) (iZ kj))) (bp (i7 9 (gZ 3 bA (ag (rS 0) (ag (g2 (rB 1) (kI 61) dL) (ag (g2 (cx (ag (rB 8) aT) (iZ mo)) (kI 1) dL) aT))))) (eM (fg (ag (rS 4) (ag (cx (ag (fV 1 [5] (ll (g2 (Q5 (rB 8) (OF (rS 9)) Sz) (Q5 (rB 8) Sz (OF (rS 9))) dL)) kT (g2 (rB 1) (rB 0) bz)) aT) (iZ gF)) aT)) .tuple)))))))
def lW:List D->R D:=gG 10 lV
def lX:az->R Fl:=(bp (hG 3 (fg aT .list)) (bp (hG 4 (fg aT .list)) (bp (pi (F4 (ag (rS 2) aT)) (nC 2 (cX (cb 5) (cX (cb 6) ph))) (bp (i7 7 (gZ 3 bA (ag (rS 0) (ag (g2 (rB 1) (rB 5) dL) (ag (kI 8) aT))))) (h_ (ik (g2 (rB 7) (kI 2) yT)) (sB 3 (rS 6)) (h_ (ik (g2 (rB 7) (kI 2) (rN false))) (sB 4 (rS 6)) (fun ρ=>.ok (.nx ρ)))))) (eM (fg (ag (cx (ag (rB 3) aT) (iZ gF)) (ag (cx (ag (rB 4) aT) (iZ gF)) aT)) .tuple)))))
def sI:List D->R D:=gG 8 lX
def oq:az->R Fl:=(bp (i7 3 (gZ 4 lW (ag (rS 0) (ag (kI 100) (ag (rS 1) (ag (rS 2) aT)))))) (bp (i7 4 (gZ 4 oj (ag (rS 0) (ag (kI 20) (ag (g2 (rB 3) (kI 0) bz) (ag (g2 (fg (ag (kI 2) (ag (kI 4) aT)) .list) (gZ 3 bA (ag (rS 0) (ag (kI 97) (ag (kI 2) aT)))) bz) aT)))))) (eM (fg (ag (rS 3) (ag (rS 4) (ag (gZ 3 sI (ag (rS 0) (ag (kI 30) (ag (g2 (rB 3) (kI 0) bz) aT)))) aT))) .tuple))))
def ou:List D->R D:=gG 5 oq
def oy:az->R Fl:=(eM (vH (cx (ag (fV 1 [0] (ll (g2 (rB 1) (kI 0) bz)) kT (g2 (rB 0) (rB 1) (BZ false))) aT) (iZ (gf fun bs=>bs.all id))) (CC (cx (ag (fV 1 [0] (ll (g2 (rB 1) (kI 1) bz)) kT (g2 (rB 0) (rB 1) (BZ false))) aT) (iZ (gf fun bs=>bs.any id))))))
def oz:List D->R D:=gG 2 oy
def oA:az->R Fl:=(bp (h_ (nA (ik (gZ 2 oz (ag (rS 1) (ag (Q5 (rB 0) (OF (kI 1)) (OF (kI 3))) aT))))) (eM kN) (fun ρ=>.ok (.nx ρ))) (bp (hG 2 (fV 1 [0] (ll (rB 1)) (ik (g2 (rB 0) (g2 (rB 1) (kI 4) bz) (BZ true))) (rS 0))) (eM (cx (ag (kH (o6 (g2 (rB 2) (cx (ag (g2 (rB 0) (kI 3) bz) aT) (iZ kj)) dL))) aT) (iZ gF)))))
def iy:List D->R D:=gG 3 oA
def lu:az->R Fl:=(bp (hG 2 (Qz (rS 1) (kI 0))) (bp (hG 3 (fg (ag (rS 1) aT) .list)) (bp (i7 4 (kI 0)) (bp (iS (ik (g2 (rB 4) (cx (ag (rB 3) aT) (iZ mo)) yT)) (bp (pi (ll (g2 (rB 0) (kI 1) bz)) (cb 5) (bp (i7 6 (gZ 2 iy (ag (rS 5) (ag (g2 (rB 3) (rB 4) bz) aT)))) (h_ (AU (ik (g2 (rB 6) kN (Gb true))) (ik (g2 (rB 6) (rB 2) (OY true)))) (bp (rQ 2 (rS 6) (g2 (g2 (rB 2) (g2 (rB 3) (rB 4) bz) M9) (kI 1) dL)) (sB 3 (rS 6))) (fun ρ=>.ok (.nx ρ))))) (i7 4 (g2 (rB 4) (kI 1) dL))) 100000) (RV 2 (eM (rS 2)))))))
def lv:List D->R D:=gG 7 lu
def G_:az->R Fl:=(bp (AZ (gZ 3 ou (ag (rS 0) (ag (kI 6) (ag (kI 6) aT)))) (nC 3 (cX (cb 1) (cX (cb 2) (cX (cb 3) ph))))) (bp (i7 4 (gZ 2 lv (ag (rS 1) (ag (rS 2) aT)))) (bp (hG 5 (fg aT .list)) (bp (pi (ll (g2 (rB 1) (kI 1) bz)) (cb 6) (h_ (ik (cx (ag (fV 1 [6] (Mb (rB 4)) kT (g2 (gZ 2 iy (ag (rS 1) (ag (rS 0) aT))) kN (Gb false))) aT) (iZ (gf fun bs=>bs.all id)))) (sB 5 (g2 (rB 6) (kI 0) bz)) (fun ρ=>.ok (.nx ρ)))) (bp (i7 7 (fg (ag (g2 (rB 1) (kI 0) bz) (ag (cx (ag (fV 1 [5] (ll (g2 (rB 1) (kI 1) bz)) (ik (g2 (g2 (rB 0) (kI 0) bz) (rB 1) (BZ true))) (rS 0)) aT) (iZ gF)) aT)) .tuple)) (eM (vH (g2 (gZ 2 Bl (ag (rS 1) (ag (rS 2) aT))) (rB 5) (rN false)) (g2 (gZ 2 nL (ag (rS 7) (ag (rS 2) aT))) (gZ 2 nL (ag (rS 1) (ag (rS 2) aT))) (rN false)))))))))
def F_law:List D->R D:=gG 8 G_
end
end Z
section
set_option hygiene false
namespace Z
open PySem L2 J
local macro_rules | `(tactic| walk_at "zz") => `(tactic| simp only [Ug, RW, Uh, Ui, Uj, CV, q9, CW, TW, Ll, Lm, Qb, TX, Go, CY, Gp, CZ, C_, D0, Ln, Lo, Lp, Gq, Lq, Gr, TZ, Qd, Qe, Lr, Qf, Ls, Qg, U1, Lu, Qh, Lv, Gs, Lw, Gu, Gv, Lx, Ly, Lz, LC, D1, D2, Qk, LD, Gw, LF, U5, Qm, Qn, LG, Qo, LH, LI, LJ, Qp, Qq, LK, U9, LL, LM, Qr, Qs, LN, RM, LO, Qt, Qu, LP, Gx, Gy, Qx, zM, zN, zO, LR, Ub, LU, LV, LW, LX, LY, L_, zQ, zR, xC, dL, wj, Iw, L5, EX, yT, Q2, Sy, Ix, mo, aw, eZ, bw, cB, ak, Nt, lF, HL, HM, uG, uH, Nat.reduceSub, Nat.reduceAdd, N_, O0, Nat.sub_self, if_true, if_false, ite_true, ite_false, bv, decide_true, decide_false, cond_true, cond_false, jg, iO, ar, cA, Ez, Int.reduceLE, Int.reduceAdd, Int.reduceMul, Nat.reduceLT, Int.reduceNeg, reduceIte])
local macro_rules | `(tactic| walk_at "yy") => `(tactic| simp only [Ug, RW, Uh, Ui, Uj, CV, q9, CW, Qb, TX, Go, CY, Gp, CZ, C_, D0, Ln, Lo, Lp, Gq, Lq, Gr, TZ, Qd, Qe, Lr, Qf, Ls, Qg, U1, Lu, Qh, Lv, Gs, Lw, Gu, Gv, Lx, Ly, Lz, LC, D1, D2, Qk, LD, Gw, LF, U5, Qm, Qn, LG, Qo, LH, LI, LJ, Qp, Qq, LK, U9, LL, LM, Qr, Qs, LN, RM, LO, Qt, Qu, LP, Gx, Gy, Qx, zM, zN, zO, LR, Ub, LU, LV, LW, LX, LY, L_, zQ, zR, xC, dL, mo, aw, eZ, bw, cB, ak, Nt, lF, HL, HM, uG, uH, Nat.reduceSub, Nat.reduceAdd, N_, O0, Nat.sub_self, if_true, if_false, ite_true, ite_false, bv, decide_true, decide_false, cond_true, cond_false, jg, iO, ar, cA, Ez, Int.reduceLE, Int.reduceAdd, Int.reduceMul, Nat.reduceLT, Int.reduceNeg, reduceIte])
theorem db {n:Nat}{g:az->R Fl}{ds:List D}{d:D} (h:g (ca n ds)=.ok (.rt d)):gG n g ds=.ok d:=by unfold gG;rw [h]
def H9 (ns:List Int) (k:Int):Int:=if k<ns.length then ns.getD k.toNat 0 else if ns=[] then 0 else ns.getD (k % ns.length).toNat 0 * 31 + k
theorem Mr (ns:List Int):dE (ns.map .int)=true:=by
 induction ns with
 | nil=>rfl
 | cons x r ih=>simp [dE,fu,ih]
theorem P6 (ns:List Int):a_ (.list (ns.map .int)) (.list [])=decide (ns=[]):=by
 cases ns with
 | nil=>rfl
 | cons x r=>simp [a_,eV]
theorem S4 (ns:List Int):rN false (.list (ns.map .int)) (.list [])=.ok (.bool (decide (ns=[]))):=by
 unfold rN
 have h1:(eW (ns.map .int)).canLay0=true:=by simp only [fu];exact Mr ns
 have h2:(eW []).canLay0=true:=rfl
 have h3:min (eW (ns.map .int)).depth (eW []).depth<=60:=bV (wT _ _) (by decide)
 rw [h1,h2,decide_eq_true h3,P6]
 rfl
theorem S5 (ns:List Int) (k:Int) (h0:0<=k) (h1:k<ns.length):Ec (ns.map gq) k=some (.int (ns.getD k.toNat 0)):=by
 have hk:k.toNat<ns.length:=by omega
 have:=qy (xs:=ns.map gq) (j:=k.toNat) (v:=.int (ns.getD k.toNat 0)) (by rw [aN,aV hk];simp [hk])
 rwa [dY h0] at this
theorem Ms (ns:List Int) (k:Int) (h0:0<=k) (h1:k<ns.length):bz (.list (ns.map .int)) (.int k)=.ok (.int (ns.getD k.toNat 0)):=by
 have e:∀ xs k,bz (.list xs) k=F1 (.list xs) k:=fun _ _=>rfl
 rw [e]
 unfold F1
 simp only [S5 ns k h0 h1]
theorem Ha {i j:Int} (h1:-(2 ^ 64)<j) (h2:j<2 ^ 64):zG i j=true:=by
 unfold zG
 simp only [ju,aO,decide_eq_true_eq]
 exact .inr ⟨h1,h2⟩
theorem qU {i j:Int} (h1:-(2 ^ 64)<i) (h2:i<2 ^ 64):zG i j=true:=by
 unfold zG
 simp only [ju,aO,decide_eq_true_eq]
 exact .inl ⟨h1,h2⟩
theorem P7 (ns:List Int) (k:Int) (hk:0<=k):ku [.list (ns.map .int),.int k]=.ok (.int (H9 ns k)):=by
 unfold ku
 refine db ?_
 unfold kr ca H9
 walk_at "zz"
 by_cases h:k<ns.length
 ·simp only [h,decide_true,cond_true,if_true,Ms ns k hk h,bind_ok]
  walk_at "zz"
 ·simp only [h,decide_false,cond_false,if_false]
  walk_at "zz"
  rw [S4]
  walk_at "zz"
  by_cases h2:ns=[]
  ·simp only [h2,decide_true,cond_true,if_true]
   walk_at "zz"
  ·have hl:(0:Int)<ns.length:=by have:0<ns.length:=List.length_pos_iff.mpr h2;omega
   simp only [h2,decide_false,cond_false,if_false,hl,decide_true]
   walk_at "zz"
   simp only [h2,decide_false,cond_false,if_false,hl,decide_true,if_true]
   walk_at "zz"
   rw [Ms ns _ (qv _ (by omega)) (mV _ hl)]
   walk_at "zz"
   rw [Ha (by decide) (by decide)]
   walk_at "zz"
def xN (ns:List Int) (k:Int):Int:=(H9 ns k + 7919 * k + 1) * 48271 % 2147483647
def eX (ns:List Int) (k m:Int):Int:=(xN ns k * xN ns k + 7 * xN ns k + k) % 2147483629 % m
theorem fX (ns:List Int) (k m:Int) (h:0<m):0<=eX ns k m:=qv _ (by omega)
theorem gW (ns:List Int) (k m:Int) (h:0<m):eX ns k m<m:=mV _ h
theorem fM (ns:List Int) (k m:Int) (hk:0<=k) (hm:0<m):bA [.list (ns.map .int),.int k,.int m]=.ok (.int (eX ns k m)):=by
 have d0:0<=xN ns k:=qv _ (by decide)
 have d1:xN ns k<2147483647:=mV _ (by decide)
 unfold bA
 refine db ?_
 unfold mJ ca
 walk_at "zz"
 rw [P7 ns k hk]
 walk_at "zz"
 rw [qU (by decide) (by decide)]
 walk_at "zz"
 rw [Ha (by decide) (by decide)]
 walk_at "zz"
 rw [show (H9 ns k + 7919 * k + 1) * 48271 % 2147483647=xN ns k from rfl,qU (i:=xN ns k) (by omega) (by omega)]
 walk_at "zz"
 rw [qU (i:=7) (by decide) (by decide)]
 walk_at "zz"
 rw [decide_eq_true hm]
 walk_at "zz"
 rfl
theorem qd {α β:Type}{kt:D->az->R az}{gb:az->R Fl} (c:α->D) (f:β->α->β) (P:List α->β->az->Prop) (h:∀ x bS b ρ,P (x::bS) b ρ->∃ ρ1 ρ',kt (c x) ρ=.ok ρ1/\gb ρ1=.ok (.nx ρ')/\P bS (f b x) ρ') :
  ∀ (xs:List α) (b:β) (ρ:az),P xs b ρ->∃ ρ',l5 kt gb (xs.map c) ρ=.ok (.nx ρ')/\P [] (xs.foldl f b) ρ'
 | [],b,ρ,p=>⟨ρ,rfl,p⟩
 | x::r,b,ρ,p=>by
  obtain ⟨ρ1,ρ2,h1,h2,h3⟩:=h x r b ρ p
  obtain ⟨ρ3,h4,h5⟩:=qd c f P h r (f b x) ρ2 h3
  refine ⟨ρ3,?_,h5⟩
  rw [aw]
  unfold l5
  rw [h1]
  simp only [h2]
  exact h4
theorem Hb {α β:Type}{kt:D->az->R az}{gb hh:az->R Fl}{r:R Fl} (c:α->D) (f:β->α->β) (P:List α->β->az->Prop) {xs:List α} (b:β) {ρ:az}
  (h:∀ x bS b ρ,P (x::bS) b ρ->∃ ρ1 ρ',kt (c x) ρ=.ok ρ1/\gb ρ1=.ok (.nx ρ')/\P bS (f b x) ρ') (p0:P xs b ρ) (k:∀ ρ',P [] (xs.foldl f b) ρ'->hh ρ'=r):(l5 kt gb (xs.map c) ρ).bind (OR hh)=r:=by
 obtain ⟨ρ',e,p⟩:=qd c f P h xs b ρ p0
 rw [e,bind_ok,q9]
 exact k ρ' p
theorem Bm (n:Nat) (h:n<=1000):F3 [.int (n:Int)]=.ok ((bD n).map fun (i:Nat)=>gq (i:Int)):=by
 have e:F3 [.int (n:Int)]=.ok (p_ 0 (n:Int).toNat):=OT (by omega) (by omega)
 rw [e]
 unfold p_
 rw [jV]
 exact congrArg R.ok (gL fun a _=>congrArg gq (Int.zero_add _))
def yX (x:Str):Bool:=decide (1<=x.cps.size) && decide (x.cps.size<=6/\x.cps.size≠5) && x.cps.toList.all fun c=>decide (97<=c) && decide (c<=122)
def rU (ns:List Int) (k:Int):Nat:=[1,2,3,6,1,4].getD (eX ns k 6).toNat 0
def Bo (ns:List Int) (k:Int) (i:Nat):Nat:=97 + (eX ns (k + 1 + i) 26).toNat
def kM (ns:List Int) (k:Int):Str:=⟨((bD (rU ns k)).map (Bo ns k)).toArray⟩
theorem Hc (ns:List Int) (k:Int):1<=rU ns k/\(rU ns k<=6/\rU ns k≠5):=by
 have h0:=fX ns k 6 (by decide)
 have h1:=gW ns k 6 (by decide)
 unfold rU
 have:∀ j:_root_.Fin 6,1<=[1,2,3,6,1,4].getD j.val 0/\([1,2,3,6,1,4].getD j.val 0<=6/\[1,2,3,6,1,4].getD j.val 0≠5):=by decide
 exact this ⟨(eX ns k 6).toNat,by omega⟩
theorem P8 (ns:List Int) (k:Int) (i:Nat):97<=Bo ns k i/\Bo ns k i<=122:=by
 have h0:=fX ns (k + 1 + i) 26 (by decide)
 have h1:=gW ns (k + 1 + i) 26 (by decide)
 unfold Bo
 omega
theorem Dj (ns:List Int) (k:Int):yX (kM ns k)=true:=by
 have ⟨h1,h2⟩:=Hc ns k
 unfold yX kM
 simp only [aQ,ak,eL,aO,decide_eq_true_eq,cg]
 refine ⟨⟨h1,h2⟩,fun c hc=>?_⟩
 obtain ⟨i,_,rfl⟩:=List.mem_map.mp hc
 exact P8 ns k i
theorem Mt (j:Int) (h0:0<=j) (h1:j<26):bz (.str "abcdefghijklmnopqrstuvwxyz") (.int j)=.ok (.str ⟨#[97 + j.toNat]⟩):=by
 have e:∀ x k,bz (.str x) k=F1 (.str x) k:=fun _ _=>rfl
 rw [e]
 unfold F1
 have hc:("abcdefghijklmnopqrstuvwxyz" : Str).cps.toList=(bD 26).map (97 + ·):=by decide +kernel
 have hl:("abcdefghijklmnopqrstuvwxyz" : Str).length<=1000:=by decide +kernel
 have hj:j.toNat<26:=by omega
 have hx:=qy (xs:=(bD 26).map (97 + ·)) (j:=j.toNat) (v:=97 + j.toNat) (by rw [aN,HG hj];rfl)
 rw [dY h0] at hx
 simp only [hl,if_true,hc,hx]
theorem P9 (j:Int) (h0:0<=j) (h1:j<6):bz (.list [.int 1,.int 2,.int 3,.int 6,.int 1,.int 4]) (.int j)=.ok (.int (([1,2,3,6,1,4].getD j.toNat 0:Nat):Int)):=by
 obtain ⟨n,rfl⟩:=Int.eq_ofNat_of_zero_le h0
 have hn:n<6:=by omega
 match n,hn with
 | 0,_=>rfl
 | 1,_=>rfl
 | 2,_=>rfl
 | 3,_=>rfl
 | 4,_=>rfl
 | 5,_=>rfl
theorem Bp (l:List Nat):∀ (acc:Str),l.foldl (fun (a:Str) c=>a++⟨#[c]⟩) acc=⟨(acc.cps.toList++l).toArray⟩:=by
 induction l with
 | nil=>intro acc;simp
 | cons c r ih =>
  intro acc
  rw [cY,ih]
  show (⟨((acc.cps++#[c]).toList++r).toArray⟩:Str)=_
  simp
theorem IT:("" : Str).cps.toList=[]:=by decide +kernel
theorem Hd (ns:List Int) (k:Int) (hk:0<=k):k8 [.list (ns.map .int),.int k]=.ok (.str (kM ns k)):=by
 have h0:=fX ns k 6 (by decide)
 have h1:=gW ns k 6 (by decide)
 have ⟨w1,w2⟩:=Hc ns k
 unfold k8
 refine db ?_
 unfold og ca
 walk_at "zz"
 rw [uh (ds:=(bD (rU ns k)).map fun (i:Nat)=>gq i)]
 ·refine Hb (fun (i:Nat)=>gq i) (fun (a:Str) i=>a++⟨#[Bo ns k i]⟩) (fun bS a ρ=>a.length + bS.length<=900/\∃ z,ρ=[.shr (.list (ns.map .int)),.shr (.int k),.shr (.str a),z]) "" ?_ ⟨by rw [eL,show ("" : Str).length=0 by decide];omega,_,rfl⟩ ?_
  ·rintro i bS a ρ ⟨hl,z,rfl⟩
   simp only [bw] at hl
   refine ⟨_,[.shr (.list (ns.map .int)),.shr (.int k),.shr (.str (a++⟨#[Bo ns k i]⟩)),.shr (.int i)],rfl,?_,?_,_,rfl⟩
   ·walk_at "zz"
    rw [fM ns _ 26 (by omega) (by decide)]
    walk_at "zz"
    rw [Mt _ (fX _ _ _ (by decide)) (gW _ _ _ (by decide))]
    walk_at "zz"
    have hz:a.length + (⟨#[97 + (eX ns (k + 1 + i) 26).toNat]⟩:Str).length<=1000:=by
     show a.length + 1<=1000
     omega
    rw [if_pos hz]
    walk_at "zz"
    rw [show 97 + (eX ns (k + 1 + i) 26).toNat=Bo ns k i from rfl]
   ·show (a.cps++#[_]).size + bS.length<=900
    rw [Array.size_append]
    show a.cps.size + 1 + bS.length<=900
    have:a.length=a.cps.size:=rfl
    omega
  ·rintro ρ' ⟨_,z,rfl⟩
   walk_at "zz"
   have:(bD (rU ns k)).foldl (fun (a:Str) i=>a++⟨#[Bo ns k i]⟩) ""=kM ns k:=by
    have:=Bp ((bD (rU ns k)).map (Bo ns k)) ""
    rw [List.foldl_map] at this
    rw [this,IT]
    unfold kM
    rw [lF]
   rw [this]
 ·walk_at "zz"
  rw [fM ns k 6 hk (by decide)]
  walk_at "zz"
  have et:=P9 (eX ns k 6) h0 h1
  have ew:[1,2,3,6,1,4].getD (eX ns k 6).toNat 0=rU ns k:=rfl
  rw [ew] at et
  rw [et]
  walk_at "zz"
  rw [Bm (rU ns k) (by omega)]
def lw (l:List (Str×D)):List (D×D):=l.map fun p=>(.str p.1,p.2)
def ur (l:List (Str×D)) (x:Str) (d:D):List (Str×D):=if l.any (fun p=>decide (p.1=x)) then l.map (fun p=>if p.1=x then (p.1,d) else p) else l++[(x,d)]
theorem qV (x y:Str):a_ (.str x) (.str y)=decide (x=y):=by
 show (x == y)=_
 rw [qu]
theorem Pa (l:List (Str×D)) (x:Str) (d:D):wl (lw l) (.str x) d=lw (ur l x d):=by
 unfold wl ur lw
 rw [pB]
 have e:((fun kv:D×D=>a_ kv.1 (.str x))∘fun p:Str×D=>(aS p.1,p.2))=fun p=>decide (p.1=x):=by
  funext p
  exact qV p.1 x
 rw [e]
 split
 ·rw [cn,cn]
  apply gL
  intro p _
  simp only [Function.comp,qV]
  by_cases h:p.1=x
  ·simp [h]
  ·simp [h]
 ·simp
theorem xO (l:List (Str×D)):hJ (lw l)=true:=by
 unfold hJ lw
 rw [jS,cg]
 intro p _
 rfl
theorem Dk (l:List (Str×D)) (x:Str) (d:D):(ur l x d).length<=l.length + 1:=by
 unfold ur
 split<;>simp
theorem A3 (l:List (Str×D)) (x:Str) (d:D):(ur l x d).map (·.1)=if x∈l.map (·.1) then l.map (·.1) else l.map (·.1)++[x]:=by
 unfold ur
 have e:(l.any fun p=>decide (p.1=x))=decide (x∈l.map (·.1)):=by
  rw [lC]
  simp only [kQ,decide_eq_true_eq,jQ]
 rw [e]
 by_cases h:x∈l.map (·.1)
 ·rw [decide_eq_true h,if_pos rfl,if_pos h,cn]
  apply gL
  intro p _
  by_cases hp:p.1=x<;>simp [hp]
 ·rw [decide_eq_false h,if_neg bu,if_neg h,bc]
  rfl
theorem Mu {Q:Str->D->Prop}{l:List (Str×D)}{x:Str}{d:D} (h:∀ p∈l,Q p.1 p.2) (hx:Q x d):∀ p∈ur l x d,Q p.1 p.2:=by
 unfold ur
 split
 ·intro p hp
  obtain ⟨p',hp',rfl⟩:=List.mem_map.mp hp
  by_cases e:p'.1=x
  ·rw [if_pos e];rw [e];exact hx
  ·rw [if_neg e];exact h p' hp'
 ·intro p hp
  rcases List.mem_append.mp hp with hp | hp
  ·exact h p hp
  ·rw [List.mem_singleton.mp hp];exact hx
theorem IU {l:List Str}{x:Str} (h:l.Nodup):(if x∈l then l else l++[x]).Nodup:=by
 by_cases hx:x∈l
 ·rw [if_pos hx];exact h
 ·rw [if_neg hx];exact wC h hx
theorem QE {i:Nat}{gk g:az->R D}{ρ:az}{l:List (Str×D)}{x:Str}{d:D} (hi:ρ[i]?=some (Sl.own (.dict (lw l)))) (hg:g ρ=.ok d) (hk:gk ρ=.ok (.str x)) (hl:l.length<1000):B8 i gk g ρ=.ok (.nx (ρ.set i (.own (.dict (lw (ur l x d)))))):=by
 have hl':(lw l).length<1000:=by unfold lw;rw [ak];exact hl
 have e:B8 i gk g ρ=(g ρ).bind fun d=>(gk ρ).bind fun k=>match rO k with
  | some _=>if (lw l).length<1000/\hJ (lw l)=true then .ok (.nx (ρ.set i (.own (.dict (wl (lw l) k d))))) else .no
  | none=>.no:=by
  unfold B8
  simp only [hi]
  try rfl
 rw [e,hg,xC,hk,xC]
 simp only [rO,if_pos (tF hl' (xO l)),Pa]
theorem Dl (l:List (Str×D)):kj (.dict (lw l))=.ok (.list ((l.map (·.1)).map .str)):=by
 have e:∀ kvs,kj (.dict kvs)=if hJ kvs=true then .ok (.list (kvs.map (·.1))) else .no:=fun _=>rfl
 rw [e,if_pos (xO l)]
 unfold lw
 rw [cn,cn]
 rfl
theorem sorted_strs (ss:List Str) (h:ss.length<64):qF (.list (ss.map .str))=.ok (.list ((jA ss).map .str)):=by
 have e:∀ ds,qF (.list ds)=match eK ds with
  | some ss=>if ss.length<64 then .ok (.list ((jA ss).map .str)) else .no
  | none=>.no:=fun _=>rfl
 rw [e,strsOf_map]
 simp only [if_pos h]
theorem gj (ds:List D):gF (.list ds)=.ok (.tuple ds):=id rfl
def Br (ns:List Int) (k:Int) (n:Nat):List Str:=(bD n).map fun (i:Nat)=>kM ns (k + 1 + 8 * (i:Int))
def Bt (ns:List Int) (k m:Int):List Str:=jA (da [] (Br ns k (eX ns k (m + 1)).toNat))
structure Mv (fs:List Str) (n:Nat):Prop where
 ok:∀ x∈fs,yX x=true
 up:fs.Pairwise fun a b=>oX a b=true
 len:fs.length<=n
theorem Mw {α:Type}{a b:List α} (h:a.Perm b):a.length=b.length:=h.length_eq
theorem Fc (ns:List Int) (k m:Int) (hm:0<=m):Mv (Bt ns k m) m.toNat:=by
 have h0:=fX ns k (m + 1) (by omega)
 have h1:=gW ns k (m + 1) (by omega)
 have hp:=gR (da [] (Br ns k (eX ns k (m + 1)).toNat))
 refine ⟨fun x hx=>?_,?_,?_⟩
 ·have hx:=hp.mem_iff.mp hx
  rw [iF] at hx
  rcases hx with hx | hx
  ·cases hx
  ·obtain ⟨i,_,rfl⟩:=List.mem_map.mp hx
   exact Dj _ _
 ·exact v6 (pS _) (hp.nodup_iff.mpr (iq _ [] fz))
 ·unfold Bt
  rw [Mw hp]
  have:=fU (Br ns k (eX ns k (m + 1)).toNat) []
  unfold Br at this ⊢
  simp at this
  omega
theorem IV (f:Nat->Str) (l:List Nat):∀ acc:List (Str×D),((l.foldl (fun (a:List (Str×D)) i=>ur a (f i) (.bool true)) acc).map (·.1))=da (acc.map (·.1)) (l.map f):=by
 induction l with
 | nil=>intro acc;rfl
 | cons i r ih =>
  intro acc
  rw [cY,ih,aw,A3]
  rfl
theorem Mx (ns:List Int) (k m:Int) (hk:0<=k) (hm:0<=m) (hm2:m<=20):mL [.list (ns.map .int),.int k,.int m]=.ok (.tuple ((Bt ns k m).map .str)):=by
 have h0:=fX ns k (m + 1) (by omega)
 have h1:=gW ns k (m + 1) (by omega)
 unfold mL
 refine db ?_
 unfold mK ca
 walk_at "zz"
 rw [uh (ds:=(bD (eX ns k (m + 1)).toNat).map fun (i:Nat)=>gq i)]
 ·refine Hb (fun (i:Nat)=>gq i) (fun (a:List (Str×D)) i=>ur a (kM ns (k + 1 + 8 * (i:Int))) (.bool true)) (fun bS a ρ=>a.length + bS.length<=60/\∃ z,ρ=[.shr (.list (ns.map .int)),.shr (.int k),.shr (.int m),.own (.dict (lw a)),z]) [] ?_ ⟨by simp;omega,_,rfl⟩ ?_
  ·rintro i bS a ρ ⟨hl,z,rfl⟩
   simp only [bw] at hl
   refine ⟨_,[.shr (.list (ns.map .int)),.shr (.int k),.shr (.int m),.own (.dict (lw (ur a (kM ns (k + 1 + 8 * (i:Int))) (.bool true)))),.shr (.int i)],rfl,?_,?_,_,rfl⟩
   ·refine (QE (l:=a) (x:=kM ns (k + 1 + 8 * (i:Int))) (d:=.bool true) rfl rfl ?_ (by omega)).trans rfl
    walk_at "zz"
    rw [qU (by decide) (by decide)]
    walk_at "zz"
    rw [Hd ns _ (by omega)]
   ·have:=Dk a (kM ns (k + 1 + 8 * (i:Int))) (.bool true)
    omega
  ·rintro ρ' ⟨hl,z,rfl⟩
   simp only [cB] at hl
   walk_at "zz"
   rw [Dl]
   walk_at "zz"
   have ek:=IV (fun i=>kM ns (k + 1 + 8 * (i:Int))) (bD (eX ns k (m + 1)).toNat) []
   rw [ek,sorted_strs]
   ·walk_at "zz"
    rw [gj]
    walk_at "zz"
    rfl
   ·rw [<- ek,ak];omega
 ·walk_at "zz"
  rw [fM ns k (m + 1) hk (by omega)]
  walk_at "zz"
  have:=Bm (eX ns k (m + 1)).toNat (by omega)
  rw [dY h0] at this
  exact this
structure dC where
 name:Str
 needs:List Str
 bars:List Str
 makes:List Str
 ends:List Str
 price:Int
abbrev aM (xs:List Str):D:=.tuple (xs.map .str)
def dO (e:dC):D:=.tuple [.str e.name,aM e.needs,aM e.bars,aM e.makes,aM e.ends,.int e.price]
structure sJ (fs xs:List Str):Prop where
 up:xs.Pairwise fun a b=>oX a b=true
 mem:∀ x∈xs,x∈fs
structure rV (fs:List Str) (e:dC):Prop where
 name:yX e.name=true
 needs:sJ fs e.needs
 bars:sJ fs e.bars
 makes:sJ fs e.makes
 ends:sJ fs e.ends
 nb:∀ x∈e.needs,x∉e.bars
 me:∀ x∈e.makes,x∉e.ends
 p0:0<=e.price
 p9:e.price<=9
def srt (xs:List Str):List Str:=jA (da [] xs)
theorem mM {xs:List Str}{x:Str}:x∈srt xs↔x∈xs:=by
 unfold srt
 rw [(gR _).mem_iff,iF]
 simp
theorem Fd (xs:List Str):(srt xs).Pairwise fun a b=>oX a b=true:=v6 (pS _) ((gR _).nodup_iff.mpr (iq _ [] fz))
theorem wM {fs xs:List Str} (h:∀ x∈xs,x∈fs):sJ fs (srt xs):=⟨Fd xs,fun x hx=>h x (mM.mp hx)⟩
theorem Bu (fs:List Str) (j:Int) (h0:0<=j) (h1:j<fs.length):∃ x,x∈fs/\bz (aM fs) (.int j)=.ok (.str x):=by
 have hj:j.toNat<fs.length:=by omega
 refine ⟨fs[j.toNat],iU hj,?_⟩
 have e:∀ xs k,bz (.tuple xs) k=F1 (.tuple xs) k:=fun _ _=>rfl
 rw [e]
 have hx:=qy (xs:=fs.map aS) (j:=j.toNat) (v:=.str fs[j.toNat]) (by rw [aN,aV hj];rfl)
 rw [dY h0] at hx
 unfold F1
 simp only [hx]
theorem xP (x:Str):∀ ys:List Str,((ys.map aS).any fun y=>a_ y (.str x))=decide (x∈ys)
 | []=>rfl
 | y::r=>by
  rw [aw,dJ,xP x r,qV]
  by_cases h:y=x
  ·subst h;simp
  ·simp [h,cQ h]
theorem xQ (ys:List Str):(ys.map aS).all l8=true:=by
 rw [jS,cg];intro _ _;rfl
theorem He (neg:Bool) (x:Str) (ys:List Str):BZ neg (.str x) (.list (ys.map .str))=.ok (.bool (if neg then !decide (x∈ys) else decide (x∈ys))):=by
 have e:BZ neg (.str x) (.list (ys.map .str))=if l8 (.str x) && (ys.map aS).all l8 then .ok (.bool (if neg then !((ys.map aS).any fun y=>a_ y (.str x)) else (ys.map aS).any fun y=>a_ y (.str x))) else .no:=rfl
 rw [e,xQ,xP]
 rfl
theorem qe (neg:Bool) (x:Str) (ys:List Str):BZ neg (.str x) (aM ys)=.ok (.bool (if neg then !decide (x∈ys) else decide (x∈ys))):=by
 have e:BZ neg (.str x) (aM ys)=if l8 (.str x) && (ys.map aS).all l8 then .ok (.bool (if neg then !((ys.map aS).any fun y=>a_ y (.str x)) else (ys.map aS).any fun y=>a_ y (.str x))) else .no:=rfl
 rw [e,xQ,xP]
 rfl
theorem oB (neg:Bool) (a b:Int):rN neg (.int a) (.int b)=.ok (.bool (if neg then !decide (a=b) else decide (a=b))):=by
 have e:rN neg (.int a) (.int b)=.ok (.bool (if neg then !(a == b) else (a == b))):=rfl
 rw [e,qu]
theorem Bv {x:Str} (h:yX x=true):(aS x).canLay0=true:=by
 unfold yX at h
 simp only [aO,cg,decide_eq_true_eq] at h
 show PyData.strOk x=true
 unfold PyData.strOk
 rw [<- vY,cg]
 intro c hc
 have:=h.2 c hc
 exact decide_eq_true (by omega)
theorem Pb (neg:Bool) {x y:Str} (hx:yX x=true) (hy:yX y=true):rN neg (.str x) (.str y)=.ok (.bool (if neg then !decide (x=y) else decide (x=y))):=by
 unfold rN
 rw [Bv hx,Bv hy,qV]
 rfl
theorem xR (ss:List Str) (h:ss.length<60):sC (.list (ss.map .str))=.ok (da [] ss):=by
 have e:∀ ds,sC (.list ds)=match eK ds with
  | some ss=>if ss.length<60 then .ok (da [] ss) else .no
  | none=>.no:=fun _=>rfl
 rw [e,strsOf_map]
 simp only [if_pos h]
theorem Hf (g:az->R D) (s:Sl) (ρ:az):o6 g (s::ρ)=(g (s::ρ)).bind sC:=id rfl
def QF:List Str->R D:=fun ss=>if ss.length<64 then .ok (.list ((jA ss).map .str)) else .no
theorem vf (g:az->R (List Str)) (s:Sl) (ρ:az):kH g (s::ρ)=(g (s::ρ)).bind QF:=id rfl
theorem xS (ss:List Str) (h:ss.length<64):QF ss=.ok (.list ((jA ss).map .str)):=if_pos h
theorem IW (ss:List Str) (h:ss.length<60) (ρ:az):(cx (J.ag (kH (o6 (rB 0))) J.aT) (iZ gF)) (.shr (.list (ss.map .str))::ρ)=.ok (aM (srt ss)):=by
 walk_at "zz"
 rw [vf,Hf]
 walk_at "zz"
 rw [xR ss h]
 walk_at "zz"
 rw [xS _ (by have:=fU ss [];simp at this;omega)]
 walk_at "zz"
 rw [gj]
 rfl
theorem Dm {ρ:az}{gt:az->R Bool}{x:Str}{b:Bool}{s:Sl}{r:az} (hρ:ρ=s::r) (h:gt (.shr (.str x)::r)=.ok b):gM (iQ 1 ρ gt (rS 0)) [.str x]=.ok ((if b then [x] else []).map .str):=by
 subst hρ
 have e:=qG (ρ:=s::r) (gt:=gt) (ge:=(rS 0)) (d:=.str x) (y:=.str x) (b:=b) h fun _=>rfl
 unfold gM
 rw [e,xC]
 unfold gM
 rw [xC]
 cases b<;>rfl
theorem S6 (p q r t:List Str) (hp:p.length<60) (hq:q.length<60) (hr:r.length<60) (ht:t.length<60):gM (iQ 1 [Sl.no] kT (cx (J.ag (kH (o6 (rB 0))) J.aT) (iZ gF))) [.list (p.map .str),.list (q.map .str),.list (r.map .str),.list (t.map .str)]=.ok [aM (srt p),aM (srt q),aM (srt r),aM (srt t)] :=
 e6 _ (fun ss:List Str=>eW (ss.map .str)) (fun ss=>aM (srt ss)) [p,q,r,t] fun ss hs=>gD rfl (IW ss (by simp at hs;rcases hs with h | h | h | h<;>(rw [h];assumption)) _)
theorem QG (a b c d:D):bz (.list [a,b,c,d]) (.int 0)=.ok a:=id rfl
theorem QH (a b c d:D):bz (.list [a,b,c,d]) (.int 1)=.ok b:=id rfl
theorem QI (a b c d:D):bz (.list [a,b,c,d]) (.int 2)=.ok c:=id rfl
theorem QJ (a b c d:D):bz (.list [a,b,c,d]) (.int 3)=.ok d:=id rfl
theorem Pc (ns:List Int) (k:Int) (hk:0<=k) (fs:List Str) (hf:∀ x∈fs,yX x=true) (h0:0<fs.length) (nm:Str) (hn:yX nm=true) :
  ∃ e,oo [.list (ns.map .int),.int k,aM fs,.str nm]=.ok (dO e)/\rV fs e/\e.name=nm:=by
 have hl:(0:Int)<(fs.length:Int):=by omega
 obtain ⟨a,ha,ea⟩:=Bu fs (eX ns (k + 10) fs.length) (fX _ _ _ hl) (gW _ _ _ hl)
 obtain ⟨b,hb,eb⟩:=Bu fs (eX ns (k + 11) fs.length) (fX _ _ _ hl) (gW _ _ _ hl)
 obtain ⟨c,hc,ec⟩:=Bu fs (eX ns (k + 12) fs.length) (fX _ _ _ hl) (gW _ _ _ hl)
 have m13a:=fX ns (k + 13) 3 (by decide)
 have m13b:=gW ns (k + 13) 3 (by decide)
 obtain ⟨nd,hnd,hnl,end_⟩:∃ nd:List Str,(∀ x∈nd,x∈fs)/\nd.length<60/\Gg (.list [.str a,.str b]) none (some (1 + eX ns (k + 13) 3 / 2))=.ok (.list (nd.map .str)):=by
  by_cases h2:eX ns (k + 13) 3=2
  ·exact ⟨[a,b],by simp [ha,hb],by simp,by rw [h2];rfl⟩
  ·have:eX ns (k + 13) 3 / 2=0:=by omega
   exact ⟨[a],by simp [ha],by simp,by rw [this];rfl⟩
 let bb:Bool:=!decide (c∈nd) && decide (eX ns (k + 14) 4=0)
 let be:Bool:=!decide (a=c) && decide (eX ns (k + 15) 3=0)
 have p0:=fX ns k 5 (by decide)
 have p1:=gW ns k 5 (by decide)
 refine ⟨⟨nm,srt nd,srt (if bb then [c] else []),srt [c],srt (if be then [a] else []),eX ns k 5⟩,?_,⟨hn,wM hnd,wM ?_,wM (by simp [hc]),wM ?_,fun x h1 h2=>?_,fun x h1 h2=>?_,p0,by show eX ns k 5<=9;omega⟩,rfl⟩
 ·unfold oo
  refine db ?_
  unfold om ca
  walk_at "zz"
  rw [fM ns _ _ (by omega) hl]
  walk_at "zz"
  rw [ea]
  walk_at "zz"
  rw [fM ns (k + 11) _ (by omega) hl]
  walk_at "zz"
  rw [eb]
  walk_at "zz"
  rw [fM ns (k + 12) _ (by omega) hl]
  walk_at "zz"
  rw [ec]
  walk_at "zz"
  rw [fM ns (k + 13) 3 (by omega) (by decide)]
  walk_at "zz"
  simp only [Ez,decide_true,nP,if_true]
  walk_at "zz"
  rw [end_]
  walk_at "zz"
  rw [Dm (b:=bb) rfl]
  ·walk_at "zz"
   rw [Dm (b:=be) rfl]
   ·walk_at "zz"
    simp only [Qa]
    rw [Ba rfl,Ba rfl]
    walk_at "zz"
    have pk:=S6 nd (if bb then [c] else []) [c] (if be then [a] else []) hnl (by cases bb<;>simp) (by simp) (by cases be<;>simp)
    rw [show ([c].map aS)=[aS c] from rfl] at pk
    rw [pk]
    walk_at "zz"
    rw [QG]
    walk_at "zz"
    rw [QH]
    walk_at "zz"
    rw [QI]
    walk_at "zz"
    rw [QJ]
    walk_at "zz"
    rw [fM ns k 5 hk (by decide)]
    walk_at "zz"
    rfl
   ·walk_at "zz"
    rw [Pb true (hf a ha) (hf c hc)]
    walk_at "zz"
    by_cases hac:a=c
    ·simp only [be,hac,decide_true,jg,zm,if_true,cond_false]
    ·simp only [be,hac,decide_false,iO,tQ,if_true,cond_true]
     rw [fM ns (k + 15) 3 (by omega) (by decide)]
     walk_at "zz"
     rw [oB]
     walk_at "zz"
  ·walk_at "zz"
   rw [He]
   walk_at "zz"
   by_cases hcn:c∈nd
   ·simp only [bb,hcn,decide_true,jg,zm,if_true,cond_false]
   ·simp only [bb,hcn,decide_false,iO,tQ,if_true,cond_true]
    rw [fM ns (k + 14) 4 (by omega) (by decide)]
    walk_at "zz"
    rw [oB]
    walk_at "zz"
 ·intro x hx
  cases hbb:bb
  ·simp [hbb] at hx
  ·simp [hbb] at hx;rw [hx];exact hc
 ·intro x hx
  cases hbe:be
  ·simp [hbe] at hx
  ·simp [hbe] at hx;rw [hx];exact ha
 ·have h2:x∈(if bb then [c] else []):=mM.mp h2
  cases hbb:bb
  ·simp [hbb] at h2
  ·simp [hbb] at h2
   subst h2
   have:(!decide (x∈nd))=true:=by
    have:(!decide (x∈nd) && decide (eX ns (k + 14) 4=0))=true:=hbb
    simp only [aO] at this
    exact this.1
   simp at this
   exact this (mM.mp h1)
 ·cases hbe:be
  ·have h2:x∈(if be then [a] else []):=mM.mp h2
   simp [hbe] at h2
  ·skip
   have h4:x∈[c]:=mM.mp h1
   have h5:x∈(if be then [a] else []):=mM.mp h2
   simp only [bZ] at h4
   simp only [hbe,if_true,bZ] at h5
   have:(!decide (a=c) && decide (eX ns (k + 15) 3=0))=true:=hbe
   simp only [aO] at this
   have h3:=this.1
   simp at h3
   exact h3 (h5.symm.trans h4)
theorem Bw {i:Nat}{gi g:az->R D}{ρ:az}{dss:List (List D)}{ds:List D}{d:D}{j:Int} (hi:ρ[i]?=some (Sl.ow2 dss)) (hj:gi ρ=.ok (.int j)) (h0:0<=j) (hd:dss[j.toNat]?=some ds) (hg:g ρ=.ok d) (hl:ds.length<1000):nF i gi g ρ=.ok (.nx (ρ.set i (.ow2 (dss.set j.toNat (ds++[d]))))):=by
 unfold nF
 simp only [hi,hj,bind_ok,if_pos h0,hd,hg,if_pos hl]
def mO (n:Nat):List Str->List (Nat×Str)
 | []=>[]
 | x::r=>(n,x)::mO (n + 1) r
abbrev cI (p:Nat×Str):D:=.tuple [.int (p.1:Nat),.str p.2]
theorem wN:∀ (xs:List Str) (n:Nat),oZ n (xs.map .str)=(mO n xs).map cI
 | [],_=>rfl
 | x::r,n=>by
  show dG [.int n,.str x]::oZ (n + 1) (r.map .str)=cI (n,x)::(mO (n + 1) r).map cI
  rw [wN r (n + 1)]
theorem qW:∀ (xs:List Str) (n:Nat),(mO n xs).map (·.2)=xs
 | [],_=>rfl
 | x::r,n=>by
  show x::(mO (n + 1) r).map (·.2)=x::r
  rw [qW r]
theorem ut:∀ (fs:List Str),(∀ x∈fs,yX x=true)->dE (fs.map .str)=true
 | [],_=>rfl
 | x::r,h=>by
  have h1:=Bv (h x am)
  have h2:=ut r fun y hy=>h y (ah _ hy)
  simp only [aw,dE,h1,h2,nP]
theorem Hg (fs:List Str) (hf:∀ x∈fs,yX x=true):rN true (aM fs) (.tuple [])=.ok (.bool (!decide (fs=[]))):=by
 unfold rN
 have h1:(aM fs).canLay0=true:=by simp only [fu];exact ut fs hf
 have h2:(dG []).canLay0=true:=rfl
 have h3:min (aM fs).depth (dG []).depth<=60:=bV (wT _ _) (by decide)
 have h4:a_ (aM fs) (.tuple [])=decide (fs=[]):=by
  cases fs with
  | nil=>rfl
  | cons x r=>simp [a_,eV]
 rw [h1,h2,decide_eq_true h3,h4]
 rfl
structure n5 (pre p q:List Str):Prop where
 sp:p.Sublist pre
 sq:q.Sublist pre
 d:∀ x∈p,x∉q
theorem n5.skip {pre p q:List Str} (h:n5 pre p q) (x:Str):n5 (pre++[x]) p q:=⟨h.sp.trans (jh _ _),h.sq.trans (jh _ _),h.d⟩
theorem n5.left {pre p q:List Str} (h:n5 pre p q) (x:Str) (hx:x∉pre):n5 (pre++[x]) (p++[x]) q:=⟨h.sp.append (eB _),h.sq.trans (jh _ _),fun y hy hq=>by
 rcases List.mem_append.mp hy with h1 | h1
 ·exact h.d y h1 hq
 ·rw [List.mem_singleton.mp h1] at hq
  exact hx (h.sq.subset hq)⟩
theorem n5.right {pre p q:List Str} (h:n5 pre p q) (x:Str) (hx:x∉pre):n5 (pre++[x]) p (q++[x]):=⟨h.sp.trans (jh _ _),h.sq.append (eB _),fun y hy hq=>by
 rcases List.mem_append.mp hq with h1 | h1
 ·exact h.d y hy h1
 ·rw [List.mem_singleton.mp h1] at hy
  exact hx (h.sp.subset hy)⟩
abbrev o4 (p q r t:List Str):Sl:=.ow2 [p.map .str,q.map .str,r.map .str,t.map .str]
theorem Uv (j:Int) (h0:0<=j) (h1:j<3):∃ b:Bool,bz (.list [.int 0,.int 0,.int 1]) (.int j)=.ok (.int (if b then 0 else 1)):=by
 have:j=0\/j=1\/j=2:=by omega
 rcases this with h | h | h<;>subst h
 ·exact ⟨true,rfl⟩
 ·exact ⟨true,rfl⟩
 ·exact ⟨false,rfl⟩
theorem Uw (j:Int) (h0:0<=j) (h1:j<4):∃ b:Bool,bz (.list [.int 2,.int 2,.int 3,.int 3]) (.int j)=.ok (.int (if b then 2 else 3)):=by
 have:j=0\/j=1\/j=2\/j=3:=by omega
 rcases this with h | h | h | h<;>subst h
 ·exact ⟨true,rfl⟩
 ·exact ⟨true,rfl⟩
 ·exact ⟨false,rfl⟩
 ·exact ⟨false,rfl⟩
theorem uu (p:List Str) (x:Str):(p++[x]).map aS=p.map .str++[.str x]:=by simp
theorem My {a b c d e f:Sl}{pre p q r t:List Str}{x:Str}{j:Int} (hp:n5 pre p q) (hx:x∉pre) (hl:pre.length<900) (h0:0<=j) :
  ∃ p' q',n5 (pre++[x]) p' q'/\h_ (ik (g2 (rB 7) (kI 3) yT)) (nF 4 (g2 (fg (J.ag (kI 0) (J.ag (kI 0) (J.ag (kI 1) J.aT))) .list) (rB 7) bz) (rS 6)) (fun ρ=>.ok (.nx ρ)) [a,b,c,d,o4 p q r t,e,.shr (.str x),.shr (.int j),f]=.ok (.nx [a,b,c,d,o4 p' q' r t,e,.shr (.str x),.shr (.int j),f]):=by
 by_cases h3:j<3
 ·obtain ⟨bo,e3⟩:=Uv j h0 h3
  have lp:p.length<1000:=by have:=hp.sp.length_le;omega
  have lq:q.length<1000:=by have:=hp.sq.length_le;omega
  cases bo
  ·refine ⟨p,q++[x],hp.right x hx,?_⟩
   walk_at "zz"
   rw [decide_eq_true h3]
   walk_at "zz"
   simp only [o4,uu]
   refine (Bw (j:=1) (ds:=q.map .str) (d:=.str x) rfl ?_ (by decide) rfl rfl (by rw [ak];exact lq)).trans rfl
   walk_at "zz"
   rw [e3]
   rfl
  ·refine ⟨p++[x],q,hp.left x hx,?_⟩
   walk_at "zz"
   rw [decide_eq_true h3]
   walk_at "zz"
   simp only [o4,uu]
   refine (Bw (j:=0) (ds:=p.map .str) (d:=.str x) rfl ?_ (by decide) rfl rfl (by rw [ak];exact lp)).trans rfl
   walk_at "zz"
   rw [e3]
   rfl
 ·refine ⟨p,q,hp.skip x,?_⟩
  walk_at "zz"
  rw [decide_eq_false h3]
  walk_at "zz"
theorem Mz {a b c d e f:Sl}{pre p q r t:List Str}{x:Str}{j:Int} (hp:n5 pre r t) (hx:x∉pre) (hl:pre.length<900) (h0:0<=j) :
  ∃ r' t',n5 (pre++[x]) r' t'/\h_ (ik (g2 (rB 7) (kI 4) yT)) (nF 4 (g2 (fg (J.ag (kI 2) (J.ag (kI 2) (J.ag (kI 3) (J.ag (kI 3) J.aT)))) .list) (rB 7) bz) (rS 6)) (fun ρ=>.ok (.nx ρ)) [a,b,c,d,o4 p q r t,e,.shr (.str x),.shr (.int j),f]=.ok (.nx [a,b,c,d,o4 p q r' t',e,.shr (.str x),.shr (.int j),f]):=by
 by_cases h3:j<4
 ·obtain ⟨bo,e3⟩:=Uw j h0 h3
  have lp:r.length<1000:=by have:=hp.sp.length_le;omega
  have lq:t.length<1000:=by have:=hp.sq.length_le;omega
  cases bo
  ·refine ⟨r,t++[x],hp.right x hx,?_⟩
   walk_at "zz"
   rw [decide_eq_true h3]
   walk_at "zz"
   simp only [o4,uu]
   refine (Bw (j:=3) (ds:=t.map .str) (d:=.str x) rfl ?_ (by decide) rfl rfl (by rw [ak];exact lq)).trans rfl
   walk_at "zz"
   rw [e3]
   rfl
  ·refine ⟨r++[x],t,hp.left x hx,?_⟩
   walk_at "zz"
   rw [decide_eq_true h3]
   walk_at "zz"
   simp only [o4,uu]
   refine (Bw (j:=2) (ds:=r.map .str) (d:=.str x) rfl ?_ (by decide) rfl rfl (by rw [ak];exact lp)).trans rfl
   walk_at "zz"
   rw [e3]
   rfl
 ·refine ⟨r,t,hp.skip x,?_⟩
  walk_at "zz"
  rw [decide_eq_false h3]
  walk_at "zz"
theorem Ux (i:Nat) (ρ:az):OP i ρ=.ok (.nx ((clear2 ρ).set i (.ow2 [[],[],[],[]]))):=id rfl
theorem n5.sub {fs p q:List Str} (up:fs.Pairwise fun a b=>oX a b=true) (h:n5 fs p q):sJ fs p/\sJ fs q:=⟨⟨up.sublist h.sp,fun x hx=>h.sp.subset hx⟩,⟨up.sublist h.sq,fun x hx=>h.sq.subset hx⟩⟩
theorem MA (p:List Str) (ρ:az):(cx (J.ag (rB 0) J.aT) (iZ gF)) (.shr (.list (p.map .str))::ρ)=.ok (aM p):=by
 walk_at "zz"
 rw [gj]
theorem Uy (p q r t:List Str):gM (iQ 1 [Sl.no] kT (cx (J.ag (rB 0) J.aT) (iZ gF))) [.list (p.map .str),.list (q.map .str),.list (r.map .str),.list (t.map .str)]=.ok [aM p,aM q,aM r,aM t] :=
 e6 _ (fun ss:List Str=>eW (ss.map .str)) (fun ss=>aM ss) [p,q,r,t] fun ss hs=>gD rfl (MA ss _)
theorem IX (ns:List Int) (k:Int) (hk:0<=k) (fs:List Str) (hf:∀ x∈fs,yX x=true) (up:fs.Pairwise fun a b=>oX a b=true) (nd:fs.Nodup) (hl:fs.length<=6) (nm:Str) (hn:yX nm=true) :
  ∃ e,iH [.list (ns.map .int),.int k,aM fs,.str nm]=.ok (dO e)/\rV fs e/\e.name=nm:=by
 have p0:=fX ns k 5 (by decide)
 have p1:=gW ns k 5 (by decide)
 have go:∀ ρ:az,ρ=[.shr (.list (ns.map .int)),.shr (.int k),.shr (aM fs),.shr (.str nm),.no,.no,.no,.no,.no]->(!decide (fs=[]) && decide (eX ns 97 2=0))=false->∃ e,iG ρ=.ok (.rt (dO e))/\rV fs e/\e.name=nm:=by
  rintro ρ rfl hc
  obtain ⟨ρ',h1,p,q,r,t,h2,h3,h4⟩:∃ ρ',(pi (F4 (J.ag (rS 2) J.aT)) (nC 2 (cX (cb 5) (cX (cb 6) ph))) (bp (i7 7 (gZ 3 bA (J.ag (rS 0) (J.ag (g2 (g2 (rB 1) (kI 10) dL) (rB 5) dL) (J.ag (kI 8) J.aT))))) (bp (h_ (ik (g2 (rB 7) (kI 3) yT)) (nF 4 (g2 (fg (J.ag (kI 0) (J.ag (kI 0) (J.ag (kI 1) J.aT))) .list) (rB 7) bz) (rS 6)) (fun ρ=>.ok (.nx ρ))) (bp (i7 7 (gZ 3 bA (J.ag (rS 0) (J.ag (g2 (g2 (rB 1) (kI 20) dL) (rB 5) dL) (J.ag (kI 8) J.aT))))) (h_ (ik (g2 (rB 7) (kI 4) yT)) (nF 4 (g2 (fg (J.ag (kI 2) (J.ag (kI 2) (J.ag (kI 3) (J.ag (kI 3) J.aT)))) .list) (rB 7) bz) (rS 6)) (fun ρ=>.ok (.nx ρ))))))) [.shr (.list (ns.map .int)),.shr (.int k),.shr (aM fs),.shr (.str nm),o4 [] [] [] [],.no,.no,.no,.no]=.ok (.nx ρ')/\∃ p q r t,n5 fs p q/\n5 fs r t/\∃ z5 z6 z7,ρ'=[.shr (.list (ns.map .int)),.shr (.int k),.shr (aM fs),.shr (.str nm),o4 p q r t,z5,z6,z7,.no]:=by
   rw [uh (ds:=(mO 0 fs).map cI)]
   ·have H:=qd cI (fun (a:Unit) (_:Nat×Str)=>a) (fun bS _ ρ=>∃ pre,pre++bS.map (·.2)=fs/\∃ p q r t,n5 pre p q/\n5 pre r t/\∃ z5 z6 z7,ρ=[.shr (.list (ns.map .int)),.shr (.int k),.shr (aM fs),.shr (.str nm),o4 p q r t,z5,z6,z7,.no]) (kt:=nC 2 (cX (cb 5) (cX (cb 6) ph))) (gb:=(bp (i7 7 (gZ 3 bA (J.ag (rS 0) (J.ag (g2 (g2 (rB 1) (kI 10) dL) (rB 5) dL) (J.ag (kI 8) J.aT))))) (bp (h_ (ik (g2 (rB 7) (kI 3) yT)) (nF 4 (g2 (fg (J.ag (kI 0) (J.ag (kI 0) (J.ag (kI 1) J.aT))) .list) (rB 7) bz) (rS 6)) (fun ρ=>.ok (.nx ρ))) (bp (i7 7 (gZ 3 bA (J.ag (rS 0) (J.ag (g2 (g2 (rB 1) (kI 20) dL) (rB 5) dL) (J.ag (kI 8) J.aT))))) (h_ (ik (g2 (rB 7) (kI 4) yT)) (nF 4 (g2 (fg (J.ag (kI 2) (J.ag (kI 2) (J.ag (kI 3) (J.ag (kI 3) J.aT)))) .list) (rB 7) bz) (rS 6)) (fun ρ=>.ok (.nx ρ)))))))
    obtain ⟨ρ',h1,pre,h2,p,q,r,t,h3,h4,h5⟩:=H (by
     rintro ⟨i,x⟩ bS _ ρ ⟨pre,h2,p,q,r,t,h3,h4,z5,z6,z7,rfl⟩
     have hx:x∉pre:=by
      rw [<- h2,aw] at nd
      have:=(List.nodup_append.mp nd).2.2
      intro hx
      exact this x hx x am rfl
     have hpl:pre.length<900:=by
      have:=congrArg iL h2
      rw [aR] at this
      omega
     obtain ⟨p',q',k1,k2⟩:=My (a:=.shr (.list (ns.map .int))) (b:=.shr (.int k)) (c:=.shr (aM fs)) (d:=.shr (.str nm)) (e:=.shr (.int (i:Nat))) (f:=.no) (r:=r) (t:=t) (j:=eX ns (k + 10 + i) 8) h3 hx hpl (fX _ _ _ (by decide))
     obtain ⟨r',t',k3,k4⟩:=Mz (a:=.shr (.list (ns.map .int))) (b:=.shr (.int k)) (c:=.shr (aM fs)) (d:=.shr (.str nm)) (e:=.shr (.int (i:Nat))) (f:=.no) (p:=p') (q:=q') (j:=eX ns (k + 20 + i) 8) h4 hx hpl (fX _ _ _ (by decide))
     refine ⟨[.shr (.list (ns.map .int)),.shr (.int k),.shr (aM fs),.shr (.str nm),o4 p q r t,.shr (.int (i:Nat)),.shr (.str x),z7,.no],[.shr (.list (ns.map .int)),.shr (.int k),.shr (aM fs),.shr (.str nm),o4 p' q' r' t',.shr (.int (i:Nat)),.shr (.str x),.shr (.int (eX ns (k + 20 + i) 8)),.no],rfl,?_,pre++[x],?_,p',q',r',t',k1,k3,_,_,_,rfl⟩
     ·rw [CV,Ln]
      walk_at "yy"
      rw [fM ns _ 8 (by omega) (by decide)]
      walk_at "yy"
      rw [k2]
      walk_at "yy"
      rw [fM ns _ 8 (by omega) (by decide)]
      walk_at "yy"
      rw [k4]
     ·rw [<- h2];simp) (mO 0 fs) () [.shr (.list (ns.map .int)),.shr (.int k),.shr (aM fs),.shr (.str nm),o4 [] [] [] [],.no,.no,.no,.no] ⟨[],by rw [qW];rfl,[],[],[],[],⟨eB _,eB _,fun _ h=>nomatch h⟩,⟨eB _,eB _,fun _ h=>nomatch h⟩,_,_,_,rfl⟩
    refine ⟨ρ',h1,p,q,r,t,?_,?_,h5⟩
    ·simp only [eZ,cf] at h2
     rw [<- h2];exact h3
    ·simp only [eZ,cf] at h2
     rw [<- h2];exact h4
   ·walk_at "zz"
    rw [wN]
  obtain ⟨s1,s2⟩:=h2.sub up
  obtain ⟨s3,s4⟩:=h3.sub up
  obtain ⟨z5,z6,z7,rfl⟩:=h4
  refine ⟨⟨nm,p,q,r,t,eX ns k 5⟩,?_,⟨hn,s1,s2,s3,s4,h2.d,h3.d,p0,by show eX ns k 5<=9;omega⟩,rfl⟩
  unfold iG
  have hand:AU (ik (g2 (rB 2) (fg J.aT .tuple) (rN true))) (ik (g2 (gZ 3 bA (J.ag (rS 0) (J.ag (kI 97) (J.ag (kI 2) J.aT)))) (kI 0) (rN false))) [.shr (.list (ns.map .int)),.shr (.int k),.shr (aM fs),.shr (.str nm),.no,.no,.no,.no,.no]=.ok false:=by
   walk_at "zz"
   rw [Hg fs hf]
   walk_at "zz"
   by_cases h:fs=[]
   ·simp only [h,decide_true,jg,cond_false]
   ·simp only [h,decide_false,iO,cond_true,tQ] at hc ⊢
    rw [fM ns 97 2 (by decide) (by decide)]
    walk_at "zz"
    rw [oB]
    walk_at "zz"
    rw [hc]
  rw [CV,TW,hand]
  simp only [xC,Ll,Ux,clear2,aw,eZ,uH,uG,xC,q9,CV]
  rw [show Sl.ow2 [[],[],[],[]]=o4 [] [] [] [] from rfl,h1]
  walk_at "zz"
  rw [Uy]
  walk_at "zz"
  rw [QG]
  walk_at "zz"
  rw [QH]
  walk_at "zz"
  rw [QI]
  walk_at "zz"
  rw [QJ]
  walk_at "zz"
  rw [fM ns k 5 hk (by decide)]
  walk_at "zz"
  rfl
 by_cases hc:(!decide (fs=[]) && decide (eX ns 97 2=0))=true
 ·have h0:0<fs.length:=by
   rcases fs with _ | ⟨x,r⟩
   ·simp at hc
   ·simp
  obtain ⟨e,h1,h2⟩:=Pc ns k hk fs hf h0 nm hn
  refine ⟨e,?_,h2⟩
  unfold iH
  refine db ?_
  unfold iG ca
  walk_at "zz"
  rw [Hg fs hf]
  walk_at "zz"
  simp only [aO] at hc
  rw [hc.1]
  walk_at "zz"
  rw [fM ns 97 2 (by decide) (by decide)]
  walk_at "zz"
  rw [oB]
  walk_at "zz"
  rw [hc.2]
  walk_at "zz"
  rw [h1]
  walk_at "zz"
 ·obtain ⟨e,h1,h2⟩:=go _ rfl (Bool.eq_false_iff.mpr hc)
  exact ⟨e,by unfold iH;exact db h1,h2⟩
theorem MB (ds:List D) (t:Nat) (h:t<=ds.length):yU ds (some (t:Int)) none=ds.drop t:=by
 unfold yU
 rw [HT.G0,HT.C7,lP h,jR (by rw [wu];exact ar _)]
theorem S7 (ds:List D) (t:Nat) (h:t<=ds.length):yU ds none (some (t:Int))=ds.take t:=by
 unfold yU
 rw [HT.G0,HT.C7,lP h,List.drop_zero,Nat.sub_zero]
theorem Uz (ds:List D) (t:Nat) (h:t<=ds.length):Gg (.list ds) (some (t:Int)) none=.ok (.list (ds.drop t)):=by
 rw [<- MB ds t h];rfl
theorem UA (ds:List D) (t:Nat) (h:t<=ds.length):Gg (.list ds) none (some (t:Int))=.ok (.list (ds.take t)):=by
 rw [<- S7 ds t h];rfl
theorem S8 {l:List (Str×D)} (nd:(l.map (·.1)).Nodup) {p:Str×D} (hp:p∈l):bz (.dict (lw l)) (.str p.1)=.ok p.2:=by
 have e:∀ kvs x,bz (.dict kvs) (.str x)=if hJ kvs=true then (match l9 kvs (.str x) with
   | some d=>.ok d
   | none=>.no) else .no:=fun _ _=>rfl
 rw [e,if_pos (xO l)]
 have:l9 (lw l) (.str p.1)=some p.2:=by
  unfold l9 lw
  clear e
  induction l with
  | nil=>cases hp
  | cons q r ih =>
   rw [aw] at nd
   obtain ⟨n1,n2⟩:=List.nodup_cons.mp nd
   rw [aw,bX,qV]
   rcases List.mem_cons.mp hp with h | h
   ·subst h;simp
   ·have:q.1≠p.1:=fun z=>n1 (z ▸ bC h)
    rw [decide_eq_false this]
    exact ih n2 h
 rw [this]
structure fE (fs:List Str) (es:List dC):Prop where
 rise:Mv fs 6
 len:es.length<=6
 nd:(es.map (·.name)).Nodup
 ok:∀ e∈es,rV fs e
def fN (fs:List Str) (es:List dC):D:=.tuple [aM fs,.tuple (es.map dO)]
theorem UB (fs:List Str):∀ (l:List (Str×D)),(∀ p∈l,∃ e,p.2=dO e/\rV fs e/\e.name=p.1)->∃ es:List dC,l.map (·.2)=es.map dO/\es.map (·.name)=l.map (·.1)/\∀ e∈es,rV fs e
 | [],_=>⟨[],rfl,rfl,fun _ h=>nomatch h⟩
 | p::r,h=>by
  obtain ⟨e,h1,h2,h3⟩:=h p am
  obtain ⟨es,k1,k2,k3⟩:=UB fs r fun q hq=>h q (ah _ hq)
  refine ⟨e::es,by rw [aw,aw,h1,k1],by rw [aw,aw,h3,k2],fun x hx=>?_⟩
  rcases List.mem_cons.mp hx with z | z
  ·rw [z];exact h2
  ·exact k3 x z
theorem IY {α:Type} (l:List α) (t:Nat):(l.drop t++l.take t).Perm l:=by
 refine List.perm_append_comm.trans ?_
 rw [fJ]
theorem kO {l:List Str} (h:l.Pairwise fun a b=>oX a b=true):l.Nodup:=h.imp fun hab z=>by
 rw [z,sw] at hab
 cases hab
theorem Pd (ns:List Int) (k:Int) (hk:0<=k) (m n:Int) (hm0:0<=m) (hm:m<=6) (hn0:0<=n) (hn:n<=6):∃ fs es,lW [.list (ns.map .int),.int k,.int m,.int n]=.ok (fN fs es)/\fE fs es/\fs.length<=m.toNat/\es.length<=n.toNat:=by
 have hr:=Fc ns k m hm0
 generalize hfs:Bt ns k m=fs at hr
 have hrl:=hr.len
 have hr:Mv fs 6:=⟨hr.ok,hr.up,by have:=hr.len;omega⟩
 have nd:=kO hr.up
 have m0:=fX ns (k + 60) (n + 1) (by omega)
 have m1:=gW ns (k + 60) (n + 1) (by omega)
 suffices H:∃ es,lW [.list (ns.map .int),.int k,.int m,.int n]=.ok (fN fs es)/\fE fs es/\es.length<=n.toNat from H.elim fun es h=>⟨fs,es,h.1,h.2.1,hrl,h.2.2⟩
 unfold lW
 suffices H:∃ es,lV (ca 10 [.list (ns.map .int),.int k,.int m,.int n])=.ok (.rt (fN fs es))/\fE fs es/\es.length<=n.toNat from H.elim fun es h=>⟨es,db h.1,h.2⟩
 have H:=qd (fun (i:Nat)=>gq i) (fun (a:Unit) (_:Nat)=>a) (fun bS _ ρ=>∃ l,l.length + bS.length<=n.toNat/\(l.map (·.1)).Nodup/\(∀ p∈l,∃ e,p.2=dO e/\rV fs e/\e.name=p.1)/\∃ z6 z7,ρ=[.shr (.list (ns.map .int)),.shr (.int k),.shr (.int m),.shr (.int n),.shr (aM fs),.own (.dict (lw l)),z6,z7,.no,.no]) (kt:=cb 6) (gb:=bp (i7 7 (gZ 2 k8 (J.ag (rS 0) (J.ag (g2 (g2 (rB 1) (kI 70) dL) (g2 (kI 40) (rB 6) wj) dL) J.aT)))) (B8 5 (rS 7) (gZ 4 iH (J.ag (rS 0) (J.ag (g2 (g2 (rB 1) (kI 80) dL) (g2 (kI 40) (rB 6) wj) dL) (J.ag (rS 4) (J.ag (rS 7) J.aT)))))))
 obtain ⟨ρ',h1,l,h2,h3,h4,z6,z7,h5⟩:=H (by
  rintro i bS _ ρ ⟨l,h2,h3,h4,z6,z7,rfl⟩
  simp only [bw] at h2
  have hw:=Dj ns (k + 70 + 40 * (i:Int))
  obtain ⟨e,e1,e2,e3⟩:=IX ns (k + 80 + 40 * (i:Int)) (by omega) fs hr.ok hr.up nd hr.len (kM ns (k + 70 + 40 * (i:Int))) hw
  have pl:=Dk l (kM ns (k + 70 + 40 * (i:Int))) (dO e)
  refine ⟨[.shr (.list (ns.map .int)),.shr (.int k),.shr (.int m),.shr (.int n),.shr (aM fs),.own (.dict (lw l)),.shr (.int i),z7,.no,.no],[.shr (.list (ns.map .int)),.shr (.int k),.shr (.int m),.shr (.int n),.shr (aM fs),.own (.dict (lw (ur l (kM ns (k + 70 + 40 * (i:Int))) (dO e)))),.shr (.int i),.shr (.str (kM ns (k + 70 + 40 * (i:Int)))),.no,.no],rfl,?_,ur l (kM ns (k + 70 + 40 * (i:Int))) (dO e),by omega,?_,?_,_,_,rfl⟩
  ·walk_at "zz"
   rw [qU (by decide) (by decide)]
   walk_at "zz"
   rw [Hd ns _ (by omega)]
   walk_at "zz"
   refine (QE (l:=l) (x:=kM ns (k + 70 + 40 * (i:Int))) (d:=dO e) rfl ?_ rfl (by omega)).trans rfl
   walk_at "zz"
   rw [qU (by decide) (by decide)]
   walk_at "zz"
   exact e1
  ·rw [A3];exact IU h3
  ·exact Mu (Q:=fun x d=>∃ e,d=dO e/\rV fs e/\e.name=x) h4 ⟨e,rfl,e2,e3⟩) (bD (eX ns (k + 60) (n + 1)).toNat) () [.shr (.list (ns.map .int)),.shr (.int k),.shr (.int m),.shr (.int n),.shr (aM fs),.own (.dict (lw [])),.no,.no,.no,.no] ⟨[],by rw [eL];simp only [cB];omega,fz,fun _ h=>(nomatch h),_,_,rfl⟩
 simp only [cB,mi] at h2
 have t0:=fX ns (k + 61) ((l.length:Int) + 1) (by omega)
 have t1:=gW ns (k + 61) ((l.length:Int) + 1) (by omega)
 obtain ⟨t,ht⟩:∃ t:Nat,eX ns (k + 61) ((l.length:Int) + 1)=t:=⟨_,(dY t0).symm⟩
 have tl:t<=l.length:=by omega
 have pm:=IY l t
 obtain ⟨es,k1,k2,k3⟩:=UB fs (l.drop t++l.take t) fun p hp=>h4 p (pm.mem_iff.mp hp)
 have kl:es.length=l.length:=by
  have:=congrArg iL k1
  rw [ak,ak,pm.length_eq] at this
  exact this.symm
 refine ⟨es,?_,⟨hr,by omega,?_,k3⟩,by omega⟩
 ·unfold lV ca
  walk_at "yy"
  rw [Mx ns k m hk hm0 (by omega),hfs]
  walk_at "yy"
  rw [uh (ds:=(bD (eX ns (k + 60) (n + 1)).toNat).map fun (i:Nat)=>gq i)]
  ·rw [show E8 []=E8 (lw []) from rfl,h1,h5]
   walk_at "yy"
   rw [Dl]
   walk_at "yy"
   rw [fM ns _ _ (by omega) (by omega),ht]
   walk_at "yy"
   clear H h1
   rw [Uz _ t (by simpa using tl)]
   walk_at "yy"
   rw [UA _ t (by simpa using tl)]
   walk_at "yy"
   have e1:(List.drop t (rJ aS (rJ (fun x=>x.fst) l))++List.take t (rJ aS (rJ (fun x=>x.fst) l)))=(l.drop t++l.take t).map fun p=>aS p.1:=by
    rw [bc,List.map_drop,List.map_take,cn];rfl
   rw [e1,if_pos (by rw [<- aR,e1,ak,pm.length_eq];omega)]
   have pl:=pm.length_eq
   have px:∀ p∈l.drop t++l.take t,p∈l:=fun p hp=>pm.mem_iff.mp hp
   clear e1 pm k2
   generalize l.drop t++l.take t=L at pl px k1 ⊢
   walk_at "yy"
   rw [if_pos (by omega)]
   rw [e6 _ (fun p:Str×D=>aS p.1) (fun p=>p.2) L fun p hp=>gD rfl (by
    walk_at "yy"
    exact S8 h3 (px p hp))]
   walk_at "yy"
   rw [gj]
   walk_at "yy"
   rw [k1]
   rfl
  ·walk_at "yy"
   rw [fM ns (k + 60) (n + 1) (by omega) (by omega)]
   walk_at "yy"
   have:=Bm (eX ns (k + 60) (n + 1)).toNat (by omega)
   rw [dY m0] at this
   exact this
 ·rw [k2]
  exact ((pm.map _).nodup_iff).mpr h3
theorem A4 {α:Type} (b:α->Bool):∀ xs:List α,mB (xs.map fun x=>cC (b x))=some (xs.map b)
 | []=>rfl
 | x::r=>by
  show (mB (r.map fun x=>cC (b x))).map (b x::·)=_
  rw [A4 b r]
  rfl
theorem j6 {α:Type} (k:List Bool->Bool) (b:α->Bool) (xs:List α):gf k (.list (xs.map fun x=>cC (b x)))=.ok (.bool (k (xs.map b))):=by
 have e:∀ ds,gf k (.list ds)=match mB ds with
  | some bs=>.ok (.bool (k bs))
  | none=>.no:=fun _=>rfl
 rw [e,A4]
theorem MC {s s':Sl}{ρ:az}{gt:az->R Bool}{ge:az->R D}{d d' y:D} (h1:gt (.shr d::.shr d'::ρ)=.ok true) (h2:ge (.shr d::.shr d'::ρ)=.ok y):iQ 2 (s::s'::ρ) gt ge (.tuple [d,d'])=.ok (some y):=by
 have e:iQ 2 (s::s'::ρ) gt ge (.tuple [d,d'])=IC ((gt (.shr d::.shr d'::ρ)).bind fun b=>if b then (ge (.shr d::.shr d'::ρ)).bind fun y=>.ok (some y) else .ok none):=id rfl
 rw [e,h1,bind_ok,if_pos rfl,h2];rfl
theorem S9 (x:Str):ua (.str x)=true:=id rfl
theorem MD (i:Int):ua (.int i)=true:=id rfl
theorem Bx {α:Type} (c:α->D) (h:∀ x,ua (c x)=true):∀ xs:List α,noDs (xs.map c)=true
 | []=>rfl
 | x::r=>by
  show (ua (c x) && noDs (r.map c))=true
  rw [h x,Bx c h r];rfl
theorem ME (xs:List D):ua (.tuple xs)=noDs xs:=id rfl
theorem qX (xs:List Str):ua (aM xs)=true:=by
 rw [ME]
 exact Bx _ (fun _=>rfl) xs
theorem Hh (e:dC):ua (dO e)=true:=by
 have:ua (dO e)=(true && (ua (aM e.needs) && (ua (aM e.bars) && (ua (aM e.makes) && (ua (aM e.ends) && (true && true)))))):=rfl
 rw [this,qX,qX,qX,qX];rfl
theorem QK (es:List dC):ua (.tuple (es.map dO))=true:=by
 rw [ME]
 exact Bx _ Hh es
theorem Pe (fs:List Str) (es:List dC):ua (fN fs es)=true:=by
 have:ua (fN fs es)=(ua (aM fs) && (ua (.tuple (es.map dO)) && true)):=rfl
 rw [this,qX,QK];rfl
theorem Sc (x:Str):CH "str" (.str x)=true:=id rfl
theorem By (x:List D):CH "tuple" (.tuple x)=true:=id rfl
theorem Sd (x:Int):CH "int" (.int x)=true:=id rfl
theorem Se (x:Int):CH "bool" (.int x)=false:=id rfl
theorem Pf:∀ c:_root_.Fin 123,97<=c.val->(!oX ⟨#[c.val]⟩ "a")=true/\(!oX "z" ⟨#[c.val]⟩)=true:=by decide +kernel
theorem A5 {x:Str} (h:yX x=true):nK [.str x]=.ok (.bool true):=by
 have hw:=h
 unfold yX at h
 simp only [aO,decide_eq_true_eq,cg] at h
 obtain ⟨⟨h1,h2⟩,h3⟩:=h
 have hl:x.length=x.cps.size:=rfl
 unfold nK
 refine db ?_
 unfold qM ca
 walk_at "zz"
 rw [S9,Sc]
 walk_at "zz"
 rw [if_pos (by omega)]
 walk_at "zz"
 rw [decide_eq_true (by omega)]
 walk_at "zz"
 rw [decide_eq_true (by omega)]
 walk_at "zz"
 unfold mZ
 walk_at "zz"
 rw [if_pos (by rw [ao];omega)]
 rw [e6 _ (fun c:Nat=>aS ⟨#[c]⟩) (fun _=>cC true) x.cps.toList fun c hc=>gD rfl (by
  obtain ⟨a1,a2⟩:=h3 c hc
  obtain ⟨b1,b2⟩:=Pf ⟨c,by omega⟩ a1
  walk_at "zz"
  simp only at b1 b2
  rw [b1]
  walk_at "zz"
  rw [b2])]
 walk_at "zz"
 rw [j6 _ (fun _=>true)]
 walk_at "zz"
 simp
theorem Do:∀ (xs ys:List Str),wk (xs.map .str) (ys.map .str)=(xs.zip ys).map fun p=>dG [.str p.1,.str p.2]
 | [],_=>rfl
 | _::_,[]=>rfl
 | x::r,y::r'=>by
  show dG [.str x,.str y]::wk (r.map .str) (r'.map .str)=_
  rw [Do r r']
  rfl
theorem MF:∀ {l:List Str},(l.Pairwise fun a b=>oX a b=true)->∀ p∈l.zip (l.drop 1),oX p.1 p.2=true
 | [],_,p,hp=>by cases hp
 | [_],_,p,hp=>by cases hp
 | a::b::r,h,p,hp=>by
  obtain ⟨h1,h2⟩:=List.pairwise_cons.mp h
  rcases List.mem_cons.mp hp with z | z
  ·rw [z];exact h1 b am
  ·exact MF h2 p z
theorem Pg (xs:List Str):Gg (aM xs) (some 1) none=.ok (aM (xs.drop 1)):=by
 have e:Gg (aM xs) (some 1) none=.ok (.tuple (yU (xs.map .str) (some 1) none)):=rfl
 rw [e]
 cases xs with
 | nil=>rfl
 | cons x r =>
  rw [show (1:Int)=((1:Nat):Int) from rfl,MB _ 1 (by simp)]
  rfl
theorem vL {xs:List Str} (hw:∀ x∈xs,yX x=true) (up:xs.Pairwise fun a b=>oX a b=true) (hl:xs.length<=6):fm [aM xs]=.ok (.bool true):=by
 unfold fm
 refine db ?_
 unfold gU ca
 walk_at "zz"
 rw [qX,By]
 walk_at "zz"
 rw [if_pos (by omega)]
 rw [e6 _ (fun x:Str=>aS x) (fun _=>cC true) xs fun x hx=>gD rfl (by
  walk_at "zz"
  rw [A5 (hw x hx)])]
 walk_at "zz"
 rw [j6 _ (fun _=>true)]
 walk_at "zz"
 rw [show ((xs.map fun _=>true).all id)=true by simp]
 walk_at "zz"
 rw [Pg]
 walk_at "zz"
 rw [Do]
 walk_at "zz"
 rw [if_pos (by simp;omega)]
 rw [e6 _ (fun p:Str×Str=>dG [.str p.1,.str p.2]) (fun _=>cC true) (xs.zip (xs.drop 1)) fun p hp=>MC rfl (by
  walk_at "zz"
  rw [MF up p hp])]
 walk_at "zz"
 rw [j6 _ (fun _=>true)]
 walk_at "zz"
 simp
theorem lY {fs xs:List Str} (hw:∀ x∈fs,yX x=true) (h:sJ fs xs) (hl:xs.length<=6):jk [aM fs,aM xs]=.ok (.bool true):=by
 unfold jk
 refine db ?_
 unfold mF ca
 walk_at "zz"
 rw [vL (fun x hx=>hw x (h.mem x hx)) h.up hl]
 walk_at "zz"
 rw [if_pos (by omega)]
 rw [e6 _ (fun x:Str=>aS x) (fun _=>cC true) xs fun x hx=>gD rfl (by
  walk_at "zz"
  rw [qe,decide_eq_true (h.mem x hx)]
  rfl)]
 walk_at "zz"
 rw [j6 _ (fun _=>true)]
 walk_at "zz"
 simp
theorem A6 {xs ys:List Str} (h:∀ x∈xs,x∉ys) (hl:xs.length<=6):fW [aM xs,aM ys]=.ok (.bool true):=by
 unfold fW
 refine db ?_
 unfold jG ca
 walk_at "zz"
 rw [if_pos (by omega)]
 rw [e6 _ (fun x:Str=>aS x) (fun _=>cC false) xs fun x hx=>gD rfl (by
  walk_at "zz"
  rw [qe,decide_eq_false (h x hx)]
  rfl)]
 walk_at "zz"
 rw [j6 _ (fun _=>false)]
 walk_at "zz"
 simp
theorem Fe {l i m:Int} (h0:l<=i) (h1:i<=m):o9 [.int i,.int l,.int m]=.ok (.bool true):=by
 unfold o9
 refine db ?_
 unfold o8 ca
 walk_at "zz"
 rw [MD,Sd]
 walk_at "zz"
 rw [MD,Se]
 walk_at "zz"
 rw [decide_eq_true h0]
 walk_at "zz"
 rw [decide_eq_true h1]
theorem Bz:∀ (xs fs:List Str),xs.Nodup->(∀ x∈xs,x∈fs)->xs.length<=fs.length
 | [],_,_,_=>cA _
 | x::r,fs,nd,h=>by
  obtain ⟨n1,n2⟩:=List.nodup_cons.mp nd
  have hx:=h x am
  have:=Bz r (fs.erase x) n2 fun y hy=>(FY fun (z:y=x)=>n1 (z ▸ hy)).mpr (h y (ah _ hy))
  rw [BY hx] at this
  have:0<fs.length:=Eb hx
  rw [bw]
  omega
theorem j7 {fs xs:List Str} (h:sJ fs xs) (hl:fs.length<=6):xs.length<=6:=by
 exact bV (Bz xs fs (kO h.up) h.mem) hl
theorem VY (a b c d e f g:D):LQ (nC 6 (cX (cb 2) (cX (cb 3) (cX (cb 4) (cX (cb 5) (cX (cb 6) (cX (cb 7) ph))))))) [Sl.shr a,Sl.shr (.tuple [b,c,d,e,f,g]),.no,.no,.no,.no,.no,.no] (.tuple [b,c,d,e,f,g])=.ok (.nx [Sl.shr a,Sl.shr (.tuple [b,c,d,e,f,g]),.shr b,.shr c,.shr d,.shr e,.shr f,.shr g]):=id rfl
theorem Dp {fs:List Str} (hr:Mv fs 6) {e:dC} (g:rV fs e):mH [aM fs,dO e]=.ok (.bool true):=by
 have l1:=j7 g.needs hr.len
 have l2:=j7 g.bars hr.len
 have l3:=j7 g.makes hr.len
 have l4:=j7 g.ends hr.len
 unfold mH
 refine db ?_
 unfold mG ca
 walk_at "zz"
 rw [Hh]
 unfold dO
 walk_at "zz"
 rw [By]
 walk_at "zz"
 rw [oB]
 walk_at "zz"
 rw [show decide (((6:Nat):Int)=6)=true from rfl]
 walk_at "zz"
 rw [VY]
 ·walk_at "zz"
  rw [A5 g.name]
  walk_at "zz"
  rw [Fe g.p0 g.p9]
  walk_at "zz"
  have pk:=e6 (iQ 1 [Sl.no,Sl.shr (aM fs)] kT (gZ 2 jk (J.ag (rS 1) (J.ag (rS 0) J.aT)))) (fun x:List Str=>aM x) (fun _=>cC true) [e.needs,e.bars,e.makes,e.ends] fun x hx=>gD rfl (by
   walk_at "zz"
   simp only [aY,br,or_false] at hx
   rcases hx with z | z | z | z<;>rw [z]
   ·rw [lY hr.ok g.needs l1]
   ·rw [lY hr.ok g.bars l2]
   ·rw [lY hr.ok g.makes l3]
   ·rw [lY hr.ok g.ends l4])
  simp only [aw,eZ] at pk
  rw [pk]
  walk_at "zz"
  rw [show gf (fun bs=>bs.all id) (.list [.bool true,.bool true,.bool true,.bool true])=.ok (.bool true) from rfl]
  walk_at "zz"
  rw [A6 g.nb l1]
  walk_at "zz"
  rw [A6 g.me l3]
  walk_at "zz"
theorem MG (l:List Str) (nd:l.Nodup):(da [] l).length=l.length:=by
 have h1:=Bz (da [] l) l (iq l [] fz) fun x hx=>((iF l [] x).mp hx).elim (fun h=>nomatch h) id
 have h2:=Bz l (da [] l) nd fun x hx=>(iF l [] x).mpr (.inr hx)
 omega
theorem IZ (es:List dC) (hl:es.length<=6) (nd:(es.map (·.name)).Nodup) (s:Sl) (ρ:az) (h:(s::ρ)[2]?=some (.shr (.tuple (es.map dO)))):ug (vb 1 [] (ll (rB 2)) kT (g2 (rB 0) (kI 0) bz)) (s::ρ)=.ok (.int (es.length:Nat)):=by
 have hr:CB (s::ρ) 2=.ok (.tuple (es.map dO)):=by unfold CB;rw [h]
 unfold ug vb
 rw [RM,RW,hr]
 walk_at "zz"
 rw [if_pos (by omega)]
 rw [e6 _ dO (fun e=>aS e.name) es fun e he=>gD rfl (by
  walk_at "zz"
  rfl)]
 walk_at "zz"
 have:(es.map fun e=>aS e.name)=(es.map (·.name)).map .str:=by rw [cn];rfl
 rw [this,strsOf_map]
 simp only [xC,MG _ nd,ak]
theorem VZ (b c:D):LQ (nC 2 (cX (cb 1) (cX (cb 2) ph))) [Sl.shr (.tuple [b,c]),.no,.no] (.tuple [b,c])=.ok (.nx [Sl.shr (.tuple [b,c]),.shr b,.shr c]):=id rfl
theorem I_ {fs:List Str}{es:List dC} (g:fE fs es):qO [fN fs es]=.ok (.bool true):=by
 have l1:=g.rise.len
 have l2:=g.len
 unfold qO
 refine db ?_
 unfold qN ca
 walk_at "zz"
 rw [Pe]
 unfold fN
 walk_at "zz"
 rw [By]
 walk_at "zz"
 rw [oB]
 walk_at "zz"
 rw [show decide (((2:Nat):Int)=2)=true from rfl]
 walk_at "zz"
 rw [VZ]
 walk_at "zz"
 rw [vL g.rise.ok g.rise.up l1]
 walk_at "zz"
 rw [decide_eq_false (by omega)]
 walk_at "zz"
 rw [QK,By]
 walk_at "zz"
 rw [decide_eq_false (by omega)]
 walk_at "zz"
 rw [if_pos (by omega)]
 rw [e6 _ dO (fun _=>cC true) es fun e he=>gD rfl (by
  walk_at "zz"
  rw [Dp g.rise (g.ok e he)])]
 walk_at "zz"
 rw [j6 _ (fun _=>true)]
 walk_at "zz"
 rw [show ((es.map fun _=>true).all id)=true by simp]
 walk_at "zz"
 rw [IZ es l2 g.nd _ _ rfl]
 walk_at "zz"
 rw [oB,decide_eq_true rfl]
 rfl
theorem Ff {fs:List Str}{es:List dC} (g:fE fs es):qS [fN fs es]=.ok (fN fs es):=by
 unfold qS
 refine db ?_
 unfold qR ca
 walk_at "zz"
 rw [I_ g]
 walk_at "zz"
theorem A7 {α:Type} (c:α->D) (h:∀ x,a_ (c x) (c x)=true):∀ xs:List α,eV (xs.map c) (xs.map c)=true
 | []=>by simp [eV]
 | x::r=>by simp [eV,h x,A7 c h r]
theorem MH (xs:List Str):a_ (aM xs) (aM xs)=true:=by
 simp only [a_]
 exact A7 _ (fun x=>by rw [qV];simp) xs
theorem Dq {α:Type} (c:α->D):∀ xs:List α,(∀ x∈xs,(c x).canLay0=true)->dE (xs.map c)=true
 | [],_=>rfl
 | x::r,h=>by
  have h1:=h x am
  have h2:=Dq c r fun y hy=>h y (ah _ hy)
  simp only [aw,dE,h1,h2,nP]
theorem qY {α:Type} (c:α->D) (n:Nat) (h:∀ x,(c x).depth<=n):∀ xs:List α,wA (xs.map c)<=n
 | []=>by simp [wA]
 | x::r=>by
  simp only [aw,wA]
  exact Nat.max_le.mpr ⟨h x,qY c n h r⟩
theorem MI {fs xs:List Str} (hf:∀ x∈fs,yX x=true) (h:sJ fs xs):dE (xs.map .str)=true:=ut xs fun x hx=>hf x (h.mem x hx)
theorem Dr {i:Nat}{g:az->R D}{ρ:az}{ds:List D}{d:D} (hi:ρ[i]?=some (Sl.own (.list ds))) (hg:g ρ=.ok d) (hl:ds.length<1000):sB i g ρ=.ok (.nx (ρ.set i (.own (.list (ds++[d]))))):=by
 unfold sB
 simp only [hi,hg,bind_ok,if_pos hl]
theorem MJ {s s':Sl}{ρ:az}{gt:az->R Bool}{ge:az->R D}{d d' y:D}{b:Bool} (h1:gt (.shr d::.shr d'::ρ)=.ok b) (h2:b=true->ge (.shr d::.shr d'::ρ)=.ok y):iQ 2 (s::s'::ρ) gt ge (.tuple [d,d'])=.ok (if b then some y else none):=by
 have e:iQ 2 (s::s'::ρ) gt ge (.tuple [d,d'])=IC ((gt (.shr d::.shr d'::ρ)).bind fun b=>if b then (ge (.shr d::.shr d'::ρ)).bind fun y=>.ok (some y) else .ok none):=id rfl
 rw [e,h1,bind_ok]
 cases b with
 | true=>rw [if_pos rfl,h2 rfl];rfl
 | false=>rfl
theorem A8:∀ (xs:List Str) (n:Nat),(mO n xs).length=xs.length
 | [],_=>rfl
 | x::r,n=>by
  show (mO (n + 1) r).length + 1=r.length + 1
  rw [A8 r]
theorem Ph (ns:List Int) (k:Int) (hk:0<=k) (fs:List Str) (hl:fs.length<=6) (m:Int):∃ ss:List Str,oj [.list (ns.map .int),.int k,aM fs,.int m]=.ok (aM ss)/\ss.Sublist fs:=by
 refine ⟨((mO 0 fs).filter fun q=>decide (eX ns (k + (q.1:Int)) 12<m)).map (·.2),?_,?_⟩
 ·unfold oj
  refine db ?_
  unfold oh ca
  walk_at "zz"
  rw [wN]
  walk_at "zz"
  rw [if_pos (by rw [A8];omega)]
  rw [gT _ cI (fun q=>aS q.2) (fun q=>decide (eX ns (k + (q.1:Int)) 12<m)) (mO 0 fs) fun q hq=>MJ (by
   walk_at "zz"
   rw [fM ns _ 12 (by omega) (by decide)]
   walk_at "zz") fun _=>rfl]
  walk_at "zz"
  rw [gj]
  walk_at "zz"
  unfold aM
  rw [cn]
  rfl
 ·have:=(tH (l:=mO 0 fs) (p:=fun q=>decide (eX ns (k + (q.1:Int)) 12<m))).map (·.2)
  rw [qW] at this
  exact this
theorem Fg {fs xs:List Str} (up:fs.Pairwise fun a b=>oX a b=true) (h:xs.Sublist fs):sJ fs xs:=⟨up.sublist h,fun x hx=>h.subset hx⟩
structure QL (fs m b:List Str):Prop where
 must:sJ fs m
 bars:sJ fs b
 mb:∀ x∈m,x∉b
abbrev yY (m b:List Str):D:=.tuple [aM m,aM b]
theorem Hi (p:List Str) (x:Str):p.map aS++[aS x]=(p++[x]).map .str:=by simp
theorem Pi (ns:List Int) (k:Int) (hk:0<=k) (fs:List Str) (up:fs.Pairwise fun a b=>oX a b=true) (hl:fs.length<=6):∃ m b,sI [.list (ns.map .int),.int k,aM fs]=.ok (yY m b)/\QL fs m b:=by
 have nd:=kO up
 suffices H:∃ p q,lX (ca 8 [.list (ns.map .int),.int k,aM fs])=.ok (.rt (yY p q))/\n5 fs p q by
  obtain ⟨p,q,h1,h2⟩:=H
  exact ⟨p,q,db h1,Fg up h2.sp,Fg up h2.sq,h2.d⟩
 unfold lX ca
 walk_at "yy"
 rw [uh (ds:=(mO 0 fs).map cI)]
 ·have H:=qd cI (fun (a:Unit) (_:Nat×Str)=>a) (fun bS _ ρ=>∃ pre,pre++bS.map (·.2)=fs/\∃ p q,n5 pre p q/\∃ z5 z6 z7,ρ=[.shr (.list (ns.map .int)),.shr (.int k),.shr (aM fs),.own (.list (p.map .str)),.own (.list (q.map .str)),z5,z6,z7]) (kt:=nC 2 (cX (cb 5) (cX (cb 6) ph))) (gb:=bp (i7 7 (gZ 3 bA (J.ag (rS 0) (J.ag (g2 (rB 1) (rB 5) dL) (J.ag (kI 8) J.aT))))) (h_ (ik (g2 (rB 7) (kI 2) yT)) (sB 3 (rS 6)) (h_ (ik (g2 (rB 7) (kI 2) (rN false))) (sB 4 (rS 6)) (fun ρ=>.ok (.nx ρ)))))
  obtain ⟨ρ',h1,pre,h2,p,q,h3,z5,z6,z7,h4⟩:=H (by
   rintro ⟨i,x⟩ bS _ ρ ⟨pre,h2,p,q,h3,z5,z6,z7,rfl⟩
   have hx:x∉pre:=by
    rw [<- h2,aw] at nd
    have:=(List.nodup_append.mp nd).2.2
    intro hx
    exact this x hx x am rfl
   have hpl:pre.length<900:=by
    have:=congrArg iL h2
    rw [aR] at this
    omega
   have lp:=h3.sp.length_le
   have lq:=h3.sq.length_le
   refine ⟨[.shr (.list (ns.map .int)),.shr (.int k),.shr (aM fs),.own (.list (p.map .str)),.own (.list (q.map .str)),.shr (.int (i:Nat)),.shr (.str x),z7],?_⟩
   by_cases c1:eX ns (k + (i:Nat)) 8<2
   ·refine ⟨[.shr (.list (ns.map .int)),.shr (.int k),.shr (aM fs),.own (.list ((p++[x]).map .str)),.own (.list (q.map .str)),.shr (.int (i:Nat)),.shr (.str x),.shr (.int (eX ns (k + (i:Nat)) 8))],rfl,?_,pre++[x],by rw [<- h2];simp,_,_,h3.left x hx,_,_,_,rfl⟩
    walk_at "zz"
    rw [fM ns _ 8 (by omega) (by decide)]
    walk_at "zz"
    rw [decide_eq_true c1]
    walk_at "zz"
    rw [<- Hi]
    exact Dr (ds:=p.map .str) rfl rfl (by rw [ak];omega)
   ·by_cases c2:eX ns (k + (i:Nat)) 8=2
    ·refine ⟨[.shr (.list (ns.map .int)),.shr (.int k),.shr (aM fs),.own (.list (p.map .str)),.own (.list ((q++[x]).map .str)),.shr (.int (i:Nat)),.shr (.str x),.shr (.int (eX ns (k + (i:Nat)) 8))],rfl,?_,pre++[x],by rw [<- h2];simp,_,_,h3.right x hx,_,_,_,rfl⟩
     walk_at "zz"
     rw [fM ns _ 8 (by omega) (by decide)]
     walk_at "zz"
     rw [decide_eq_false c1]
     walk_at "zz"
     rw [oB]
     walk_at "zz"
     rw [decide_eq_true c2]
     walk_at "zz"
     rw [<- Hi]
     exact Dr (ds:=q.map .str) rfl rfl (by rw [ak];omega)
    ·refine ⟨[.shr (.list (ns.map .int)),.shr (.int k),.shr (aM fs),.own (.list (p.map .str)),.own (.list (q.map .str)),.shr (.int (i:Nat)),.shr (.str x),.shr (.int (eX ns (k + (i:Nat)) 8))],rfl,?_,pre++[x],by rw [<- h2];simp,_,_,h3.skip x,_,_,_,rfl⟩
     walk_at "zz"
     rw [fM ns _ 8 (by omega) (by decide)]
     walk_at "zz"
     rw [decide_eq_false c1]
     walk_at "zz"
     rw [oB]
     walk_at "zz"
     rw [decide_eq_false c2]
     walk_at "zz") (mO 0 fs) () [.shr (.list (ns.map .int)),.shr (.int k),.shr (aM fs),.own (.list []),.own (.list []),.no,.no,.no] ⟨[],by rw [qW];rfl,[],[],⟨eB _,eB _,fun _ h=>nomatch h⟩,_,_,_,rfl⟩
  refine ⟨p,q,?_,?_⟩
  ·rw [h1,h4]
   walk_at "zz"
   rw [gj]
   walk_at "zz"
   rw [gj]
   walk_at "zz"
  ·simp only [eZ,cf] at h2
   rw [<- h2];exact h3
 ·walk_at "zz"
  rw [wN]
theorem Sf (j:Int) (h0:0<=j) (h1:j<2):∃ m:Int,bz (.list [.int 2,.int 4]) (.int j)=.ok (.int m):=by
 have:j=0\/j=1:=by omega
 rcases this with h | h<;>subst h
 ·exact ⟨2,rfl⟩
 ·exact ⟨4,rfl⟩
theorem Pj (fs:List Str) (es:List dC):bz (fN fs es) (.int 0)=.ok (aM fs):=id rfl
theorem MK (fs:List Str) (es:List dC):bz (fN fs es) (.int 1)=.ok (.tuple (es.map dO)):=id rfl
theorem Pk (ns:List Int) (m n:Int) (hm0:0<=m) (hm:m<=6) (hn0:0<=n) (hn:n<=6):∃ fs es ss wm wb,ou [.list (ns.map .int),.int m,.int n]=.ok (.tuple [fN fs es,aM ss,yY wm wb])/\fE fs es/\sJ fs ss/\QL fs wm wb/\fs.length<=m.toNat/\es.length<=n.toNat:=by
 obtain ⟨fs,es,hb,gb,fl⟩:=Pd ns 100 (by decide) m n hm0 hm hn0 hn
 obtain ⟨pt,hp⟩:=Sf (eX ns 97 2) (fX _ _ _ (by decide)) (gW _ _ _ (by decide))
 obtain ⟨ss,hs,gs⟩:=Ph ns 20 (by decide) fs gb.rise.len pt
 obtain ⟨wm,wb,hw,gw⟩:=Pi ns 30 (by decide) fs gb.rise.up gb.rise.len
 refine ⟨fs,es,ss,wm,wb,?_,gb,Fg gb.rise.up gs,gw,fl⟩
 unfold ou
 refine db ?_
 unfold oq ca
 walk_at "zz"
 rw [hb]
 walk_at "zz"
 rw [Pj]
 walk_at "zz"
 rw [fM ns 97 2 (by decide) (by decide)]
 walk_at "zz"
 rw [hp]
 walk_at "zz"
 rw [hs]
 walk_at "zz"
 rw [Pj]
 walk_at "zz"
 rw [hw]
 walk_at "zz"
theorem ML {xs ys:List Str} (hl:xs.length<=60):fW [aM xs,aM ys]=.ok (.bool (!xs.any fun x=>decide (x∈ys))):=by
 unfold fW
 refine db ?_
 unfold jG ca
 walk_at "zz"
 rw [if_pos (by omega)]
 rw [e6 _ (fun x:Str=>aS x) (fun x=>cC (decide (x∈ys))) xs fun x hx=>gD rfl (by
  walk_at "zz"
  rw [qe]
  rfl)]
 walk_at "zz"
 rw [j6 _ (fun x=>decide (x∈ys))]
 walk_at "zz"
 rw [pB]
 rfl
theorem UC (neg:Bool) (xs:List Str):Gb neg (aM xs) .none=.ok (.bool neg):=by cases neg<;>rfl
theorem UD (neg:Bool):Gb neg .none .none=.ok (.bool (!neg)):=by cases neg<;>rfl
theorem Pl (e:dC):bz (dO e) (.int 0)=.ok (.str e.name):=id rfl
theorem V_ (e:dC):bz (dO e) (.int 3)=.ok (aM e.makes):=id rfl
theorem W0 (e:dC):bz (dO e) (.int 4)=.ok (aM e.ends):=id rfl
theorem UE (e:dC):Gg (dO e) (some 1) (some 3)=.ok (yY e.needs e.bars):=id rfl
theorem wB {xs:List D}{j:Nat}{v:D} (h:xs[j]?=some v):bz (.list xs) (.int (j:Nat))=.ok v:=by
 have e:bz (.list xs) (.int (j:Nat))=F1 (.list xs) (.int (j:Nat)):=rfl
 rw [e]
 unfold F1
 simp only [qy h]
theorem W2 (a x y z:D) (r:az):LQ (nC 3 (cX (cb 1) (cX (cb 2) (cX (cb 3) ph)))) (Sl.shr a::.no::.no::.no::r) (.tuple [x,y,z])=.ok (.nx (.shr a::.shr x::.shr y::.shr z::r)):=id rfl
def cu (st a b:List Str):Bool:=(a.all fun x=>decide (x∈st)) && !b.any fun x=>decide (x∈st)
theorem W3 (m b:List Str):bz (yY m b) (.int 0)=.ok (aM m):=id rfl
theorem W4 (m b:List Str):bz (yY m b) (.int 1)=.ok (aM b):=id rfl
theorem Pm {st a b:List Str} (ha:a.length<=60) (hb:b.length<=60):oz [aM st,yY a b]=.ok (.bool (cu st a b)):=by
 unfold oz
 refine db ?_
 unfold oy ca
 walk_at "zz"
 rw [W3]
 walk_at "zz"
 rw [if_pos (by omega)]
 rw [e6 _ (fun x:Str=>aS x) (fun x=>cC (decide (x∈st))) a fun x hx=>gD rfl (by
  walk_at "zz"
  rw [qe]
  rfl)]
 walk_at "zz"
 rw [j6 _ (fun x=>decide (x∈st))]
 walk_at "zz"
 rw [W4]
 walk_at "zz"
 rw [if_pos (by omega)]
 rw [e6 _ (fun x:Str=>aS x) (fun x=>cC (decide (x∈st))) b fun x hx=>gD rfl (by
  walk_at "zz"
  rw [qe]
  rfl)]
 walk_at "zz"
 rw [j6 _ (fun x=>decide (x∈st))]
 walk_at "zz"
 unfold cu
 rw [jS,pB]
 have e:(id∘fun x=>decide (x∈st))=fun x=>decide (x∈st):=rfl
 rw [e]
 cases (a.all fun x=>decide (x∈st))<;>rfl
theorem MM {n:Nat}{g:az->R Fl}{ds:List D}{ρ:az} (h:g (ca n ds)=.ok (.nx ρ)):gG n g ds=.ok .none:=by unfold gG;rw [h]
theorem W5 (a x y:D):LQ (nC 2 (cX (cb 2) (cX (cb 3) ph))) [Sl.shr a,.shr (.tuple [x,y]),.no,.no] (.tuple [x,y])=.ok (.nx [.shr a,.shr (.tuple [x,y]),.shr x,.shr y]):=id rfl
theorem Fh {st a b:List Str} (ha:a.length<=60) (hb:b.length<=60):qQ [aM st,yY a b]=.ok (.bool (cu st a b)):=by
 unfold qQ
 refine db ?_
 unfold qP ca yY
 walk_at "zz"
 rw [W5]
 walk_at "zz"
 rw [if_pos (by omega)]
 rw [e6 _ (fun x:Str=>aS x) (fun x=>cC (decide (x∈st))) a fun x hx=>gD rfl (by
  walk_at "zz"
  rw [qe]
  rfl)]
 walk_at "zz"
 rw [j6 _ (fun x=>decide (x∈st))]
 walk_at "zz"
 rw [ML (by omega)]
 unfold cu
 rw [jS]
 have e:(id∘fun x=>decide (x∈st))=fun x=>decide (x∈st):=rfl
 rw [e]
 cases (a.all fun x=>decide (x∈st))<;>rfl
theorem J4 {fs ss:List Str}{es:List dC} (g:fE fs es) (h:sJ fs ss):ko [fN fs es,aM ss]=.ok .none:=by
 unfold ko
 refine MM (ρ:=[.shr (fN fs es),.shr (aM ss)]) ?_
 unfold kn ca
 walk_at "zz"
 rw [Pj]
 walk_at "zz"
 rw [lY g.rise.ok h (j7 h g.rise.len)]
 walk_at "zz"
theorem Ds {fs ss:List Str}{es:List dC} (g:fE fs es) (h:sJ fs ss):i_ [fN fs es,aM ss]=.ok .none:=by
 unfold i_
 refine MM (ρ:=[.shr (fN fs es),.shr (aM ss)]) ?_
 unfold kq ca
 walk_at "zz"
 rw [Ff g]
 walk_at "zz"
 rw [J4 g h]
 walk_at "zz"
theorem MN (xs:List D):kj (.tuple xs)=.ok (.list xs):=id rfl
structure Hj (e:dC):Prop where
 needs:e.needs.length<=6
 bars:e.bars.length<=6
 makes:e.makes.length<=6
 ends:e.ends.length<=6
theorem qf {fs:List Str}{es:List dC} (g:fE fs es) {e:dC} (he:e∈es):Hj e :=
 ⟨j7 (g.ok e he).needs g.rise.len,j7 (g.ok e he).bars g.rise.len,j7 (g.ok e he).makes g.rise.len,j7 (g.ok e he).ends g.rise.len⟩
theorem W6 (e:dC):bz (dO e) (.int 1)=.ok (aM e.needs):=id rfl
theorem W7 (e:dC):bz (dO e) (.int 2)=.ok (aM e.bars):=id rfl
def Dt (e:dC) (st:List Str):Option (List Str):=if cu st e.needs e.bars then some (srt ((st.filter fun x=>!decide (x∈e.ends))++e.makes)) else none
def MO:Option (List Str)->D
 | none=>.none
 | some s=>aM s
theorem Hk {e:dC} (he:Hj e) {st:List Str} (hs:st.length<=30):iy [dO e,aM st]=.ok (MO (Dt e st)):=by
 have:=he.needs
 have:=he.bars
 have:=he.makes
 unfold iy
 refine db ?_
 unfold oA ca
 walk_at "zz"
 rw [UE]
 walk_at "zz"
 rw [Pm (by omega) (by omega)]
 walk_at "zz"
 unfold Dt
 cases hg:cu st e.needs e.bars with
 | false =>
  walk_at "zz"
  rfl
 | true =>
  walk_at "zz"
  rw [if_pos (by omega)]
  rw [gT _ (fun x:Str=>aS x) (fun x=>aS x) (fun x=>!decide (x∈e.ends)) st fun x hx=>qG (by
   walk_at "zz"
   rw [W0]
   walk_at "zz"
   rw [qe]
   rfl) fun _=>rfl]
  have hf:(st.filter fun x=>!decide (x∈e.ends)).length<=st.length:=kC _ _
  walk_at "zz"
  rw [vf,Hf]
  walk_at "zz"
  rw [V_]
  walk_at "zz"
  rw [MN]
  walk_at "zz"
  rw [if_pos (by omega)]
  walk_at "zz"
  rw [<- bc,xR _ (by rw [aR];omega)]
  walk_at "zz"
  rw [xS _ (by have:=fU ((st.filter fun x=>!decide (x∈e.ends))++e.makes) [];simp only [cB,aR] at this;omega)]
  walk_at "zz"
  rw [gj]
  rfl
theorem MP:∀ {a b:List Str},(a.Pairwise fun x y=>oX x y=true)->(b.Pairwise fun x y=>oX x y=true)->(∀ x,x∈a↔x∈b)->a=b:=by
 intro a b ha hb h
 have na:=kO ha
 have nb:=kO hb
 have p:a.Perm b:=(iN na nb).mpr h
 exact p.eq_of_pairwise (fun x y _ _ h1 h2=>by
  have:=qB h1 h2
  rw [sw] at this
  cases this) ha hb
def bi (e:dC) (st:List Str):List Str:=srt ((st.filter fun x=>!decide (x∈e.ends))++e.makes)
theorem Fi {e:dC}{st:List Str}{x:Str}:x∈bi e st↔(x∈st/\x∉e.ends)\/x∈e.makes:=by
 unfold bi
 rw [mM]
 simp [i5]
theorem A9 (e:dC) (st:List Str):Dt e st=if cu st e.needs e.bars then some (bi e st) else none:=rfl
theorem J5 (s:List Str):MO (some s)=aM s:=rfl
theorem J6:MO none=.none:=rfl
theorem UF (ga gb:az->R (List Str)) (s:Sl) (ρ:az) {xs ys:List Str} (h1:ga (s::ρ)=.ok xs) (h2:gb (s::ρ)=.ok ys) (hl:xs.length + ys.length<=15):M3 ga gb (s::ρ)=.ok (da xs ys):=by
 unfold M3 J.RO
 rw [h1,bind_ok,h2,bind_ok,if_pos hl]
theorem Aa (ss:List Str) (h:ss.length<60):sC (aM ss)=.ok (da [] ss):=by
 have e:∀ ds,sC (.tuple ds)=match eK ds with
  | some ss=>if ss.length<60 then .ok (da [] ss) else .no
  | none=>.no:=fun _=>rfl
 rw [e,strsOf_map]
 simp only [if_pos h]
theorem Sg (xs ys:List Str):jA (da (da [] xs) (da [] ys))=srt (xs++ys):=by
 refine MP (v6 (pS _) ((gR _).nodup_iff.mpr (iq _ _ (iq _ [] fz)))) (Fd _) fun x=>?_
 rw [(gR _).mem_iff,iF,iF,iF,mM,d_]
 simp
theorem J7 {xs ys:List Str} (h:xs.length + ys.length<=12):uq [aM xs,aM ys]=.ok (aM (srt (xs++ys))):=by
 have l1:=fU xs []
 have l2:=fU ys []
 simp only [cB] at l1 l2
 have l3:=fU (da [] ys) (da [] xs)
 unfold uq
 refine db ?_
 unfold uo ca
 walk_at "zz"
 rw [vf,UF _ _ _ _ (Aa xs (by omega)) (Aa ys (by omega)) (by omega)]
 walk_at "zz"
 rw [xS _ (by omega),Sg]
 walk_at "zz"
 rw [gj]
 walk_at "zz"
theorem Fj {xs ys:List Str} (h:xs.length<=60):qL [aM xs,aM ys]=.ok (aM (xs.filter fun x=>!decide (x∈ys))):=by
 unfold qL
 refine db ?_
 unfold qK ca
 walk_at "zz"
 rw [if_pos (by omega)]
 rw [gT _ (fun x:Str=>aS x) (fun x=>aS x) (fun x=>!decide (x∈ys)) xs fun x hx=>qG (by
  walk_at "zz"
  rw [qe]
  rfl) fun _=>rfl]
 walk_at "zz"
 rw [gj]
 walk_at "zz"
theorem UG {i j:Nat}{gs:az->R (List D)}{s:Sl}{ρ:az}{d e:D} (h:gs (s::ρ)=.ok [d,e]):M4 i j gs (s::ρ)=.ok (.nx (((s::ρ).set i (.shr d)).set j (.shr e))):=by
 unfold M4
 rw [h]
 rfl
theorem J8 {e:dC} (he:Hj e) {st:List Str} (hs:st.length<=6):jI [dO e,aM st]=.ok (aM (bi e st)):=by
 have:=he.makes
 have hf:(st.filter fun x=>!decide (x∈e.ends)).length<=st.length:=kC _ _
 unfold jI
 refine db ?_
 unfold jH ca
 walk_at "zz"
 rw [UG (d:=aM e.makes) (e:=aM e.ends) rfl]
 walk_at "zz"
 rw [Fj (by omega)]
 walk_at "zz"
 rw [J7 (by omega)]
 rfl
theorem Ab {e:dC} (he:Hj e) {st:List Str}:kL [dO e,aM st]=.ok (.bool (cu st e.needs e.bars)):=by
 have:=he.needs
 have:=he.bars
 unfold kL
 refine db ?_
 unfold mI ca
 walk_at "zz"
 rw [W6]
 walk_at "zz"
 rw [W7]
 walk_at "zz"
 rw [Fh (by omega) (by omega)]
 walk_at "zz"
abbrev Fk (rs:List dC):D:=.list (rs.map fun e=>aS e.name)
theorem wO {kt:D->az->R az}{gb:az->R Fl}{d:D}{r:List D}{ρ ρ1 ρ2:az} (h1:kt d ρ=.ok ρ1) (h2:gb ρ1=.ok (.nx ρ2)):l5 kt gb (d::r) ρ=l5 kt gb r ρ2:=by
 rw [l5,h1]
 simp only [h2]
def Sh (fs:List Str):List (List Str):=fs.foldl (fun acc f=>acc++acc.map (·++[f])) [[]]
theorem Si {i:Nat}{kt:D->az->R az}{gb:az->R Fl}{ρ:az}{d:D} (h:ρ[i]?=some (Sl.shr d)):uf i kt gb ρ=pi (ll fun ρ=>Ed ρ i) kt gb ρ:=by
 unfold uf
 rw [h]
theorem BA {xs:List Str} (h:∀ x∈xs,yX x=true) (neg:Bool):rN neg (.list (xs.map .str)) (.list (xs.map .str))=.ok (.bool (!neg)):=by
 have e:∀ ds es:List D,a_ (.list ds) (.list es)=a_ (.tuple ds) (.tuple es):=fun _ _=>rfl
 have h1:(eW (xs.map .str)).canLay0=true:=by simp only [fu];exact ut xs h
 have h2:(eW (xs.map .str)).depth<=60:=by
  have:=qY aS 0 (fun x=>by simp [oV]) xs
  simp only [oV]
  omega
 unfold rN
 rw [h1,e,MH,decide_eq_true (bV (Nat.min_le_left _ _) h2)]
 cases neg<;>rfl
theorem BB:∀ (fs:List Str) (acc:List (List Str)) (t u:List Str),t∈acc->u.Sublist fs->t++u∈fs.foldl (fun acc f=>acc++acc.map (·++[f])) acc
 | [],acc,t,u,ht,hu=>by
  cases hu
  rw [cf]
  exact ht
 | f::r,acc,t,u,ht,hu=>by
  rw [cY]
  cases hu with
  | cons _ h=>exact BB r _ t u (bg _ ht) h
  | cons_cons _ h =>
   rename_i u'
   have:=BB r (acc++acc.map (·++[f])) (t++[f]) u' (aF _ (bC ht)) h
   rwa [dQ] at this
theorem MQ {fs xs:List Str} (hf:fs.Pairwise fun a b=>oX a b=true) (h:sJ fs xs):xs.Sublist fs:=by
 have e:xs=fs.filter fun x=>decide (x∈xs):=MP h.up (hf.sublist tH) fun x=>by
  rw [i5,decide_eq_true_eq]
  exact ⟨fun z=>⟨h.mem x z,z⟩,fun z=>z.2⟩
 rw [e]
 exact tH
theorem MR {fs xs:List Str} (hf:fs.Pairwise fun a b=>oX a b=true) (h:sJ fs xs):xs∈Sh fs:=BB fs [[]] [] xs (List.mem_singleton.mpr rfl) (MQ hf h)
def uv:List dC->List Str->Option (List Str)
 | [],st=>some st
 | e::r,st=>if cu st e.needs e.bars then uv r (bi e st) else none
theorem xT {fs st:List Str}{e:dC} (hf:fs.Pairwise fun a b=>oX a b=true) (g:rV fs e) (h:sJ fs st):sJ fs (bi e st):=by
 refine ⟨Fd _,fun x hx=>?_⟩
 rcases Fi.mp hx with z | z
 ·exact h.mem x z.1
 ·exact g.makes.mem x z
def cV (l:List (List Str×D)):List (D×D):=l.map fun p=>(aM p.1,p.2)
abbrev lc (l:List (List Str×D)):List (List Str):=l.map (·.1)
theorem Fm (x:List Str):aM x=tD (x.map hV):=by
 unfold aM tD
 rw [cn]
 rfl
theorem lZ (x:List Str):o_ (aM x)=some (x.map hV):=by rw [Fm,M8]
theorem Pn {a b:List Str} (h:a.map (hV:Str->fD)=b.map hV):a=b:=by
 induction a generalizing b with
 | nil=>cases b with | nil=>rfl | cons _ _=>cases h
 | cons x r ih =>
  cases b with
  | nil=>cases h
  | cons y t =>
   simp only [aw,uT] at h
   rw [ih h.2,Sum.inr.inj h.1]
theorem MS (x y:List Str):a_ (aM x) (aM y)=decide (x=y):=by
 rw [Fm,Fm,Bd]
 by_cases h:x=y
 ·rw [h];simp
 ·rw [decide_eq_false h,decide_eq_false fun z=>h (Pn z)]
theorem Du (l:List (List Str×D)):GJ (cV l)=cV l:=by cases l<;>rfl
theorem oC {l:List (List Str×D)} (h:l≠[]):jD (cV l)=true:=by
 have h2:((cV l).all fun kv=>(o_ kv.1).isSome)=true:=by
  unfold cV
  rw [jS,cg]
  intro p _
  show (o_ (aM p.1)).isSome=true
  rw [lZ]
  rfl
 unfold jD
 rw [h2]
 cases l with
 | nil=>exact (h rfl).elim
 | cons _ _=>rfl
theorem vg (x:List Str):∀ l:List (List Str×D),l9 (cV l) (aM x)=(l.find? fun p=>decide (p.1=x)).map (·.2)
 | []=>rfl
 | p::r=>by
  have ih:=vg x r
  unfold l9 cV at ih ⊢
  rw [aw,bX,bX,MS]
  by_cases h:p.1=x
  ·rw [decide_eq_true h];rfl
  ·rw [decide_eq_false h];exact ih
theorem MT {l:List (List Str×D)} (nd:(lc l).Nodup) {p:List Str×D} (hp:p∈l):(l.find? fun q=>decide (q.1=p.1))=some p:=by
 induction l with
 | nil=>cases hp
 | cons q r ih =>
  obtain ⟨n1,n2⟩:=List.nodup_cons.mp nd
  rw [bX]
  rcases List.mem_cons.mp hp with h | h
  ·subst h;simp
  ·have:q.1≠p.1:=fun z=>n1 (by show q.1∈_;rw [z];exact bC h)
   rw [decide_eq_false this]
   exact ih n2 h
theorem J9 {α:Type}{l:List α}{x:α} (h:x∈l):l≠[]:=fun z=>by rw [z] at h;cases h
theorem Sj {l:List (List Str×D)}{ds:List (D×D)} (hu:GJ ds=cV l) (nd:(lc l).Nodup) {p:List Str×D} (hp:p∈l):M9 (.dict ds) (aM p.1)=.ok p.2:=by
 unfold M9
 simp only [lZ,hu]
 rw [if_pos (oC (J9 hp)),vg,MT nd hp]
 rfl
theorem Hl {l:List (List Str×D)} (nd:(lc l).Nodup) {p:List Str×D} (hp:p∈l):M9 (.dict (cV l)) (aM p.1)=.ok p.2:=Sj (Du l) nd hp
theorem Ac (x:List Str):∀ l:List (List Str×D),((l.find? fun p=>decide (p.1=x)).map (·.2)).isSome=decide (x∈lc l)
 | []=>by simp
 | p::r=>by
  rw [bX]
  by_cases h:p.1=x
  ·rw [decide_eq_true h]
   simp [h]
  ·rw [decide_eq_false h]
   simp only
   rw [Ac x r]
   simp [cQ h]
theorem Hm {l:List (List Str×D)} (h:l≠[]) (x:List Str):OY true (aM x) (.dict (cV l))=.ok (.bool (!decide (x∈lc l))):=by
 unfold OY
 simp only [lZ,Du]
 rw [if_pos (oC h),vg,Ac]
 rfl
theorem MU (l:List (List Str×D)):Be (.dict ((.none,.none)::cV l))=.ok ((lc l).map aM):=by
 show R.ok ((cV l).map (·.1))=_
 unfold cV lc
 rw [cn,cn]
 rfl
theorem Po {l:List (List Str×D)}{x:List Str} (h:x∉lc l) (d:D):wl (cV l) (aM x) d=cV (l++[(x,d)]):=by
 have e:((cV l).any fun kv=>a_ kv.1 (aM x))=false:=by
  unfold cV
  rw [pB,JM]
  intro p hp
  show ¬a_ (aM p.1) (aM x)=true
  rw [MS,decide_eq_true_eq]
  exact fun z=>h (by rw [<- z];exact bC hp)
 unfold wl
 rw [e,if_neg bu]
 unfold cV
 rw [bc]
 rfl
theorem MV {i:Nat}{gk g:az->R D}{ρ:az}{l:List (List Str×D)}{x:List Str}{d:D} (hi:ρ[i]?=some (Sl.own (.dict (cV l)))) (hg:g ρ=.ok d) (hk:gk ρ=.ok (aM x)) (hn:l≠[]) (hl:l.length<1000) (hx:x∉lc l):rQ i gk g ρ=.ok (.nx (ρ.set i (.own (.dict (cV (l++[(x,d)])))))):=by
 have hl':(cV l).length<1000:=by unfold cV;rw [ak];exact hl
 have e:rQ i gk g ρ=(g ρ).bind fun d=>(gk ρ).bind fun k=>match o_ k with
  | some _=>if (cV l).length<1000/\jD (cV l)=true then .ok (.nx (ρ.set i (.own (.dict (wl (cV l) k d))))) else .no
  | none=>.no:=by
  unfold rQ
  simp only [hi]
  try rfl
 rw [e,hg,xC,hk,xC]
 simp only [lZ,if_pos (tF hl' (oC hn)),Po hx]
theorem UH {i:Nat}{g:az->R Fl}{ρ:az}{l:List (List Str×D)} (hn:l≠[]) (h:ρ[i]?=some (Sl.own (.dict (cV l)))):RV i g ρ=g (ρ.set i (.own (.dict ((.none,.none)::cV l)))):=by
 unfold RV
 congr 1
 unfold kJ
 rw [h]
 cases l with
 | nil=>exact (hn rfl).elim
 | cons p r=>rfl
theorem UI {gk gv:az->R D}{s:Sl}{ρ:az}{x:List Str}{d:D} (h1:gk (s::ρ)=.ok (aM x)) (h2:gv (s::ρ)=.ok d):Qz gk gv (s::ρ)=.ok (.dict (cV [(x,d)])):=by
 unfold Qz
 rw [h1,bind_ok,h2,bind_ok]
 simp only [lZ]
 rfl
theorem UJ {g:az->R D}{s:Sl}{ρ:az}{ds:List D} (h:g (s::ρ)=.ok (.list ds)):Bf g (s::ρ)=.ok (!ds.isEmpty):=by
 unfold Bf
 rw [h,bind_ok]
theorem UK (g:az->R D) (s:Sl) (ρ:az):Mb g (s::ρ)=(g (s::ρ)).bind Be:=id rfl
theorem Dv {α:Type} [DecidableEq α] : ∀ {l m:List α},l.Nodup->(∀ x∈l,x∈m)->l.length<=m.length
 | [],_,_,_=>cA _
 | x::r,m,nd,h=>by
  obtain ⟨n1,n2⟩:=List.nodup_cons.mp nd
  have hx:=h x am
  have:=Dv (l:=r) (m:=m.erase x) n2 fun y hy=>(FY fun z=>n1 (by rw [<- z];exact hy)).mpr (h y (ah _ hy))
  rw [BY hx] at this
  have:=Eb hx
  simp only [bw]
  omega
theorem Dw:∀ (fs:List Str) (acc:List (List Str)),(fs.foldl (fun acc f=>acc++acc.map (·++[f])) acc).length=acc.length * 2 ^ fs.length
 | [],acc=>by simp
 | f::r,acc=>by
  rw [cY,Dw r,aR,ak,bw,Nat.pow_succ,<- Nat.two_mul,Eu 2,Nat.mul_assoc,Eu 2]
theorem Pp {fs:List Str} (h:fs.length<=6):(Sh fs).length<=64:=by
 unfold Sh
 rw [Dw]
 have:2 ^ fs.length<=2 ^ 6:=Nat.pow_le_pow_right (by decide) h
 simp only [bw,cB]
 omega
theorem Dx {fs:List Str} (hf:Mv fs 6) {l:List (List Str×D)} (nd:(lc l).Nodup) (h:∀ x∈lc l,sJ fs x):l.length<=64:=by
 have:=Dv nd fun x hx=>MR hf.up (h x hx)
 rw [ak] at this
 exact bV this (Pp hf.len)
def Ny (es:List dC) (st x:List Str):Prop:=∃ rs:List dC,(∀ e∈rs,e∈es)/\uv rs st=some x
theorem qg (e:dC):∀ (rs:List dC) (st x:List Str),uv rs st=some x->cu x e.needs e.bars=true->uv (rs++[e]) st=some (bi e x)
 | [],st,x,h,g=>by cases h;show (if cu st e.needs e.bars then uv [] (bi e st) else none)=_;rw [g];rfl
 | a::r,st,x,h,g=>by
  show (if cu st a.needs a.bars then uv (r++[e]) (bi a st) else none)=_
  have h':(if cu st a.needs a.bars then uv r (bi a st) else none)=some x:=h
  split at h'
  ·rename_i hg
   rw [if_pos hg]
   exact qg e r _ _ h' g
  ·cases h'
theorem sK {es:List dC}{M:List Str->Prop} (hc:∀ x,M x->∀ e∈es,cu x e.needs e.bars=true->M (bi e x)):∀ (rs:List dC) (st x:List Str),M st->(∀ e∈rs,e∈es)->uv rs st=some x->M x
 | [],st,x,hm,_,h=>by cases h;exact hm
 | a::r,st,x,hm,he,h=>by
  have h':(if cu st a.needs a.bars then uv r (bi a st) else none)=some x:=h
  split at h'
  ·rename_i hg
   exact sK hc r _ _ (hc st hm a (he a am) hg) (fun e h=>he e (ah _ h)) h'
  ·cases h'
theorem MW {fs st:List Str}{es:List dC} (g:fE fs es) (hs:sJ fs st):jJ [fN fs es,aM st]=.ok (.list ((es.filter fun e=>cu st e.needs e.bars).map fun e=>dG [dO e,aM (bi e st)])):=by
 have ls:=j7 hs g.rise.len
 have lg:=g.len
 unfold jJ
 refine db ?_
 unfold lm ca
 walk_at "zz"
 rw [MK]
 walk_at "zz"
 rw [if_pos (by omega)]
 rw [gT _ dO (fun e=>dG [dO e,aM (bi e st)]) (fun e=>cu st e.needs e.bars) es fun e he=>qG (by
  walk_at "zz"
  rw [Ab (qf g he)]
  walk_at "zz") fun _=>(by
  walk_at "zz"
  rw [J8 (qf g he) ls]
  walk_at "zz")]
 walk_at "zz"
abbrev LZ:=List (List Str×List dC)
def iz (l:LZ):List (List Str×D):=l.map fun p=>(p.1,Fk p.2)
structure mq (fs st:List Str) (es:List dC) (l:LZ):Prop where
 nd:(l.map (·.1)).Nodup
 beg:(st,[])∈l
 sub:∀ p∈l,sJ fs p.1
 row:∀ p∈l,(∀ e∈p.2,e∈es)/\uv p.2 st=some p.1/\p.2.length<l.length
theorem lG (l:LZ):lc (iz l)=l.map (·.1):=by
 unfold lc iz
 rw [cn]
 rfl
theorem mq.ne {fs st:List Str}{es:List dC}{l:LZ} (h:mq fs st es l):iz l≠[]:=by
 intro z
 have:=List.map_eq_nil_iff.mp z
 have h1:=h.beg
 rw [this] at h1
 cases h1
theorem mq.few {fs st:List Str}{es:List dC}{l:LZ} (g:fE fs es) (h:mq fs st es l):l.length<=64:=by
 have:=Dx g.rise (l:=iz l) (by rw [lG];exact h.nd) fun x hx=>by
  rw [lG] at hx
  obtain ⟨p,hp,rfl⟩:=List.mem_map.mp hx
  exact h.sub p hp
 unfold iz at this
 rw [ak] at this
 exact this
def i0 (at0:List Str) (row:List dC) (b:LZ×List (List Str)) (e:dC):LZ×List (List Str) :=
 if bi e at0∈b.1.map (·.1) then b else (b.1++[(bi e at0,row++[e])],b.2++[bi e at0])
theorem Sk {fs st at0:List Str}{es:List dC}{row:List dC}{b:LZ×List (List Str)}{e:dC} (g:fE fs es) (h:mq fs st es b.1) (hr:(at0,row)∈b.1) (he:e∈es) (hg:cu at0 e.needs e.bars=true):mq fs st es (i0 at0 row b e).1:=by
 unfold i0
 split
 ·exact h
 ·rename_i hn
  obtain ⟨r1,r2,r3⟩:=h.row _ hr
  refine ⟨?_,bg _ h.beg,fun p hp=>?_,fun p hp=>?_⟩
  ·rw [bc]
   exact wC h.nd hn
  ·rcases List.mem_append.mp hp with z | z
   ·exact h.sub p z
   ·rw [List.mem_singleton.mp z]
    exact xT g.rise.up (g.ok e he) (h.sub _ hr)
  ·rw [aR,dn]
   rcases List.mem_append.mp hp with z | z
   ·obtain ⟨k1,k2,k3⟩:=h.row p z
    exact ⟨k1,k2,by omega⟩
   ·rw [List.mem_singleton.mp z]
    refine ⟨fun x hx=>?_,qg e _ _ _ r2 hg,?_⟩
    ·rcases List.mem_append.mp hx with y | y
     ·exact r1 x y
     ·rw [List.mem_singleton.mp y];exact he
    ·show (row++[e]).length<b.1.length + 1
     rw [aR,dn]
     have:row.length<b.1.length:=r3
     omega
theorem Dy (at0:List Str) (row:List dC) (b:LZ×List (List Str)) (e:dC):(∀ p∈b.1,p∈(i0 at0 row b e).1)/\bi e at0∈(i0 at0 row b e).1.map (·.1)/\(∀ x∈(i0 at0 row b e).1.map (·.1),x∈b.1.map (·.1)\/x∈(i0 at0 row b e).2)/\(∀ x∈b.2,x∈(i0 at0 row b e).2)/\(∀ x∈(i0 at0 row b e).2,x∈b.2\/x∈(i0 at0 row b e).1.map (·.1))/\b.1.length + (i0 at0 row b e).2.length=(i0 at0 row b e).1.length + b.2.length:=by
 unfold i0
 split
 ·rename_i h
  exact ⟨fun _ h=>h,h,fun _ h=>.inl h,fun _ h=>h,fun _ h=>.inl h,rfl⟩
 ·refine ⟨fun p hp=>bg _ hp,?_,fun x hx=>?_,fun x hx=>bg _ hx,fun x hx=>?_,?_⟩
  ·rw [bc];exact aF _ am
  ·rw [bc] at hx
   rcases List.mem_append.mp hx with z | z
   ·exact .inl z
   ·exact .inr (aF _ z)
  ·rcases List.mem_append.mp hx with z | z
   ·exact .inl z
   ·rw [bc];exact .inr (aF _ z)
  ·simp only [aR,dn]
   omega
def V3:az->R Fl:=(h_ (ik (g2 (rB 7) (rB 2) (OY true))) (bp (rQ 2 (rS 7) (g2 (g2 (rB 2) (rB 5) M9) (fg (J.ag (g2 (rB 6) (kI 0) bz) J.aT) .list) dL)) (sB 4 (rS 7))) (fun ρ=>.ok (.nx ρ)))
def Ja:az->R Fl:=pi (ll (gZ 2 jJ (J.ag (rS 0) (J.ag (rS 5) J.aT)))) (nC 2 (cX (cb 6) (cX (cb 7) ph))) V3
def UL:az->R Fl:=bp (hG 4 (fg J.aT .list)) (bp (uf 3 (cb 5) Ja) (Qa 4 (i7 3 (rS 4))))
theorem MX:lr=bp (hG 2 (Qz (rS 1) (fg J.aT .list))) (bp (hG 3 (fg (J.ag (rS 1) J.aT) .list)) (bp (iS (Bf (rB 3)) UL 100000) (RV 2 (eM (rS 2))))):=rfl
theorem MY {l:LZ}{p:List Str×List dC} (h:p∈l):(p.1,Fk p.2)∈iz l:=bC (f:=fun p:List Str×List dC=>(p.1,Fk p.2)) h
theorem Sn {fs st:List Str}{es:List dC}{l:LZ} (h:mq fs st es l) {at0:List Str}{row:List dC} (hr:(at0,row)∈l):M9 (.dict (cV (iz l))) (aM at0)=.ok (Fk row):=by
 have:=Hl (l:=iz l) (by rw [lG];exact h.nd) (MY hr)
 exact this
theorem MZ (l:LZ) (x:List Str) (r:List dC):iz (l++[(x,r)])=iz l++[(x,Fk r)]:=by
 unfold iz
 rw [bc]
 rfl
theorem Pq {fs st at0:List Str}{es:List dC}{row:List dC} (g:fE fs es) (B S:D) (o3 z6 z7:Sl) {b:LZ×List (List Str)}{e:dC} (h:mq fs st es b.1) (hr:(at0,row)∈b.1) (hl:b.2.length<=b.1.length) :
  V3 [.shr B,.shr S,.own (.dict (cV (iz b.1))),o3,.own (.list (b.2.map aM)),.shr (aM at0),.shr (dO e),.shr (aM (bi e at0))]=.ok (.nx [.shr B,.shr S,.own (.dict (cV (iz (i0 at0 row b e).1))),o3,.own (.list ((i0 at0 row b e).2.map aM)),.shr (aM at0),.shr (dO e),.shr (aM (bi e at0))]):=by
 have few:=h.few g
 have rl:=(h.row _ hr).2.2
 have k64:row.length<b.1.length:=rl
 unfold V3
 walk_at "zz"
 rw [Hm h.ne,lG]
 unfold i0
 by_cases hm:bi e at0∈b.1.map (·.1)
 ·rw [if_pos hm,decide_eq_true hm]
  walk_at "zz"
 ·rw [if_neg hm,decide_eq_false hm]
  walk_at "zz"
  rw [MV (l:=iz b.1) (x:=bi e at0) (d:=Fk (row++[e])) rfl ?_ rfl h.ne (by unfold iz;rw [ak];omega) (by rw [lG];exact hm)]
  ·walk_at "zz"
   rw [Dr (ds:=b.2.map aM) (d:=aM (bi e at0)) rfl rfl (by rw [ak];omega),MZ,bc]
   rfl
  ·walk_at "zz"
   rw [Sn h hr]
   walk_at "zz"
   rw [Pl]
   walk_at "zz"
   rw [if_pos (by omega)]
   simp only [Fk,bc]
   rfl
theorem Dz {fs st at0:List Str}{es:List dC}{row:List dC}:∀ (xs:List dC) (b:LZ×List (List Str)),(∀ p∈b.1,p∈(xs.foldl (i0 at0 row) b).1)/\(∀ e∈xs,bi e at0∈(xs.foldl (i0 at0 row) b).1.map (·.1))/\(∀ x∈(xs.foldl (i0 at0 row) b).1.map (·.1),x∈b.1.map (·.1)\/x∈(xs.foldl (i0 at0 row) b).2)/\(∀ x∈b.2,x∈(xs.foldl (i0 at0 row) b).2)/\(∀ x∈(xs.foldl (i0 at0 row) b).2,x∈b.2\/x∈(xs.foldl (i0 at0 row) b).1.map (·.1))/\b.1.length + (xs.foldl (i0 at0 row) b).2.length=(xs.foldl (i0 at0 row) b).1.length + b.2.length
 | [],b=>⟨fun _ h=>h,fun _ h=>(nomatch h),fun _ h=>.inl h,fun _ h=>h,fun _ h=>.inl h,rfl⟩
 | e::r,b=>by
  obtain ⟨a1,a2,a3,a4,a5,a6⟩:=Dy at0 row b e
  obtain ⟨b1,b2,b3,b4,b5,b6⟩:=Dz (fs:=fs) (st:=st) (es:=es) r (i0 at0 row b e)
  rw [cY]
  have km:∀ x∈(i0 at0 row b e).1.map (·.1),x∈(r.foldl (i0 at0 row) (i0 at0 row b e)).1.map (·.1):=fun x hx=>by
   obtain ⟨p,hp,rfl⟩:=List.mem_map.mp hx
   exact bC (b1 p hp)
  refine ⟨fun p hp=>b1 p (a1 p hp),fun x hx=>?_,fun x hx=>?_,fun x hx=>b4 x (a4 x hx),fun x hx=>?_,by omega⟩
  ·rcases List.mem_cons.mp hx with z | z
   ·rw [z];exact km _ a2
   ·exact b2 x z
  ·rcases b3 x hx with z | z
   ·rcases a3 x z with y | y
    ·exact .inl y
    ·exact .inr (b4 x y)
   ·exact .inr z
  ·rcases b5 x hx with z | z
   ·rcases a5 x z with y | y
    ·exact .inl y
    ·exact .inr (km x y)
   ·exact .inr z
theorem So {fs st at0:List Str}{es:List dC}{row:List dC} (g:fE fs es) (B S:D) (o3 z6 z7:Sl) {b:LZ×List (List Str)} (h:mq fs st es b.1) (hr:(at0,row)∈b.1) (hl:b.2.length<=b.1.length) (xs:List dC) (hx:∀ e∈xs,e∈es/\cu at0 e.needs e.bars=true) :
  mq fs st es (xs.foldl (i0 at0 row) b).1/\∃ y6 y7,l5 (nC 2 (cX (cb 6) (cX (cb 7) ph))) V3 (xs.map fun e=>dG [dO e,aM (bi e at0)]) [.shr B,.shr S,.own (.dict (cV (iz b.1))),o3,.own (.list (b.2.map aM)),.shr (aM at0),z6,z7]=.ok (.nx [.shr B,.shr S,.own (.dict (cV (iz (xs.foldl (i0 at0 row) b).1))),o3,.own (.list ((xs.foldl (i0 at0 row) b).2.map aM)),.shr (aM at0),y6,y7]):=by
 induction xs generalizing b z6 z7 with
 | nil=>exact ⟨h,z6,z7,rfl⟩
 | cons e r ih =>
  obtain ⟨he,hg⟩:=hx e am
  obtain ⟨a1,a2,a3,a4,a5,a6⟩:=Dy at0 row b e
  have h':=Sk g h hr he hg
  obtain ⟨q1,y6,y7,q2⟩:=ih (.shr (dO e)) (.shr (aM (bi e at0))) h' (a1 _ hr) (by omega) fun x z=>hx x (ah _ z)
  refine ⟨q1,y6,y7,?_⟩
  rw [aw,wO (ρ1:=[.shr B,.shr S,.own (.dict (cV (iz b.1))),o3,.own (.list (b.2.map aM)),.shr (aM at0),.shr (dO e),.shr (aM (bi e at0))]) rfl (Pq g B S o3 z6 z7 h hr hl)]
  exact q2
def BC (l:LZ) (x:List Str):List dC:=((l.find? fun p=>decide (p.1=x)).map (·.2)).getD []
theorem DA {l:LZ}{x:List Str} (h:x∈l.map (·.1)):(x,BC l x)∈l:=by
 unfold BC
 induction l with
 | nil=>cases h
 | cons p r ih =>
  rw [bX]
  by_cases hp:p.1=x
  ·rw [decide_eq_true hp]
   subst hp
   exact am
  ·rw [decide_eq_false hp]
   rcases List.mem_cons.mp h with z | z
   ·exact (hp z.symm).elim
   ·exact ah _ (ih z)
def l_ (es:List dC) (b:LZ×List (List Str)) (x:List Str):LZ×List (List Str):=(es.filter fun e=>cu x e.needs e.bars).foldl (i0 x (BC b.1 x)) b
theorem M_ {fs st at0:List Str}{es:List dC} (g:fE fs es) (S:D) (o3 z6 z7:Sl) {b:LZ×List (List Str)} (h:mq fs st es b.1) (hr:at0∈b.1.map (·.1)) (hl:b.2.length<=b.1.length) :
  mq fs st es (l_ es b at0).1/\∃ y6 y7,Ja [.shr (fN fs es),.shr S,.own (.dict (cV (iz b.1))),o3,.own (.list (b.2.map aM)),.shr (aM at0),z6,z7]=.ok (.nx [.shr (fN fs es),.shr S,.own (.dict (cV (iz (l_ es b at0).1))),o3,.own (.list ((l_ es b at0).2.map aM)),.shr (aM at0),y6,y7]):=by
 have hm:=DA hr
 obtain ⟨q1,y6,y7,q2⟩:=So g (fN fs es) S o3 z6 z7 h hm hl (es.filter fun e=>cu at0 e.needs e.bars) fun e he=>List.mem_filter.mp he
 refine ⟨q1,y6,y7,?_⟩
 unfold Ja
 rw [uh (ds:=(es.filter fun e=>cu at0 e.needs e.bars).map fun e=>dG [dO e,aM (bi e at0)])]
 ·exact q2
 ·walk_at "zz"
  rw [MW g (h.sub _ hm)]
  walk_at "zz"
theorem Ho (es:List dC) (b:LZ×List (List Str)) (x:List Str):(∀ p∈b.1,p∈(l_ es b x).1)/\(∀ e∈es,cu x e.needs e.bars=true->bi e x∈(l_ es b x).1.map (·.1))/\(∀ y∈(l_ es b x).1.map (·.1),y∈b.1.map (·.1)\/y∈(l_ es b x).2)/\(∀ y∈b.2,y∈(l_ es b x).2)/\(∀ y∈(l_ es b x).2,y∈b.2\/y∈(l_ es b x).1.map (·.1))/\b.1.length + (l_ es b x).2.length=(l_ es b x).1.length + b.2.length:=by
 obtain ⟨b1,b2,b3,b4,b5,b6⟩:=Dz (fs:=[]) (st:=[]) (es:=es) (at0:=x) (row:=BC b.1 x) (es.filter fun e=>cu x e.needs e.bars) b
 exact ⟨b1,fun e he hg=>b2 e (List.mem_filter.mpr ⟨he,hg⟩),b3,b4,b5,b6⟩
theorem vh (es:List dC):∀ (ring:List (List Str)) (b:LZ×List (List Str)),(∀ p∈b.1,p∈(ring.foldl (l_ es) b).1)/\(∀ x∈ring,∀ e∈es,cu x e.needs e.bars=true->bi e x∈(ring.foldl (l_ es) b).1.map (·.1))/\(∀ y∈(ring.foldl (l_ es) b).1.map (·.1),y∈b.1.map (·.1)\/y∈(ring.foldl (l_ es) b).2)/\(∀ y∈b.2,y∈(ring.foldl (l_ es) b).2)/\(∀ y∈(ring.foldl (l_ es) b).2,y∈b.2\/y∈(ring.foldl (l_ es) b).1.map (·.1))/\b.1.length + (ring.foldl (l_ es) b).2.length=(ring.foldl (l_ es) b).1.length + b.2.length
 | [],b=>⟨fun _ h=>h,fun _ h=>(nomatch h),fun _ h=>.inl h,fun _ h=>h,fun _ h=>.inl h,rfl⟩
 | x::r,b=>by
  obtain ⟨a1,a2,a3,a4,a5,a6⟩:=Ho es b x
  obtain ⟨b1,b2,b3,b4,b5,b6⟩:=vh es r (l_ es b x)
  rw [cY]
  have km:∀ y∈(l_ es b x).1.map (·.1),y∈(r.foldl (l_ es) (l_ es b x)).1.map (·.1):=fun y hy=>by
   obtain ⟨p,hp,rfl⟩:=List.mem_map.mp hy
   exact bC (b1 p hp)
  refine ⟨fun p hp=>b1 p (a1 p hp),fun y hy e he hg=>?_,fun y hy=>?_,fun y hy=>b4 y (a4 y hy),fun y hy=>?_,by omega⟩
  ·rcases List.mem_cons.mp hy with z | z
   ·subst z;exact km _ (a2 e he hg)
   ·exact b2 y z e he hg
  ·rcases b3 y hy with z | z
   ·rcases a3 y z with w | w
    ·exact .inl w
    ·exact .inr (b4 y w)
   ·exact .inr z
  ·rcases b5 y hy with z | z
   ·rcases a5 y z with w | w
    ·exact .inl w
    ·exact .inr (km y w)
   ·exact .inr z
theorem N0 {fs st:List Str}{es:List dC} (g:fE fs es) (S:D) (o3 z5 z6 z7:Sl) {b:LZ×List (List Str)} (h:mq fs st es b.1) (hl:b.2.length<=b.1.length) (ring:List (List Str)) (hx:∀ x∈ring,x∈b.1.map (·.1)) :
  mq fs st es (ring.foldl (l_ es) b).1/\∃ y5 y6 y7,l5 (cb 5) Ja (ring.map aM) [.shr (fN fs es),.shr S,.own (.dict (cV (iz b.1))),o3,.own (.list (b.2.map aM)),z5,z6,z7]=.ok (.nx [.shr (fN fs es),.shr S,.own (.dict (cV (iz (ring.foldl (l_ es) b).1))),o3,.own (.list ((ring.foldl (l_ es) b).2.map aM)),y5,y6,y7]):=by
 induction ring generalizing b z5 z6 z7 with
 | nil=>exact ⟨h,z5,z6,z7,rfl⟩
 | cons x r ih =>
  obtain ⟨a1,a2,a3,a4,a5,a6⟩:=Ho es b x
  obtain ⟨h',y6,y7,q⟩:=M_ g S o3 z6 z7 h (hx x am) hl
  obtain ⟨q1,w5,w6,w7,q2⟩:=ih (.shr (aM x)) y6 y7 h' (by omega) fun y hy=>by
   obtain ⟨p,hp,e⟩:=List.mem_map.mp (hx y (ah _ hy))
   rw [<- e]
   exact bC (a1 p hp)
  refine ⟨q1,w5,w6,w7,?_⟩
  rw [aw,wO (ρ1:=[.shr (fN fs es),.shr S,.own (.dict (cV (iz b.1))),o3,.own (.list (b.2.map aM)),.shr (aM x),z6,z7]) rfl q]
  exact q2
theorem Pr {fs st:List Str}{es:List dC} (g:fE fs es) (S:D) (o3 z4 z5 z6 z7:Sl) {l:LZ} (h:mq fs st es l) (ring:List (List Str)) (hx:∀ x∈ring,x∈l.map (·.1)) (ho:o3=.own (.list (ring.map aM))\/o3=.shr (.list (ring.map aM))) :
  mq fs st es (ring.foldl (l_ es) (l,[])).1/\∃ y4 y5 y6 y7,UL [.shr (fN fs es),.shr S,.own (.dict (cV (iz l))),o3,z4,z5,z6,z7]=.ok (.nx [.shr (fN fs es),.shr S,.own (.dict (cV (iz (ring.foldl (l_ es) (l,[])).1))),.shr (.list ((ring.foldl (l_ es) (l,[])).2.map aM)),y4,y5,y6,y7]):=by
 have L:=fun o=>N0 g S o z5 z6 z7 (b:=(l,[])) h (cA _) ring hx
 unfold UL
 walk_at "zz"
 rcases ho with ho | ho
 ·subst ho
  obtain ⟨q1,y5,y6,y7,q2⟩:=L (.lck (.list (ring.map aM)))
  refine ⟨q1,.shr (.list ((ring.foldl (l_ es) (l,[])).2.map aM)),y5,y6,y7,?_⟩
  have e:uf 3 (cb 5) Ja [.shr (fN fs es),.shr S,.own (.dict (cV (iz l))),.own (.list (ring.map aM)),.own (.list []),z5,z6,z7]=.ok (.nx [.shr (fN fs es),.shr S,.own (.dict (cV (iz (ring.foldl (l_ es) (l,[])).1))),.own (.list (ring.map aM)),.own (.list ((ring.foldl (l_ es) (l,[])).2.map aM)),y5,y6,y7]):=by
   show Wu 3 _ (l5 (cb 5) Ja (ring.map aM) [.shr (fN fs es),.shr S,.own (.dict (cV (iz l))),.lck (.list (ring.map aM)),.own (.list []),z5,z6,z7])=_
   have q2':=q2
   rw [eZ] at q2'
   rw [q2']
   rfl
  rw [e]
  walk_at "zz"
  simp only [Qa]
  rw [Ba rfl]
  walk_at "zz"
 ·subst ho
  obtain ⟨q1,y5,y6,y7,q2⟩:=L (.shr (.list (ring.map aM)))
  refine ⟨q1,.shr (.list ((ring.foldl (l_ es) (l,[])).2.map aM)),y5,y6,y7,?_⟩
  rw [Si (d:=.list (ring.map aM)) rfl,uh (ds:=ring.map aM)]
  ·have q2':=q2
   rw [eZ] at q2'
   rw [q2']
   walk_at "zz"
   simp only [Qa]
   rw [Ba rfl]
   walk_at "zz"
  ·walk_at "zz"
structure Ps (fs st:List Str) (es:List dC) (l:LZ):Prop where
 ok:mq fs st es l
 all:∀ x∈l.map (·.1),∀ e∈es,cu x e.needs e.bars=true->bi e x∈l.map (·.1)
theorem DB {fs st:List Str}{es:List dC} (g:fE fs es) (S:D) (P:LZ->List (List Str)->Prop) (hP:∀ l ring,mq fs st es l->(∀ x∈ring,x∈l.map (·.1))->mq fs st es (ring.foldl (l_ es) (l,[])).1->P l ring->P (ring.foldl (l_ es) (l,[])).1 (ring.foldl (l_ es) (l,[])).2):∀ (k fuel:Nat) (o3 z4 z5 z6 z7:Sl) (l:LZ) (ring:List (List Str)),mq fs st es l->(∀ x∈ring,x∈l.map (·.1))->(∀ x∈l.map (·.1),x∉ring->∀ e∈es,cu x e.needs e.bars=true->bi e x∈l.map (·.1)) ->
  (o3=.own (.list (ring.map aM))\/o3=.shr (.list (ring.map aM)))->P l ring->65 - l.length + (if ring=[] then 0 else 1)<=k->k<fuel ->
  ∃ l' y3 y4 y5 y6 y7,(Ps fs st es l'/\P l' [])/\iS (Bf (rB 3)) UL fuel [.shr (fN fs es),.shr S,.own (.dict (cV (iz l))),o3,z4,z5,z6,z7]=.ok (.nx [.shr (fN fs es),.shr S,.own (.dict (cV (iz l'))),y3,y4,y5,y6,y7])
 | _,0,_,_,_,_,_,_,_,_,_,_,_,_,_,hf=>absurd hf (lO _)
 | k,fuel + 1,o3,z4,z5,z6,z7,l,ring,h,hx,hc,ho,hp,hk,hf=>by
  have ht:Bf (rB 3) [.shr (fN fs es),.shr S,.own (.dict (cV (iz l))),o3,z4,z5,z6,z7]=.ok (!(ring.map aM).isEmpty):=UJ (by rcases ho with z | z<;>subst z<;>rfl)
  rw [iS,ht]
  cases ring with
  | nil=>exact ⟨l,o3,z4,z5,z6,z7,⟨⟨h,fun x hx=>hc x hx (fun z=>nomatch z)⟩,hp⟩,rfl⟩
  | cons x r =>
   obtain ⟨h',y4,y5,y6,y7,q⟩:=Pr g S o3 z4 z5 z6 z7 h (x::r) hx ho
   obtain ⟨a1,a2,a3,a4,a5,a6⟩:=vh es (x::r) (l,[])
   have few:=h'.few g
   have few0:=h.few g
   simp only [cB,mi] at a6
   rw [if_neg (by simp)] at hk
   have hk':65 - ((x::r).foldl (l_ es) (l,[])).1.length + (if ((x::r).foldl (l_ es) (l,[])).2=[] then 0 else 1)<=k - 1:=by
    by_cases hz:((x::r).foldl (l_ es) (l,[])).2=[]
    ·rw [if_pos hz]
     rw [hz] at a6
     simp only [cB,mi] at a6
     omega
    ·rw [if_neg hz]
     have:=List.length_pos_iff.mpr hz
     omega
   obtain ⟨l',w3,w4,w5,w6,w7,e1,e2⟩:=DB g S P hP (k - 1) fuel (.shr (.list (((x::r).foldl (l_ es) (l,[])).2.map aM))) y4 y5 y6 y7 _ _ h' (fun y hy=>by
    rcases a5 y hy with z | z
    ·cases z
    ·exact z) (fun y hy hn e he hg=>by
    rcases a3 y hy with z | z
    ·by_cases hm:y∈x::r
     ·exact a2 y hm e he hg
     ·obtain ⟨p,hp,e'⟩:=List.mem_map.mp (hc y z hm e he hg)
      rw [<- e']
      exact bC (a1 p hp)
    ·exact (hn z).elim) (.inr rfl) (hP l (x::r) h hx h' hp) hk' (by omega)
   refine ⟨l',w3,w4,w5,w6,w7,e1,?_⟩
   simp only [aw,List.isEmpty_cons,iO]
   rw [q]
   exact e2
structure W8 (es:List dC) (l:LZ):Prop where
 cls:∀ p∈l,∀ e∈es,cu p.1 e.needs e.bars=true->∃ q∈l,q.1=bi e p.1/\q.2.length<=p.2.length + 1
 up:l.Pairwise fun p q=>p.2.length<=q.2.length
structure Sq (es:List dC) (l:LZ) (ring:List (List Str)) (d:Nat):Prop where
 top:∀ p∈l,p.2.length<=d
 rin:∀ p∈l,p.1∈ring->p.2.length=d
 cls:∀ p∈l,p.1∉ring->∀ e∈es,cu p.1 e.needs e.bars=true->∃ q∈l,q.1=bi e p.1/\q.2.length<=p.2.length + 1
 up:l.Pairwise fun p q=>p.2.length<=q.2.length
theorem xU (at0:List Str) (row:List dC):∀ (xs:List dC) (b:LZ×List (List Str)),∃ t:LZ,xs.foldl (i0 at0 row) b=(b.1++t,b.2++t.map (·.1))/\∀ p∈t,p.2.length=row.length + 1
 | [],b=>⟨[],by simp,fun _ h=>(nomatch h)⟩
 | e::r,b=>by
  rw [cY]
  by_cases hm:bi e at0∈b.1.map (·.1)
  ·have:i0 at0 row b e=b:=by unfold i0;rw [if_pos hm]
   rw [this]
   exact xU at0 row r b
  ·have:i0 at0 row b e=(b.1++[(bi e at0,row++[e])],b.2++[bi e at0]):=by unfold i0;rw [if_neg hm]
   rw [this]
   obtain ⟨t,h1,h2⟩:=xU at0 row r (b.1++[(bi e at0,row++[e])],b.2++[bi e at0])
   refine ⟨(bi e at0,row++[e])::t,by rw [h1];simp,fun p hp=>?_⟩
   rcases List.mem_cons.mp hp with z | z
   ·subst z;simp
   ·exact h2 p z
theorem N1 {l t:LZ}{x:List Str} (h:x∈l.map (·.1)):BC (l++t) x=BC l x:=by
 unfold BC
 rw [List.find?_append]
 cases hf:l.find? fun p=>decide (p.1=x) with
 | some p=>rfl
 | none =>
  obtain ⟨p,hp,e⟩:=List.mem_map.mp h
  have:=List.find?_eq_none.mp hf p hp
  simp [e] at this
theorem DC (es:List dC) (d:Nat):∀ (ring:List (List Str)) (b:LZ×List (List Str)),(∀ x∈ring,x∈b.1.map (·.1))->(∀ x∈ring,(BC b.1 x).length=d)->∃ t:LZ,ring.foldl (l_ es) b=(b.1++t,b.2++t.map (·.1))/\∀ p∈t,p.2.length=d + 1
 | [],b,_,_=>⟨[],by simp,fun _ h=>(nomatch h)⟩
 | x::r,b,hx,hd=>by
  rw [cY]
  obtain ⟨t,h1,h2⟩:=xU x (BC b.1 x) (es.filter fun e=>cu x e.needs e.bars) b
  have e1:l_ es b x=(b.1++t,b.2++t.map (·.1)):=h1
  rw [e1]
  obtain ⟨t2,h3,h4⟩:=DC es d r (b.1++t,b.2++t.map (·.1)) (fun y hy=>by rw [bc];exact bg _ (hx y (ah _ hy))) (fun y hy=>by rw [N1 (hx y (ah _ hy))];exact hd y (ah _ hy))
  refine ⟨t++t2,by rw [h3];simp,fun p hp=>?_⟩
  rcases List.mem_append.mp hp with z | z
  ·rw [h2 p z,hd x am]
  ·exact h4 p z
theorem Jb {fs st:List Str}{es:List dC}{l:LZ}{ring:List (List Str)} (hx:∀ x∈ring,x∈l.map (·.1)) (h':mq fs st es (ring.foldl (l_ es) (l,[])).1) (hp:∃ d,Sq es l ring d):∃ d,Sq es (ring.foldl (l_ es) (l,[])).1 (ring.foldl (l_ es) (l,[])).2 d:=by
 obtain ⟨d,D⟩:=hp
 obtain ⟨a1,a2,a3,a4,a5,a6⟩:=vh es ring (l,[])
 obtain ⟨t,e,ht⟩:=DC es d ring (l,[]) hx fun x hr=>D.rin _ (DA (hx x hr)) hr
 have nd:=h'.nd
 rw [e] at nd a2 ⊢
 rw [bc] at nd
 simp only [lF] at *
 have top:∀ p∈l++t,p.2.length<=d + 1:=fun p hp=>by
  rcases List.mem_append.mp hp with z | z
  ·exact v_ (D.top p z)
  ·exact Nat.le_of_eq (ht p z)
 refine ⟨d + 1,top,fun p hp hr=>?_,fun p hp hr e he hg=>?_,?_⟩
 ·rcases List.mem_append.mp hp with z | z
  ·exact ((List.nodup_append.mp nd).2.2 p.1 (bC z) p.1 hr rfl).elim
  ·exact ht p z
 ·rcases List.mem_append.mp hp with z | z
  ·by_cases hm:p.1∈ring
   ·obtain ⟨q,hq,eq⟩:=List.mem_map.mp (a2 p.1 hm e he hg)
    exact ⟨q,hq,eq,by rw [D.rin p z hm];exact top q hq⟩
   ·obtain ⟨q,hq,eq,hl⟩:=D.cls p z hm e he hg
    exact ⟨q,bg _ hq,eq,hl⟩
  ·exact (hr (bC z)).elim
 ·refine List.pairwise_append.mpr ⟨D.up,?_,fun p hp q hq=>by rw [ht q hq];exact v_ (D.top p hp)⟩
  exact vC fun p hp q hq=>by rw [ht p hp,ht q hq];exact ar _
theorem DD {fs st:List Str}{es:List dC} (g:fE fs es) (hs:sJ fs st):∃ l,(Ps fs st es l/\W8 es l)/\jK [fN fs es,aM st]=.ok (.dict ((.none,.none)::cV (iz l))):=by
 have h0:mq fs st es [(st,[])]:=⟨by simp,List.mem_singleton.mpr rfl,fun p hp=>by rw [List.mem_singleton.mp hp];exact hs,fun p hp=>by rw [List.mem_singleton.mp hp];exact ⟨fun _ h=>(nomatch h),rfl,by simp⟩⟩
 obtain ⟨l,y3,y4,y5,y6,y7,⟨e1,d,n1⟩,e2⟩:=DB g (aM st) (fun l ring=>∃ d,Sq es l ring d) (fun l ring _ hx h' hp=>Jb hx h' hp) 65 100000 (.own (.list ([st].map aM))) .no .no .no .no [(st,[])] [st] h0 (fun x hx=>hx) (fun x hx hn=>(hn hx).elim) (.inl rfl) ⟨0,fun p hp=>by rw [List.mem_singleton.mp hp];exact ar _,fun p hp _=>by rw [List.mem_singleton.mp hp];rfl,fun p hp hn=>by rw [List.mem_singleton.mp hp] at hn;exact (hn am).elim,by simp⟩ (by simp) (by decide)
 refine ⟨l,⟨e1,fun p hp e he hg=>n1.cls p hp (fun z=>nomatch z) e he hg,n1.up⟩,?_⟩
 unfold jK
 refine db ?_
 rw [MX]
 unfold ca
 walk_at "zz"
 rw [UI (x:=st) (d:=.list []) rfl rfl]
 walk_at "zz"
 have e2':iS (Bf (rB 3)) UL 100000 [.shr (fN fs es),.shr (aM st),.own (.dict (cV [(st,.list [])])),.own (.list [aM st]),.no,.no,.no,.no]=_:=e2
 rw [e2']
 walk_at "zz"
 rw [UH e1.ok.ne rfl]
 walk_at "zz"
def V4:az->R Fl:=(bp (i7 6 (gZ 2 iy (J.ag (rS 5) (J.ag (g2 (rB 3) (rB 4) bz) J.aT)))) (h_ (AU (ik (g2 (rB 6) kN (Gb true))) (ik (g2 (rB 6) (rB 2) (OY true)))) (bp (rQ 2 (rS 6) (g2 (g2 (rB 2) (g2 (rB 3) (rB 4) bz) M9) (kI 1) dL)) (sB 3 (rS 6))) (fun ρ=>.ok (.nx ρ))))
def UM:az->R Fl:=bp (pi (ll (g2 (rB 0) (kI 1) bz)) (cb 5) V4) (i7 4 (g2 (rB 4) (kI 1) dL))
theorem N5:lu=bp (hG 2 (Qz (rS 1) (kI 0))) (bp (hG 3 (fg (J.ag (rS 1) J.aT) .list)) (bp (i7 4 (kI 0)) (bp (iS (ik (g2 (rB 4) (cx (J.ag (rB 3) J.aT) (iZ mo)) yT)) UM 100000) (RV 2 (eM (rS 2)))))):=rfl
abbrev NZ:=List (List Str×Int)
def kP (l:NZ):List (List Str×D):=l.map fun p=>(p.1,.int p.2)
theorem lH (l:NZ):lc (kP l)=l.map (·.1):=by
 unfold lc kP
 rw [cn]
 rfl
structure JK (fs st:List Str) (es:List dC) (l:NZ):Prop where
 nd:(l.map (·.1)).Nodup
 beg:st∈l.map (·.1)
 sub:∀ x∈l.map (·.1),sJ fs x
 rch:∀ x∈l.map (·.1),Ny es st x
theorem JK.ne {fs st:List Str}{es:List dC}{l:NZ} (h:JK fs st es l):kP l≠[]:=by
 intro z
 have:=List.map_eq_nil_iff.mp z
 have h1:=h.beg
 rw [this] at h1
 cases h1
theorem JK.few {fs st:List Str}{es:List dC}{l:NZ} (g:fE fs es) (h:JK fs st es l):l.length<=64:=by
 have:=Dx g.rise (l:=kP l) (by rw [lH];exact h.nd) fun x hx=>by
  rw [lH] at hx
  exact h.sub x hx
 unfold kP at this
 rw [ak] at this
 exact this
def m5 (x:List Str) (n:Int) (l:NZ) (e:dC):NZ :=
 if cu x e.needs e.bars=true/\bi e x∉l.map (·.1) then l++[(bi e x,n + 1)] else l
theorem Pt {fs st x:List Str}{es:List dC}{n:Int}{l:NZ}{e:dC} (g:fE fs es) (h:JK fs st es l) (hx:x∈l.map (·.1)) (he:e∈es):JK fs st es (m5 x n l e)/\(∀ p∈l,p∈m5 x n l e)/\(∃ t,m5 x n l e=l++t)/\(cu x e.needs e.bars=true->bi e x∈(m5 x n l e).map (·.1)):=by
 unfold m5
 by_cases hc:cu x e.needs e.bars=true/\bi e x∉l.map (·.1)
 ·rw [if_pos hc]
  obtain ⟨rs,r1,r2⟩:=h.rch x hx
  refine ⟨⟨?_,?_,fun y hy=>?_,fun y hy=>?_⟩,fun p hp=>bg _ hp,⟨_,rfl⟩,fun _=>?_⟩
  ·rw [bc];exact wC h.nd hc.2
  ·rw [bc];exact bg _ h.beg
  ·rw [bc] at hy
   rcases List.mem_append.mp hy with z | z
   ·exact h.sub y z
   ·rw [List.mem_singleton.mp z];exact xT g.rise.up (g.ok e he) (h.sub x hx)
  ·rw [bc] at hy
   rcases List.mem_append.mp hy with z | z
   ·exact h.rch y z
   ·rw [List.mem_singleton.mp z]
    refine ⟨rs++[e],fun a ha=>?_,qg e _ _ _ r2 hc.1⟩
    rcases List.mem_append.mp ha with w | w
    ·exact r1 a w
    ·rw [List.mem_singleton.mp w];exact he
  ·rw [bc];exact aF _ am
 ·rw [if_neg hc]
  exact ⟨h,fun _ h=>h,⟨[],(cf _).symm⟩,fun hg=>Classical.byContradiction fun z=>hc ⟨hg,z⟩⟩
theorem Sr {l:NZ}{j:Nat}{x:List Str} (h:(l.map (·.1))[j]?=some x):bz (.list ((l.map (·.1)).map aM)) (.int (j:Nat))=.ok (aM x):=wB (by rw [aN,h];rfl)
theorem UN {fs st x:List Str}{es:List dC}{n:Int} (g:fE fs es) (B S:D) (j:Nat) (z6:Sl) {l:NZ}{e:dC} (h:JK fs st es l) (hj:(l.map (·.1))[j]?=some x) (hn:(x,n)∈l) (he:e∈es) :
  ∃ y6,V4 [.shr B,.shr S,.own (.dict (cV (kP l))),.own (.list ((l.map (·.1)).map aM)),.shr (.int (j:Nat)),.shr (dO e),z6]=.ok (.nx [.shr B,.shr S,.own (.dict (cV (kP (m5 x n l e)))),.own (.list (((m5 x n l e).map (·.1)).map aM)),.shr (.int (j:Nat)),.shr (dO e),y6]):=by
 have few:=h.few g
 have hx:x∈l.map (·.1):=dA hj
 have ls:=j7 (h.sub x hx) g.rise.len
 have ixk:=Sr hj
 have ixn:M9 (.dict (cV (kP l))) (aM x)=.ok (.int n):=Hl (l:=kP l) (by rw [lH];exact h.nd) (bC (f:=fun p:List Str×Int=>(p.1,gq p.2)) hn)
 refine ⟨.shr (MO (Dt e x)),?_⟩
 unfold V4
 walk_at "zz"
 rw [ixk]
 walk_at "zz"
 rw [Hk (qf g he) (by omega)]
 walk_at "zz"
 rw [A9]
 unfold m5
 by_cases hg:cu x e.needs e.bars=true
 ·rw [if_pos hg,J5]
  rw [UC]
  walk_at "zz"
  rw [Hm h.ne,lH]
  by_cases hm:bi e x∈l.map (·.1)
  ·rw [decide_eq_true hm,if_neg (fun z=>z.2 hm)]
   walk_at "zz"
  ·rw [decide_eq_false hm,if_pos ⟨hg,hm⟩]
   walk_at "zz"
   rw [MV (l:=kP l) (x:=bi e x) (d:=.int (n + 1)) rfl ?_ rfl h.ne (by unfold kP;rw [ak];omega) (by rw [lH];exact hm)]
   ·walk_at "zz"
    rw [Dr (ds:=(l.map (·.1)).map aM) (d:=aM (bi e x)) rfl rfl (by rw [ak,ak];omega)]
    unfold kP
    simp only [bc]
    rfl
   ·walk_at "zz"
    rw [ixk]
    walk_at "zz"
    rw [ixn]
    walk_at "zz"
 ·rw [if_neg hg,J6,if_neg (fun z=>hg z.1)]
  rw [UD]
  walk_at "zz"
theorem Su {fs st x:List Str}{es:List dC}{n:Int} (g:fE fs es) (B S:D) (j:Nat) (z5 z6:Sl) {l:NZ} (h:JK fs st es l) (hj:(l.map (·.1))[j]?=some x) (hn:(x,n)∈l) (xs:List dC) (hx:∀ e∈xs,e∈es) :
  JK fs st es (xs.foldl (m5 x n) l)/\(∃ t,xs.foldl (m5 x n) l=l++t)/\(∀ e∈xs,cu x e.needs e.bars=true->bi e x∈(xs.foldl (m5 x n) l).map (·.1))/\∃ y5 y6,l5 (cb 5) V4 (xs.map dO) [.shr B,.shr S,.own (.dict (cV (kP l))),.own (.list ((l.map (·.1)).map aM)),.shr (.int (j:Nat)),z5,z6]=.ok (.nx [.shr B,.shr S,.own (.dict (cV (kP (xs.foldl (m5 x n) l)))),.own (.list (((xs.foldl (m5 x n) l).map (·.1)).map aM)),.shr (.int (j:Nat)),y5,y6]):=by
 induction xs generalizing l z5 z6 with
 | nil=>exact ⟨h,⟨[],(cf _).symm⟩,fun _ h=>(nomatch h),z5,z6,rfl⟩
 | cons e r ih =>
  have he:=hx e am
  have hxm:x∈l.map (·.1):=dA hj
  obtain ⟨a1,a2,⟨t,a3⟩,a4⟩:=Pt (n:=n) g h hxm he
  obtain ⟨y6,q⟩:=UN g B S j z6 h hj hn he
  have hj':((m5 x n l e).map (·.1))[j]?=some x:=by
   rw [a3,bc,bd (List.getElem?_eq_some_iff.mp hj).1]
   exact hj
  obtain ⟨b1,⟨t2,b2⟩,b3,w5,w6,b4⟩:=ih (.shr (dO e)) y6 a1 hj' (a2 _ hn) fun a ha=>hx a (ah _ ha)
  rw [cY]
  refine ⟨b1,⟨t++t2,by rw [b2,a3,dQ]⟩,fun a ha hg=>?_,w5,w6,?_⟩
  ·rcases List.mem_cons.mp ha with z | z
   ·subst z
    have:=a4 hg
    rw [b2,bc]
    exact bg _ this
   ·exact b3 a z hg
  ·rw [aw,wO (ρ1:=[.shr B,.shr S,.own (.dict (cV (kP l))),.own (.list ((l.map (·.1)).map aM)),.shr (.int (j:Nat)),.shr (dO e),z6]) rfl q]
   exact b4
structure UO (st:List Str) (es:List dC) (l:NZ) (j:Nat):Prop where
 beg:(st,0)∈l
 rch:∀ p∈l,∃ rs:List dC,(∀ e∈rs,e∈es)/\uv rs st=some p.1/\(rs.length:Int)=p.2
 up:l.Pairwise fun p q=>p.2<=q.2
 mx:∀ p,l[j]?=some p->∀ q∈l,q.2<=p.2 + 1
 cls:∀ i p,i<j->l[i]?=some p->∀ e∈es,cu p.1 e.needs e.bars=true->∃ q∈l,q.1=bi e p.1/\q.2<=p.2 + 1
theorem vi (x:List Str) (n:Int):∀ (xs:List dC) (l:NZ),∃ t:NZ,xs.foldl (m5 x n) l=l++t/\∀ p∈t,p.2=n + 1/\∃ e∈xs,cu x e.needs e.bars=true/\p.1=bi e x
 | [],l=>⟨[],by simp,fun _ h=>(nomatch h)⟩
 | e::r,l=>by
  rw [cY]
  by_cases hc:cu x e.needs e.bars=true/\bi e x∉l.map (·.1)
  ·have:m5 x n l e=l++[(bi e x,n + 1)]:=by unfold m5;rw [if_pos hc]
   rw [this]
   obtain ⟨t,h1,h2⟩:=vi x n r (l++[(bi e x,n + 1)])
   refine ⟨(bi e x,n + 1)::t,by rw [h1];simp,fun p hp=>?_⟩
   rcases List.mem_cons.mp hp with z | z
   ·subst z;exact ⟨rfl,e,am,hc.1,rfl⟩
   ·obtain ⟨k1,a,k2,k3⟩:=h2 p z
    exact ⟨k1,a,ah _ k2,k3⟩
  ·have:m5 x n l e=l:=by unfold m5;rw [if_neg hc]
   rw [this]
   obtain ⟨t,h1,h2⟩:=vi x n r l
   refine ⟨t,h1,fun p hp=>?_⟩
   obtain ⟨k1,a,k2,k3⟩:=h2 p hp
   exact ⟨k1,a,ah _ k2,k3⟩
theorem N6 {st x:List Str}{es:List dC}{l:NZ}{j:Nat}{p:List Str×Int} (D:UO st es l j) (hj:l[j]?=some p) (hx:x=p.1) (hb:∀ e∈es,cu x e.needs e.bars=true->bi e x∈(es.foldl (m5 x p.2) l).map (·.1)):UO st es (es.foldl (m5 x p.2) l) (j + 1):=by
 subst hx
 obtain ⟨t,e,ht⟩:=vi p.1 p.2 es l
 rw [e] at hb ⊢
 have hpm:p∈l:=dA hj
 have top:∀ q∈l++t,q.2<=p.2 + 1:=fun q hq=>by
  rcases List.mem_append.mp hq with z | z
  ·exact D.mx p hj q z
  ·exact Int.le_of_eq (ht q z).1
 have up:(l++t).Pairwise fun p q=>p.2<=q.2:=by
  refine List.pairwise_append.mpr ⟨D.up,?_,fun q hq r hr=>by rw [(ht r hr).1];exact D.mx p hj q hq⟩
  exact vC fun q hq r hr=>by rw [(ht q hq).1,(ht r hr).1];exact Int.le_refl _
 have hjl:j<l.length:=(List.getElem?_eq_some_iff.mp hj).1
 have hj':(l++t)[j]?=some p:=by rw [bd hjl];exact hj
 refine ⟨bg _ D.beg,fun q hq=>?_,up,fun q hq r hr=>?_,fun i q hi hq a ha hg=>?_⟩
 ·rcases List.mem_append.mp hq with z | z
  ·exact D.rch q z
  ·obtain ⟨k1,a,k2,k3,k4⟩:=ht q z
   obtain ⟨rs,r1,r2,r3⟩:=D.rch p hpm
   refine ⟨rs++[a],fun b hb=>?_,by rw [k4];exact qg a _ _ _ r2 k3,by rw [k1,aR,dn,<- r3];rfl⟩
   rcases List.mem_append.mp hb with w | w
   ·exact r1 b w
   ·rw [List.mem_singleton.mp w];exact k2
 ·have h1:=top r hr
  obtain ⟨q1,q2⟩:=List.getElem?_eq_some_iff.mp hq
  obtain ⟨p1,p2⟩:=List.getElem?_eq_some_iff.mp hj'
  have:=List.pairwise_iff_getElem.mp up j (j + 1) p1 q1 (eC j)
  rw [q2,p2] at this
  omega
 ·by_cases hij:i=j
  ·subst hij
   rw [hj'] at hq
   cases hq
   obtain ⟨q,hq,eq⟩:=List.mem_map.mp (hb a ha hg)
   exact ⟨q,hq,eq,top q hq⟩
  ·have hi':i<j:=by omega
   rw [bd (by omega)] at hq
   obtain ⟨r,r1,r2,r3⟩:=D.cls i q hi' hq a ha hg
   exact ⟨r,bg _ r1,r2,r3⟩
theorem DE {fs st:List Str}{es:List dC} (g:fE fs es) (S:D):∀ (k fuel j:Nat) (z5 z6:Sl) (l:NZ),JK fs st es l->UO st es l j->j<=l.length->(∀ i x,i<j->(l.map (·.1))[i]?=some x->∀ e∈es,cu x e.needs e.bars=true->bi e x∈l.map (·.1))->65 - j<=k->k<fuel ->
  ∃ (l':NZ) (y3 y4 y5 y6:Sl),(JK fs st es l'/\UO st es l' l'.length)/\(∀ x∈l'.map (·.1),∀ e∈es,cu x e.needs e.bars=true->bi e x∈l'.map (·.1))/\iS (ik (g2 (rB 4) (cx (J.ag (rB 3) J.aT) (iZ mo)) yT)) UM fuel [.shr (fN fs es),.shr S,.own (.dict (cV (kP l))),.own (.list ((l.map (·.1)).map aM)),.shr (.int (j:Nat)),z5,z6]=.ok (.nx [.shr (fN fs es),.shr S,.own (.dict (cV (kP l'))),y3,y4,y5,y6])
 | _,0,_,_,_,_,_,_,_,_,_,hf=>absurd hf (lO _)
 | k,fuel + 1,j,z5,z6,l,h,hv,hj,hc,hk,hf=>by
  have few:=h.few g
  have ht:ik (g2 (rB 4) (cx (J.ag (rB 3) J.aT) (iZ mo)) yT) [.shr (fN fs es),.shr S,.own (.dict (cV (kP l))),.own (.list ((l.map (·.1)).map aM)),.shr (.int (j:Nat)),z5,z6]=.ok (decide (j<l.length)):=by
   walk_at "zz"
   simp only [Int.ofNat_lt]
  rw [iS,ht]
  by_cases hl:j<l.length
  ·rw [decide_eq_true hl]
   simp only
   have hlm:j<(l.map (·.1)).length:=by rw [ak];exact hl
   have hx:(l.map (·.1))[j]?=some (l.map (·.1))[j]:=aV hlm
   have hn:((l.map (·.1))[j],l[j].2)∈l:=by
    have:((l.map (·.1))[j],l[j].2)=l[j]:=by rw [kR]
    rw [this]
    exact iU hl
   obtain ⟨b1,⟨t,b2⟩,b3,y5,y6,b4⟩:=Su g (fN fs es) S j z5 z6 h hx hn es fun _ h=>h
   have hb:UM [.shr (fN fs es),.shr S,.own (.dict (cV (kP l))),.own (.list ((l.map (·.1)).map aM)),.shr (.int (j:Nat)),z5,z6]=.ok (.nx [.shr (fN fs es),.shr S,.own (.dict (cV (kP (es.foldl (m5 (l.map (·.1))[j] l[j].2) l)))),.own (.list (((es.foldl (m5 (l.map (·.1))[j] l[j].2) l).map (·.1)).map aM)),.shr (.int ((j + 1:Nat):Int)),y5,y6]):=by
    unfold UM
    walk_at "zz"
    rw [uh (ds:=es.map dO)]
    ·rw [b4]
     walk_at "zz"
     rfl
    ·walk_at "zz"
     rw [MK]
     walk_at "zz"
   rw [hb]
   obtain ⟨l',w3,w4,w5,w6,e1,e2,e3⟩:=DE g S (k - 1) fuel (j + 1) y5 y6 _ b1 (N6 hv (aV hl) (kR (f:=fun p:List Str×Int=>p.1) (h:=hlm)) b3) (by rw [b2,aR];omega) (fun i x hi hix e he hg=>by
    rw [b2,bc] at hix
    have hi':i<(l.map (·.1)).length:=by rw [ak];omega
    rw [bd hi'] at hix
    by_cases hij:i=j
    ·subst hij
     rw [hx] at hix
     cases hix
     exact b3 e he hg
    ·have:=hc i x (by omega) hix e he hg
     rw [b2,bc]
     exact bg _ this) (by omega) (by omega)
   exact ⟨l',w3,w4,w5,w6,e1,e2,e3⟩
  ·rw [decide_eq_false hl]
   simp only
   refine ⟨l,_,_,z5,z6,⟨h,(show j=l.length by omega) ▸ hv⟩,fun x hx=>?_,rfl⟩
   obtain ⟨i,hi,e⟩:=tE hx
   rw [ak] at hi
   exact hc i x (by omega) (by rw [aV (by rw [ak];exact hi),e])
theorem Jc {fs st:List Str}{es:List dC} (g:fE fs es) (hs:sJ fs st):∃ l:NZ,(l.map (·.1)).Nodup/\l.length<=64/\(∀ x,x∈l.map (·.1)↔Ny es st x)/\UO st es l l.length/\lv [fN fs es,aM st]=.ok (.dict ((.none,.none)::cV (kP l))):=by
 have h0:JK fs st es [(st,0)]:=⟨by simp,List.mem_singleton.mpr rfl,fun p hp=>by rw [List.mem_singleton.mp hp];exact hs,fun p hp=>by rw [List.mem_singleton.mp hp];exact ⟨[],fun _ h=>(nomatch h),rfl⟩⟩
 obtain ⟨l,y3,y4,y5,y6,⟨e1,p1⟩,e2,e3⟩:=DE g (aM st) 65 100000 0 .no .no [(st,0)] h0 ⟨List.mem_singleton.mpr rfl,fun p hp=>by rw [List.mem_singleton.mp hp];exact ⟨[],fun _ h=>(nomatch h),rfl,rfl⟩,by simp,fun p hp q hq=>by cases hp;rw [List.mem_singleton.mp hq];show (0:Int)<=0 + 1;decide,fun i p hi=>absurd hi (lO _)⟩ (cA _) (fun i x hi=>absurd hi (lO _)) (by simp) (by decide)
 refine ⟨l,e1.nd,e1.few g,fun x=>⟨e1.rch x,?_⟩,p1,?_⟩
 ·rintro ⟨rs,r1,r2⟩
  exact sK (M:=fun x=>x∈l.map (·.1)) e2 rs st x e1.beg r1 r2
 ·unfold lv
  refine db ?_
  rw [N5]
  unfold ca
  walk_at "zz"
  rw [UI (x:=st) (d:=.int 0) rfl rfl]
  walk_at "zz"
  have e3':iS (ik (g2 (rB 4) (cx (J.ag (rB 3) J.aT) (iZ mo)) yT)) UM 100000 [.shr (fN fs es),.shr (aM st),.own (.dict (cV [(st,.int 0)])),.own (.list [aM st]),.shr (.int 0),.no,.no]=_:=e3
  unfold yT at e3'
  rw [e3']
  walk_at "zz"
  rw [UH e1.ne rfl]
  walk_at "zz"
def WD (es:List dC) (st m b:List Str):Prop:=∃ x,Ny es st x/\cu x m b=true
noncomputable def N7 (es:List dC) (st m b:List Str):Bool:=@decide (WD es st m b) (yr _)
theorem DF {es:List dC}{st m b:List Str}:N7 es st m b=true↔WD es st m b:=by
 unfold N7
 exact @decide_eq_true_iff _ (yr _)
theorem Ps.keys {fs st:List Str}{es:List dC}{l:LZ} (h:Ps fs st es l) (x:List Str):x∈l.map (·.1)↔Ny es st x:=by
 constructor
 ·intro hx
  obtain ⟨p,hp,rfl⟩:=List.mem_map.mp hx
  obtain ⟨r1,r2,_⟩:=h.ok.row p hp
  exact ⟨p.2,r1,r2⟩
 ·rintro ⟨rs,r1,r2⟩
  exact sK (M:=fun x=>x∈l.map (·.1)) h.all rs st x (bC (f:=(·.1)) h.ok.beg) r1 r2
theorem Hq {fs st m b:List Str}{es:List dC}{ks:List (List Str)} (h:∀ x,x∈ks↔Ny es st x):(ks.any fun x=>cu x m b)=N7 es st m b:=by
 rw [lC,DF,kQ]
 constructor
 ·rintro ⟨x,h1,h2⟩;exact ⟨x,(h x).mp h1,h2⟩
 ·rintro ⟨x,h1,h2⟩;exact ⟨x,(h x).mpr h1,h2⟩
theorem DG {fs:List Str}{es:List dC} (g:fE fs es) (p:dC->Bool):fE fs (es.filter p) :=
 ⟨g.rise,bV (kC _ _) g.len,(List.filter_sublist.map _).nodup g.nd,fun e he=>g.ok e (List.mem_filter.mp he).1⟩
theorem N8 (l:LZ):((cV (iz l)).map (·.1))=(l.map (·.1)).map J.um:=by
 rw [<- lG l]
 unfold cV lc
 rw [cn,cn]
 rfl
theorem xV {fs st:List Str}{es:List dC} (g:fE fs es) (hs:sJ fs st):∃ ks:List (List Str),ks.Nodup/\(∀ x,x∈ks↔Ny es st x)/\(∀ x∈ks,sJ fs x)/\nL [fN fs es,aM st]=.ok (.list ((kK ks).map aM)):=by
 obtain ⟨l,⟨hb,_⟩,e⟩:=DD g hs
 have few:=hb.ok.few g
 have nd:=hb.ok.nd
 refine ⟨l.map (·.1),nd,hb.keys,fun x hx=>?_,?_⟩
 ·obtain ⟨p,hp,rfl⟩:=jQ.1 hx
  exact hb.ok.sub p hp
 have hs1:J.qJ (.dict ((.none,.none)::cV (iz l)))=.ok (.list ((kK (l.map (·.1))).map aM)):=by
  unfold J.qJ
  dsimp only
  rw [N8,J.sG]
  dsimp only
  unfold J.nJ
  rw [if_pos ⟨nd,by rw [ak];exact few⟩]
  rfl
 unfold nL
 refine db ?_
 unfold qT ca
 walk_at "zz"
 rw [Ds g hs]
 walk_at "zz"
 rw [e]
 walk_at "zz"
 rw [hs1]
 walk_at "zz"
noncomputable def jU (es:List dC) (st:List Str) (e:dC):Bool:=!(N7 es st e.needs e.bars)
theorem Pu {fs st:List Str}{es:List dC} (g:fE fs es) (hs:sJ fs st):Bl [fN fs es,aM st]=.ok (.list (((es.filter (jU es st)).map (·.name)).map .str)):=by
 obtain ⟨l,⟨hb,_⟩,e⟩:=DD g hs
 have few:=hb.ok.few g
 have el:=g.len
 have hl:J.A2 (.dict ((.none,.none)::cV (iz l)))=.ok (.list ((l.map (·.1)).map aM)):=by
  unfold J.A2
  dsimp only
  rw [N8,J.sG]
  dsimp only
  rw [if_pos (by rw [ak];exact few)]
  rfl
 unfold Bl
 refine db ?_
 unfold Bk ca
 walk_at "zz"
 rw [Ds g hs]
 walk_at "zz"
 rw [e]
 walk_at "zz"
 rw [hl]
 walk_at "zz"
 rw [MK]
 walk_at "zz"
 rw [if_pos (by omega)]
 rw [gT _ dO (fun e=>aS e.name) (jU es st) es fun e he=>qG (by
  walk_at "zz"
  rw [if_pos (by omega)]
  rw [e6 _ (fun x:List Str=>aM x) (fun x=>cC (cu x e.needs e.bars)) (l.map (·.1)) fun x hx=>gD rfl (by
   walk_at "zz"
   rw [Ab (qf g he)])]
  walk_at "zz"
  rw [j6 _ (fun x=>cu x e.needs e.bars)]
  walk_at "zz"
  rw [pB,show (id∘fun x=>cu x e.needs e.bars)=fun x=>cu x e.needs e.bars from rfl,Hq (fs:=fs) hb.keys]
  rfl) fun _=>(by
  walk_at "zz"
  rw [Pl])]
 walk_at "zz"
 rw [cn]
 rfl
theorem Fo {es:List dC}{st x:List Str}:Ny (es.filter fun e=>!jU es st e) st x↔Ny es st x:=by
 constructor
 ·rintro ⟨rs,h1,h2⟩
  exact ⟨rs,fun e he=>(i5.1 (h1 e he)).1,h2⟩
 ·rintro ⟨rs,h1,h2⟩
  refine ⟨rs,?_,h2⟩
  have:∀ (rs pre:List dC) (s:List Str),(∀ e∈pre,e∈es)->uv pre st=some s->(∀ e∈rs,e∈es)->uv rs s=some x->∀ e∈rs,e∈es.filter fun e=>!jU es st e:=by
   intro rs
   induction rs with
   | nil=>intro _ _ _ _ _ _ e he;cases he
   | cons a r ih =>
    intro pre s p1 p2 h1 h2
    have h2:(if cu s a.needs a.bars then uv r (bi a s) else none)=some x:=h2
    cases hg:cu s a.needs a.bars with
    | false=>rw [hg] at h2;cases h2
    | true =>
     rw [hg] at h2
     have ha:=h1 a am
     intro e he
     rcases aY.1 he with rfl | he
     ·refine i5.2 ⟨ha,?_⟩
      have:N7 es st e.needs e.bars=true:=DF.2 ⟨s,⟨pre,p1,p2⟩,hg⟩
      unfold jU
      rw [this];rfl
     ·refine ih (pre++[a]) (bi a s) (fun e he=>?_) (qg a pre st s p2 hg) (fun e he=>h1 e (ah _ he)) h2 e he
      rcases d_.1 he with he | he
      ·exact p1 e he
      ·rw [bZ.1 he];exact ha
  exact this rs [] st (by simp) rfl h1 h2
theorem Pw {fs:List Str} (hf:∀ x∈fs,yX x=true) {ks:List (List Str)} (h:∀ x∈ks,sJ fs x):rN false (.list (ks.map aM)) (.list (ks.map aM))=.ok (.bool true):=by
 have h1:(eW (ks.map aM)).canLay0=true:=by
  simp only [fu]
  exact Dq aM ks fun x hx=>by simp only [fu];exact MI hf (h x hx)
 have h2:(eW (ks.map aM)).depth<=60:=by
  have:=qY aM 1 (fun x=>by
   have:=qY aS 0 (fun x=>by simp [oV]) x
   simp only [oV]
   omega) ks
  simp only [oV]
  omega
 unfold rN
 rw [h1,PySem.SeqAt.eqv_refl _ h1,decide_eq_true (bV (Nat.min_le_left _ _) h2)]
 rfl
theorem N9 {es:List dC} (nd:(es.map (·.name)).Nodup) {a e:dC} (ha:a∈es) (he:e∈es) (h:a.name=e.name):a=e:=by
 induction es with
 | nil=>cases ha
 | cons x r ih =>
  obtain ⟨n1,n2⟩:=List.nodup_cons.mp nd
  rcases List.mem_cons.mp ha with z | z<;>rcases List.mem_cons.mp he with w | w
  ·rw [z,w]
  ·exact (n1 (by show x.name∈_;rw [<- z,h];exact bC w)).elim
  ·exact (n1 (by show x.name∈_;rw [<- w,<- h];exact bC z)).elim
  ·exact ih n2 z w
theorem Na (e:dC) (st:List Str):Gb false (MO (Dt e st)) .none=.ok (.bool (!cu st e.needs e.bars)):=by
 rw [A9]
 cases cu st e.needs e.bars<;>rfl
theorem Nb {es:List dC}{st:List Str}{ks:List (List Str)} (fs:List Str) (hk:∀ x,x∈ks↔Ny es st x) (e:dC):((ks.map fun x=>!cu x e.needs e.bars).all id)=jU es st e:=by
 unfold jU
 rw [<- Hq (fs:=fs) hk,jS,show (id∘fun x=>!cu x e.needs e.bars)=fun x=>!cu x e.needs e.bars from rfl,<- List.not_any_eq_all_not]
def V5:az->R Fl:=h_ (ik (cx (J.ag (fV 1 [6] (Mb (rB 4)) kT (g2 (gZ 2 iy (J.ag (rS 1) (J.ag (rS 0) J.aT))) kN (Gb false))) J.aT) (iZ (gf fun bs=>bs.all id)))) (sB 5 (g2 (rB 6) (kI 0) bz)) (fun ρ=>.ok (.nx ρ))
theorem DH {fs st:List Str}{es:List dC}{l:NZ} (g:fE fs es) (few:l.length<=64) (hk:∀ x,x∈l.map (·.1)↔Ny es st x) (hs:∀ x∈l.map (·.1),sJ fs x) (A B S W:D):∀ (xs:List dC) (pre:List Str) (z:Sl),(∀ e∈xs,e∈es)->pre.length + xs.length<=100 ->
  ∃ z',l5 (cb 6) V5 (xs.map dO) [.shr A,.shr B,.shr S,.shr W,.shr (.dict ((.none,.none)::cV (kP l))),.own (.list (pre.map .str)),z,.no]=.ok (.nx [.shr A,.shr B,.shr S,.shr W,.shr (.dict ((.none,.none)::cV (kP l))),.own (.list ((pre++(xs.filter (jU es st)).map (·.name)).map .str)),z',.no])
 | [],pre,z,_,_=>⟨z,by rw [yt,show ([] : List dC).map (·.name)=[] from rfl,cf];rfl⟩
 | e::r,pre,z,hm,hl=>by
  have he:=hm e am
  simp only [bw] at hl
  have cond:gM (iQ 1 [.no,.shr (dO e)] kT (g2 (gZ 2 iy (J.ag (rS 1) (J.ag (rS 0) J.aT))) kN (Gb false))) ((l.map (·.1)).map aM)=.ok ((l.map (·.1)).map fun x=>cC (!cu x e.needs e.bars)) :=
   e6 _ (fun x:List Str=>aM x) (fun x=>cC (!cu x e.needs e.bars)) (l.map (·.1)) fun x hx=>gD rfl (by
    have ls:=j7 (hs x hx) g.rise.len
    walk_at "zz"
    rw [Hk (qf g he) (by omega)]
    walk_at "zz"
    rw [Na])
  have hbody:V5 [.shr A,.shr B,.shr S,.shr W,.shr (.dict ((.none,.none)::cV (kP l))),.own (.list (pre.map .str)),.shr (dO e),.no]=.ok (.nx [.shr A,.shr B,.shr S,.shr W,.shr (.dict ((.none,.none)::cV (kP l))),.own (.list ((pre++([e].filter (jU es st)).map (·.name)).map .str)),.shr (dO e),.no]):=by
   unfold V5
   walk_at "zz"
   rw [UK]
   walk_at "zz"
   rw [MU,lH]
   walk_at "zz"
   rw [if_pos (by omega)]
   rw [cond]
   walk_at "zz"
   rw [j6 _ (fun x=>!cu x e.needs e.bars)]
   walk_at "zz"
   rw [Nb fs hk]
   cases hd:jU es st e with
   | true =>
    walk_at "zz"
    rw [List.filter_cons_of_pos hd,yt,bc]
    refine Dr (ds:=pre.map .str) (d:=.str e.name) rfl ?_ (by rw [ak];omega)
    walk_at "zz"
    rw [Pl]
   | false =>
    walk_at "zz"
    rw [List.filter_cons_of_neg (by rw [hd];exact bu),yt,show ([] : List dC).map (·.name)=[] from rfl,cf]
  obtain ⟨z',q⟩:=DH g few hk hs A B S W r (pre++([e].filter (jU es st)).map (·.name)) (.shr (dO e)) (fun x hx=>hm x (ah _ hx)) (by
   have:=kC (jU es st) [e]
   rw [aR,ak]
   simp only [bw,cB] at this
   omega)
  refine ⟨z',?_⟩
  rw [aw,wO (ρ1:=[.shr A,.shr B,.shr S,.shr W,.shr (.dict ((.none,.none)::cV (kP l))),.own (.list (pre.map .str)),.shr (dO e),.no]) rfl hbody,q,dQ,<- bc,<- List.filter_append]
  rfl
theorem law_true (ns:List Int):F_law [.list (ns.map .int)]=.ok (.bool true):=by
 obtain ⟨fs,es,ss,wm,wb,hc,gb,gs,gw,_⟩:=Pk ns 6 6 (by decide) (by decide) (by decide) (by decide)
 obtain ⟨l,nd,few,hk,P,e⟩:=Jc gb gs
 obtain ⟨ks,k1,k2,k3,k4⟩:=xV gb gs
 obtain ⟨js,j1,j2,j3,j4⟩:=xV (DG gb fun e=>!jU es ss e) gs
 have so:kK js=kK ks:=Dg k1 ((iN j1 k1).2 fun x=>(j2 x).trans (Fo.trans (k2 x).symm))
 have el:=gb.len
 obtain ⟨z',q⟩:=DH gb few hk (fun x hx=>k3 x ((k2 x).2 ((hk x).1 hx))) (.list (ns.map .int)) (fN fs es) (aM ss) (yY wm wb) es [] .no (fun _ h=>h) (by simp only [cB];omega)
 rw [lF] at q
 have keep:(es.filter fun e=>!decide (e.name∈(es.filter (jU es ss)).map (·.name)))=es.filter fun e=>!jU es ss e:=by
  refine List.filter_congr fun e he=>?_
  congr 1
  rw [lC,decide_eq_true_iff,jQ]
  constructor
  ·rintro ⟨a,h1,h2⟩
   obtain ⟨h3,h4⟩:=i5.1 h1
   rwa [N9 gb.nd h3 he h2] at h4
  ·exact fun h=>⟨e,i5.2 ⟨he,h⟩,rfl⟩
 unfold F_law
 refine db ?_
 unfold G_ ca
 walk_at "zz"
 rw [hc]
 walk_at "zz"
 rw [W2]
 walk_at "zz"
 rw [e]
 walk_at "zz"
 rw [uh (ds:=es.map dO)]
 ·have q:=q
  unfold V5 at q
  rw [show (eW (rJ aS []))=eW [] from rfl] at q
  rw [q,bind_ok,q9]
  walk_at "zz"
  rw [Pj]
  walk_at "zz"
  rw [MK]
  walk_at "zz"
  rw [if_pos (by omega)]
  rw [gT _ dO dO (fun e=>!decide (e.name∈(es.filter (jU es ss)).map (·.name))) es fun e he=>qG (by
   walk_at "zz"
   rw [Pl]
   walk_at "zz"
   rw [He]
   rfl) fun _=>rfl,keep]
  walk_at "zz"
  rw [show ∀ ds:List D,gF (.list ds)=.ok (.tuple ds) from fun _=>rfl]
  walk_at "zz"
  rw [Pu gb gs]
  walk_at "zz"
  rw [BA (fun x hx=>by
   obtain ⟨e,he,rfl⟩:=jQ.1 hx
   exact (gb.ok e (i5.1 he).1).name)]
  walk_at "zz"
  rw [show dG [aM fs,dG ((es.filter fun e=>!jU es ss e).map dO)]=fN fs (es.filter fun e=>!jU es ss e) from rfl,j4]
  walk_at "zz"
  rw [k4]
  walk_at "zz"
  rw [so,Pw gb.rise.ok fun x hx=>k3 x ((k7 ks).mem_iff.1 hx)]
  walk_at "zz"
 ·walk_at "zz"
  rw [MK]
  walk_at "zz"
end Z
end
namespace Z
open PySem L2 J
section
def top (i:Nat):dz:=PySem.Challenge.pw_errands_k19_idle.main.body.getD i (.Pass ⟨0,0,0,0⟩)
section
variable {e:En}
abbrev lz:dz:=top 9
abbrev uw:List Str:=["one","other"]
theorem yZ:bU uw ["one","other"] (aB lz):=eN (by decide +kernel)
abbrev oE (e:En):=FN e "share_none" 1 2 fW
theorem y_ (D:iW e.K e.mg "share_none" lz) (B:Bi e.mg):oE e:=rP (k:=0) (g:=jG) D yZ b2 fun _ _ _ _ _ _ _ hr=>by unfold jG;exact (aW (c9 (L0 (cz (F2 rfl) rfl B.any nq (bO (JE.bor (JN.je (fv (N':=["fact","other"]) (ix:=[1]) 1 (by decide) rfl (cr (so:=aB lz) (N:=uw) (by decide +kernel)) (gg (al 0)) (fun cl A0 s0 H0 ex pn=>⟨cZ (i:=0) (by show (["fact","other"] : List Str).Nodup;decide +kernel) rfl (.inl rfl),gC,(mY (CG) (al 0) (al 1))⟩)))) c8)))))
abbrev qZ:dz:=top 10
abbrev Ad:List Str:=["facts","others"]
theorem Fp:bU Ad ["facts","others"] (aB qZ):=eN (by decide +kernel)
abbrev Ae (e:En):=FN e "without" 1 2 qL
theorem Fq (D:iW e.K e.mg "without" qZ) (B:Bi e.mg):Ae e:=rP (k:=0) (g:=qK) D Fp b2 fun _ _ _ _ _ _ _ hr=>by unfold qK;exact (aW (c9 (ed (iu rfl) rfl B.tuple bn (bO (JE.bor (JN.je (fv (N':=["fact","others"]) (ix:=[1]) 1 (by decide) rfl (cr (so:=aB qZ) (N:=Ad) (by decide +kernel)) (gg (al 0)) (fun cl A0 s0 H0 ex pn=>⟨cZ (i:=0) (by show (["fact","others"] : List Str).Nodup;decide +kernel) rfl (.inl rfl),(mD (eR (ud) (al 0) (al 1))),(ap 0)⟩)))) c8))))
abbrev xW:dz:=top 11
abbrev Nc:List Str:=["one","other"]
theorem Jd:bU Nc ["one","other"] (aB xW):=eN (by decide +kernel)
abbrev DI (e:En):=FN e "joined" 1 2 uq
theorem Je (D:iW e.K e.mg "joined" xW) (B:Bi e.mg):DI e:=rP (k:=0) (g:=uo) D Jd b2 fun _ _ _ _ _ _ _ hr=>by unfold uo;exact (aW (c9 (ed (iu rfl) rfl B.tuple bn (bO (JE.bor (sD rfl (RP (B9 rfl (al 0) rfl B.set) (B9 rfl (al 1) rfl B.set)) rfl B.sorted)) c8))))
abbrev q_:dz:=top 12
abbrev Af:List Str:=["thing"]
theorem Ft:bU Af ["thing"] (aB q_):=eN (by decide +kernel)
abbrev vj (e:En):=FN e "is_word" 1 1 nK
theorem Fu (D:iW e.K e.mg "is_word" q_) (B:Bi e.mg) (m6:Cn e.mg "MOST_LETTERS" 6):vj e:=rP (k:=0) (g:=qM) D Ft b1 fun _ _ _ _ _ _ _ hr=>by unfold qM;exact (aI (iw (JW.t (vG (ir (gS (sx (al 0) rfl B.isinstance rfl B.str PyProof.Rows.boot_str (by decide)))) (pV (ir (Li (zH) (zH) (JE.bor aG) (JE.bor (cz j_ rfl B.len cJ (bO (al 0) c8))) (JE.bor (uc rfl m6))))))) (aW (c9 pU)) dZ) (aW (c9 (cz (nZ rfl) rfl B.all cE (bO (JE.bor (JN.je (fv (N':=["sign"]) (ix:=[]) 1 (by decide) rfl (cr (so:=aB q_) (N:=Af) (by decide +kernel)) (gg (al 0)) (fun cl A0 s0 H0 ex pn=>⟨cZ (i:=0) (by show (["sign"] : List Str).Nodup;decide +kernel) rfl (.inl rfl),gC,(CS (zH) (zH) (JE.bor v8) (al 0) (JE.bor v8))⟩)))) c8)))))
abbrev fo:dz:=top 13
abbrev jd:List Str:=["thing"]
theorem ro:bU jd ["thing"] (aB fo):=eN (by decide +kernel)
abbrev jf (e:En):=FN e "are_rising_words" 2 1 fm
theorem rq (D:iW e.K e.mg "are_rising_words" fo) (B:Bi e.mg) (lI:vj e):jf e:=rP (k:=1) (g:=gU) D ro b1 fun _ _ _ _ _ _ _ hr=>by unfold gU;exact (aI (iw (JW.t (vG (ir (gS (sx (al 0) rfl B.isinstance rfl B.tuple bn (by decide)))) (pV (ir (gS (cz (nZ rfl) rfl B.all cE (bO (JE.bor (JN.je (fv (N':=["word"]) (ix:=[]) 1 (by decide) rfl (cr (so:=aB fo) (N:=jd) (by decide +kernel)) (gg (al 0)) (fun cl A0 s0 H0 ex pn=>⟨cZ (i:=0) (by show (["word"] : List Str).Nodup;decide +kernel) rfl (.inl rfl),gC,(jc lI hr fL (af (ap 0) aP))⟩)))) c8))))))) (aW (c9 pU)) dZ) (aW (c9 (cz (nZ rfl) rfl B.all cE (bO (JE.bor (JN.je (fv (N':=["low","high"]) (ix:=[]) 2 (by decide) rfl (cr (so:=aB fo) (N:=jd) (by decide +kernel)) (Ld.i (OL rfl B.zip (af (ap 0) (af (pY (al 0) (qD aG) wF) aP)))) (fun cl A0 s0 H0 ex pn=>⟨EA rfl (pM (cZ (i:=0) (by show (["low","high"] : List Str).Nodup;decide +kernel) rfl (.inl rfl)) (pM (cZ (i:=1) (by show (["low","high"] : List Str).Nodup;decide +kernel) rfl (.inl rfl)) Ay)),gC,(mY (xm) (al 0) (al 1))⟩)))) c8)))))
abbrev mP:dz:=top 14
abbrev vM:List Str:=["book_facts","thing"]
theorem BD:bU vM ["book_facts","thing"] (aB mP):=eN (by decide +kernel)
abbrev qh (e:En):=FN e "are_facts" 3 2 jk
theorem BE (D:iW e.K e.mg "are_facts" mP) (B:Bi e.mg) (ef:jf e):qh e:=rP (k:=2) (g:=mF) D BD b2 fun _ _ _ _ _ _ _ hr=>by unfold mF;exact (aW (c9 (xl (jc ef hr px (af (ap 1) aP)) (xk (cz (nZ rfl) rfl B.all cE (bO (JE.bor (JN.je (fv (N':=["fact","book_facts"]) (ix:=[0]) 1 (by decide) rfl (cr (so:=aB mP) (N:=vM) (by decide +kernel)) (gg (al 1)) (fun cl A0 s0 H0 ex pn=>⟨cZ (i:=0) (by show (["fact","book_facts"] : List Str).Nodup;decide +kernel) rfl (.inl rfl),gC,(mY (CG) (al 0) (al 1))⟩)))) c8))))))
abbrev sL:dz:=top 15
abbrev Fv:List Str:=["thing","least","most"]
theorem DJ:bU Fv ["thing","least","most"] (aB sL):=eN (by decide +kernel)
abbrev xX (e:En):=FN e "is_whole" 1 3 o9
theorem DK (D:iW e.K e.mg "is_whole" sL) (B:Bi e.mg):xX e:=rP (k:=0) (g:=o8) D DJ b3 fun _ _ _ _ _ _ _ hr=>by unfold o8;exact (aI (iw (JW.t (vG (ir (gS (sx (al 0) rfl B.isinstance rfl B.int PyProof.Rows.boot_int (by decide)))) (pV (gS (sx (al 0) rfl B.isinstance rfl B.bool PyProof.Rows.boot_bool (by decide)))))) (aW (c9 pU)) dZ) (aW (c9 (CS (zH) (zH) (al 1) (al 0) (al 2)))))
abbrev mQ:dz:=top 16
abbrev vN:List Str:=["book_facts","thing","name","needs","bars","makes","ends","price"]
theorem gX:bU vN ["book_facts","thing"] (aB mQ):=eN (by decide +kernel)
abbrev vO (e:En):=FN e "is_errand" 4 2 mH
theorem BF (D:iW e.K e.mg "is_errand" mQ) (B:Bi e.mg) (lI:vj e) (sM:xX e) (jl:qh e) (gY:oE e) (oF:Cn e.mg "MOST_PRICE" 9):vO e:=rP (k:=3) (g:=mG) D gX b2 fun _ _ _ _ _ _ _ hr=>by have hu64:=hr.units;unfold mG;exact (aI (iw (JW.t (vG (ir (gS (sx (al 1) rfl B.isinstance rfl B.tuple bn (by decide)))) (pV (eR (Ga hu64) (JE.bor (cz j_ rfl B.len cJ (bO (al 1) c8))) (JE.bor aG))))) (aW (c9 pU)) dZ) (aI (A_ (ap 1) (sy rfl (dD (dv 2 gX.nd) (dD (dv 3 gX.nd) (dD (dv 4 gX.nd) (dD (dv 5 gX.nd) (dD (dv 6 gX.nd) (dD (dv 7 gX.nd) n_)))))))) (aI (iw (JW.t (vG (ir (gS (jc lI hr px (af (ap 2) aP)))) (pV (ir (gS (jc sM hr px (af (ap 7) (af aG (af (uc rfl oF) aP))))))))) (aW (c9 pU)) dZ) (aI (iw (ir (gS (cz (nZ rfl) rfl B.all cE (bO (JE.bor (JN.je (fv (N':=["facts","book_facts"]) (ix:=[0]) 1 (by decide) rfl (cr (so:=aB mQ) (N:=vN) (by decide +kernel)) (gg (JE.bor (lR (af (ap 3) (af (ap 4) (af (ap 5) (af (ap 6) aP))))))) (fun cl A0 s0 H0 ex pn=>⟨cZ (i:=0) (by show (["facts","book_facts"] : List Str).Nodup;decide +kernel) rfl (.inl rfl),gC,(jc jl hr fL (af (ap 1) (af (ap 0) aP)))⟩)))) c8)))) (aW (c9 pU)) dZ) (aW (c9 (xl (jc gY hr px (af (ap 3) (af (ap 4) aP))) (xk (jc gY hr px (af (ap 5) (af (ap 6) aP)))))))))))
abbrev nM:dz:=top 17
abbrev vk:List Str:=["thing","facts","errands"]
theorem sO:bU vk ["thing"] (aB nM):=eN (by decide +kernel)
abbrev Ag (e:En):=FN e "is_book" 5 1 qO
theorem Fw (D:iW e.K e.mg "is_book" nM) (B:Bi e.mg) (ef:jf e) (qi:vO e) (oG:Cn e.mg "MOST_FACTS" 6) (m7:Cn e.mg "MOST_ERRANDS" 6):Ag e:=rP (k:=4) (g:=qN) D sO b1 fun _ _ _ _ _ _ _ hr=>by have hu1:=jT hr;have hu64:=hr.units;unfold qN;exact (aI (iw (JW.t (vG (ir (gS (sx (al 0) rfl B.isinstance rfl B.tuple bn (by decide)))) (pV (eR (Ga hu64) (JE.bor (cz j_ rfl B.len cJ (bO (al 0) c8))) (JE.bor aG))))) (aW (c9 pU)) dZ) (aI (A_ (ap 0) (sy rfl (dD (dv 1 sO.nd) (dD (dv 2 sO.nd) n_)))) (aI (iw (JW.t (vG (ir (gS (jc ef hr px (af (ap 1) aP)))) (pV (eR (Q3) (JE.bor (cz j_ rfl B.len cJ (bO (al 1) c8))) (JE.bor (uc rfl oG)))))) (aW (c9 pU)) dZ) (aI (iw (JW.t (vG (ir (gS (sx (al 2) rfl B.isinstance rfl B.tuple bn (by decide)))) (pV (eR (Q3) (JE.bor (cz j_ rfl B.len cJ (bO (al 2) c8))) (JE.bor (uc rfl m7)))))) (aW (c9 pU)) dZ) (aI (iw (ir (gS (cz (nZ rfl) rfl B.all cE (bO (JE.bor (JN.je (fv (N':=["errand","facts"]) (ix:=[1]) 1 (by decide) rfl (cr (so:=aB nM) (N:=vk) (by decide +kernel)) (gg (al 2)) (fun cl A0 s0 H0 ex pn=>⟨cZ (i:=0) (by show (["errand","facts"] : List Str).Nodup;decide +kernel) rfl (.inl rfl),gC,(jc qi hr fL (af (ap 1) (af (ap 0) aP)))⟩)))) c8)))) (aW (c9 pU)) dZ) (aW (c9 (mY (vI hu64) (JE.bor (IE (Lj (N':=["errand"]) (ix:=[]) 1 (by decide) rfl (cr (so:=aB nM) (N:=vk) (by decide +kernel)) (gg (al 2)) (fun cl A0 s0 H0 ex pn=>⟨cZ (i:=0) (by show (["errand"] : List Str).Nodup;decide +kernel) rfl (.inl rfl),gC,(cp hu1 (al 0) (JE.bor aG))⟩)) rfl B.len)) (JE.bor (cz j_ rfl B.len cJ (bO (al 2) c8)))))))))))
abbrev n6:dz:=top 18
abbrev z0:List Str:=["book","state"]
theorem xY:bU z0 ["book","state"] (aB n6):=eN (by decide +kernel)
abbrev rW (e:En):=FN e "check_state" 4 2 ko
theorem xZ (D:iW e.K e.mg "check_state" n6) (jl:qh e) (vm:ER e "NoState"):rW e:=rP (k:=3) (g:=kn) D xY b2 fun _ _ _ _ _ _ _ hr=>by have hu1:=jT hr;unfold kn;exact (aW (iw (ir (gS (jc jl hr px (af (cp hu1 (al 0) (JE.bor aG)) (af (ap 1) aP))))) (aW (CU vm rfl (af v8 aP))) dZ))
abbrev r0:dz:=top 19
abbrev Ah:List Str:=["state","want","must","bars"]
theorem sP:bU Ah ["state","want"] (aB r0):=eN (by decide +kernel)
abbrev Ai (e:En):=FN e "fulfils" 2 2 qQ
theorem Fx (D:iW e.K e.mg "fulfils" r0) (B:Bi e.mg) (gY:oE e):Ai e:=rP (k:=1) (g:=qP) D sP b2 fun _ _ _ _ _ _ _ hr=>by unfold qP;exact (aI (A_ (ap 1) (sy rfl (dD (dv 2 sP.nd) (dD (dv 3 sP.nd) n_)))) (aW (c9 (xl (cz (nZ rfl) rfl B.all cE (bO (JE.bor (JN.je (fv (N':=["fact","state"]) (ix:=[0]) 1 (by decide) rfl (cr (so:=aB r0) (N:=Ah) (by decide +kernel)) (gg (al 2)) (fun cl A0 s0 H0 ex pn=>⟨cZ (i:=0) (by show (["fact","state"] : List Str).Nodup;decide +kernel) rfl (.inl rfl),gC,(mY (CG) (al 0) (al 1))⟩)))) c8)) (xk (jc gY hr px (af (ap 3) (af (ap 0) aP))))))))
abbrev qj:dz:=top 20
abbrev DL:List Str:=["errand","state"]
theorem BG:bU DL ["errand","state"] (aB qj):=eN (by decide +kernel)
abbrev qk (e:En):=FN e "is_doable" 3 2 kL
theorem BH (D:iW e.K e.mg "is_doable" qj) (vn:Ai e):qk e:=rP (k:=2) (g:=mI) D BG b2 fun _ _ _ _ _ _ _ hr=>by have hu1:=jT hr;unfold mI;exact (aW (c9 (jc vn hr px (af (ap 1) (af (lR (af (cp hu1 (al 0) (JE.bor aG)) (af (cp hu1 (al 0) (JE.bor aG)) aP))) aP)))))
abbrev m8:dz:=top 21
abbrev x_:List Str:=["errand","state","makes","ends"]
theorem pc:bU x_ ["errand","state"] (aB m8):=eN (by decide +kernel)
abbrev qm (e:En):=FN e "state_behind" 2 2 jI
theorem wo (D:iW e.K e.mg "state_behind" m8) (vo:Ae e) (y0:DI e):qm e:=rP (k:=1) (g:=jH) D pc b2 fun _ _ _ _ _ _ _ hr=>by have hu1:=jT hr;unfold jH;exact (aI (RQ 2 3 rfl pc.nd (af (cp hu1 (al 0) (JE.bor aG)) (af (cp hu1 (al 0) (JE.bor aG)) aP))) (aW (c9 (jc y0 hr px (af (jc vo hr px (af (ap 1) (af (ap 3) aP))) (af (ap 2) aP))))))
abbrev vp:dz:=top 22
abbrev Jf:List Str:=["book"]
theorem Fy:bU Jf ["book"] (aB vp):=eN (by decide +kernel)
abbrev Aj (e:En):=FN e "checked" 6 1 qS
theorem Fz (D:iW e.K e.mg "checked" vp) (vq:Ag e) (y8:ER e "NoBook"):Aj e:=rP (k:=5) (g:=qR) D Fy b1 fun _ _ _ _ _ _ _ hr=>by unfold qR;exact (aI (iw (ir (gS (jc vq hr px (af (ap 0) aP)))) (aW (CU y8 rfl (af v8 aP))) dZ) (aW (c9 (ap 0))))
abbrev n8:dz:=top 23
abbrev z9:List Str:=["book","state"]
theorem y9:bU z9 ["book","state"] (aB n8):=eN (by decide +kernel)
abbrev nc (e:En):=FN e "check_place" 7 2 i_
theorem yb (D:iW e.K e.mg "check_place" n8) (vt:Aj e) (ng:rW e):nc e:=rP (k:=6) (g:=kq) D y9 b2 fun _ _ _ _ _ _ _ hr=>by unfold kq;exact (aI (wG (jc vt hr px (af (ap 0) aP))) (aW (wG (jc ng hr px (af (ap 0) (af (ap 1) aP))))))
abbrev lA:dz:=top 25
abbrev ux:List Str:=["book","state"]
theorem zc:bU ux ["book","state"] (aB lA):=eN (by decide +kernel)
abbrev uy (e:En):=FN e "steps_from" 4 2 jJ
theorem zd (D:iW e.K e.mg "steps_from" lA) (jm:qk e) (m9:qm e):uy e:=rP (k:=3) (g:=lm) D zc b2 fun _ _ _ _ _ _ _ hr=>by have hu1:=jT hr;unfold lm;exact (aW (c9 (JN.je (fv (N':=["errand","state"]) (ix:=[1]) 1 (by decide) rfl (cr (so:=aB lA) (N:=ux) (by decide +kernel)) (gg (JE.bor (cp hu1 (al 0) (JE.bor aG)))) (fun cl A0 s0 H0 ex pn=>⟨cZ (i:=0) (by show (["errand","state"] : List Str).Nodup;decide +kernel) rfl (.inl rfl),(mD (gS (jc jm hr fL (af (ap 0) (af (ap 1) aP))))),(lR (af (ap 0) (af (jc m9 hr fL (af (ap 0) (af (ap 1) aP))) aP)))⟩)))))
abbrev oH:dz:=top 26
abbrev BI:List Str:=["book","state","rows","ring","next_ring","at","errand","behind"]
theorem eU:bU BI ["book","state"] (aB oH):=eN (by decide +kernel)
abbrev oJ (e:En):=FN e "first_rows" 5 2 jK
theorem ze (D:iW e.K e.mg "first_rows" oH) (oK:uy e):oJ e:=rP (k:=4) (g:=lr) D eU b2 fun _ _ _ _ _ _ _ hr=>by have hu1:=jT hr;unfold lr;exact (aI (ki 2 (D8 hu1 (ap 1) (lS aP)) eU.nd) (aI (ki 3 (v9 (af (ap 1) aP)) eU.nd) (aI (CO 100000 (RU (al 3)) (aI (ki 4 (v9 aP) eU.nd) (aI (OM 3 rfl (dv 5 eU.nd) (aW (o0 rfl (wH (jc oK hr fL (af (ap 0) (af (ap 5) aP)))) (sy rfl (dD (dv 6 eU.nd) (dD (dv 7 eU.nd) n_))) (aW (iw (eR (zW hu1) (al 7) (al 2)) (aI (D7 2 (bT cO (JE.bor (Ma hu1 (al 2) (al 5))) (JE.bor (lS (af (cp hu1 (al 6) (JE.bor aG)) aP)))) (ap 7) hu1) (aW (nE 4 (ap 7)))) dZ))))) (aW (F7 4 (fi 3 (ap 4) eU.nd)))))) (aW (Md 2 (c9 (ap 2)))))))
abbrev vv:dz:=top 27
abbrev Jg:List Str:=["book","state"]
theorem FA:bU Jg ["book","state"] (aB vv):=eN (by decide +kernel)
abbrev Ak (e:En):=FN e "reached" 8 2 nL
theorem FC (D:iW e.K e.mg "reached" vv) (B:Bi e.mg) (hU:nc e) (iI:oJ e):Ak e:=rP (k:=7) (g:=qT) D FA b2 fun _ _ _ _ _ _ _ hr=>by have hu64:=hr.units;unfold qT;exact (aI (wG (jc hU hr px (af (ap 0) (af (ap 1) aP)))) (aW (c9 (cz (Fb rfl hu64) rfl B.sorted lD (bO (JE.bor (jc iI hr px (af (ap 0) (af (ap 1) aP)))) c8)))))
abbrev BJ:dz:=top 29
abbrev Nd:List Str:=["book","state","states"]
theorem Hr:bU Nd ["book","state"] (aB BJ):=eN (by decide +kernel)
abbrev Nf (e:En):=FN e "idle" 8 2 Bl
theorem Px (D:iW e.K e.mg "idle" BJ) (B:Bi e.mg) (hU:nc e) (iI:oJ e) (jm:qk e):Nf e:=rP (k:=7) (g:=Bk) D Hr b2 fun _ _ _ _ _ _ _ hr=>by have hu1:=jT hr;unfold Bk;exact (aI (wG (jc hU hr px (af (ap 0) (af (ap 1) aP)))) (aI (fi 2 (ed (Mq rfl) rfl B.list j5 (bO (JE.bor (jc iI hr px (af (ap 0) (af (ap 1) aP)))) c8)) Hr.nd) (aW (c9 (JN.je (fv (N':=["errand","states"]) (ix:=[2]) 1 (by decide) rfl (cr (so:=aB BJ) (N:=Nd) (by decide +kernel)) (gg (JE.bor (cp hu1 (al 0) (JE.bor aG)))) (fun cl A0 s0 H0 ex pn=>⟨cZ (i:=0) (by show (["errand","states"] : List Str).Nodup;decide +kernel) rfl (.inr rfl),(mD (ir (gS (cz (F2 rfl) rfl B.any nq (bO (JE.bor (JN.je (fv (N':=["at","errand"]) (ix:=[0]) 1 (by decide) rfl (cr (N:=["errand","states"]) (by kernel_rfl) rfl) (gg (al 1)) (fun cl A0 s0 H0 ex pn=>⟨cZ (i:=0) (by show (["at","errand"] : List Str).Nodup;decide +kernel) rfl (.inl rfl),gC,(jc jm hr fL (af (ap 1) (af (ap 0) aP)))⟩)))) c8))))),(cp hu1 (al 0) (JE.bor aG))⟩)))))))
abbrev nh:dz:=top 31
abbrev zf:List Str:=["_law_script","_law_k"]
theorem yc:bU zf ["_law_script","_law_k"] (aB nh):=eN (by decide +kernel)
abbrev rX (e:En):=FN e "_law_cell_at" 1 2 ku
theorem yd (D:iW e.K e.mg "_law_cell_at" nh) (B:Bi e.mg):rX e:=rP (k:=0) (g:=kr) D yc b2 fun _ _ _ _ _ _ _ hr=>by have hu1:=jT hr;have hu64:=hr.units;unfold kr;exact (aI (iw (eR (xm) (al 1) (JE.bor (cz j_ rfl B.len cJ (bO (al 0) c8)))) (aW (c9 (cp hu1 (al 0) (al 1)))) dZ) (aI (iw (eR (vI hu64) (al 0) (JE.bor (lS aP))) (aW (c9 aG)) dZ) (aW (c9 (bT cO (JE.bor (bT pX (JE.bor (cp hu1 (al 0) (JE.bor (bT AW (al 1) (JE.bor (cz j_ rfl B.len cJ (bO (al 0) c8))))))) (JE.bor aG))) (al 1))))))
abbrev qo:dz:=top 32
abbrev DM:List Str:=["_law_script","_law_k","_law_many","_law_drawn"]
theorem uz:bU DM ["_law_script","_law_k","_law_many"] (aB qo):=eN (by decide +kernel)
abbrev fY (e:En):=FN e "_law_mixed" 2 3 bA
theorem BK (D:iW e.K e.mg "_law_mixed" qo) (ni:rX e):fY e:=rP (k:=1) (g:=mJ) D uz b3 fun _ _ _ _ _ _ _ hr=>by unfold mJ;exact (aI (fi 3 (bT AW (JE.bor (bT pX (JE.bor (bT cO (JE.bor (bT cO (JE.bor (jc ni hr px (af (ap 0) (af (ap 1) aP)))) (JE.bor (bT pX (JE.bor aG) (al 1))))) (JE.bor aG))) (JE.bor aG))) (JE.bor aG)) uz.nd) (aW (c9 (bT AW (JE.bor (bT AW (JE.bor (bT cO (JE.bor (bT cO (JE.bor (bT pX (al 3) (al 3))) (JE.bor (bT pX (JE.bor aG) (al 3))))) (al 1))) (JE.bor aG))) (al 2)))))
abbrev sQ:dz:=top 33
abbrev FD:List Str:=["_law_script","_law_at","_law_made","_law_k"]
theorem mR:bU FD ["_law_script","_law_at"] (aB sQ):=eN (by decide +kernel)
abbrev sR (e:En):=FN e "_law_word" 3 2 k8
theorem DN (D:iW e.K e.mg "_law_word" sQ) (B:Bi e.mg) (ba:fY e):sR e:=rP (k:=2) (g:=og) D mR b2 fun _ _ _ _ _ _ _ hr=>by have hu1:=jT hr;unfold og;exact (aI (fi 2 v8 mR.nd) (aI (o0 rfl (sA rfl B.range (bO (JE.bor (cp hu1 (JE.bor (lS (af aG (af aG (af aG (af aG (af aG (af aG aP)))))))) (JE.bor (jc ba hr fL (af (ap 0) (af (ap 1) (af aG aP))))))) c8)) (dv 3 mR.nd) (aW (fi 2 (bT cO (al 2) (JE.bor (cp hu1 (JE.bor v8) (JE.bor (jc ba hr fL (af (ap 0) (af (bT cO (JE.bor (bT cO (al 1) (JE.bor aG))) (al 3)) (af aG aP)))))))) mR.nd))) (aW (c9 (ap 2)))))
abbrev qp:dz:=top 34
abbrev DO:List Str:=["_law_script","_law_at","_law_most","_law_found","_law_k"]
theorem oM:bU DO ["_law_script","_law_at","_law_most"] (aB qp):=eN (by decide +kernel)
abbrev vP (e:En):=FN e "_law_facts" 4 3 mL
theorem BL (D:iW e.K e.mg "_law_facts" qp) (B:Bi e.mg) (k9:sR e) (ba:fY e):vP e:=rP (k:=3) (g:=mK) D oM b3 fun _ _ _ _ _ _ _ hr=>by have hu1:=jT hr;unfold mK;exact (aI (ki 3 Gi oM.nd) (aI (o0 rfl (sA rfl B.range (bO (JE.bor (jc ba hr fL (af (ap 0) (af (ap 1) (af (bT cO (al 2) (JE.bor aG)) aP))))) c8)) (dv 4 oM.nd) (aW (Gm 3 pU (jc k9 hr fL (af (ap 0) (af (bT cO (JE.bor (bT cO (al 1) (JE.bor aG))) (JE.bor (bT pX (JE.bor aG) (al 4)))) aP))) hu1))) (aW (c9 (ed (iu rfl) rfl B.tuple bn (bO (JE.bor (cz IA rfl B.sorted lD (bO (JE.bor (ed (xw rfl) rfl B.list j5 (bO (al 3) c8))) c8))) c8))))))
abbrev oN:dz:=top 35
abbrev ye:List Str:=["_law_script","_law_at","_law_facts_here","_law_part"]
theorem DP:bU ye ["_law_script","_law_at","_law_facts_here","_law_part"] (aB oN):=eN (by decide +kernel)
abbrev yf (e:En):=FN e "_law_some" 3 4 oj
theorem DQ (D:iW e.K e.mg "_law_some" oN) (B:Bi e.mg) (ba:fY e):yf e:=rP (k:=2) (g:=oh) D DP b4 fun _ _ _ _ _ _ _ hr=>by unfold oh;exact (aW (c9 (ed (iu rfl) rfl B.tuple bn (bO (JE.bor (JN.je (fv (N':=["_law_k","_law_fact","_law_script","_law_at","_law_part"]) (ix:=[0,1,3]) 2 (by decide) rfl (cr (so:=aB oN) (N:=ye) (by decide +kernel)) (Ld.i (xp rfl B.enumerate (af (ap 2) aP))) (fun cl A0 s0 H0 ex pn=>⟨EA rfl (pM (cZ (i:=0) (by show (["_law_k","_law_fact","_law_script","_law_at","_law_part"] : List Str).Nodup;decide +kernel) rfl (.inl rfl)) (pM (cZ (i:=1) (by show (["_law_k","_law_fact","_law_script","_law_at","_law_part"] : List Str).Nodup;decide +kernel) rfl (.inl rfl)) Ay)),(mD (eR (xm) (JE.bor (jc ba hr fL (af (ap 2) (af (bT cO (al 3) (al 0)) (af aG aP))))) (al 4))),(ap 1)⟩)))) c8))))
abbrev ka:dz:=top 36
abbrev oO:List Str:=["_law_script","_law_at","_law_facts_here","_law_name","_law_one","_law_two","_law_goal","_law_needs","_law_bars","_law_ends","_law_parts"]
theorem gN:bU oO ["_law_script","_law_at","_law_facts_here","_law_name"] (aB ka):=eN (by decide +kernel)
abbrev yg (e:En):=FN e "_law_thin" 3 4 oo
theorem DR (D:iW e.K e.mg "_law_thin" ka) (B:Bi e.mg) (ba:fY e):yg e:=rP (k:=2) (g:=om) D gN b4 fun _ _ _ _ _ _ _ hr=>by have hu1:=jT hr;have hu64:=hr.units;unfold om;exact (aI (fi 4 (cp hu1 (al 2) (JE.bor (jc ba hr px (af (ap 0) (af (bT cO (al 1) (JE.bor aG)) (af (cz j_ rfl B.len cJ (bO (al 2) c8)) aP)))))) gN.nd) (aI (fi 5 (cp hu1 (al 2) (JE.bor (jc ba hr px (af (ap 0) (af (bT cO (al 1) (JE.bor aG)) (af (cz j_ rfl B.len cJ (bO (al 2) c8)) aP)))))) gN.nd) (aI (fi 6 (cp hu1 (al 2) (JE.bor (jc ba hr px (af (ap 0) (af (bT cO (al 1) (JE.bor aG)) (af (cz j_ rfl B.len cJ (bO (al 2) c8)) aP)))))) gN.nd) (aI (fi 7 (pY (JE.bor (lS (af (ap 4) (af (ap 5) aP)))) wF (qD (bT cO (JE.bor aG) (JE.bor (bT OE (JE.bor (jc ba hr px (af (ap 0) (af (bT cO (al 1) (JE.bor aG)) (af aG aP))))) (JE.bor aG)))))) gN.nd) (aI (lT 8 (N':=["_law_fact","_law_needs","_law_script","_law_at"]) (ix:=[7,0,1]) 1 (by decide) gN.nd rfl (cr (so:=aB ka) (N:=oO) (by decide +kernel)) (gg (JE.bor (lS (af (ap 6) aP)))) (fun cl A0 s0 H0 ex pn=>⟨cZ (i:=0) (by show (["_law_fact","_law_needs","_law_script","_law_at"] : List Str).Nodup;decide +kernel) rfl (.inl rfl),(mD (JW.t (AV (eR (ud) (al 0) (al 1)) (wE (eR (vI hu64) (JE.bor (jc ba hr fL (af (ap 2) (af (bT cO (al 3) (JE.bor aG)) (af aG aP))))) (JE.bor aG)))))),(ap 0)⟩)) (aI (lT 9 (N':=["_law_fact","_law_goal","_law_script","_law_at"]) (ix:=[6,0,1]) 1 (by decide) gN.nd rfl (cr (so:=aB ka) (N:=oO) (by decide +kernel)) (gg (JE.bor (lS (af (ap 4) aP)))) (fun cl A0 s0 H0 ex pn=>⟨cZ (i:=0) (by show (["_law_fact","_law_goal","_law_script","_law_at"] : List Str).Nodup;decide +kernel) rfl (.inl rfl),(mD (JW.t (AV (eR (Ga hu64) (al 0) (al 1)) (wE (eR (vI hu64) (JE.bor (jc ba hr fL (af (ap 2) (af (bT cO (al 3) (JE.bor aG)) (af aG aP))))) (JE.bor aG)))))),(ap 0)⟩)) (aI (F7 8 (F7 9 (lT 10 (N':=["_law_part"]) (ix:=[]) 1 (by decide) gN.nd rfl (cr (so:=aB ka) (N:=oO) (by decide +kernel)) (gg (JE.bor (lR (af (ap 7) (af (ap 8) (af (lS (af (ap 6) aP)) (af (ap 9) aP))))))) (fun cl A0 s0 H0 ex pn=>⟨cZ (i:=0) (by show (["_law_part"] : List Str).Nodup;decide +kernel) rfl (.inl rfl),gC,(ed (iu rfl) rfl B.tuple bn (bO (JE.bor (sD rfl (B9 rfl (al 0) rfl B.set) rfl B.sorted)) c8))⟩)))) (aW (c9 (lR (af (ap 3) (af (cp hu1 (al 10) (JE.bor aG)) (af (cp hu1 (al 10) (JE.bor aG)) (af (cp hu1 (al 10) (JE.bor aG)) (af (cp hu1 (al 10) (JE.bor aG)) (af (jc ba hr px (af (ap 0) (af (ap 1) (af aG aP)))) aP))))))))))))))))
abbrev lB:dz:=top 37
abbrev uA:List Str:=["_law_script","_law_at","_law_facts_here","_law_name","_law_parts","_law_k","_law_fact","_law_way","_law_some_here"]
theorem gm:bU uA ["_law_script","_law_at","_law_facts_here","_law_name"] (aB lB):=eN (by decide +kernel)
abbrev uB (e:En):=FN e "_law_errand" 4 4 iH
theorem zg (D:iW e.K e.mg "_law_errand" lB) (B:Bi e.mg) (ba:fY e) (sS:yg e):uB e:=rP (k:=3) (g:=iG) D gm b4 fun _ _ _ _ _ _ _ hr=>by have hu1:=jT hr;have hu64:=hr.units;unfold iG;exact (aI (iw (JW.t (AV (eR (Ga hu64) (al 2) (JE.bor (lR aP))) (wE (eR (vI hu64) (JE.bor (jc ba hr px (af (ap 0) (af aG (af aG aP))))) (JE.bor aG))))) (aW (c9 (jc sS hr px (af (ap 0) (af (ap 1) (af (ap 2) (af (ap 3) aP))))))) dZ) (aI (RH 4 gm.nd) (aI (o0 rfl (xp rfl B.enumerate (af (ap 2) aP)) (sy rfl (dD (dv 5 gm.nd) (dD (dv 6 gm.nd) n_))) (aI (fi 7 (jc ba hr fL (af (ap 0) (af (bT cO (JE.bor (bT cO (al 1) (JE.bor aG))) (al 5)) (af aG aP)))) gm.nd) (aI (iw (eR (xm) (al 7) (JE.bor aG)) (aW (xA 4 (cp hu1 (JE.bor (lS (af aG (af aG (af aG aP))))) (al 7)) (ap 6))) dZ) (aI (fi 7 (jc ba hr fL (af (ap 0) (af (bT cO (JE.bor (bT cO (al 1) (JE.bor aG))) (al 5)) (af aG aP)))) gm.nd) (aW (iw (eR (xm) (al 7) (JE.bor aG)) (aW (xA 4 (cp hu1 (JE.bor (lS (af aG (af aG (af aG (af aG aP)))))) (al 7)) (ap 6))) dZ)))))) (aI (Lk (lT 8 (N':=["_law_part"]) (ix:=[]) 1 (by decide) gm.nd rfl (cr (so:=aB lB) (N:=uA) (by decide +kernel)) (gg (al 4)) (fun cl A0 s0 H0 ex pn=>⟨cZ (i:=0) (by show (["_law_part"] : List Str).Nodup;decide +kernel) rfl (.inl rfl),gC,(ed (iu rfl) rfl B.tuple bn (bO (al 0) c8))⟩))) (aW (c9 (lR (af (ap 3) (af (cp hu1 (al 8) (JE.bor aG)) (af (cp hu1 (al 8) (JE.bor aG)) (af (cp hu1 (al 8) (JE.bor aG)) (af (cp hu1 (al 8) (JE.bor aG)) (af (jc ba hr px (af (ap 0) (af (ap 1) (af aG aP)))) aP)))))))))))))
abbrev oP:dz:=top 38
abbrev yh:List Str:=["_law_script","_law_at","_law_most","_law_many","_law_facts_here","_law_made","_law_k","_law_name","_law_names","_law_turn"]
theorem iA:bU yh ["_law_script","_law_at","_law_most","_law_many"] (aB oP):=eN (by decide +kernel)
abbrev yi (e:En):=FN e "_law_book" 5 4 lW
theorem DS (D:iW e.K e.mg "_law_book" oP) (B:Bi e.mg) (qq:vP e) (k9:sR e) (oQ:uB e) (ba:fY e):yi e:=rP (k:=4) (g:=lV) D iA b4 fun _ _ _ _ _ _ _ hr=>by have hu1:=jT hr;unfold lV;exact (aI (fi 4 (jc qq hr px (af (ap 0) (af (ap 1) (af (ap 2) aP)))) iA.nd) (aI (ki 5 Gi iA.nd) (aI (o0 rfl (sA rfl B.range (bO (JE.bor (jc ba hr fL (af (ap 0) (af (bT cO (al 1) (JE.bor aG)) (af (bT cO (al 3) (JE.bor aG)) aP))))) c8)) (dv 6 iA.nd) (aI (fi 7 (jc k9 hr fL (af (ap 0) (af (bT cO (JE.bor (bT cO (al 1) (JE.bor aG))) (JE.bor (bT pX (JE.bor aG) (al 6)))) aP))) iA.nd) (aW (Gm 5 (jc oQ hr fL (af (ap 0) (af (bT cO (JE.bor (bT cO (al 1) (JE.bor aG))) (JE.bor (bT pX (JE.bor aG) (al 6)))) (af (ap 4) (af (ap 7) aP))))) (ap 7) hu1)))) (aI (fi 8 (ed (xw rfl) rfl B.list j5 (bO (al 5) c8)) iA.nd) (aI (fi 9 (jc ba hr px (af (ap 0) (af (bT cO (al 1) (JE.bor aG)) (af (bT cO (JE.bor (cz j_ rfl B.len cJ (bO (al 8) c8))) (JE.bor aG)) aP)))) iA.nd) (aW (c9 (lR (af (ap 4) (af (ed (iu rfl) rfl B.tuple bn (bO (JE.bor (JN.je (fv (N':=["_law_name","_law_made"]) (ix:=[5]) 1 (by decide) rfl (cr (so:=aB oP) (N:=yh) (by decide +kernel)) (gg (JE.bor (bT cO (JE.bor (pY (al 8) (qD (ap 9)) wF)) (JE.bor (pY (al 8) wF (qD (ap 9))))))) (fun cl A0 s0 H0 ex pn=>⟨cZ (i:=0) (by show (["_law_name","_law_made"] : List Str).Nodup;decide +kernel) rfl (.inl rfl),gC,(cp hu1 (al 1) (al 0))⟩)))) c8)) aP))))))))))
abbrev sU:dz:=top 39
abbrev FE:List Str:=["_law_script","_law_at","_law_facts_here","_law_must","_law_bars","_law_k","_law_fact","_law_way"]
theorem jn:bU FE ["_law_script","_law_at","_law_facts_here"] (aB sU):=eN (by decide +kernel)
abbrev yj (e:En):=FN e "_law_want" 3 3 sI
theorem DT (D:iW e.K e.mg "_law_want" sU) (B:Bi e.mg) (ba:fY e):yj e:=rP (k:=2) (g:=lX) D jn b3 fun _ _ _ _ _ _ _ hr=>by have hu64:=hr.units;unfold lX;exact (aI (ki 3 (v9 aP) jn.nd) (aI (ki 4 (v9 aP) jn.nd) (aI (o0 rfl (xp rfl B.enumerate (af (ap 2) aP)) (sy rfl (dD (dv 5 jn.nd) (dD (dv 6 jn.nd) n_))) (aI (fi 7 (jc ba hr fL (af (ap 0) (af (bT cO (al 1) (al 5)) (af aG aP)))) jn.nd) (aW (iw (eR (xm) (al 7) (JE.bor aG)) (aW (nE 3 (ap 6))) (aW (iw (eR (vI hu64) (al 7) (JE.bor aG)) (aW (nE 4 (ap 6))) dZ)))))) (aW (c9 (lR (af (ed (iu rfl) rfl B.tuple bn (bO (al 3) c8)) (af (ed (iu rfl) rfl B.tuple bn (bO (al 4) c8)) aP))))))))
abbrev sV:dz:=top 40
abbrev FF:List Str:=["_law_script","_law_most","_law_many","_law_book_here","_law_state"]
theorem qr:bU FF ["_law_script","_law_most","_law_many"] (aB sV):=eN (by decide +kernel)
abbrev yk (e:En):=FN e "_law_case" 6 3 ou
theorem DU (D:iW e.K e.mg "_law_case" sV) (sW:yi e) (ba:fY e) (sX:yf e) (sY:yj e):yk e:=rP (k:=5) (g:=oq) D qr b3 fun _ _ _ _ _ _ _ hr=>by have hu1:=jT hr;unfold oq;exact (aI (fi 3 (jc sW hr px (af (ap 0) (af aG (af (ap 1) (af (ap 2) aP))))) qr.nd) (aI (fi 4 (jc sX hr px (af (ap 0) (af aG (af (cp hu1 (al 3) (JE.bor aG)) (af (cp hu1 (JE.bor (lS (af aG (af aG aP)))) (JE.bor (jc ba hr px (af (ap 0) (af aG (af aG aP)))))) aP))))) qr.nd) (aW (c9 (lR (af (ap 3) (af (ap 4) (af (jc sY hr px (af (ap 0) (af aG (af (cp hu1 (al 3) (JE.bor aG)) aP)))) aP))))))))
abbrev md:dz:=top 41
abbrev sZ:List Str:=["_law_state","_law_want_here"]
theorem DV:bU sZ ["_law_state","_law_want_here"] (aB md):=eN (by decide +kernel)
abbrev ym (e:En):=FN e "_law_good" 1 2 oz
theorem DW (D:iW e.K e.mg "_law_good" md) (B:Bi e.mg):ym e:=rP (k:=0) (g:=oy) D DV b2 fun _ _ _ _ _ _ _ hr=>by have hu1:=jT hr;unfold oy;exact (aW (c9 (xl (cz (nZ rfl) rfl B.all cE (bO (JE.bor (JN.je (fv (N':=["_law_fact","_law_state"]) (ix:=[0]) 1 (by decide) rfl (cr (so:=aB md) (N:=sZ) (by decide +kernel)) (gg (JE.bor (cp hu1 (al 1) (JE.bor aG)))) (fun cl A0 s0 H0 ex pn=>⟨cZ (i:=0) (by show (["_law_fact","_law_state"] : List Str).Nodup;decide +kernel) rfl (.inl rfl),gC,(mY (CG) (al 0) (al 1))⟩)))) c8)) (xk (L0 (cz (F2 rfl) rfl B.any nq (bO (JE.bor (JN.je (fv (N':=["_law_fact","_law_state"]) (ix:=[0]) 1 (by decide) rfl (cr (so:=aB md) (N:=sZ) (by decide +kernel)) (gg (JE.bor (cp hu1 (al 1) (JE.bor aG)))) (fun cl A0 s0 H0 ex pn=>⟨cZ (i:=0) (by show (["_law_fact","_law_state"] : List Str).Nodup;decide +kernel) rfl (.inl rfl),gC,(mY (CG) (al 0) (al 1))⟩)))) c8)))))))
abbrev oR:dz:=top 42
abbrev yn:List Str:=["_law_errand_here","_law_state","_law_left"]
theorem vQ:bU yn ["_law_errand_here","_law_state"] (aB oR):=eN (by decide +kernel)
abbrev s_ (e:En):=FN e "_law_step" 2 2 iy
theorem DX (D:iW e.K e.mg "_law_step" oR) (B:Bi e.mg) (t4:ym e):s_ e:=rP (k:=1) (g:=oA) D vQ b2 fun _ _ _ _ _ _ _ hr=>by have hu1:=jT hr;unfold oA;exact (aI (iw (ir (gS (jc t4 hr px (af (ap 1) (af (pY (al 0) (qD aG) (qD aG)) aP))))) (aW (c9 EW)) dZ) (aI (lT 2 (N':=["_law_fact","_law_errand_here"]) (ix:=[0]) 1 (by decide) vQ.nd rfl (cr (so:=aB oR) (N:=yn) (by decide +kernel)) (gg (al 1)) (fun cl A0 s0 H0 ex pn=>⟨cZ (i:=0) (by show (["_law_fact","_law_errand_here"] : List Str).Nodup;decide +kernel) rfl (.inl rfl),(mD (eR (ud) (al 0) (JE.bor (cp hu1 (al 1) (JE.bor aG))))),(ap 0)⟩)) (aW (c9 (ed (iu rfl) rfl B.tuple bn (bO (JE.bor (sD rfl (B9 rfl (JE.bor (bT cO (al 2) (JE.bor (ed (xw rfl) rfl B.list j5 (bO (JE.bor (cp hu1 (al 0) (JE.bor aG))) c8))))) rfl B.set) rfl B.sorted)) c8))))))
abbrev oS:dz:=top 43
abbrev BM:List Str:=["_law_book_here","_law_state","_law_met","_law_row","_law_at","_law_errand_here","_law_other"]
theorem gn:bU BM ["_law_book_here","_law_state"] (aB oS):=eN (by decide +kernel)
abbrev uC (e:En):=FN e "_law_levels" 3 2 lv
theorem zh (D:iW e.K e.mg "_law_levels" oS) (B:Bi e.mg) (kc:s_ e):uC e:=rP (k:=2) (g:=lu) D gn b2 fun _ _ _ _ _ _ _ hr=>by have hu1:=jT hr;unfold lu;exact (aI (ki 2 (D8 hu1 (ap 1) aG) gn.nd) (aI (ki 3 (v9 (af (ap 1) aP)) gn.nd) (aI (fi 4 aG gn.nd) (aI (CO 100000 (eR (xm) (al 4) (JE.bor (cz j_ rfl B.len cJ (bO (al 3) c8)))) (aI (o0 rfl (wH (cp hu1 (al 0) (JE.bor aG))) (dv 5 gn.nd) (aI (fi 6 (jc kc hr fL (af (ap 5) (af (cp hu1 (al 3) (al 4)) aP))) gn.nd) (aW (iw (JW.t (AV (eR (L8) (al 6) (JE.bor EW)) (wE (eR (zW hu1) (al 6) (al 2))))) (aI (D7 2 (bT cO (JE.bor (Ma hu1 (al 2) (JE.bor (cp hu1 (al 3) (al 4))))) (JE.bor aG)) (ap 6) hu1) (aW (nE 3 (ap 6)))) dZ)))) (aW (fi 4 (bT cO (al 4) (JE.bor aG)) gn.nd)))) (aW (Md 2 (c9 (ap 2))))))))
abbrev rY:dz:=top 44
abbrev Ng:List Str:=["_law_script","_law_book_here","_law_state","_law_want_here","_law_met","_law_due","_law_errand_here","_law_rest"]
theorem qt:bU Ng ["_law_script"] (aB rY):=eN (by decide +kernel)
theorem Sv {f:ai}{fd:eG} (F:Ih e.K "law" "law" rY f fd) (B:Bi e.mg) (t5:yk e) (oT:uC e) (kc:s_ e) (FG:Nf e) (r6:Ak e):rj e.P e.w e.K e.mg e.base (oY e.P e.w) 9 f fd ["_law_script"] (Q7 e.K e.cls 1 F_law):=by
 refine Q9 (k:=8) (g:=G_) F qt fun cdv A outer s H E hr=>?_
 have hu1:=jT hr
 have hu64:=hr.units
 unfold G_
 exact (aI (A_ (jc t5 hr px (af (ap 0) (af aG (af aG aP)))) (sy rfl (dD (dv 1 qt.nd) (dD (dv 2 qt.nd) (dD (dv 3 qt.nd) n_))))) (aI (fi 4 (jc oT hr px (af (ap 1) (af (ap 2) aP))) qt.nd) (aI (ki 5 (v9 aP) qt.nd) (aI (o0 rfl (wH (cp hu1 (al 1) (JE.bor aG))) (dv 6 qt.nd) (aW (iw (gS (cz (nZ rfl) rfl B.all cE (bO (JE.bor (JN.je (fv (N':=["_law_one","_law_errand_here"]) (ix:=[6]) 1 (by decide) rfl (cr (so:=aB rY) (N:=Ng) (by decide +kernel)) (P0 (al 4)) (fun cl A0 s0 H0 ex pn=>⟨cZ (i:=0) (by show (["_law_one","_law_errand_here"] : List Str).Nodup;decide +kernel) rfl (.inl rfl),gC,(mY (Tu) (JE.bor (jc kc hr fL (af (ap 1) (af (ap 0) aP)))) (JE.bor EW))⟩)))) c8))) (aW (nE 5 (cp hu1 (al 6) (JE.bor aG)))) dZ))) (aI (fi 7 (lR (af (cp hu1 (al 1) (JE.bor aG)) (af (ed (iu rfl) rfl B.tuple bn (bO (JE.bor (JN.je (fv (N':=["_law_errand_here","_law_due"]) (ix:=[5]) 1 (by decide) rfl (cr (so:=aB rY) (N:=Ng) (by decide +kernel)) (gg (JE.bor (cp hu1 (al 1) (JE.bor aG)))) (fun cl A0 s0 H0 ex pn=>⟨cZ (i:=0) (by show (["_law_errand_here","_law_due"] : List Str).Nodup;decide +kernel) rfl (.inl rfl),(mD (eR (ud) (JE.bor (cp hu1 (al 0) (JE.bor aG))) (al 1))),(ap 0)⟩)))) c8)) aP))) qt.nd) (aW (c9 (xl (mY (vI hu64) (JE.bor (jc FG hr px (af (ap 1) (af (ap 2) aP)))) (al 5)) (xk (mY (vI hu64) (JE.bor (jc r6 hr px (af (ap 7) (af (ap 2) aP)))) (JE.bor (jc r6 hr px (af (ap 1) (af (ap 2) aP))))))))))))))
end
end
section
theorem all_mk {l:vU}{w:aZ}{K:a8}{h:bB}{mg:Str->Option aa}{fa A:ai}{Al:ai}{DY:ai}{od an:Option ai}{sl:Array (Option aa)}{oc kV dc pm cv ct:aa} (X:K.In h) (G:h.Ns bL mg) (hfa:mg "law"=some (.ref fa))
  (Zz:Zs K zn)
  (m6:Cn mg "MOST_LETTERS" 6)
  (oF:Cn mg "MOST_PRICE" 9)
  (oG:Cn mg "MOST_FACTS" 6)
  (m7:Cn mg "MOST_ERRANDS" 6)
  (Jh:TopC K "NoState" Al)
  (Nh:TopC K "NoBook" DY)
  (BN:iW K mg "share_none" lz)
  (Ji:iW K mg "without" qZ)
  (Ni:iW K mg "joined" xW)
  (Jj:iW K mg "is_word" q_)
  (tf:iW K mg "are_rising_words" fo)
  (DZ:iW K mg "are_facts" mP)
  (FH:iW K mg "is_whole" sL)
  (D_:iW K mg "is_errand" mQ)
  (Jk:iW K mg "is_book" nM)
  (zi:iW K mg "check_state" n6)
  (Jl:iW K mg "fulfils" r0)
  (E1:iW K mg "is_doable" qj)
  (yo:iW K mg "state_behind" m8)
  (Jm:iW K mg "checked" vp)
  (zj:iW K mg "check_place" n8)
  (BO:iW K mg "steps_from" lA)
  (BP:iW K mg "first_rows" oH)
  (Jn:iW K mg "reached" vv)
  (Sw:iW K mg "idle" BJ)
  (zk:iW K mg "_law_cell_at" nh)
  (E2:iW K mg "_law_mixed" qo)
  (FI:iW K mg "_law_word" sQ)
  (E3:iW K mg "_law_facts" qp)
  (FJ:iW K mg "_law_some" oN)
  (FK:iW K mg "_law_thin" ka)
  (BQ:iW K mg "_law_errand" lB)
  (FL:iW K mg "_law_book" oP)
  (FM:iW K mg "_law_want" sU)
  (FO:iW K mg "_law_case" sV)
  (FP:iW K mg "_law_good" md)
  (FQ:iW K mg "_law_step" oR)
  (BR:iW K mg "_law_levels" oS)
  (l0:fR K bL "law"=some (some (.ref A)))
  (l1:K.lookup A=some ⟨oc,od,.func (fP "law" "law" (kh rY) (i6 rY) (aB rY) .none kV dc pm an cv ct),sl⟩)
  (l2:lL K cv "law"=true)
  (l3:f9 K (.ref A)=true)
  : ∃ fd:eG,(∀ (s:ae) (v:aa),yw s fd ⟨[v],[]⟩ [("_law_script",v)])/\∀ base:bB,K.In base->base.Ns bL mg->rj l.prog w K mg base (oY l.prog w) 9 fa fd ["_law_script"] (TU K F_law):=by
 have q:=hfa.symm.trans (mU X G l0)
 cases q
 refine ⟨fP "law" "law" (kh rY) (i6 rY) (aB rY) .none kV dc pm an cv ct,fun s v=>.of_eq rfl,fun base X G=>?_⟩
 let e:En:=⟨l.prog,w,K,mg,base,TV [("NoState",Al),("NoBook",DY)]⟩
 have B:Bi e.mg:=Ud X G Zz
 have vm:ER e "NoState":=Jh.er X G rfl
 have y8:ER e "NoBook":=Nh.er X G rfl
 have gY:=y_ (e:=e) BN B
 have vo:=Fq (e:=e) Ji B
 have y0:=Je (e:=e) Ni B
 have lI:=Fu (e:=e) Jj B m6
 have ef:=rq (e:=e) tf B lI
 have jl:=BE (e:=e) DZ B ef
 have sM:=DK (e:=e) FH B
 have qi:=BF (e:=e) D_ B lI sM jl gY oF
 have vq:=Fw (e:=e) Jk B ef qi oG m7
 have ng:=xZ (e:=e) zi jl vm
 have vn:=Fx (e:=e) Jl B gY
 have jm:=BH (e:=e) E1 vn
 have m9:=wo (e:=e) yo vo y0
 have vt:=Fz (e:=e) Jm vq y8
 have hU:=yb (e:=e) zj vt ng
 have oK:=zd (e:=e) BO jm m9
 have iI:=ze (e:=e) BP oK
 have r6:=FC (e:=e) Jn B hU iI
 have FG:=Px (e:=e) Sw B hU iI jm
 have ni:=yd (e:=e) zk B
 have ba:=BK (e:=e) E2 ni
 have k9:=DN (e:=e) FI B ba
 have qq:=BL (e:=e) E3 B k9 ba
 have sX:=DQ (e:=e) FJ B ba
 have sS:=DR (e:=e) FK B ba
 have oQ:=zg (e:=e) BQ B ba sS
 have sW:=DS (e:=e) FL B qq k9 oQ ba
 have sY:=DT (e:=e) FM B ba
 have t5:=DU (e:=e) FO sW ba sX sY
 have t4:=DW (e:=e) FP B
 have kc:=DX (e:=e) FQ B t4
 have oT:=zh (e:=e) BR B kc
 exact (Sv (e:=e) (Ks l1 l2 l3) B t5 oT kc FG r6).imp RJ
end
end Z
section
open PySem PySem.W PyProof.Rows
def PySem.W.Fast.tw9908892469005282628:Nat:=0
def PySem.W.Fast.tw11955959265666268234:Nat:=0
def PySem.W.Fast.tw3089920533502662633:Nat:=0
def PySem.W.Fast.tw9642752178563226394:Nat:=0
def PySem.W.Fast.tw3759123943716853923:Nat:=0
def PySem.W.Fast.tw16630216408905280797:Nat:=0
def PySem.W.Fast.tw12602255576620811811:Nat:=0
def PySem.W.Fast.tw12585487082414013461:Nat:=0
def PySem.W.Fast.tw12476586246321888293:Nat:=0
def PySem.W.Fast.tw5191536908412878507:Nat:=0
def PySem.W.Fast.tw376040357546318687:Nat:=0
def PySem.W.Fast.tw7950503914270046777:Nat:=0
def PySem.W.Fast.tw8489993770186616948:Nat:=0
def PySem.W.Fast.tw3556282143919591447:Nat:=0
def PySem.W.Fast.tw10524768870622515128:Nat:=0
def PySem.W.Fast.tw17118863714024404441:Nat:=0
def PySem.W.Fast.tw15257826037906457817:Nat:=0
def PySem.W.Fast.tw11734765624062238820:Nat:=0
def PySem.W.Fast.tw14451850910904336767:Nat:=0
def PySem.W.Fast.tw17716979026233966518:Nat:=0
def PySem.W.Fast.tw2140461054101674471:Nat:=0
def PySem.W.Fast.tw18309113756448600922:Nat:=0
def PySem.W.Fast.tw16920937448990253945:Nat:=0
def PySem.W.Fast.tw1641027446224714714:Nat:=0
def PySem.W.Fast.tw9291794353504708136:Nat:=0
def PySem.W.Fast.tw17834152370128895588:Nat:=0
def PySem.W.Fast.tw6343555454350953979:Nat:=0
def PySem.W.Fast.tw2048508044588677868:Nat:=0
def PySem.W.Fast.tw4158282397465269156:Nat:=0
def PySem.W.Fast.tw1301345567226379679:Nat:=0
def PySem.W.Fast.tw14209424094070188377:Nat:=0
def PySem.W.Fast.tw2876451609798281768:Nat:=0
def PySem.W.Fast.tw6794737294020196897:Nat:=0
theorem PySem.Challenge.cw_errands_k19_idle_holds : PySem.Challenge.rw_errands_k19_idle.Holds := by
 w_on;o_law;k_head;(case hw=>w_witness2)
 k_fill
 refine J.walkF (l:=PySem.Challenge.rw_errands_k19_idle) (k:=9) (x:="_law_script") (F0:=Z.F_law) rfl rfl ⟨rfl,by decide,by decide⟩ (fun w h Y=>by first | exact PySem.W.kIn_of Y | exact PySem.W.km_in_of Y) ?F (fun ns _=>Z.law_true ns)
 case F =>
  intro w mg fa h KX G hmg
  refine' Z.all_mk KX G hmg ?_ ?_ ?_ ?_ ?_ ?_ ?_ ?_ ?_ ?_ ?_ ?_ ?_ ?_ ?_ ?_ ?_ ?_ ?_ ?_ ?_ ?_ ?_ ?_ ?_ ?_ ?_ ?_ ?_ ?_ ?_ ?_ ?_ ?_ ?_ ?_ ?_ ?_ ?_ ?_ ?_ ?_ ?_
  all_goals first
   | (refine' J.d_in KX G ?_ ?_ ?_ ?_<;>try k_is)
   | (refine' J.cn_in KX G ?_<;>try k_is)
   | k_is
   | (refine' J.TopC.mk ?_ ?_ ?_<;>try (first | k_is | k_exc))
   | (refine' J.topN ?_ ?_ ?_ ?_ ?_ ?_ ?_ ?_ ?_ ?_ ?_ ?_ ?_ ?_ ?_ ?_ ?_ ?_ ?_ ?_ ?_ ?_ ?_<;>try (first | k_is | rfl | exact fun _ _=>⟨_,rfl,rfl⟩ | decide +kernel))
   | ((refine' J.Wy.mk ?_ ?_ ?_ ?_ ?_ ?_ ?_ ?_ ?_ ?_)<;>try (first | k_is | decide | ((repeat' (first | exact .nil | refine' .cons ?_ ?_ ?_))<;>try (first | k_is | decide))))
   | ((repeat' (first | exact .nil | refine' .cons ?_ ?_))<;>try (first | (refine' J.cw_in ?_ ?_ ?_<;>try k_is) | k_is))
   | skip
end
