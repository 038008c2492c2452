import PyProof.Rows.All
import Wide.All
import OpenK.AllK
import Wide.FinOn
import Lean
import PyProof.EqAt
import PyProof.EqKinds
import PyProof.TupleCall
import KE.KDictOf
import PyProof.AttrMissHeap
import KE.KRevIter
import PyProof.DictWalks
import PyProof.MinMaxWalk
import PyProof.SeqI3
import PyProof.WalkInts
import PyProof.ExcInit
import PyProof.InstStoreFacts
import PyProof.DictCompW
import PySem.Challenge.RW_errands_k08_whole_shortest
set_option Elab.async false
set_option linter.all false
set_option maxRecDepth 100000
set_option maxHeartbeats 0
open PySem renaming wpAny_bind->a7,wpAny_pure->a9,Value->aa,Shared->af,Addr->ak,wpAny->au,model->ax,Program->aK,starEach->aO,Around->aX,Expr->aZ,World->bc,cellsFrom->br,wpAny_setState_of->bA,Heap->bF,boot_len->bG,wpAny_call_entry->bJ,wpAny_mono->bL,compareOp->bO,mainGlobals->bQ,wpAny_newObj_type->bR,rawInt->cn,wpAny_callSpecial?_slot->cq,Stmt->c_,wpAny_rule->df,wpAny_truthy_bool->dg,wpAny_holding->dv,mem_of_lookup->dA,wpAny_field->dO,foldedSetIterable->eu,eval->eE,FuncData->eP,sysModules->eT,wpAny_of_eq->f9,wpAny_seqItems->fc,fits_of_scanBound->fz,wpAny_isInstance->gg,Scope->gE,wpAny_pyIter_tuple->gF,binaryOp->gG,wpAny_setField->gH,cLine->gT,letOwnedTupleGo->hJ,codeAny_builtin->hV,behindInMarks->h_,swapsWith->ij,wpAny_askSetting->ik,setField->il,strIterType->iC,wpAny_typeNameOfWhole_keyiter->iE,bootBuiltins->iF,assignEach->iG,wpAny_setField_rec->iI,wpAny_passesOwn->iP,wpAny_standAt->j0,scanBound->j4,wpAny_storeSet_of->jb,backTo->jn,sizeLine_eq->jo,SetTable->jq,codeAny->jE,Builtin->jG,wpAny_attempt->k9,IsPair->kn,pyNext->lB,wpAny_pyIter_list->lC,NameKind->lD,firstArgMember->lF,DictEntry->mw,sliceBounds->mX,pickOrder->oX,tupleKind_room_in1->pd,getItem->qz,assign->qF,wpAny_comprehension_free->qI,plainId_quiet->qK,tupleKind->sJ,raiseNew->sK,Result->tQ,codeAny_mono->tR,wpAny_typeOf->tT,newExc->tU,wpAny_execs_nil->uI,pushCells_keeps->uK,isTrue->vZ,IsPart->v_,newFunctionEnv->wa,relayAll->wc,unsupported->we,isSubtype_stop->wf,IsZip->wg,wpAny_updateSeq_pair->wj,standAt->xi,callerA->xj,swapsWithSole->x_,swappedStores->y0,wpAny_onRaise->yd,pyIter->yA,wpAny_Call_Name_kw->yC,Model->Ag,BindsTo->Ai,Keyword->Aj,concat_meets->Ak,valueAt->Al,wpAny_pyIter_slot->Ao,collect->Aq,wpAny_dictEntries->Av,wpAny_eqBool_str->Cc,noFill_tuple_add->Cd,PyData->Ch,subscripted->DN,codeAny_of_tree->DS,wpAny_dictEpoch->DU,Paired->Gk,GenState->Gn,atKey->Gr,wpAny_runValue->Gs,entryFor_alias->Gu,isSubtype_type->Gv,wpAny_fieldsOf->Gw,field->Gx,assignInOrder->K8,seq_tuple_add->Kb,attributeBase->Ke,call->Kf,wpAny_handled->Kh,wpAny_newList->Ki,Drawn->M0,CmpOp->M1,lastMarks->M2,bindL->M4,bindC->M5,seqItems?->M7,sub_set_self->Mn,setNext->Mo,wpAny_isTrue_Compare1->PN,builtinLookup_eq_fast->PQ,wpAny_isOneOf_keyiter->PU,bindName->Q1,again->Q2,bindArgs->Q3,keywordEach->Q4,wpAny_alloc->Q6,Walks->Q7,entryFor->Qa,newTuple->Qb,wpAny_throw->Qc,ZipApart->Qd,wpAny_letGo->Qf,wpAny_pyIter_keyiter->Qn
open PySem.W renaming Frag->a8,kia_one->cH,mroIn->dB,nsMap_none_of_in->eG,keepIn->fA,fnOf->gf,nsIn->gj,cellsFrom_some->i3,findIn->ms,codeIn->mv,isNs_of_in->my,mg_of->nQ,kitOne->qG,clsIn->sY,methodObj->uP,kitx_list->uQ,instObj->xC,OpenLaw->xE,lookIn->yB,excIn->At,hideAll_get->Ga,of_hideAll->Gm,kitx_tuple->Go,codeRec_of->Gp,specialIn->Ir,kitx_dict->Iu,plainGet->Ka,hideAll->L_,takesIn->M3,typeIn->Mu,nsOkIn->Mw,WalkO->PP,subIn->PR
open PySem.Heap renaming get?_push_of_some->ac,lt_size->ap,get?_push_size->aw,SameBut->bN,size_push->cc,get?_update_other->fw,get?_update_self->fV,size_update->yf,IsTuple->Gc,ExtBut->Iv,get?_push_ne->Mz
open List renaming mem_cons_of_mem->ah,getElem?_set_ne->al,mem_cons_self->am,length_map->ao,map_cons->av,getElem?_set_self->aG,mem_append_right->aH,length_append->aM,size_toArray->aS,getElem?_map->aT,getElem?_eq_getElem->aV,length_cons->aW,mem_cons->a_,map_append->b9,getElem?_append_left->bf,getElem?_append_right->bh,mem_append_left->bj,not_mem_nil->bv,mem_map_of_mem->bx,range->bH,find?_cons->bS,length_nil->bT,mem_singleton->cf,map_map->cj,getElem?_replicate->ck,all_eq_true->cu,getElem?_eq_none->cB,append_nil->cO,foldl_cons->cP,lookup_cons->cU,length_replicate->cZ,mem_of_getElem?->dh,getD_eq_getElem?_getD->dk,length_singleton->dJ,any_cons->dY,map_nil->d_,extract_eq_drop_take'->e7,append_assoc->eW,length_range->eX,mem_append->e_,nodup_nil->fO,take_append_drop->fX,nil_append->gJ,pairwise_append->gQ,map_congr_left->hW,getElem_mem->ja,getElem_of_mem->jk,sublist_append_left->jy,forIn_cons->jF,nodup_cons->jK,pairwise_cons->jN,getElem?_cons_succ->jO,take_of_length_le->kh,mem_iff_getElem?->kZ,pairwise_reverse->k_,length_filter_le->l5,any_eq_true->lv,getElem_map->lw,mem_reverse->lz,length->lL,filterMap_cons->mq,all_map->mV,any_map->mW,filterMap_map->nc,forIn_nil->ng,perm_ext_iff_of_nodup->nl,map->nq,getElem?_eq_some_iff->oy,pairwise_iff_getElem->oz,reverse_perm->oC,length_zip->qL,replicate->sW,reverse_append->uN,filter_sublist->uO,all_cons->uT,getElem?_drop->vV,zip_cons_cons->vW,set_cons_zero->vX,set_cons_succ->vY,mem_map->xk,pairwise_of_forall_mem_list->xm,length_filterMap_eq_countP->xH,length_take->y8,length_drop->y9,ext_getElem->yb,zipIdx_cons->yc,lookup->yD,of_mem_zip->Ad,length_eraseIdx_of_lt->B9,drop_drop->Bb,drop_eq_getElem_cons->Ce,length_erase_of_mem->DQ,getElem?_cons_zero->DT,pairwise_singleton->DV,filter_cons_of_pos->DW,reverse_singleton->Gf,length_pos_of_mem->Gh,mem_erase_of_ne->Iz,getElem?_range->Kj,replicate_succ->Ko,replicate_zero->Kq,lookup_append->M6,map_inj_right->Mb,contains_cons->Mc,getElem_range->Md,getElem?_take->Me,any_eq_false->Mj,nodup_append->Mm,ext_getElem?->Mp,take_add_one->Mx,mapM_toArray->My,isEmpty_cons->MB,getElem_inj->PM,countP_cons->PV,map_snd_zip->PX,cons_append->PY,zipIdx_nil->Qe,mem_filter->Qs
open Array renaming length_toList->aq,getElem?_toList->aQ,getElem?_eq_getElem->bV,toList_append->cm,getElem?_eq_none->dm,getElem?_eq_some_iff->fM,toList_extract->gI,getElem?_extract->i9,toList_push->iz,getD_eq_getD_getElem?->iD,size_map->kc,eq_empty_of_size_eq_zero->kY,toList_reverse->sP,all_toList->xI,toList_inj->xJ,replicate->yE,toList_setIfInBounds->Au,size_setIfInBounds->Ci,toArray_toList->Gy,append_assoc->K7,find?_toList->K9,forIn_toList->Kl,size_extract->Km,toList_zip->MA
open Nat renaming le_refl->ar,lt_of_lt_of_le->aC,ne_of_lt->aE,lt_irrefl->bW,le_of_lt->ca,le_trans->cy,zero_le->cC,lt_or_ge->cJ,lt_succ_of_lt->dI,lt_succ_self->dS,zero_add->e8,ne_of_gt->eO,lt_trans->eQ,eq_zero_or_pos->fW,le_succ->k8,lt_succ_of_le->kj,not_lt_zero->mz,min_eq_left->mB,add_zero->mY,min_le_right->qu,lt_of_le_of_lt->w9,lt_asymm->xF,le_of_lt_succ->xG,le_succ_of_le->xK,mod_lt->Cf,mul_comm->Gz,succ_pos->GA,lt_of_succ_lt_succ->GB,min_self->GD,add_lt_add_right->Kk,lt_of_lt_of_eq->Mv,le_of_not_lt->Q5,le_add_right->Qg,reduceLeDiff->Qq,reduceEqDiff->Qr
open PyProof.Rows renaming wpS_bind->ay,arrOf->aN,wpS_pure->aP,boot_tuple->bt,pendingOf->bU,Keyed->cz,boot_all->cG,wpS_forRange->cQ,SortSt->ed,wpS_mono->eA,slot_tuple_getitem->fU,callWith_type1->i0,seqObj->j7,boot_list->jl,boot_sorted->mh,wpS_get->mU,SortKind->mZ,boot_any->oA,wpS_modify->pf,AllBare->qy,StrsAre->qA,wpS_lift->sO,envOfC->tS,failedOf->wl,assignInOrder_cons->yz,boot_str->yF,mem_zip_self->Aw,minRun'->Gg,mirror->GC,subscriptTail->Kc,listUpdate_at->Kn,subscriptTail_builtinR->Mk,IntsAre->Ml,seqEpoch_at->Qp
open Bool renaming and_eq_true->aR,false_ne_true->bq,false_eq_true->bw,not_false->j5,not_true->jx,eq_iff_iff->jI,or_eq_true->jJ,and_self->oZ,beq_eq_decide_eq->rH,and_false->sZ,false_or->uU,true_and->uV,noConfusion->ye,false_and->B8,or_eq_false_iff->Ix,not_eq_true'->Mr
open PySem.PyData renaming str->aU,eqv->bn,bool->c9,int->cD,canLayAll0->cF,tuple->fh,list->gC,eqvAll->im,canLay0->iN,none->lA,dict->Ge
open PySem.Value renaming ref->bu,none->dX,type->iO,str->jM,int->mT,isStrOf->uH,bool->K6
open PySem.Heap.SameBut renaming update->bK
open Option.some renaming inj->bM,injEq->DP
open PySem.NameKind renaming free->cw,cell->dR,«local»->qC
open PySem.SetTable renaming sizeAbove->cx,grown->iA,below->iB,fits->nh,bits->nj,turns->qB,layClean->uL,laid->Ae,orStandIn->Gb,relaid->Kg,fill->Ms,road->Mt
open PySem.Builtin.SmallTypes renaming nextOf->cA,ownedTupleIsFree->eF,ownedTupleHandOut->ni
open Option renaming map_some->cL,getD_none->hU,getD_some->kO,bind_some->oY,isSome_some->uJ,isSome_map->vU
open Ne renaming symm->cV
open PySem.SetTable.layClean renaming free->dL
open PySem.Obj renaming mapFields->e6,mapSeq->gW,putSet->qJ,data_mapFields->Mq
open Int renaming toNat_of_nonneg->eg,toNat_natCast->ki,emod_lt_of_pos->nR,emod_nonneg->rJ,reduceLT->GE
open List.Sublist renaming refl->eI
open PySem.Around renaming under_plainId->eN
open PySem.F renaming slot_dict_keyiterator_next->fB,slot_tuple_iterator_next->jd,args_tuple_add_2->nO,entry_tuple_add->oB,slot_tuple_add->pc,plain_list_iadd->qj,args_dict_keyiterator_next_1->sM,slot_zip_next->sX,entry_dict_keyiterator_next->s_,slot_tuple_lt->t4,slot_list_append->Ar,type_list_append->As,plainAttrs_list->Ba,args_tuple_iterator_next_1->Cg,slot_dict_iter->Cj,entry_tuple_iterator_next->DO,entry_proto_collect->M8,plain_proto_collect->M9,slot_enumerate_next->Ma
open Or renaming inr->fK,inl->j9
open ForInStep renaming yield->fP
open PySem.AutoSeq1 renaming wpAny_loadPart'->g6
open PySem.Str renaming ofString->gR
open PySem.Builtin.Slice renaming slicePlaces->iq,sliceAdjust->lE,sliceApplied->uR
open PyProof.Rows.F renaming plain_set_update_loop->ir,entry_set_update_loop->oW
open PySem.Builtin.Tuple renaming tupleExact->iH,tupleItemsOf->uS
open Sum renaming inr->iM,inl->xB
open False renaming elim->iQ
open True renaming intro->j3
open PySem.Paired renaming length->jj
open PySem.Builtin.Frozenset renaming updateFrom->jH,isAnySet->sL,sizeOf->tV,copyOf->tW,newClass->Q8,oneOther->Qh,addrOf->Qi,slot1->Qj,baseOf->Qk,merge->Ql,unchanged->Qm
open PySem.Builtin.List renaming listExtendWith->kL,listSameRef->xl
open PySem.Heap.FunFrames renaming mem->kM
open PySem.Builtin.Dict_items renaming ownsTuple->mi
open PySem.Calls renaming call_function_entry->nP,Name_function_global->Ah,evalArgs_plain->Gq
open Classical renaming propDecidable->nU
open List.Perm renaming trans->o_,of_eq->Iy
open List.Pairwise renaming nil->qH
open List.cons renaming inj->rK,injEq->wn
open And renaming intro->uM
open PySem.PassesOwn renaming never->wk
open PyProof.Rows.IsTup renaming new->xD
open PySem.Walks renaming list->Am
open PySem.pickOrder renaming go->An
open PySem.SetTable.below renaming go->Ap
open PySem.SeqAt.EqAt renaming int_str->DL,str_int->DM
open PySem.Shared renaming heap->Gd,TypeIs->Q9
open PySem.Value.type renaming inj->Iw
open Eq renaming refl->Qo
section
namespace L2
open PySem PySem.Spec PyProof.Rows
abbrev fQ:=Sum Int Str
def yG:fQ->aa->Bool
 | .inl k,v=>Value.isInt k v
 | .inr x,v=>uH x v
def XA (w:bc):fQ->Int
 | .inl k=>hashInt k
 | .inr x=>hashStr w x
theorem fi:∀ {k:fQ}{v:aa},yG k v=true->(∃ i t,k=xB i/\v=mT i t)\/(∃ x t,k=iM x/\v=jM x t)
 | .inl i,v,h=>by
  obtain ⟨t,e⟩:=Value.isInt_shape (k:=i) (v:=v) h
  exact .inl ⟨i,t,rfl,e⟩
 | .inr x,v,h=>by
  obtain ⟨t,e⟩:=Value.isStrOf_shape (x:=x) (v:=v) h
  exact .inr ⟨x,t,rfl,e⟩
theorem Kr (i:Int) (t:Tok):yG (.inl i) (.int i t)=true:=by simp [yG,Value.isInt]
theorem Ks (x:Str) (t:Tok):yG (.inr x) (.str x t)=true:=by simp [yG,uH]
theorem Tr (a b:Int):decide ((xB a:fQ)=xB b)=(a == b):=by
 by_cases e:a=b
 ·subst e;simp
 ·have h:¬ (xB a:fQ)=xB b:=fun q=>e (Sum.inl.inj q)
  rw [decide_eq_false h]
  exact (beq_eq_false_iff_ne.mpr e).symm
theorem Tt (a b:Str):decide ((iM a:fQ)=iM b)=decide (a=b):=by
 by_cases e:a=b
 ·subst e;simp
 ·have h:¬ (iM a:fQ)=iM b:=fun q=>e (Sum.inr.inj q)
  rw [decide_eq_false h,decide_eq_false e]
theorem Tu (a:Int) (b:Str):decide ((xB a:fQ)=iM b)=false:=decide_eq_false (fun q=>nomatch q)
theorem Tv (a:Str) (b:Int):decide ((iM a:fQ)=xB b)=false:=decide_eq_false (fun q=>nomatch q)
def gm (prog:aK) (w:bc):PySem.KeyKind prog w fQ where
 is:=yG
 hash:=XA w
 inj:=fun v a b ha hb=>by
  rcases fi ha with ⟨i,t,rfl,rfl⟩ | ⟨x,t,rfl,rfl⟩
  ·rcases fi hb with ⟨j,u,rfl,e⟩ | ⟨y,u,rfl,e⟩
   ·injection e with e1 _;rw [e1]
   ·exact nomatch e
  ·rcases fi hb with ⟨j,u,rfl,e⟩ | ⟨y,u,rfl,e⟩
   ·exact nomatch e
   ·injection e with e1 _;rw [e1]
 byValue:=fun k v h=>by
  rcases fi h with ⟨i,t,rfl,rfl⟩ | ⟨x,t,rfl,rfl⟩<;>rfl
 pyHash:=fun hv h=>by
  rcases fi hv with ⟨i,t,rfl,rfl⟩ | ⟨x,t,rfl,rfl⟩
  ·exact wpAny_pyHash_int h
  ·exact wpAny_pyHash_str h
 eqBool:=fun hu hv h=>by
  rcases fi hu with ⟨i,t,rfl,rfl⟩ | ⟨x,t,rfl,rfl⟩
  ·rcases fi hv with ⟨j,u,rfl,rfl⟩ | ⟨y,u,rfl,rfl⟩
   ·rw [Tr] at h;exact wpAny_eqBool_int h
   ·rw [Tu] at h;exact DL i t y u _ _ _ _ h
  ·rcases fi hv with ⟨j,u,rfl,rfl⟩ | ⟨y,u,rfl,rfl⟩
   ·rw [Tv] at h;exact DM x t j u _ _ _ _ h
   ·rw [Tt] at h;exact Cc h
 «strs»:=fun k x t v h=>by
  rcases fi h with ⟨i,u,rfl,e⟩ | ⟨y,u,rfl,e⟩
  ·exact nomatch e
  ·injection e with e1 _
   subst e1
   cases v<;>rfl
theorem DX (prog:aK) (w:bc) (i:Int) (t:Tok):(gm prog w).is (.inl i) (.int i t)=true:=Kr i t
theorem DY (prog:aK) (w:bc) (x:Str) (t:Tok):(gm prog w).is (.inr x) (.str x t)=true:=Ks x t
end L2
namespace L2
open PySem PySem.Spec PyProof.Rows
inductive V where
 | non | bl (b:Bool) | int (i:Int) | str (x:Str) | byt (b:Array UInt8) | flt (b:UInt64) | ref (a:ak) | ty (n:String)
 deriving DecidableEq
def dq:V->aa->Prop
 | .non,u=>u=dX
 | .bl b,u=>u=K6 b
 | .int i,u=>∃ t,u=mT i t
 | .str x,u=>∃ t,u=jM x t
 | .byt b,u=>∃ t,u=Value.bytes b t
 | .flt b,u=>∃ t,u=Value.float b t
 | .ref a,u=>u=bu a
 | .ty n,u=>u=iO n
abbrev dC:List V->List aa->Prop:=Gk dq
theorem dC.length {xs:List V}{us:List aa} (r:dC xs us):xs.length=us.length:=jj r
theorem dC.get {xs:List V}{us:List aa} (h:dC xs us):∀ {i:Nat}{x:V},xs[i]?=some x->∃ u,us[i]?=some u/\dq x u:=by
 induction h with
 | nil=>intro i x e;cases e
 | cons r t ih =>
  intro i x e
  cases i with
  | zero=>cases e;exact ⟨_,rfl,r⟩
  | succ i=>have q:=ih (i:=i) e;exact q
theorem dC.append {xs ys:List V}{us ws:List aa} (h:dC xs us) (s:dC ys ws):dC (xs++ys) (us++ws):=by
 induction h with
 | nil=>exact s
 | cons r t ih=>exact .cons r ih
theorem dC.take:∀ {xs:List V}{us:List aa} (n:Nat),dC xs us->dC (xs.take n) (us.take n)
 | _,_,0,_=>.nil
 | _,_,_ + 1,.nil=>.nil
 | _,_,n + 1,.cons r t=>.cons r (dC.take n t)
theorem dC.drop:∀ {xs:List V}{us:List aa} (n:Nat),dC xs us->dC (xs.drop n) (us.drop n)
 | _,_,0,r=>r
 | _,_,_ + 1,.nil=>.nil
 | _,_,n + 1,.cons _ t=>dC.drop n t
def yH:Option V->Option aa->Prop
 | some v,some u=>dq v u
 | none,none=>True
 | _,_=>False
def KV {κ:Type}:List (κ×V)->List (κ×aa)->Prop:=Gk fun (p:κ×V) (q:κ×aa)=>p.1=q.1/\dq p.2 q.2
def kV:fQ->V
 | .inl i=>.int i
 | .inr x=>.str x
inductive HO where
 | lst (xs:List V)
 | tup (xs:List V)
 | dK (kvs:List (fQ×V)) | dT (kvs:List (List fQ×V))
 | set (S:Int->Bool) (n:Nat)
 | ins (C dx:ak) (fs:List (Str×V))
 | own (x:ak)
 | xd (fs:List (Str×V))
 | met (f x:ak)
 | rng (lo hi:Int)
 | frz (o:Obj) (u:HO)
 | tbl (ps:Array aa)
 | ext (φ:bF->Prop)
abbrev Hp:=ak->Option HO
def upd (H:Hp) (a:ak) (o:HO):Hp:=fun b=>if b=a then some o else H b
theorem bg {H:Hp}{a:ak}{o:HO}:upd H a o a=some o:=by unfold upd;rw [if_pos rfl]
theorem bi {H:Hp}{a b:ak}{o:HO} (h:b≠a):upd H a o b=H b:=by unfold upd;rw [if_neg h]
theorem MC {H:Hp}{a b:ak}{o u:HO} (h:H a=some o) (h':H b=some u) (d:o≠u):a≠b:=by
 intro e;subst e;rw [h] at h';exact d (bM h')
theorem bZ {H:Hp}{a b:ak}{o:HO} (h:H a=some o) (h':H b=none):a≠b:=by
 intro e;subst e;rw [h] at h';cases h'
section
variable (P:aK) (w:bc)
def dw (H:Hp) (h:bF) (a:ak):HO->Prop
 | .lst xs=>xs.length<=sizeLine/\∃ (its:List aa) (n:Nat),dC xs its/\h.get? a=some { cls:=.type "list",data:=.seq its.toArray n }
 | .tup xs=>xs.length<=sizeLine/\∃ its:List aa,dC xs its/\IsTup h a its.toArray
 | .dK kvs=>kvs.length<=sizeLine/\(a == eT)=false/\∃ vs,KV kvs vs/\h.DictOf (gm P w) a vs
 | .dT kvs=>kvs.length<=sizeLine/\(a == eT)=false/\∃ xs:List (List fQ×ak×aa),
   Gk (fun (p:List fQ×V) (q:List fQ×ak×aa)=>p.1=q.1/\H q.2.1=some (.tup (p.1.map kV))/\dq p.2 q.2.2) kvs xs /\
   ∃ o es ep,h.get? a=some o/\o.ExactDict/\o.data=.dict es ep/\es.toList=xs.map (entryOfKey (sJ (gm P w)))/\(xs.map (·.1)).Nodup
 | .set S n=>h.SetOf (intKind P w) a S n
 | .ins C dx fs=>H dx=some (.own a)/\fs.length<=1000/\dx≠a/\h.get? a=some (xC C dx) /\
   ∃ mA,h.Ns1 dx mA/\(∀ f,yH (fs.lookup f) (mA f))/\PySem.Within mA (fs.map (·.1))
 | .own _=>∃ o,h.get? a=some o
 | .xd fs=>∃ mA,h.Ns1 a mA/\∀ f,yH (fs.lookup f) (mA f)
 | .rng lo hi=>∃ t u v,h.get? a=some { cls:=.type "range",data:=.fields #[.int lo t,.int hi u,.int 1 v] }
 | .frz o u=>h.get? a=some o/\dw H h a u
 | .tbl ps=>h.get? a=some { cls:=.none,data:=.fields ps }
 | .met f x=>h.get? a=some (uP (.ref f) (.ref x))
 | .ext φ=>φ h/\(∃ o,h.get? a=some o)/\∀ h1 h2:bF,φ h1->(∀ o,h1.get? a=some o->h2.get? a=some o)->φ h2
def qv (H:Hp) (h:bF):Prop:=∀ a o,H a=some o->dw P w H h a o
end
section
variable {P:aK}{w:bc}{H H':Hp}{h h':bF}{a:ak}{o:HO}
theorem dw.lt (x:dw P w H h a o):a<h.objs.size:=by
 cases o with
 | lst xs=>obtain ⟨_,_,_,_,e⟩:=x;exact ap e
 | tup xs=>obtain ⟨_,_,_,p⟩:=x;exact p.lt
 | dK kvs=>obtain ⟨_,_,_,_,o,_,_,e,_⟩:=x;exact ap e
 | dT kvs=>obtain ⟨_,_,_,_,o,_,_,e,_⟩:=x;exact ap e
 | set S n=>obtain ⟨o,_,_,_,e,_⟩:=x;exact ap e
 | ins C dx fs=>obtain ⟨_,_,_,e,_⟩:=x;exact ap e
 | own y=>obtain ⟨_,e⟩:=x;exact ap e
 | xd fs=>obtain ⟨_,⟨_,_,_,e,_⟩,_⟩:=x;exact ap e
 | rng lo hi=>obtain ⟨_,_,_,e⟩:=x;exact ap e
 | frz ob u=>obtain ⟨e,_⟩:=x;exact ap e
 | tbl ps=>exact ap (show h.get? a=some _ from x)
 | met f y=>exact ap (show h.get? a=some _ from x)
 | ext φ=>obtain ⟨_,⟨_,e⟩,_⟩:=x;exact ap e
theorem Paired.mapP {α β:Type}{F G:α->β->Prop}{l₁:List α}{l₂:List β} (h:Gk F l₁ l₂) (f:∀ a b,F a b->G a b):Gk G l₁ l₂:=by
 induction h with
 | nil=>exact .nil
 | cons r t ih=>exact .cons (f _ _ r) ih
theorem dw.stay (x:dw P w H h a o) (k:∀ b u,(b=a\/H b=some (.own a))->h.get? b=some u->h'.get? b=some u)
  (ho:∀ b,H b=some (.own a)->H' b=some (.own a)) (ht:∀ b xs,H b=some (.tup xs)->H' b=some (.tup xs)):dw P w H' h' a o:=by
 induction o with
 | lst xs=>obtain ⟨z,its,n,r,e⟩:=x;exact ⟨z,its,n,r,k _ _ (.inl rfl) e⟩
 | tup xs=>obtain ⟨z,its,r,ob,e,c⟩:=x;exact ⟨z,its,r,ob,k _ _ (.inl rfl) e,c⟩
 | dK kvs=>obtain ⟨z,y,vs,r,ob,es,ep,e,c⟩:=x;exact ⟨z,y,vs,r,ob,es,ep,k _ _ (.inl rfl) e,c⟩
 | dT kvs =>
  obtain ⟨z,y,xs,r,ob,es,ep,e,c⟩:=x
  exact ⟨z,y,xs,Paired.mapP r fun p q z=>⟨z.1,ht _ _ z.2.1,z.2.2⟩,ob,es,ep,k _ _ (.inl rfl) e,c⟩
 | set S n=>obtain ⟨ob,es,ep,t,e,c⟩:=x;exact ⟨ob,es,ep,t,k _ _ (.inl rfl) e,c⟩
 | ins C dx fs =>
  obtain ⟨d,z,ne,e,mA,⟨od,es,ep,e2,c⟩,r⟩:=x
  exact ⟨ho _ d,z,ne,k _ _ (.inl rfl) e,mA,⟨od,es,ep,k _ _ (.inr d) e2,c⟩,r⟩
 | own y=>obtain ⟨ob,e⟩:=x;exact ⟨ob,k _ _ (.inl rfl) e⟩
 | xd fs=>obtain ⟨mA,⟨od,es,ep,e,c⟩,r⟩:=x;exact ⟨mA,⟨od,es,ep,k _ _ (.inl rfl) e,c⟩,r⟩
 | rng lo hi=>obtain ⟨t,u,v,e⟩:=x;exact ⟨t,u,v,k _ _ (.inl rfl) e⟩
 | frz ob u ih=>obtain ⟨e,q⟩:=x;exact ⟨k _ _ (.inl rfl) e,ih q⟩
 | tbl ps =>
  have e:h.get? a=some { cls:=.none,data:=.fields ps }:=x
  show h'.get? a=some { cls:=.none,data:=.fields ps }
  exact k a _ (.inl rfl) e
 | met f y =>
  have e:h.get? a=some (uP (.ref f) (.ref y)):=x
  show h'.get? a=some (uP (.ref f) (.ref y))
  exact k a _ (.inl rfl) e
 | ext φ=>obtain ⟨p,⟨o,e⟩,st⟩:=x;exact ⟨st _ _ p fun o q=>k _ _ (.inl rfl) q,⟨o,k _ _ (.inl rfl) e⟩,st⟩
theorem qv.lt (x:qv P w H h) (e:H a=some o):a<h.objs.size:=(x a o e).lt
theorem qv.fresh (x:qv P w H h) (e:h.objs.size<=a):H a=none:=by
 cases q:H a with
 | none=>rfl
 | some u=>exact absurd (aC (x.lt q) e) (bW _)
theorem qv.kept (x:qv P w H h) (k:∀ b u,h.get? b=some u->h'.get? b=some u):qv P w H h':=fun a o e =>
 (x a o e).stay (fun b u _ q=>k b u q) (fun _ q=>q) fun _ _ q=>q
theorem qv.laid (x:qv P w H h) (k:∀ b u,h.get? b=some u->h'.get? b=some u) (hp:h.objs.size<=a) (new:dw P w (upd H a o) h' a o):qv P w (upd H a o) h':=fun b u e=>by
 have hn:=x.fresh hp
 by_cases hb:b=a
 ·subst hb;rw [bg] at e;cases e;exact new
 ·rw [bi hb] at e
  exact (x b u e).stay (fun c v _ q=>k c v q) (fun c q=>by rw [bi (bZ q hn)];exact q) fun c xs q=>by rw [bi (bZ q hn)];exact q
end
def Rd (H:Hp) (a:ak) (u:HO):Prop:=H a=some u\/∃ o,H a=some (.frz o u)
theorem Rd.of {H:Hp}{a:ak}{u:HO} (h:H a=some u):Rd H a u:=.inl h
theorem Rd.ok {P:aK}{w:bc}{H:Hp}{h:bF}{a:ak}{u:HO} (r:Rd H a u) (x:qv P w H h):dw P w H h a u:=by
 rcases r with r | ⟨o,r⟩
 ·exact x a u r
 ·obtain ⟨_,q⟩:=x a _ r
  exact q
def Vn:Option HO->Prop
 | some (.lst _)=>True
 | some (.dK _)=>True
 | some (.dT _)=>True
 | some (.set _ _)=>True
 | some (.ins _ _ _)=>True
 | some (.ext _)=>True
 | _=>False
section
variable {P:aK}{w:bc}{H:Hp}{h h':bF}{x e:ak}{o':HO}
theorem qv.write (ok:qv P w H h) (mu:Vn (H x)) (he:e=x\/H e=some (.own x)) (k:∀ b u,b≠e->h.get? b=some u->h'.get? b=some u) (heo:∃ u,h'.get? e=some u)
  (new:dw P w (upd H x o') h' x o'):qv P w (upd H x o') h':=fun b u q=>by
 have nown:∀ c y,H c=some (.own y)->c≠x:=fun c y r z=>by subst z;rw [r] at mu;exact mu
 have ntup:∀ c xs,H c=some (.tup xs)->c≠x:=fun c xs r z=>by subst z;rw [r] at mu;exact mu
 by_cases hb:b=x
 ·subst hb;rw [bg] at q;cases q;exact new
 ·rw [bi hb] at q
  by_cases hbe:b=e
  ·have q':H b=some (.own x):=by
    rcases he with z | z
    ·exact absurd (hbe.trans z) hb
    ·rw [hbe];exact z
   rw [q] at q';cases q'
   obtain ⟨v,hv⟩:=heo
   exact ⟨v,by rw [hbe];exact hv⟩
  ·refine (ok b u q).stay (fun c v hc r=>k c v ?_ r) (fun c r=>by rw [bi (nown c b r)];exact r) fun c xs r=>by rw [bi (ntup c xs r)];exact r
   rcases hc with rfl | hc
   ·exact hbe
   ·rintro rfl
    rcases he with z | z
    ·exact nown c b hc z
    ·rw [hc] at z;cases z;exact hb rfl
end
structure Un (fs ex:List ak) (H H':Hp) (h h':bF):Prop where
 keep:∀ b o,h.get? b=some o->H b=none->b∉fs->b∉ex->h'.get? b=some o
 slot:∀ b o,h.get? b=some o->H b=none->b∈fs->b∉ex->∃ sl,h'.get? b=some { o with slots:=sl }
 free:∀ b o,h.get? b=some o->H b=none->b∉ex->H' b=none
 there:∀ b o,h.get? b=some o->b∉ex->∃ o',h'.get? b=some o'
 tups:∀ b xs,H b=some (.tup xs)->H' b=some (.tup xs)
 frzs:∀ b o u,H b=some (.frz o u)->H' b=some (.frz o u)
 tbls:∀ b ps,H b=some (.tbl ps)->∃ more,H' b=some (.tbl (ps++more))
section
variable {fs fs' ex ex':List ak}{H H1 H2:Hp}{h h1 h2 h':bF}{a x e:ak}{o:HO}
theorem Un.any (u:Un fs ex H H1 h h1) {b:ak}{ob:Obj} (q:h.get? b=some ob) (n:H b=none) (hx:b∉ex):∃ sl,h1.get? b=some { ob with slots:=sl }:=by
 by_cases hb:b∈fs
 ·exact u.slot b ob q n hb hx
 ·exact ⟨ob.slots,u.keep b ob q n hb hx⟩
theorem Un.kept (k:∀ b u,h.get? b=some u->h'.get? b=some u):Un fs ex H H h h' :=
 ⟨fun b ob q _ _ _=>k b ob q,fun b ob q _ _ _=>⟨ob.slots,k b ob q⟩,fun _ _ _ n _=>n,fun b ob q _=>⟨ob,k b ob q⟩,fun _ _ q=>q,fun _ _ _ q=>q,fun _ ps q=>⟨#[],by rw [q];simp⟩⟩
theorem Un.refl:Un fs ex H H h h:=Un.kept fun _ _ q=>q
theorem Un.laid (k:∀ b u,h.get? b=some u->h'.get? b=some u) (hp:h.objs.size<=a) (hn:H a=none):Un fs ex H (upd H a o) h h' where
 keep:=fun b u q _ _ _=>k b u q
 slot:=fun b u q _ _ _=>⟨u.slots,k b u q⟩
 free:=fun b u q n _=>by rw [bi (aE (aC (ap q) hp))];exact n
 there:=fun b u q _=>⟨u,k b u q⟩
 tups:=fun b xs q=>by rw [bi (bZ q hn)];exact q
 frzs:=fun b u xs q=>by rw [bi (bZ q hn)];exact q
 tbls:=fun b ps q=>⟨#[],by rw [bi (bZ q hn),q];simp⟩
theorem Un.write (mu:Vn (H x)) (he:e=x\/H e=some (.own x)) (k:∀ b u,b≠e->h.get? b=some u->h'.get? b=some u) (heo:∃ u,h'.get? e=some u):Un fs ex H (upd H x o) h h':=by
 have hx:∀ b,H b=none->b≠x:=fun b n z=>by subst z;rw [n] at mu;exact mu
 have hb:∀ b,H b=none->b≠e:=fun b n z=>by
  subst z
  rcases he with r | r
  ·exact hx b n r
  ·rw [n] at r;cases r
 have hm:∀ b u,H b=some u->¬ Vn (some u)->b≠x:=fun b u q nm z=>by subst z;rw [q] at mu;exact nm mu
 refine ⟨fun b u q n _ _=>k b u (hb b n) q,fun b u q n _ _=>⟨u.slots,k b u (hb b n) q⟩,fun b u q n _=>by rw [bi (hx b n)];exact n,fun b u q _=>?_,
  fun b xs q=>by rw [bi (hm b _ q fun z=>z)];exact q,fun b u xs q=>by rw [bi (hm b _ q fun z=>z)];exact q,fun b ps q=>⟨#[],by rw [bi (hm b _ q fun z=>z),q];simp⟩⟩
 by_cases hbe:b=e
 ·subst hbe;exact heo
 ·exact ⟨u,k b u hbe q⟩
end
def Xk (h:bF) (H:Hp):List ak:=(bH h.objs.size).filter fun a=>(H a).isSome
def Ck (h:bF) (H:Hp):bF:=L_ h (Xk h H)
theorem Kt (h:bF) (H:Hp):(Ck h H).objs.size=h.objs.size:=PySem.W.hideAll_size _ _
theorem MD {h:bF}{H:Hp}{b:ak}{o:Obj} (e:h.get? b=some o) (n:H b=none):(Ck h H).get? b=some o :=
 Ga _ e fun hm=>by
  have q:(H b).isSome=true:=(List.mem_filter.mp hm).2
  rw [n] at q;simp at q
theorem Qt {h:bF}{H:Hp}{b:ak}{o:Obj} (e:(Ck h H).get? b=some o):h.get? b=some o/\H b=none:=by
 have e':h.get? b=some o:=Gm (Xk h H) e
 refine ⟨e',?_⟩
 cases q:H b with
 | none=>rfl
 | some x =>
  have hm:b∈Xk h H:=List.mem_filter.mpr ⟨List.mem_range.mpr (ap e'),by simp [q]⟩
  have z:(Ck h H).get? b=none:=PySem.W.hideAll_none (Xk h H) hm
  rw [z] at e;cases e
def Qu (g h:bF) (L:ak):List (ak×Obj):=(bH h.objs.size).filterMap fun a=>if a=L\/(g.get? a).isSome=true then none else (h.get? a).map fun o=>(a,o)
def c6 (g h:bF) (L d:ak):List (ak×Obj):=(Qu g h L).filter fun p=>decide (p.1≠d)
end L2
namespace L2
open PySem PySem.Spec PyProof.Rows
structure Mod (K:a8) (mg:Str->Option aa) (base:bF):Prop where
 kin:K.In base
 glob:base.Ns bQ mg
 blt:∃ mb,base.Ns builtinsNs mb/\∀ x:Str,x≠"__name__"->mb x=iF x
 nolimit:base.NoLimit
structure Cx where
 prog:aK
 w:bc
 K:a8
 mg:Str->Option aa
 base:bF
 A:aX
 N:List Str
 s₀:af
 H₀:Hp
 env:Env
 outer:List Env
 stack:List Env
 ex:List ak
 fn:Str->Bool
 calm:Bool
 pn:List (ak×Obj)
 xe:aa->af->Prop
def t5 (l:List Env):List ak:=l.filterMap (·.frame)
abbrev Cx.fs (X:Cx):List ak:=t5 X.outer
def Qv (sc:gE) (x:Str):Prop:=sc.names.lookup x=some .local\/sc.names.lookup x=some .cell\/sc.names.lookup x=some .free
def S0 (sc:gE) (x:Str):Prop:=sc.names.lookup x=some .local\/sc.names.lookup x=some .cell
def XB (env:Env) (h:bF) (m:Str->Option aa) (x:Str) (u:aa):Prop :=
 (env.kindOf x=some .local/\m x=some u)\/((env.kindOf x=some .cell\/env.kindOf x=some .free)/\∃ c,env.cells.lookup x=some c/\h.IsCell c (some u))
structure Cx.Ok (X:Cx):Prop where
 mod:Mod X.K X.mg X.base
 kind:X.env.scope.kind=.function
 glob:X.env.globals=bQ
 blt:X.env.builtins=builtinsNs
 above:X.s₀.heap.objs.size<=X.env.locals
 inj:∀ x y c,X.env.cells.lookup x=some c->X.env.cells.lookup y=some c->x=y
 has:∀ x,(X.env.kindOf x=some .cell\/X.env.kindOf x=some .free)->∃ c,X.env.cells.lookup x=some c
 cab:∀ x c,X.fn x=true->X.env.cells.lookup x=some c->X.s₀.heap.objs.size<=c
 hd:X.calm=true->X.A.handled=none
 frames:X.A.frames=some X.stack
 stk:X.stack=X.outer\/(X.stack=X.env::X.outer/\X.env.frame=some X.env.locals)
 exf:∀ b∈X.ex,b≠X.env.locals/\∀ x c,X.env.cells.lookup x=some c->c≠b
 bs:∀ b o,X.base.get? b=some o->X.s₀.heap.get? b=some o/\X.H₀ b=none
 bsz:X.base.objs.size<=X.s₀.heap.objs.size
 noex:∀ b o,X.base.get? b=some o->b∉X.ex
 exfs:∀ b∈X.ex,b∉X.fs
 funs:X.s₀.heap.FunFrames X.base X.outer
 frf:∀ b∈X.fs,X.H₀ b=none
structure bX (X:Cx) (pins:List (ak×Obj)) (σ:List (Option V)) (H:Hp) (s:af):Prop where
 ok:X.Ok
 os:s.os=X.s₀.os
 bare:qy s.gens
 base:Un X.fs X.ex X.H₀ H X.s₀.heap s.heap
 loc:∃ m,s.heap.Ns X.env.locals m/\∀ (i:Nat) (x:Str) (v:V),X.N[i]?=some x->σ[i]?=some (some v)->Qv X.env.scope x->∃ u,dq v u/\XB X.env s.heap m x u
 cell:∀ x c,X.env.cells.lookup x=some c->∃ v,s.heap.IsCell c v
 free:H X.env.locals=none
 freeC:∀ x c,X.env.cells.lookup x=some c->H c=none
 pin:∀ p∈X.pn++pins,s.heap.get? p.1=some p.2/\H p.1=none/\p.1≠X.env.locals/\p.1∉X.fs/\∀ v,p.2.data≠.cell v
 hok:qv X.prog X.w H s.heap
 len:σ.length=X.N.length
section
variable {X:Cx}{pins:List (ak×Obj)}{σ:List (Option V)}{H H':Hp}{s:af}{h':bF}
theorem Cx.Ok.nofr (ok:X.Ok) {b:ak}{o:Obj} (e:X.base.get? b=some o):b∉X.fs:=fun hb=>by
 have:=(ok.funs.mem hb).1
 rw [e] at this;cases this
theorem bX.bs (I:bX X pins σ H s):∀ b o,X.base.get? b=some o->s.heap.get? b=some o/\H b=none:=fun b o e =>
 ⟨I.base.keep b o (I.ok.bs b o e).1 (I.ok.bs b o e).2 (I.ok.nofr e) (I.ok.noex b o e),I.base.free b o (I.ok.bs b o e).1 (I.ok.bs b o e).2 (I.ok.noex b o e)⟩
theorem bX.bk (I:bX X pins σ H s):∀ b o,X.base.get? b=some o->s.heap.get? b=some o:=fun b o e=>(I.bs b o e).1
theorem bX.mod (I:bX X pins σ H s):Mod X.K X.mg X.base:=I.ok.mod
theorem bX.kIn (I:bX X pins σ H s):X.K.In s.heap:=I.ok.mod.kin.keeps I.bk
theorem bX.fr (I:bX X pins σ H s):∃ m,Fr X.base X.env.locals s.heap m :=
 let ⟨m,hn,_⟩:=I.loc
 ⟨m,hn,I.bk,cy I.ok.bsz I.ok.above⟩
theorem bX.lt (I:bX X pins σ H s):X.env.locals<s.heap.objs.size:=let ⟨_,hn,_⟩:=I.loc;hn.lt
theorem bX.sz (I:bX X pins σ H s):X.s₀.heap.objs.size<=s.heap.objs.size:=cy I.ok.above (ca I.lt)
theorem bX.nofs (I:bX X pins σ H s) {a:ak} (h:s.heap.objs.size<=a):a∉X.fs:=fun hb=>by
 obtain ⟨_,o,ho,_⟩:=I.ok.funs.mem hb
 exact absurd (aC (ap ho) (cy I.sz h)) (bW _)
theorem bX.cne (I:bX X pins σ H s):∀ x c,X.env.cells.lookup x=some c->c≠X.env.locals:=fun x c e z=>by
 obtain ⟨v,o,ho,hd⟩:=I.cell x c e
 obtain ⟨m,⟨o',es,ep,ho',hd',_⟩,_⟩:=I.loc
 rw [z,ho'] at ho;cases ho;rw [hd'] at hd;cases hd
theorem bX.funs (I:bX X pins σ H s):s.heap.FunFrames X.base X.outer:=by
 have all:∀ (l:List Env),(∀ b∈t5 l,b∈X.fs)->X.s₀.heap.FunFrames X.base l->s.heap.FunFrames X.base l:=by
  intro l
  induction l with
  | nil=>intro _ _;trivial
  | cons env r ih =>
   intro hs hl
   obtain ⟨hk,⟨L,o,hf,hn,ho,hd⟩,hr⟩:=hl
   have hL:L∈X.fs:=hs L (by unfold t5;rw [mq,hf];exact am)
   obtain ⟨sl,e⟩:=I.base.slot L o ho (I.ok.frf L hL) hL fun z=>I.ok.exfs L z hL
   exact ⟨hk,⟨L,_,hf,hn,e,hd⟩,ih (fun b hb=>hs b (by unfold t5;rw [mq,hf];exact ah _ hb)) hr⟩
 exact all X.outer (fun _ hb=>hb) I.ok.funs
theorem bX.stack (I:bX X pins σ H s):s.heap.FunFrames X.base X.stack:=by
 rcases I.ok.stk with e | ⟨e,hf⟩
 ·rw [e];exact I.funs
 ·rw [e]
  obtain ⟨m,hn,_⟩:=I.loc
  refine .cons (by rw [I.ok.kind];decide) hf hn ?_ I.funs
  exact Heap.get?_none_of_le (cy I.ok.bsz I.ok.above)
theorem bX.stkSub (I:bX X pins σ H s):∀ b∈t5 X.stack,b∈X.env.locals::X.fs:=fun b hb=>by
 rcases I.ok.stk with e | ⟨e,hf⟩
 ·rw [e] at hb;exact ah _ hb
 ·rw [e] at hb
  unfold t5 at hb
  rw [mq,hf] at hb
  exact hb
theorem bX.stkFree (I:bX X pins σ H s):∀ b∈t5 X.stack,H b=none:=fun b hb=>by
 rcases List.mem_cons.mp (I.stkSub b hb) with e | hb
 ·rw [e];exact I.free
 ·obtain ⟨_,o,ho,_⟩:=I.ok.funs.mem hb
  exact I.base.free b o ho (I.ok.frf b hb) fun z=>I.ok.exfs b z hb
theorem bX.step {g':Array Gn}{t':Nat}{d':M0}{ch:List ak} (I:bX X pins σ H s)
  (hch:∀ b∈ch,(b∈X.ex\/X.s₀.heap.objs.size<=b)/\b≠X.env.locals/\(∀ x c,X.env.cells.lookup x=some c->c≠b)/\∀ p∈X.pn++pins,p.1≠b)
  (keep:∀ b o,b≠X.env.locals->b∉X.fs->b∉ch->s.heap.get? b=some o->H b=none->h'.get? b=some o)
  (slot:∀ b o,b≠X.env.locals->b∈X.fs->b∉ch->s.heap.get? b=some o->H b=none->∃ sl,h'.get? b=some { o with slots:=sl }) (free:∀ b o,b∉ch->s.heap.get? b=some o->H b=none->H' b=none)
  (there:∀ b o,b∉ch->s.heap.get? b=some o->∃ o',h'.get? b=some o')
  (tups:∀ b xs,H b=some (.tup xs)->H' b=some (.tup xs)) (frzs:∀ b o u,H b=some (.frz o u)->H' b=some (.frz o u)) (tbls:∀ b ps,H b=some (.tbl ps)->∃ more,H' b=some (.tbl (ps++more)))
  (ns:∀ m,s.heap.Ns X.env.locals m->h'.Ns X.env.locals m) (hok:qv X.prog X.w H' h') (hg:qy g') :
  bX X pins σ H' { s with heap:=h',gens:=g',drawn:=d',toks:=t' }:=by
 have neL:∀ b o,X.s₀.heap.get? b=some o->b≠X.env.locals:=fun b o e=>aE (aC (ap e) I.ok.above)
 have neC:∀ b o,X.s₀.heap.get? b=some o->b∉X.ex->b∉ch:=fun b o e hx hb=>by
  rcases (hch b hb).1 with z | z
  ·exact hx z
  ·exact absurd (aC (ap e) z) (bW _)
 have cellK:∀ x c,X.env.cells.lookup x=some c->∀ v,s.heap.IsCell c v->h'.IsCell c v:=fun x c e v h_0=>by
  obtain ⟨o,ho,hd⟩:=h_0
  have nch:c∉ch:=fun z=>(hch c z).2.2.1 x c e rfl
  by_cases hc:c∈X.fs
  ·obtain ⟨sl,q⟩:=slot c o (I.cne x c e) hc nch ho (I.freeC x c e)
   exact ⟨_,q,hd⟩
  ·exact ⟨o,keep c o (I.cne x c e) hc nch ho (I.freeC x c e),hd⟩
 refine ⟨I.ok,I.os,hg,⟨fun b o e n hb hx=>?_,fun b o e n hb hx=>?_,fun b o e n hx=>?_,fun b o e hx=>?_,fun b xs e=>tups b xs (I.base.tups b xs e),fun b o xs e=>frzs b o xs (I.base.frzs b o xs e),fun b ps e=>?_⟩,?_,fun x c e=>?_,?_,fun x c e=>?_,fun p hp=>?_,hok,I.len⟩
 ·exact keep b o (neL b o e) hb (neC b o e hx) (I.base.keep b o e n hb hx) (I.base.free b o e n hx)
 ·obtain ⟨sl,e1⟩:=I.base.slot b o e n hb hx
  obtain ⟨sl',e2⟩:=slot b _ (neL b o e) hb (neC b o e hx) e1 (I.base.free b o e n hx)
  exact ⟨sl',e2⟩
 ·obtain ⟨o',e1⟩:=I.base.there b o e hx
  exact free b o' (neC b o e hx) e1 (I.base.free b o e n hx)
 ·obtain ⟨o',e1⟩:=I.base.there b o e hx
  exact there b o' (neC b o e hx) e1
 ·obtain ⟨m1,e1⟩:=I.base.tbls b ps e
  obtain ⟨m2,e2⟩:=tbls b _ e1
  exact ⟨m1++m2,by rw [e2,K7]⟩
 ·obtain ⟨m,hn,hl⟩:=I.loc
  refine ⟨m,ns m hn,fun i x v e1 e2 e3=>?_⟩
  obtain ⟨u,r,l⟩:=hl i x v e1 e2 e3
  refine ⟨u,r,?_⟩
  rcases l with l | ⟨k,c,e,z⟩
  ·exact .inl l
  ·exact .inr ⟨k,c,e,cellK x c e _ z⟩
 ·obtain ⟨v,z⟩:=I.cell x c e
  exact ⟨v,cellK x c e v z⟩
 ·obtain ⟨m,⟨o,_,_,ho,_⟩,_⟩:=I.loc
  exact free _ o (fun z=>(hch _ z).2.1 rfl) ho I.free
 ·obtain ⟨v,o,ho,hd⟩:=I.cell x c e
  exact free c o (fun z=>(hch c z).2.2.1 x c e rfl) ho (I.freeC x c e)
 ·obtain ⟨e,n,ne,nf,d⟩:=I.pin p hp
  have nch:p.1∉ch:=fun z=>(hch p.1 z).2.2.2 p hp rfl
  exact ⟨keep p.1 p.2 ne nf nch e n,free p.1 p.2 nch e n,ne,nf,d⟩
theorem bX.un {t':Nat} (I:bX X pins σ H s) (u:Un X.fs [] H H' s.heap h') (hok:qv X.prog X.w H' h'):bX X pins σ H' { s with heap:=h',toks:=t' }:=by
 obtain ⟨m,⟨o,es,ep,ho,r⟩,_⟩:=id I.loc
 obtain ⟨sl,hL⟩:=u.any ho I.free (by simp)
 exact I.step (g':=s.gens) (d':=s.drawn) (ch:=[]) (fun _ z=>nomatch z) (fun b o _ hb _ e n=>u.keep b o e n hb (by simp)) (fun b o _ hb _ e n=>u.slot b o e n hb (by simp)) (fun b o _ e n=>u.free b o e n (by simp)) (fun b o _ e=>u.there b o e (by simp)) u.tups u.frzs u.tbls (fun m' hm=>by
  obtain ⟨o',es',ep',ho',r'⟩:=hm
  rw [ho] at ho';cases ho'
  exact ⟨_,es',ep',hL,r'⟩) hok I.bare
theorem bX.call {g':Array Gn}{t':Nat}{d':M0}{ch:List ak} (I:bX X pins σ H s) (u:Un (t5 X.stack) ch H H' s.heap h') (hok:qv X.prog X.w H' h') (hg:qy g')
  (hch:∀ b∈ch,(b∈X.ex\/X.s₀.heap.objs.size<=b)/\b≠X.env.locals/\(∀ x c,X.env.cells.lookup x=some c->c≠b)/\∀ p∈X.pn++pins,p.1≠b) :
  bX X pins σ H' { s with heap:=h',gens:=g',drawn:=d',toks:=t' }:=by
 obtain ⟨m,⟨o,es,ep,ho,r⟩,_⟩:=id I.loc
 obtain ⟨sl,hL⟩:=u.any ho I.free fun z=>(hch _ z).2.1 rfl
 exact I.step (ch:=ch) hch (fun b o hL hb hc e n=>u.keep b o e n (fun z=>(List.mem_cons.mp (I.stkSub b z)).elim hL hb) hc) (fun b o _ _ hc e n=>u.any e n hc) (fun b o hc e n=>u.free b o e n hc) (fun b o hc e=>u.there b o e hc) u.tups u.frzs u.tbls (fun m' hm=>by
  obtain ⟨o',es',ep',ho',r'⟩:=hm
  rw [ho] at ho';cases ho'
  exact ⟨_,es',ep',hL,r'⟩) hok hg
theorem bX.turned {t':Nat}{it:ak} (I:bX X pins σ H s) (k:∀ b o,b≠it->s.heap.get? b=some o->h'.get? b=some o) (hn:H it=none) (hL:it≠X.env.locals)
  (h1:it∈X.ex\/X.s₀.heap.objs.size<=it) (h2:∀ x c,X.env.cells.lookup x=some c->c≠it) (h3:∀ p∈X.pn++pins,p.1≠it):bX X pins σ H { s with heap:=h',toks:=t' }:=by
 have nit:∀ b u,H b=some u->b≠it:=fun b u e z=>by rw [z,hn] at e;cases e
 refine I.step (g':=s.gens) (d':=s.drawn) (ch:=[it]) (fun b hb=>?_) (fun b o _ _ hc e _=>k b o (fun z=>hc (by simp [z])) e) (fun b o _ _ hc e _=>⟨o.slots,k b o (fun z=>hc (by simp [z])) e⟩) (fun _ _ _ _ n=>n)
  (fun b o hc e=>⟨o,k b o (fun z=>hc (by simp [z])) e⟩) (fun _ _ e=>e) (fun _ _ _ e=>e) (fun b ps e=>⟨#[],by rw [e];simp⟩) (fun m hm=>?_) (fun b u e=>?_) I.bare
 ·have e:b=it:=by simpa using hb
  subst e
  exact ⟨h1,hL,h2,h3⟩
 ·obtain ⟨o,es,ep,ho,r⟩:=hm
  exact ⟨o,es,ep,k _ o (cV hL) ho,r⟩
 ·refine (I.hok b u e).stay (fun c v hc q=>k c v ?_ q) (fun _ q=>q) fun _ _ q=>q
  rcases hc with z | z
  ·rw [z];exact nit b u e
  ·exact nit c _ z
theorem bX.tok (I:bX X pins σ H s) (t:Nat):bX X pins σ H { s with toks:=t }:=I.un (h':=s.heap) (t':=t) Un.refl I.hok
theorem bX.kept {t':Nat} (I:bX X pins σ H s) (k:∀ b u,s.heap.get? b=some u->h'.get? b=some u):bX X pins σ H { s with heap:=h',toks:=t' }:=I.un (Un.kept k) (I.hok.kept k)
theorem bX.laid {a:ak}{o:HO}{t':Nat} (I:bX X pins σ H s) (k:∀ b u,s.heap.get? b=some u->h'.get? b=some u) (hp:s.heap.objs.size<=a) (new:dw X.prog X.w (upd H a o) h' a o) :
  bX X pins σ (upd H a o) { s with heap:=h',toks:=t' }:=I.un (Un.laid k hp (I.hok.fresh hp)) (I.hok.laid k hp new)
theorem bX.write {x e:ak}{o:HO}{t':Nat} (I:bX X pins σ H s) (mu:Vn (H x)) (he:e=x\/H e=some (.own x)) (k:∀ b u,b≠e->s.heap.get? b=some u->h'.get? b=some u) (heo:∃ u,h'.get? e=some u)
  (new:dw X.prog X.w (upd H x o) h' x o):bX X pins σ (upd H x o) { s with heap:=h',toks:=t' }:=I.un (Un.write mu he k heo) (I.hok.write mu he k heo new)
theorem bX.weak {σ':List (Option V)} (I:bX X pins σ H s) (hl:σ'.length=σ.length) (w:∀ (i:Nat) v,σ'[i]?=some (some v)->σ[i]?=some (some v)):bX X pins σ' H s :=
 ⟨I.ok,I.os,I.bare,I.base,let ⟨m,hn,hl'⟩:=I.loc;⟨m,hn,fun i x v e1 e2 e3=>hl' i x v e1 (w i v e2) e3⟩,I.cell,I.free,I.freeC,I.pin,I.hok,hl.trans I.len⟩
theorem bX.pins_of {pins':List (ak×Obj)} (I:bX X pins σ H s) (h:∀ p∈pins',s.heap.get? p.1=some p.2/\H p.1=none/\p.1≠X.env.locals/\p.1∉X.fs/\∀ v,p.2.data≠.cell v):bX X pins' σ H s :=
 ⟨I.ok,I.os,I.bare,I.base,I.loc,I.cell,I.free,I.freeC,fun p hp=>(List.mem_append.mp hp).elim (fun z=>I.pin p (bj _ z)) (h p),I.hok,I.len⟩
theorem DZ {N:List Str} (hN:N.Nodup) {i j:Nat}{x:Str} (a:N[i]?=some x) (b:N[j]?=some x):i=j:=by
 obtain ⟨h1,e1⟩:=List.getElem?_eq_some_iff.mp a
 obtain ⟨h2,e2⟩:=List.getElem?_eq_some_iff.mp b
 exact (PM hN).mp (e1.trans e2.symm)
theorem Bc {M:Ag}{A:aX}{E:aa->af->Prop}{i:Nat}{x:Str}{v:V}{u:aa}{Q:Unit->af->Prop} (I:bX X pins σ H s) (hN:X.N.Nodup) (hi:X.N[i]?=some x) (hx:S0 X.env.scope x) (r:dq v u)
  (h:∀ s',bX X pins (σ.set i (some v)) H s'->(∃ a,bN a s.heap s'.heap/\(a=X.env.locals\/X.env.cells.lookup x=some a))->Q () s') (hf:X.fn x=true\/X.env.scope.names.lookup x=some .local:=by first | exact .inl rfl | exact .inr rfl | assumption):au M A (storeName X.env x u) Q E s:=by
 obtain ⟨m,hn,hl⟩:=id I.loc
 have hcls:(X.env.scope.kind == .class || (X.env.scope.kind == .module && X.env.locals != X.env.globals))=false:=by rw [I.ok.kind];rfl
 have hiσ:i<σ.length:=by rw [I.len];exact (List.getElem?_eq_some_iff.mp hi).1
 have cne:=I.cne
 have tracked:∀ {a:ak}{h':bF},(∃ o,s.heap.get? a=some o/\H a=none)->bN a s.heap h'->qv X.prog X.w H h':=fun {a h'} ha hs b ob e=>by
  obtain ⟨_,_,hfree⟩:=ha
  refine (I.hok b ob e).stay (fun c w' hc q=>(hs.2 c ?_).trans q) (fun _ q=>q) fun _ _ q=>q
  rintro rfl
  rcases hc with rfl | hc
  ·rw [hfree] at e;cases e
  ·rw [hfree] at hc;cases hc
 rcases hx with hk | hk
 ·refine wpAny_storeName_local hk hn (fun h' hn' hs=>?_) hcls
  obtain ⟨oL,_,_,hoL,_⟩:=id hn
  refine h _ ⟨I.ok,I.os,I.bare,⟨fun b o e n hb hx=>?_,fun b o e n hb hx=>?_,I.base.free,fun b o e hx=>?_,I.base.tups,I.base.frzs,I.base.tbls⟩,⟨_,hn',fun j y v' e1 e2 e3=>?_⟩,fun y c e=>?_,I.free,I.freeC,fun p hp=>?_,tracked ⟨oL,hoL,I.free⟩ hs,by simpa using I.len⟩ ⟨_,hs,.inl rfl⟩
  ·exact (hs.2 b (aE (aC (ap e) I.ok.above))).trans (I.base.keep b o e n hb hx)
  ·obtain ⟨sl,e1⟩:=I.base.slot b o e n hb hx
   exact ⟨sl,(hs.2 b (aE (aC (ap e) I.ok.above))).trans e1⟩
  ·obtain ⟨o',e1⟩:=I.base.there b o e hx
   exact ⟨o',(hs.2 b (aE (aC (ap e) I.ok.above))).trans e1⟩
  ·by_cases hj:j=i
   ·subst hj
    rw [hi] at e1;cases e1
    rw [aG hiσ] at e2
    cases e2
    exact ⟨u,r,.inl ⟨hk,by simp⟩⟩
   ·rw [al (cV hj)] at e2
    obtain ⟨u',r',q⟩:=hl j y v' e1 e2 e3
    refine ⟨u',r',?_⟩
    rcases q with ⟨k,e⟩ | ⟨k,c,e,z⟩
    ·refine .inl ⟨k,?_⟩
     have:y≠x:=fun e=>hj (DZ hN e1 (e ▸ hi))
     simp [this,e]
    ·exact .inr ⟨k,c,e,z.sameBut hs (cne y c e)⟩
  ·obtain ⟨w',z⟩:=I.cell y c e
   exact ⟨w',z.sameBut hs (cne y c e)⟩
  ·obtain ⟨e,n,ne,nf,d⟩:=I.pin p hp
   exact ⟨(hs.2 p.1 ne).trans e,n,ne,nf,d⟩
 ·have hfn:X.fn x=true:=by
   rcases hf with z | z
   ·exact z
   ·rw [z] at hk;cases hk
  obtain ⟨c,hc⟩:=I.ok.has x (.inl hk)
  obtain ⟨w',z⟩:=I.cell x c hc
  refine wpAny_storeName_cell I.ok.kind hk hc z (fun h' hc' hs=>?_)
  obtain ⟨oc,hoc,hocd⟩:=id z
  refine h { s with heap:=h' } ⟨I.ok,I.os,I.bare,⟨fun b o e n hb hx=>?_,fun b o e n hb hx=>?_,I.base.free,fun b o e hx=>?_,I.base.tups,I.base.frzs,I.base.tbls⟩,⟨m,hn.sameBut hs (cV (cne x c hc)),fun j y v' e1 e2 e3=>?_⟩,fun y c' e=>?_,I.free,I.freeC,fun p hp=>?_,tracked ⟨oc,hoc,I.freeC x c hc⟩ hs,by simpa using I.len⟩ ⟨c,hs,.inr hc⟩
  ·exact (hs.2 b (aE (aC (ap e) (I.ok.cab x c hfn hc)))).trans (I.base.keep b o e n hb hx)
  ·obtain ⟨sl,e1⟩:=I.base.slot b o e n hb hx
   exact ⟨sl,(hs.2 b (aE (aC (ap e) (I.ok.cab x c hfn hc)))).trans e1⟩
  ·obtain ⟨o',e1⟩:=I.base.there b o e hx
   exact ⟨o',(hs.2 b (aE (aC (ap e) (I.ok.cab x c hfn hc)))).trans e1⟩
  ·by_cases hj:j=i
   ·subst hj
    rw [hi] at e1;cases e1
    rw [aG hiσ] at e2
    cases e2
    exact ⟨u,r,.inr ⟨.inl hk,c,hc,hc'⟩⟩
   ·rw [al (cV hj)] at e2
    obtain ⟨u',r',q⟩:=hl j y v' e1 e2 e3
    refine ⟨u',r',?_⟩
    rcases q with q | ⟨k,c',e,z'⟩
    ·exact .inl q
    ·refine .inr ⟨k,c',e,z'.sameBut hs ?_⟩
     rintro rfl
     exact hj (DZ hN e1 (I.ok.inj _ _ _ e hc ▸ hi))
  ·by_cases hcc:c'=c
   ·subst hcc;exact ⟨_,hc'⟩
   ·obtain ⟨w2,z2⟩:=I.cell y c' e
    exact ⟨w2,z2.sameBut hs hcc⟩
  ·obtain ⟨e,n,ne,nf,d⟩:=I.pin p hp
   refine ⟨(hs.2 p.1 ?_).trans e,n,ne,nf,d⟩
   intro q
   rw [q,hoc] at e
   have q':oc=p.2:=bM e
   exact d w' (by rw [<- q'];exact hocd)
theorem uW {M:Ag}{A:aX}{E:aa->af->Prop}{i:Nat}{x:Str}{v:V}{u:aa}{Q:Unit->af->Prop} (I:bX X pins σ H s) (hN:X.N.Nodup) (hi:X.N[i]?=some x) (hx:S0 X.env.scope x) (r:dq v u)
  (h:∀ s',bX X pins (σ.set i (some v)) H s'->Q () s') (hf:X.fn x=true\/X.env.scope.names.lookup x=some .local:=by first | exact .inl rfl | exact .inr rfl | assumption):au M A (storeName X.env x u) Q E s :=
 Bc I hN hi hx r (fun s' I' _=>h s' I') hf
theorem bX.call' {s':af}{ch:List ak} (I:bX X pins σ H s) (ho:s'.os=s.os) (u:Un (t5 X.stack) ch H H' s.heap s'.heap) (hok:qv X.prog X.w H' s'.heap) (hg:qy s'.gens)
  (hch:∀ b∈ch,(b∈X.ex\/X.s₀.heap.objs.size<=b)/\b≠X.env.locals/\(∀ x c,X.env.cells.lookup x=some c->c≠b)/\∀ p∈X.pn++pins,p.1≠b):bX X pins σ H' s':=by
 obtain ⟨h',g',d',t',o'⟩:=s'
 have e:o'=s.os:=ho
 subst e
 exact I.call (g':=g') (t':=t') (d':=d') u hok hg hch
end
abbrev XK:=aa->Option ak->Hp->Prop
abbrev St:=List (Option V)
abbrev VK:=V->Hp->Prop
abbrev TE:=St->Hp->VK->Prop
abbrev TT:=St->Hp->(Bool->Hp->Prop)->Prop
abbrev TA:=St->Hp->(List V->Hp->Prop)->Prop
structure Cm where
 nx:St->Hp->Prop
 rt:VK
 bk:St->Hp->Prop:=fun _ _=>False
 ct:St->Hp->Prop:=fun _ _=>False
abbrev TS:=Cm->St->Hp->Prop
inductive EP (X:Cx) (pins:List (ak×Obj)) (σ:St) (Q:VK) (u:aa) (s':af):Prop
 | mk (v H':_) (h0:bX X pins σ H' s') (h1:dq v u) (h2:Q v H'):EP X pins σ Q u s'
inductive TP (X:Cx) (pins:List (ak×Obj)) (σ:St) (Q:Bool->Hp->Prop) (b:Bool) (s':af):Prop
 | mk (H':_) (h0:bX X pins σ H' s') (h1:Q b H'):TP X pins σ Q b s'
inductive AP (X:Cx) (pins:List (ak×Obj)) (σ:St) (Q:List V->Hp->Prop) (us:List aa) (s':af):Prop
 | mk (vs H':_) (h0:bX X pins σ H' s') (h1:dC vs us) (h2:Q vs H'):AP X pins σ Q us s'
inductive SN (X:Cx) (pins:List (ak×Obj)) (k:St->Hp->Prop) (s':af):Prop
 | mk (σ':St) (H':Hp) (I:bX X pins σ' H' s') (q:k σ' H'):SN X pins k s'
inductive SV (X:Cx) (pins:List (ak×Obj)) (k:V->Hp->Prop) (u:aa) (s':af):Prop
 | mk (v:V) (σ':St) (H':Hp) (I:bX X pins σ' H' s') (r:dq v u) (q:k v H'):SV X pins k u s'
def SP (X:Cx) (pins:List (ak×Obj)) (D:Cm) (f:Flow) (s':af):Prop :=
 match f with
 | .next=>SN X pins D.nx s'
 | .brk=>SN X pins D.bk s'
 | .cont=>SN X pins D.ct s'
 | .ret u=>SV X pins D.rt u s'
def PE (X:Cx) (e:aZ) (t:TE):Prop :=
 ∀ (pins:List (ak×Obj)) (s:af) (σ:St) (H:Hp) (Q:VK),bX X pins σ H s->t σ H Q->au (ax X.prog X.w) X.A (eE e X.env) (EP X pins σ Q) X.xe s
def PT (X:Cx) (e:aZ) (t:TT):Prop :=
 ∀ (pins:List (ak×Obj)) (s:af) (σ:St) (H:Hp) (Q:Bool->Hp->Prop),bX X pins σ H s->t σ H Q->au (ax X.prog X.w) X.A (vZ e X.env (eE e X.env)) (TP X pins σ Q) X.xe s
def PW (X:Cx) (e:aZ) (t:TT):Prop :=
 ∀ (whole:Sem aa) (pins:List (ak×Obj)) (s:af) (σ:St) (H:Hp) (Q:Bool->Hp->Prop),bX X pins σ H s->t σ H Q->au (ax X.prog X.w) X.A (vZ e X.env whole) (TP X pins σ Q) X.xe s
theorem PW.pt {X:Cx}{e:aZ}{t:TT} (h:PW X e t):PT X e t:=h _
def PA (X:Cx) (es:List aZ) (t:TA):Prop :=
 ∀ (pos:Pos) (pins:List (ak×Obj)) (s:af) (σ:St) (H:Hp) (Q:List V->Hp->Prop),bX X pins σ H s->t σ H Q->au (ax X.prog X.w) X.A (spliced (jn pos (aO es X.env))) (AP X pins σ Q) X.xe s
def PS (X:Cx) (st:c_) (t:TS):Prop :=
 ∀ (pins:List (ak×Obj)) (s:af) (σ:St) (H:Hp) (D:Cm),bX X pins σ H s->t D σ H->au (ax X.prog X.w) X.A (exec st X.env) (SP X pins D) X.xe s
def IA (X:Cx) (st:List c_) (t:TS):Prop :=
 ∀ (pins:List (ak×Obj)) (s:af) (σ:St) (H:Hp) (D:Cm),bX X pins σ H s->t D σ H->au (ax X.prog X.w) X.A (execs st X.env) (SP X pins D) X.xe s
theorem fN {α:Type}{t:Sem α}{Q Q':α->af->Prop}{M:Ag}{A:aX}{E:aa->af->Prop}{s:af} (h:au M A t Q E s) (hQ:∀ a s,Q a s->Q' a s):au M A t Q' E s:=bL h hQ fun _ _ x=>x
end L2
namespace L2
open PySem PySem.Spec PyProof.Rows
section
variable {X:Cx}
inductive S1 (i:Nat) (σ:St) (H:Hp) (Q:VK):Prop
 | mk (v:_) (h0:σ[i]?=some (some v)) (h1:Q v H):S1 i σ H Q
def Vo (i:Nat):TE:=S1 i
def tC (v:V):TE:=fun _ H Q=>Q v H
theorem tX {i:Nat}{x:Str}{pos:Pos} (hN:X.N[i]?=some x) (hv:Qv X.env.scope x) (hd:(x == ("__debug__" : Str))=false:=by decide) (hcd:(x == ("__classdict__" : Str))=false:=by decide):PE X (.Name x pos) (Vo i):=by
 intro pins s σ H Q I h
 obtain ⟨v,e,h⟩:=h
 obtain ⟨m,hn,hl⟩:=I.loc
 obtain ⟨u,r,l⟩:=hl i x v hN e hv
 have fin:EP X pins σ Q u s:=⟨v,H,I,r,h⟩
 rcases l with ⟨hk,hm⟩ | ⟨hk,c,hc,hcell⟩
 ·exact wpAny_Name (wpAny_loadName_local I.ok.kind hk hn hm fin) hd
 ·rcases hk with hk | hk
  ·exact wpAny_Name (wpAny_loadName_cell I.ok.kind hk hc hcell fin) hd
  ·exact wpAny_Name (wpAny_loadName_free I.ok.kind hk hc hcell fin hcd) hd
theorem Tw {i j pos}:PE X (.Constant (.int i) j pos) (tC (.int i)):=fun _ _ _ H _ I h=>wpAny_Constant_int ⟨.int i,H,I.tok _,⟨_,rfl⟩,h⟩
theorem Vp {b j pos}:PE X (.Constant (.bool b) j pos) (tC (.bl b)):=fun _ _ _ H _ I h=>Constant_bool ⟨.bl b,H,I,rfl,h⟩
theorem Tx {j pos}:PE X (.Constant .none j pos) (tC .non):=fun _ _ _ H _ I h=>Constant_none ⟨.non,H,I,rfl,h⟩
theorem Tz {x j pos}:PE X (.Constant (.str x) j pos) (tC (.str x)):=fun _ _ _ H _ I h=>Calls.Constant_str ⟨.str x,H,I.tok _,⟨_,rfl⟩,h⟩
def Gl (X:Cx) (x:Str):Prop:=X.env.kindOf x=some .globalImplicit
theorem Co {E:aa->af->Prop}{pins:List (ak×Obj)}{s:af}{σ:St}{H:Hp}{x:Str}{u:aa}{pos:Pos}{Q:aa->af->Prop} (I:bX X pins σ H s) (hg:Gl X x) (hm:X.mg x=some u) (h:Q u s)
  (hd:(x == ("__debug__" : Str))=false:=by decide):au (ax X.prog X.w) X.A (eE (.Name x pos) X.env) Q E s :=
 Ah I.ok.kind hg (Calls.loadGlobal_global (by rw [I.ok.glob];exact I.mod.glob.keeps I.bk) hm h) hd
theorem wo {E:aa->af->Prop}{pins:List (ak×Obj)}{s:af}{σ:St}{H:Hp}{x:Str}{u:aa}{pos:Pos}{Q:aa->af->Prop} (I:bX X pins σ H s) (hg:Gl X x) (hm:X.mg x=none) (hv:iF x=some u) (h:Q u s)
  (hn:x≠"__name__":=by decide) (hd:(x == ("__debug__" : Str))=false:=by decide):au (ax X.prog X.w) X.A (eE (.Name x pos) X.env) Q E s:=by
 obtain ⟨mb,h1,h2⟩:=I.mod.blt
 exact Ah I.ok.kind hg (Calls.loadGlobal_builtin (by rw [I.ok.glob];exact I.mod.glob.keeps I.bk) hm (by rw [I.ok.blt];exact h1.keeps I.bk) ((h2 x hn).trans hv) h) hd
theorem Qw {x:Str}{v:V}{u:aa}{pos:Pos} (hg:Gl X x) (hm:X.mg x=some u) (r:dq v u) (hd:(x == ("__debug__" : Str))=false:=by decide):PE X (.Name x pos) (tC v) :=
 fun _ _ _ H _ I h=>Co I hg hm ⟨v,H,I,r,h⟩ hd
theorem Qx {x:Str}{v:V}{u:aa}{pos:Pos} (hg:Gl X x) (hm:X.mg x=none) (hv:iF x=some u) (r:dq v u) (hn:x≠"__name__":=by decide) (hd:(x == ("__debug__" : Str))=false:=by decide):PE X (.Name x pos) (tC v) :=
 fun _ _ _ H _ I h=>wo I hg hm hv ⟨v,H,I,r,h⟩ hn hd
variable {a b:aZ}{ta tb:TE}{pos:Pos}
def PC (X:Cx) (op:M1) (a b:aZ) (t:TE):Prop :=
 ∀ (pins:List (ak×Obj)) (s:af) (σ:St) (H:Hp) (Q:VK),bX X pins σ H s->t σ H Q ->
  au (ax X.prog X.w) X.A (eE a X.env) (fun v s₁=>au (ax X.prog X.w) X.A (eE b X.env) (fun u s₂=>au (ax X.prog X.w) X.A (bO op v u) (EP X pins σ Q) X.xe s₂) X.xe s₁) X.xe s
theorem ME (b:aZ) {op:M1} (h:op≠.In) (h2:op≠.NotIn):h_ op b=false:=by
 have e1:(op == CmpOp.In)=false:=by cases op<;>first | rfl | exact absurd rfl h
 have e2:(op == CmpOp.NotIn)=false:=by cases op<;>first | rfl | exact absurd rfl h2
 cases b<;>simp [h_,e1,e2]
def tB (t:TE):TT:=fun σ H Q=>t σ H fun x H1=>∃ c,x=.bl c/\Q c H1
theorem XC {op:M1}{t:TE} (h:PC X op a b t) (h1:h_ op b=false:=by first | exact ME _ (by decide) (by decide) | rfl):PT X (.Compare a [op] [b] pos) (tB t):=by
 intro pins s σ H Q I hw
 refine PN (fN (h pins s σ H _ I hw) fun v s1 h1=>fN h1 fun u s2 h2=>fN h2 fun c s3 ⟨x,H1,I1,r1,q1⟩=>?_) h1
 obtain ⟨d,rfl,q⟩:=q1
 cases r1
 exact dg ⟨H1,I1,q⟩
theorem TC {e:aZ}{t:TE} (h:PE X e t) (he:∀ whole,vZ e X.env whole=(do let v <- whole;xi e.pos;holding [v] (truthy v)):=by intro _;rfl):PT X e (tB t):=by
 intro pins s σ H Q I hw
 refine isTrue_plain (fN (h pins s σ H _ I hw) fun v s1 ⟨x,H1,I1,r1,q1⟩=>?_) (he _)
 obtain ⟨d,rfl,q⟩:=q1
 cases r1
 exact dg ⟨H1,I1,q⟩
variable {tA tB':TT}{c6:List aZ}
def XD (t u:TT):TT:=fun σ H Q=>t σ H fun c H1=>if c=true then u σ H1 Q else Q false H1
def Z9 (t u:TT):TT:=fun σ H Q=>t σ H fun c H1=>if c=true then Q true H1 else u σ H1 Q
def XE (t:TT):TT:=fun σ H Q=>t σ H fun c H1=>Q (!c) H1
theorem Qy (ha:PT X a tA):PW X (.BoolOp .And [a] pos) tA:=by
 intro wh pins s σ H Q I h
 refine isTrue_and (fN (ha pins s σ H Q I h) fun c s1 e=>?_)
 cases c with
 | true=>exact isTrue_and_nil e
 | false=>exact e
theorem TD (ha:PT X a tA):PW X (.BoolOp .Or [a] pos) tA:=by
 intro wh pins s σ H Q I h
 refine isTrue_or (fN (ha pins s σ H Q I h) fun c s1 e=>?_)
 cases c with
 | false=>exact isTrue_or_nil e
 | true=>exact e
theorem TF (ha:PT X a tA) (hb:PW X (.BoolOp .And (b::c6) pos) tB'):PW X (.BoolOp .And (a::b::c6) pos) (XD tA tB'):=by
 intro wh pins s σ H Q I h
 refine isTrue_and (fN (ha pins s σ H _ I h) fun c s1 ⟨H1,I1,q1⟩=>?_)
 cases c with
 | true=>exact hb wh pins s1 σ H1 Q I1 q1
 | false=>exact ⟨H1,I1,q1⟩
theorem Vq (ha:PT X a tA) (hb:PW X (.BoolOp .Or (b::c6) pos) tB'):PW X (.BoolOp .Or (a::b::c6) pos) (Z9 tA tB'):=by
 intro wh pins s σ H Q I h
 refine isTrue_or (fN (ha pins s σ H _ I h) fun c s1 ⟨H1,I1,q1⟩=>?_)
 cases c with
 | true=>exact ⟨H1,I1,q1⟩
 | false=>exact hb wh pins s1 σ H1 Q I1 q1
theorem TH (ha:PT X a tA):PT X (.UnaryOp .Not a pos) (XE tA):=by
 intro pins s σ H Q I h
 exact isTrue_not (fN (ha pins s σ H (fun c H1=>Q (!c) H1) I h) fun _ _ x=>by obtain ⟨a,b,c⟩:=x;exact ⟨a,b,c⟩)
def Vr (ta tb:TE):TE:=fun σ H Q=>ta σ H fun x H1=>∃ c,x=.bl c/\if c=true then tb σ H1 Q else Q (.bl false) H1
def Vs (ta:TE):TE:=fun σ H Q=>ta σ H fun x H1=>∃ c,x=.bl c/\Q (.bl (!c)) H1
theorem TJ {op}{t:TE} (h:PE X a t):PE X (.BoolOp op [a] pos) t:=fun pins s σ H Q I hw=>BoolOp_one (h pins s σ H Q I hw)
theorem TK (ha:PE X a ta) (hb:PE X (.BoolOp .And (b::c6) pos) tb):PE X (.BoolOp .And (a::b::c6) pos) (Vr ta tb):=by
 intro pins s σ H Q I h
 refine BoolOp_and (fN (ha pins s σ H _ I h) fun v s1 ⟨x,H1,I1,r1,q1⟩=>?_)
 obtain ⟨c,rfl,q1⟩:=q1
 cases r1
 refine dg ?_
 cases c with
 | true=>exact hb pins s1 σ H1 Q I1 q1
 | false=>exact ⟨.bl false,H1,I1,rfl,q1⟩
theorem TL (ha:PE X a ta):PE X (.UnaryOp .Not a pos) (Vs ta):=by
 intro pins s σ H Q I h
 refine UnaryOp_ (fN (ha pins s σ H _ I h) fun v s1 ⟨x,H1,I1,r1,q1⟩=>?_)
 obtain ⟨c,rfl,q1⟩:=q1
 cases r1
 exact not_of (dg ⟨.bl (!c),H1,I1,rfl,q1⟩)
def Za (t:TT) (ta tb:TE):TE:=fun σ H Q=>t σ H fun c H1=>if c=true then ta σ H1 Q else tb σ H1 Q
theorem MF {c:aZ} (hc:PT X c tA) (ha:PE X a ta) (hb:PE X b tb):PE X (.IfExp c a b pos) (Za tA ta tb):=by
 intro pins s σ H Q I h
 refine wpAny_IfExp (fN (hc pins s σ H _ I h) fun d s1 ⟨H1,I1,q1⟩=>?_)
 cases d with
 | true=>exact ha pins s1 σ H1 Q I1 q1
 | false=>exact hb pins s1 σ H1 Q I1 q1
end
end L2
namespace L2
open PySem PySem.Spec PyProof.Rows
inductive YF (K:a8) (a:ak) (xs:List V):Prop
 | mk (o:Obj) (its:Array aa) (n:Nat) (h0:K.lookup a=some o) (h1:o.cls=.type "list") (h2:o.dict=none) (h3:o.data=.seq its n) (h4:its.size<=sizeLine) (h5:dC xs its.toList):YF K a xs
def ph (K:a8) (H:Hp) (a:ak) (xs:List V):Prop :=
 Rd H a (.lst xs)\/YF K a xs
inductive YG (K:a8) (a:ak) (xs:List V):Prop
 | mk (o:Obj) (its:Array aa) (n:Nat) (h0:K.lookup a=some o) (h1:o.cls=.type "tuple") (h3:o.data=.seq its n) (h4:its.size<=sizeLine) (h5:dC xs its.toList):YG K a xs
def l7 (K:a8) (H:Hp) (a:ak) (xs:List V):Prop :=
 Rd H a (.tup xs)\/YG K a xs
def XF:aa->Option V
 | .none=>some .non
 | .bool b=>some (.bl b)
 | .int i _=>some (.int i)
 | .str x _=>some (.str x)
 | .bytes b _=>some (.byt b)
 | .float b _=>some (.flt b)
 | .ref a=>some (.ref a)
 | .type n=>some (.ty n)
 | _=>none
theorem dq.abs {x:V}{u:aa} (r:dq x u):XF u=some x:=by
 cases x with
 | non=>cases r;rfl
 | bl _=>cases r;rfl
 | int _=>obtain ⟨t,rfl⟩:=r;rfl
 | str _=>obtain ⟨t,rfl⟩:=r;rfl
 | byt _=>obtain ⟨t,rfl⟩:=r;rfl
 | flt _=>obtain ⟨t,rfl⟩:=r;rfl
 | ref _=>cases r;rfl
 | ty _=>cases r;rfl
theorem dq.inj {x y:V}{u:aa} (r:dq x u) (q:dq y u):x=y:=bM (r.abs.symm.trans q.abs)
theorem dC.inj {xs:List V}{us:List aa} (h:dC xs us):∀ {ys:List V},dC ys us->xs=ys:=by
 induction h with
 | nil=>intro ys k;cases k;rfl
 | cons r t ih=>intro ys k;cases k with | cons r' t'=>rw [r.inj r',ih t']
section
variable {X:Cx}{pins:List (ak×Obj)}{σ:St}{H:Hp}{s:af}{a:ak}{xs ys:List V}
theorem ph.of {K:a8} (h:H a=some (.lst xs)):ph K H a xs:=.inl (.inl h)
theorem l7.of {K:a8} (h:H a=some (.tup xs)):l7 K H a xs:=.inl (.inl h)
inductive YH (h:bF) (a:ak) (xs:List V):Prop
 | mk (its:List aa) (r:dC xs its) (p:PlainL h a its.toArray) (z:xs.length<=sizeLine):YH h a xs
inductive YI (h:bF) (a:ak) (xs:List V):Prop
 | mk (its:List aa) (r:dC xs its) (p:IsTup h a its.toArray) (z:xs.length<=sizeLine):YI h a xs
inductive YJ (h:bF) (l:ak) (xs:List V):Prop
 | mk (z:xs.length<=sizeLine) (its:List aa) (n:Nat) (r:dC xs its) (hl:xs.length=its.length) (e:h.get? l=some { cls:=.type "list",data:=.seq its.toArray n }):YJ h l xs
theorem bX.list (I:bX X pins σ H s) (h:ph X.K H a xs):YH s.heap a xs:=by
 rcases h with h | ⟨o,its,n,hk,hc,hd,hs,hz,r⟩
 ·obtain ⟨z,its,n,r,e⟩:=h.ok I.hok
  exact ⟨its,r,⟨_,n,e,rfl,rfl,rfl⟩,z⟩
 ·refine ⟨its.toList,r,⟨o,n,I.kIn a o hk,hc,hd,by simpa using hs⟩,?_⟩
  have e:=r.length
  simp only [aq] at e
  omega
theorem bX.tuple (I:bX X pins σ H s) (h:l7 X.K H a xs):YI s.heap a xs:=by
 rcases h with h | ⟨o,its,n,hk,hc,hs,hz,r⟩
 ·obtain ⟨z,its,r,p⟩:=h.ok I.hok
  exact ⟨its,r,p,z⟩
 ·refine ⟨its.toList,r,⟨o,I.kIn a o hk,hc,n,by simpa using hs⟩,?_⟩
  have e:=r.length
  simp only [aq] at e
  omega
theorem bX.list_inj (I:bX X pins σ H s) (h:ph X.K H a xs) (h':ph X.K H a ys):xs=ys:=by
 obtain ⟨its,r,⟨o,n,e,_,_,d⟩,_⟩:=I.list h
 obtain ⟨its',r',⟨o',n',e',_,_,d'⟩,_⟩:=I.list h'
 rw [e] at e';cases e'
 rw [d] at d'
 injection d' with d1 _
 have:its=its':=by simpa using congrArg Array.toList d1
 subst this
 exact r.inj r'
theorem bX.tuple_inj (I:bX X pins σ H s) (h:l7 X.K H a xs) (h':l7 X.K H a ys):xs=ys:=by
 obtain ⟨its,r,⟨o,e,_,n,d⟩,_⟩:=I.tuple h
 obtain ⟨its',r',⟨o',e',_,n',d'⟩,_⟩:=I.tuple h'
 rw [e] at e';cases e'
 rw [d] at d'
 injection d' with d1 _
 have:its=its':=by simpa using congrArg Array.toList d1
 subst this
 exact r.inj r'
end
abbrev Cx.wish (X:Cx) (E:aa->af->Prop):Cx:={ X with xe:=E }
abbrev Cx.nox (X:Cx):Cx:=X.wish fun _ _=>False
theorem Cx.Ok.wish {X:Cx} (ok:X.Ok) (E:aa->af->Prop):(X.wish E).Ok :=
 ⟨ok.mod,ok.kind,ok.glob,ok.blt,ok.above,ok.inj,ok.has,ok.cab,ok.hd,ok.frames,ok.stk,ok.exf,ok.bs,ok.bsz,ok.noex,ok.exfs,ok.funs,ok.frf⟩
theorem Cx.Ok.unwish {X:Cx}{E:aa->af->Prop} (ok:(X.wish E).Ok):X.Ok :=
 ⟨ok.mod,ok.kind,ok.glob,ok.blt,ok.above,ok.inj,ok.has,ok.cab,ok.hd,ok.frames,ok.stk,ok.exf,ok.bs,ok.bsz,ok.noex,ok.exfs,ok.funs,ok.frf⟩
section
variable {X:Cx}{pins:List (ak×Obj)}{σ:St}{H:Hp}{s:af}{E:aa->af->Prop}
theorem bX.wish (I:bX X pins σ H s) (E:aa->af->Prop):bX (X.wish E) pins σ H s:=⟨I.ok.wish E,I.os,I.bare,I.base,I.loc,I.cell,I.free,I.freeC,I.pin,I.hok,I.len⟩
theorem bX.unwish (I:bX (X.wish E) pins σ H s):bX X pins σ H s:=⟨I.ok.unwish,I.os,I.bare,I.base,I.loc,I.cell,I.free,I.freeC,I.pin,I.hok,I.len⟩
theorem SP.unwish {D:Cm}{f:Flow}{s':af} (h:SP (X.wish E) pins D f s'):SP X pins D f s':=by
 cases f with
 | next=>obtain ⟨σ',H',I,q⟩:=h;exact ⟨σ',H',I.unwish,q⟩
 | brk=>obtain ⟨σ',H',I,q⟩:=h;exact ⟨σ',H',I.unwish,q⟩
 | cont=>obtain ⟨σ',H',I,q⟩:=h;exact ⟨σ',H',I.unwish,q⟩
 | ret u=>obtain ⟨v,σ',H',I,r,q⟩:=h;exact ⟨v,σ',H',I.unwish,r,q⟩
end
section
variable {X:Cx}{st:c_}{c6:List c_}{t u:TS}{e:aZ}{te:TE}{pos:Pos}
def Vt:TS:=fun D σ H=>D.nx σ H
def XG (t u:TS):TS:=fun D σ H=>t { D with nx:=u D } σ H
theorem Qz:IA X [] Vt:=fun _ _ σ H _ I h=>uI ⟨σ,H,I,h⟩
theorem qM (h1:PS X st t) (h2:IA X c6 u):IA X (st::c6) (XG t u):=by
 intro pins s σ H D I h
 refine wpAny_execs_cons (fN (h1 pins s σ H { D with nx:=u D } I h) fun f s1 q=>?_)
 cases f with
 | next =>
  obtain ⟨σ',H',I',q⟩:=q
  exact h2 pins s1 σ' H' D I' q
 | ret v=>exact q
 | brk=>exact q
 | cont=>exact q
theorem QA (h1:PS X st t):IA X [st] t:=by
 intro pins s σ H D I h
 refine wpAny_execs_cons (fN (h1 pins s σ H D I h) fun f s1 q=>?_)
 cases f with
 | next=>exact uI q
 | ret v=>exact q
 | brk=>exact q
 | cont=>exact q
theorem bX.quiet {pins:List (ak×Obj)}{σ:St}{H:Hp}{s:af} (I:bX X pins σ H s):interactive X.env=false:=by simp [interactive,I.ok.kind]
def Vu (te:TE):TS:=fun D σ H=>te σ H fun _ H1=>D.nx σ H1
theorem Cq (he:PE X e te) (hs:ij e none pos.line X.env=pure false:=by rfl):PS X (.Expr e pos) (Vu te):=by
 intro pins s σ H D I h
 exact wpAny_Expr_any (fN (he pins s σ H _ I h) fun v s1 h_7=>by obtain ⟨x,H1,I1,r1,q1⟩:=h_7;exact ⟨σ,H1,I1,q1⟩) I.quiet hs
def XH (te:TE):TS:=fun D σ H=>te σ H D.rt
theorem TM (he:PE X e te):PS X (.Return (some e) pos) (XH te):=by
 intro pins s σ H D I h
 exact wpAny_Return_some (fN (he pins s σ H _ I h) fun v s1 h_8=>by obtain ⟨x,H1,I1,r1,q1⟩:=h_8;exact ⟨x,σ,H1,I1,r1,q1⟩)
def XI (c:TT) (t u:TS):TS:=fun D σ H=>c σ H fun b H1=>if b=true then t D σ H1 else u D σ H1
theorem Vv {c:aZ}{a b:List c_}{tc:TT} (hc:PT X c tc) (ha:IA X a t) (hb:IA X b u):PS X (.If c a b pos) (XI tc t u):=by
 intro pins s σ H D I h
 refine wpAny_If (fN (hc pins s σ H _ I h) fun d s1 ⟨H1,I1,q1⟩=>?_)
 cases d with
 | true=>exact ha pins s1 σ H1 D I1 q1
 | false=>exact hb pins s1 σ H1 D I1 q1
def TQ:TS:=fun _ _ _=>False
theorem rL {sts:List c_}:IA X sts TQ:=fun _ _ _ _ _ _ h=>h.elim
end
abbrev TG:=V->St->Hp->(St->Hp->Prop)->Prop
abbrev MG:=List V->St->Hp->(St->Hp->Prop)->Prop
def PG (X:Cx) (target:aZ) (t:TG):Prop :=
 ∀ (pins:List (ak×Obj)) (s:af) (σ:St) (H:Hp) (v:V) (u:aa) (Q:St->Hp->Prop),bX X pins σ H s->dq v u->t v σ H Q ->
  au (ax X.prog X.w) X.A (qF target X.env u) (fun _ s'=>SN X pins Q s') X.xe s
def S2 (X:Cx) (ts:List aZ) (t:MG):Prop :=
 ∀ (pins:List (ak×Obj)) (s:af) (σ:St) (H:Hp) (vs:List V) (us:List aa) (Q:St->Hp->Prop),bX X pins σ H s->dC vs us->t vs σ H Q ->
  au (ax X.prog X.w) X.A (K8 ((iG ts X.env).map (·.2)) us) (fun _ s'=>SN X pins Q s') X.xe s
section
variable {X:Cx}{pos:Pos}
def xn (i:Nat):TG:=fun v σ H Q=>Q (σ.set i (some v)) H
theorem cW {i:Nat}{x:Str} (hN:X.N.Nodup) (hi:X.N[i]?=some x) (hx:S0 X.env.scope x) (hf:X.fn x=true\/X.env.scope.names.lookup x=some .local:=by first | exact .inl rfl | exact .inr rfl | assumption):PG X (.Name x pos) (xn i):=by
 intro pins s σ H v u Q I r h
 exact wpAny_assign_Name (uW I hN hi hx r (fun s' I'=>⟨_,H,I',h⟩) hf)
def aL:MG:=fun vs σ H Q=>vs=[]/\Q σ H
inductive MH (t:TG) (u:MG) (vs:List V) (σ:St) (H:Hp) (Q:St->Hp->Prop):Prop
 | mk (v r:_) (h0:vs=v::r) (h1:t v σ H fun σ' H'=>u r σ' H' Q):MH t u vs σ H Q
def ag (t:TG) (u:MG):MG:=MH t u
theorem Cr:S2 X [] aL:=by
 intro pins s σ H vs us Q I r h
 obtain ⟨e,h⟩:=h
 subst e
 cases r
 exact assignInOrder_nil ⟨σ,H,I,h⟩
theorem qN {e:aZ}{es:List aZ}{t:TG}{u:MG} (h1:PG X e t) (h2:S2 X es u)
  (hs:(iG (e::es) X.env).map (·.2)=qF e X.env::(iG es X.env).map (·.2):=by rfl):S2 X (e::es) (ag t u):=by
 intro pins s σ H vs us Q I r h
 obtain ⟨v,vr,e1,h⟩:=h
 subst e1
 cases r with
 | cons r rr =>
  rw [hs]
  refine yz (fN (h1 pins s σ H _ _ _ I r h) fun _ s1 ⟨σ1,H1,I1,q1⟩=>?_)
  exact h2 pins s1 σ1 H1 _ _ Q I1 rr q1
inductive S3 (K:a8) (n:Nat) (t:MG) (v:V) (σ:St) (H:Hp) (Q:St->Hp->Prop):Prop
 | mk (a xs:_) (h0:v=.ref a) (h1:l7 K H a xs) (h2:xs.length=n) (h3:t xs σ H Q):S3 K n t v σ H Q
def TU (K:a8) (n:Nat) (t:MG):TG:=S3 K n t
theorem GF {es:List aZ}{k:Nat}{t:MG}{n:Nat} (hc:X.calm=true) (h:S2 X es t)
  (hn:(iG es X.env).length=n:=by rfl) (hst:(iG es X.env).findIdx? (·.1)=none:=by rfl):PG X (.Tuple es k pos) (TU X.K n t):=by
 intro pins s σ H v u Q I r hw
 obtain ⟨a,xs,e1,hq,hl,hw⟩:=hw
 subst e1
 cases r
 obtain ⟨its,rv,ht,hz⟩:=I.tuple hq
 refine assign_Tuple_tuple (I.ok.hd hc) ht (by simp [hn,<- hl,rv.length]) hst fun h' hx=>?_
 have I1:bX X pins σ H { s with heap:=h' }:=I.kept (t':=s.toks) fun b o e=>hx b o (aE (ap e)) e
 exact h pins _ σ H xs _ Q I1 (by simpa using rv) hw
def Vw (te:TE) (g:TG):TS:=fun D σ H=>te σ H fun x H1=>g x σ H1 D.nx
theorem MI {tg e:aZ}{te:TE}{g:TG} (he:PE X e te) (hg:PG X tg g) (hs:x_ [tg] e pos.line X.env=pure false:=by rfl) (hw:y0 [tg] e X.env=pure none:=by rfl)
  (h1:(iG [tg] X.env).map (·.2)=[qF tg X.env]:=by rfl):PS X (.Assign [tg] e pos) (Vw te g):=by
 intro pins s σ H D I h
 refine wpAny_Assign_stores (fN (he pins s σ H _ I h) fun v s1 ⟨x,H1,I1,r1,q1⟩=>?_) hs hw
 rw [h1]
 exact fN (hg pins s1 σ H1 x v _ I1 r1 q1) fun _ s2 q=>q
theorem GG {i:Nat}{x:Str}{e:aZ}{te:TE}{pos':Pos} (hN:X.N.Nodup) (hi:X.N[i]?=some x) (hx:S0 X.env.scope x) (he:PE X e te) (hs:ij e (some (.Name x pos')) pos.line X.env=pure false:=by rfl) (hf:X.fn x=true\/X.env.scope.names.lookup x=some .local:=by first | exact .inl rfl | exact .inr rfl | assumption) :
  PS X (.Assign [.Name x pos'] e pos) (Vw te (xn i)):=by
 intro pins s σ H D I h
 refine wpAny_Assign_Name (fN (he pins s σ H _ I h) fun v s1 ⟨y,H1,I1,r1,q1⟩=>?_) hs
 exact uW I1 hN hi hx r1 (fun s2 I2=>⟨_,H1,I2,q1⟩) hf
def XJ (i j:Nat) (ta:TA):TS:=fun D σ H=>ta σ H fun vs H1=>∃ v w,vs=[v,w]/\D.nx ((σ.set i (some v)).set j (some w)) H1
theorem TV {i j:Nat}{x y:Str}{a b:aZ}{ta:TA}{px py pt:Pos}{kt k2 pt2} (hc:X.calm=true) (hN:X.N.Nodup) (hi:X.N[i]?=some x) (hj:X.N[j]?=some y) (hij:i≠j)
  (hx:X.env.scope.names.lookup x=some .local) (hy:X.env.scope.names.lookup y=some .local) (ha:PA X [a,b] ta)
  (hw:y0 [.Tuple [.Name x px,.Name y py] kt pt] (.Tuple [a,b] k2 pt2) X.env=pure (some [x,y]))
  (hs:x_ [.Tuple [.Name x px,.Name y py] kt pt] (.Tuple [a,b] k2 pt2) pos.line X.env=pure false:=by rfl) :
  PS X (.Assign [.Tuple [.Name x px,.Name y py] kt pt] (.Tuple [a,b] k2 pt2) pos) (XJ i j ta):=by
 intro pins s σ H D I h
 rw [exec_Assign_arm]
 refine a7 (j0 ?_)
 rw [hs]
 refine a7 (a9 ?_)
 rw [if_neg (by decide)]
 refine a7 (Tuple_ (fN (ha _ pins s σ H _ I h) fun us s1 ⟨vs,H1,I1,r1,q1⟩=>?_))
 obtain ⟨v,w,e1,q1⟩:=q1
 subst e1
 obtain ⟨u1,u2,rfl,rv,rw'⟩:∃ u1 u2,us=[u1,u2]/\dq v u1/\dq w u2:=by
  cases r1 with
  | cons p q =>
   cases q with
   | cons p' q' =>
    cases q'
    exact ⟨_,_,rfl,p,p'⟩
 refine bR ?_ (by show 2<=sizeLine;decide)
 have I2:bX X pins σ H1 { s1 with heap:=s1.heap.push { cls:=.type "tuple",data:=.seq [u1,u2].toArray } }:=I1.kept (t':=s1.toks) fun b o e=>ac _ e
 rw [hw]
 refine a7 (a9 ?_)
 show au (ax X.prog X.w) X.A (do rule "assign.swapped-stores";let items <- unpackItems (.ref s1.heap.objs.size) 2 none;K8 [fun v=>Q1 X.env y v,fun v=>Q1 X.env x v] items.reverse;pure Flow.next) _ _ _
 refine a7 (df (a7 (unpackItems_tuple (items:=#[u1,u2]) (I.ok.hd hc) (xD s1.heap _) fun h' hx'=>?_)))
 have I3:=I2.kept (h':=h') (t':=s1.toks) fun b o e=>hx' b o (aE (ap e)) e
 show au _ _ (K8 [fun v=>Q1 X.env y v,fun v=>Q1 X.env x v] [u2,u1] >>= fun _=>pure Flow.next) _ _ _
 refine a7 (yz (wpAny_bindName (uW I3 hN hj (.inl hy) rw' (fun s2 I4=>?_) (.inr hy))))
 refine yz (wpAny_bindName (uW I4 hN hi (.inl hx) rv (fun s3 I5=>assignInOrder_nil (a9 ?_)) (.inr hx)))
 rw [List.set_comm _ _ (cV hij)] at I5
 exact ⟨_,H1,I5,q1⟩
end
section
variable {X:Cx}{pos:Pos}
def TW (c:TT) (tb:TS):TS:=fun D σ H=>∃ W:Nat->St->Hp->Prop,(∃ m,W m σ H)/\∀ m σ H,W m σ H ->
 c σ H fun b H1=>if b=true then ∃ N:St->Hp->Prop,(∀ σ' H',N σ' H'->∃ m',m'<m/\W m' σ' H')/\tb { D with nx:=N,ct:=N,bk:=D.nx } σ H1 else D.nx σ H1
theorem MJ {c:aZ}{body:List c_}{tc:TT}{tb:TS} (hp:PassesOwn (ax X.prog X.w) X.A X.env X.xe) (hc:PT X c tc) (hb:IA X body tb):PS X (.While c body [] pos) (TW tc tb):=by
 intro pins s σ H D I h
 obtain ⟨W,⟨m0,w0⟩,turn⟩:=h
 refine wpAny_While (codeAny_whileLoop (fun n s'=>∃ σ' H',bX X pins σ' H' s'/\W n σ' H') ?_ m0 ⟨σ,H,I,w0⟩)
 rintro n s1 ⟨σ1,H1,I1,w1⟩
 refine iP hp (fN (hc pins s1 σ1 H1 _ I1 (turn n σ1 H1 w1)) fun b s2 ⟨H2,I2,q2⟩=>?_)
 cases b with
 | true =>
  obtain ⟨N,hN,q2⟩:=q2
  rw [if_pos rfl]
  refine iP hp (fN (hb pins s2 σ1 H2 _ I2 q2) fun f s3 q3=>?_)
  cases f with
  | next =>
   obtain ⟨σ3,H3,I3,n3⟩:=q3
   obtain ⟨m',hm,w3⟩:=hN σ3 H3 n3
   exact ⟨m',hm,σ3,H3,I3,w3⟩
  | cont =>
   obtain ⟨σ3,H3,I3,n3⟩:=q3
   obtain ⟨m',hm,w3⟩:=hN σ3 H3 n3
   exact ⟨m',hm,σ3,H3,I3,w3⟩
  | brk=>exact q3
  | ret v=>exact q3
 | false =>
  rw [if_neg bq]
  exact uI ⟨σ1,H2,I2,q2⟩
end
structure It where
 go:Nat->Hp->Prop
 yld:Nat->Hp->V->Hp->Prop
 stop:Nat->Hp->Prop
structure qO (X:Cx) (pins:List (ak×Obj)) (H:Hp) (b:ak):Prop where
 f0:H b=none
 f1:b≠X.env.locals
 f2:b∉X.fs
 f3:b∈X.ex\/X.s₀.heap.objs.size<=b
 f4:∀ x c,X.env.cells.lookup x=some c->c≠b
 f5:∀ p∈X.pn++pins,p.1≠b
theorem bX.fpOk {X:Cx}{pins:List (ak×Obj)}{σ:St}{H H':Hp}{s:af}{b:ak} (I:bX X pins σ H s) (hb:s.heap.objs.size<=b) (hn:H' b=none):qO X pins H' b:=by
 refine ⟨hn,eO (aC I.lt hb),I.nofs hb,.inr (cy I.sz hb),fun x c e z=>?_,fun p hp z=>?_⟩
 ·obtain ⟨v,q⟩:=I.cell x c e
  exact absurd (aC q.lt (by rw [z];exact hb)) (bW _)
 ·exact absurd (aC (ap (I.pin p hp).1) (by rw [z];exact hb)) (bW _)
structure Ax (P:aK) (w:bc) (K:a8) (tg:aZ) (J:It) (fp:List ak) (it:ak) (tn:Nat->bF->Prop):Prop where
 mem:it∈fp
 obj:∀ i h,tn i h->∀ b∈fp,∃ o,h.get? b=some o/\∀ v,o.data≠.cell v
 keep:∀ i h h',tn i h->(∀ b∈fp,∀ o,h.get? b=some o->h'.get? b=some o)->tn i h'
 item:∀ (X:Cx),X.prog=P->X.w=w->X.K=K->X.calm=true->∀ (i:Nat) (pins:List (ak×Obj)) (s:af) (σ:St) (H:Hp) (E:aa->af->Prop),bX X pins σ H s->(∀ b∈fp,qO X pins H b)->tn i s.heap->J.go i H ->
  au (ax P w) X.A (lB (.ref it)) (fun r s1=>∃ u,r=some u /\
   au (ax P w) X.A (hJ tg (.ref it) u) (fun _ s2=>∃ x H',bX X pins σ H' s2/\dq x u/\J.yld i H x H'/\tn (i + 1) s2.heap/\∀ b∈fp,H' b=none) E s1) E s
 done:∀ (X:Cx),X.prog=P->X.w=w->X.K=K->X.calm=true->∀ (i:Nat) (pins:List (ak×Obj)) (s:af) (σ:St) (H:Hp) (E:aa->af->Prop),bX X pins σ H s->(∀ b∈fp,qO X pins H b)->tn i s.heap->J.stop i H ->
  au (ax P w) X.A (lB (.ref it)) (fun r s1=>r=none/\bX X pins σ H s1) E s
 self:∀ (A:aX) (i:Nat) (s:af) (Q:aa->af->Prop) (E:aa->af->Prop),tn i s.heap->Q (.ref it) s->au (ax P w) A (yA (.ref it)) Q E s
abbrev TI:=St->Hp->(It->Hp->Prop)->Prop
inductive XM (X:Cx) (pins:List (ak×Obj)) (σ:St) (tg:aZ) (R:It->Hp->Prop) (itv:aa) (s2:af):Prop
 | mk (it:ak) (fp:List ak) (tn:Nat->bF->Prop) (J:It) (H':Hp) (h0:itv=.ref it) (I:bX X pins σ H' s2) (T:Ax X.prog X.w X.K tg J fp it tn) (t0:tn 0 s2.heap) (f:∀ b∈fp,qO X pins H' b) (q:R J H'):XM X pins σ tg R itv s2
inductive XN (X:Cx) (pins:List (ak×Obj)) (tn:Nat->bF->Prop) (fp:List ak) (W:Nat->Nat->St->Hp->Prop) (n:Nat) (s':af):Prop
 | mk (i:Nat) (σ':St) (H':Hp) (I:bX X pins σ' H' s') (t:tn i s'.heap) (f:∀ b∈fp,H' b=none) (q:W i n σ' H'):XN X pins tn fp W n s'
def PI (X:Cx) (tg iter:aZ) (wi:TI):Prop :=
 ∀ (pins:List (ak×Obj)) (s:af) (σ:St) (H:Hp) (R:It->Hp->Prop),bX X pins σ H s->wi σ H R ->
  au (ax X.prog X.w) X.A (eE iter X.env) (fun v s1=>au (ax X.prog X.w) X.A (yA v) (XM X pins σ tg R) X.xe s1) X.xe s
theorem IB {M : Ag} {A : aX} {E : aa -> af -> Prop} {s : af} {tg : aZ} {it : ak} {u : aa} {o : Obj} {n : String} {vs : Array aa} {Q : Unit -> af -> Prop} (ho : s.heap.get? it = some o) (hc : o.cls = .type n) (hd : o.data = .fields vs)
    (hn : ["enumerate", "zip", "dict_itemiterator", "dict_reverseitemiterator", "odict_iterator", "itertools.zip_longest", "itertools.pairwise"].contains n = false) (hQ : Q () s) : au M A (hJ tg (.ref it) u) Q E s := by
  unfold hJ
  cases tg <;> first
    | exact a9 hQ
    | (cases u <;> first
        | exact a9 hQ
        | (refine a7 (wpAny_load ho ?_)
           rw [hc, hd]
           show au M A (if (["enumerate", "zip", "dict_itemiterator", "dict_reverseitemiterator", "odict_iterator", "itertools.zip_longest", "itertools.pairwise"].contains n && vs[0]? == some (cn _)) = true then _ else _) Q E s
           rw [if_neg (by intro h; rw [hn, B8] at h; cases h)]
           exact a9 hQ))
def XO (K:a8) (a:ak):It :=
 ⟨fun i H=>∃ xs x,ph K H a xs/\xs[i]?=some x,fun i H x H'=>H'=H/\∀ xs,ph K H a xs->xs[i]?=some x,fun i H=>∃ xs,ph K H a xs/\xs.length<=i⟩
def XQ (K:a8) (a:ak):It :=
 ⟨fun i H=>∃ xs x,l7 K H a xs/\xs[i]?=some x,fun i H x H'=>H'=H/\∀ xs,l7 K H a xs->xs[i]?=some x,fun i H=>∃ xs,l7 K H a xs/\xs.length<=i⟩
def Xl (lo:Int) (n:Nat):It:=⟨fun i _=>i<n,fun i H x H'=>H'=H/\x=.int (lo + i),fun i _=>n<=i⟩
theorem Ku {P:aK}{w:bc}{K:a8}{tg:aZ} (a it:ak):Ax P w K tg (XO K a) [it] it (fun i h=>h.IsListIter it a i) where
 mem:=by simp
 obj:=fun i h st b hb=>by
  have e:b=it:=by simpa using hb
  subst e
  obtain ⟨o,e,c,d⟩:=st
  exact ⟨o,e,fun v z=>by rw [d] at z;cases z⟩
 keep:=fun i h h' st k=>st.at fun o e=>k it (by simp) o e
 item:=by
  intro X hP hw hK hc i pins s σ H E I hf st hg
  subst hP hw hK
  obtain ⟨xs,x,hq,hx⟩:=hg
  obtain ⟨its,rv,p,hz⟩:=I.list hq
  obtain ⟨u,hu,ru⟩:=rv.get hx
  obtain ⟨f0,f1,f2,f3,f4,f5⟩:=hf it (by simp)
  refine wpAny_pyNext_list_item st p.isList (x:=u) (by simpa using hu) fun h' st' sb=>?_
  have I1:bX X pins σ H { s with heap:=h' }:=I.turned (t':=s.toks) (fun b o hb e=>(sb.2 b hb).trans e) f0 f1 f3 f4 f5
  obtain ⟨o,e,c,d⟩:=id st'
  exact ⟨u,rfl,IB (s:={ s with heap:=h' }) e c d (by decide) ⟨x,H,I1,ru,⟨rfl,fun ys hy=>by rw [I.list_inj hy hq];exact hx⟩,st',fun b hb=>(hf b hb).1⟩⟩
 done:=by
  intro X hP hw hK hc i pins s σ H E I hf st hg
  subst hP hw hK
  obtain ⟨xs,hq,hx⟩:=hg
  obtain ⟨its,rv,p,hz⟩:=I.list hq
  obtain ⟨f0,f1,f2,f3,f4,f5⟩:=hf it (by simp)
  have hl:=rv.length
  exact wpAny_pyNext_list_end (I.ok.hd hc) st p.isList (by simp;omega) fun h' eb=>⟨rfl,I.turned (t':=s.toks) (fun b o hb e=>eb b o hb e) f0 f1 f3 f4 f5⟩
 self:=fun _ _ _ _ _ st h=>wpAny_pyIter_listiter st h
theorem GH {P:aK}{w:bc}{K:a8}{tg:aZ} (a it:ak):Ax P w K tg (XQ K a) [it] it (fun i h=>h.IsTupleIter it a i) where
 mem:=by simp
 obj:=fun i h st b hb=>by
  have e:b=it:=by simpa using hb
  subst e
  obtain ⟨o,e,c,d⟩:=st
  exact ⟨o,e,fun v z=>by rw [d] at z;cases z⟩
 keep:=fun i h h' st k=>st.at fun o e=>k it (by simp) o e
 item:=by
  intro X hP hw hK hc i pins s σ H E I hf st hg
  subst hP hw hK
  obtain ⟨xs,x,hq,hx⟩:=hg
  obtain ⟨its,rv,p,hz⟩:=I.tuple hq
  obtain ⟨u,hu,ru⟩:=rv.get hx
  obtain ⟨f0,f1,f2,f3,f4,f5⟩:=hf it (by simp)
  refine wpAny_pyNext_tuple_item st (show s.heap.IsTuple a its.toArray from p) (x:=u) (by simpa using hu) fun h' st' sb=>?_
  have I1:bX X pins σ H { s with heap:=h' }:=I.turned (t':=s.toks) (fun b o hb e=>(sb.2 b hb).trans e) f0 f1 f3 f4 f5
  obtain ⟨o,e,c,d⟩:=id st'
  exact ⟨u,rfl,IB (s:={ s with heap:=h' }) e c d (by decide) ⟨x,H,I1,ru,⟨rfl,fun ys hy=>by rw [I.tuple_inj hy hq];exact hx⟩,st',fun b hb=>(hf b hb).1⟩⟩
 done:=by
  intro X hP hw hK hc i pins s σ H E I hf st hg
  subst hP hw hK
  obtain ⟨xs,hq,hx⟩:=hg
  obtain ⟨its,rv,p,hz⟩:=I.tuple hq
  obtain ⟨f0,f1,f2,f3,f4,f5⟩:=hf it (by simp)
  have hl:=rv.length
  exact wpAny_pyNext_tuple_end (I.ok.hd hc) st (show s.heap.IsTuple a its.toArray from p) (by simp;omega) fun h' eb=>⟨rfl,I.turned (t':=s.toks) (fun b o hb e=>eb b o hb e) f0 f1 f3 f4 f5⟩
 self:=fun _ _ _ _ _ st h=>wpAny_pyIter_tupleiter st h
theorem GI {P:aK}{w:bc}{K:a8}{tg:aZ} (it:ak) (lo:Int) (n:Nat):Ax P w K tg (Xl lo n) [it] it (fun i h=>IsRangeIter h it (lo + (i:Nat) * 1) ((n:Int) - (i:Nat)) 1) where
 mem:=by simp
 obj:=fun i h st b hb=>by
  have e:b=it:=by simpa using hb
  subst e
  exact ⟨_,st,fun v z=>by
   have z':Data.fields _=Data.cell v:=z
   cases z'⟩
 keep:=fun i h h' st k=>k it (by simp) _ st
 item:=by
  intro X hP hw hK hc i pins s σ H E I hf st hg
  subst hP hw hK
  obtain ⟨f0,f1,f2,f3,f4,f5⟩:=hf it (by simp)
  have W:=Walks.range (prog:=X.prog) (w:=X.w) (I.ok.hd hc) it lo 1 n
  refine W.item i s _ _ hg st fun v h' tk hv st' kk=>?_
  obtain ⟨t,rfl⟩:=hv
  have I1:bX X pins σ H { s with heap:=h',toks:=tk }:=I.turned (fun b o hb e=>kk b o (by simpa using hb) e) f0 f1 f3 f4 f5
  refine ⟨_,rfl,IB (s:={ s with heap:=h',toks:=tk }) (n:="range_iterator") st' rfl rfl (by decide) ⟨.int (lo + i),H,I1,⟨t,?_⟩,⟨rfl,rfl⟩,st',fun b hb=>(hf b hb).1⟩⟩
  rw [Int.mul_one]
 done:=by
  intro X hP hw hK hc i pins s σ H E I hf st hg
  subst hP hw hK
  obtain ⟨f0,f1,f2,f3,f4,f5⟩:=hf it (by simp)
  exact wpAny_pyNext_range_end (I.ok.hd hc) st (by have:n<=i:=hg;omega) fun h' eb=>⟨rfl,I.turned (t':=s.toks) (fun b o hb e=>eb b o hb e) f0 f1 f3 f4 f5⟩
 self:=fun _ _ _ _ _ st h=>wpAny_pyIter_rangeiter st h
end L2
namespace L2
open PySem PySem.Spec PyProof.Rows
section
variable {X:Cx}{tg:aZ}
def Vx (K:a8) (tl:TE):TI:=fun σ H R=>tl σ H fun x H1=>∃ a,x=.ref a/\(∃ xs,ph K H1 a xs)/\R (XO K a) H1
def XR (K:a8) (tl:TE):TI:=fun σ H R=>tl σ H fun x H1=>∃ a,x=.ref a/\(∃ xs,l7 K H1 a xs)/\R (XQ K a) H1
theorem uX {l:aZ}{tl:TE} (hl:PE X l tl):PI X tg l (Vx X.K tl):=by
 intro pins s σ H R I h
 refine fN (hl pins s σ H _ I h) fun v s1 h_16=>?_
 obtain ⟨x,H1,I1,r1,q1⟩:=h_16
 obtain ⟨a,e,⟨xs,hq⟩,q⟩:=q1
 subst e
 cases r1
 obtain ⟨its,rv,p,hz⟩:=I1.list hq
 refine lC p.isList ?_
 refine ⟨s1.heap.objs.size,[s1.heap.objs.size],_,_,H1,rfl,I1.kept (t':=s1.toks) fun b o e=>ac _ e,Ku a _,⟨_,aw _ rfl,rfl,rfl⟩,fun b hb=>?_,q⟩
 have e:b=s1.heap.objs.size:=by simpa using hb
 subst e
 exact I1.fpOk (ar _) (I1.hok.fresh (ar _))
theorem MK {l:aZ}{tl:TE} (hl:PE X l tl):PI X tg l (XR X.K tl):=by
 intro pins s σ H R I h
 refine fN (hl pins s σ H _ I h) fun v s1 h_17=>?_
 obtain ⟨x,H1,I1,r1,q1⟩:=h_17
 obtain ⟨a,e,⟨xs,hq⟩,q⟩:=q1
 subst e
 cases r1
 obtain ⟨its,rv,p,hz⟩:=I1.tuple hq
 refine gF (show s1.heap.IsTuple a its.toArray from p) ?_
 refine ⟨s1.heap.objs.size,[s1.heap.objs.size],_,_,H1,rfl,I1.kept (t':=s1.toks) fun b o e=>ac _ e,GH a _,⟨_,aw _ rfl,rfl,rfl⟩,fun b hb=>?_,q⟩
 have e:b=s1.heap.objs.size:=by simpa using hb
 subst e
 exact I1.fpOk (ar _) (I1.hok.fresh (ar _))
theorem ML {pins:List (ak×Obj)}{σ:St}{H:Hp}{s:af}{R:It->Hp->Prop}{E:aa->af->Prop}{lo hi:Int}{t u v:Tok}{tk:Nat} (I:bX X pins σ H s) (h1:-(2 ^ 62)<=lo) (h2:lo<2 ^ 62) (h3:-(2 ^ 62)<=hi) (h4:hi<2 ^ 62)
  (q:R (Xl lo (hi - lo).toNat) H):au (ax X.prog X.w) X.A (yA (.ref s.heap.objs.size)) (XM X pins σ tg R) E { s with heap:=s.heap.push { cls:=.type "range",data:=.fields #[.int lo t,.int hi u,.int 1 v] },toks:=tk }:=by
 refine wpAny_pyIter_range (IsRange.new ..) (small_one h1 h2 h3 h4) ?_
 have I1:bX X pins σ H { s with heap:=s.heap.push { cls:=.type "range",data:=.fields #[.int lo t,.int hi u,.int 1 v] },toks:=tk }:=I.kept fun b o e=>ac _ e
 refine ⟨(s.heap.push { cls:=.type "range",data:=.fields #[.int lo t,.int hi u,.int 1 v] }).objs.size,[(s.heap.push { cls:=.type "range",data:=.fields #[.int lo t,.int hi u,.int 1 v] }).objs.size],_,_,H,rfl,
  I1.kept (t':=tk) fun b o e=>ac _ e,GI _ lo (hi - lo).toNat,?_,fun b hb=>?_,q⟩
 ·have e1:lo + ((0:Nat):Int) * 1=lo:=by simp
  have e2:(((hi - lo).toNat:Nat):Int) - ((0:Nat):Int)=Builtin.Range.rangeSize lo hi 1:=by rw [rangeSize_one];split<;>omega
  show IsRangeIter _ _ (lo + ((0:Nat):Int) * 1) ((((hi - lo).toNat:Nat):Int) - ((0:Nat):Int)) 1
  rw [e1,e2]
  exact aw _ rfl
 ·have e:b=(s.heap.push { cls:=.type "range",data:=.fields #[.int lo t,.int hi u,.int 1 v] }).objs.size:=by simpa using hb
  subst e
  exact I1.fpOk (ar _) (I1.hok.fresh (ar _))
def Vy (ta:TA):TI:=fun σ H R=>ta σ H fun vs H1=>∃ j:Int,vs=[.int j]/\-(2 ^ 62)<=j/\j<2 ^ 62/\R (Xl 0 j.toNat) H1
theorem Kv {a:aZ}{ta:TA}{p pos:Pos} (hg:Gl X "range") (hm:X.mg "range"=none) (ha:PA X [a] ta) (hs:aO [a] X.env=[(false,eE a X.env)]:=by rfl):PI X tg (.Call (.Name "range" p) [a] [] pos) (Vy ta):=by
 intro pins s σ H R I h
 refine Call_ (wo I hg hm boot_range (i0 (fN (ha pos pins s σ H _ I h) fun us s1 ⟨vs,H1,I1,r1,q1⟩=>?_) hs rfl))
 obtain ⟨j,e,q1,q2,q⟩:=q1
 subst e
 cases r1 with
 | cons r rr =>
  cases rr
  obtain ⟨t,rfl⟩:=r
  exact call_range_1 (ML I1 (by omega) (by omega) q1 q2 (by simpa using q))
inductive XS (g:TG) (tb:TS) (D:Cm) (σ:St) (J:It) (H1:Hp):Prop
 | mk (W:Nat->Nat->St->Hp->Prop) (w0:∃ m,W 0 m σ H1) (turn:∀ i m σ H,W i m σ H ->
 (J.stop i H/\D.nx σ H)\/(J.go i H/\∃ N:St->Hp->Prop,(∀ σ' H',N σ' H'->∃ m',m'<m/\W (i + 1) m' σ' H')/\∀ x H',J.yld i H x H'->g x σ H' fun σ2 H2=>tb { D with nx:=N,ct:=N,bk:=D.nx } σ2 H2)):XS g tb D σ J H1
def XT (wi:TI) (g:TG) (tb:TS):TS:=fun D σ H=>wi σ H (XS g tb D σ)
def wp (fp:List ak) (h:bF):List (ak×Obj):=fp.filterMap fun b=>(h.get? b).map fun o=>(b,o)
theorem ko {fp:List ak}{h:bF}{b:ak}{o:Obj} (hb:b∈fp) (e:h.get? b=some o):(b,o)∈wp fp h:=List.mem_filterMap.mpr ⟨b,hb,by rw [e];rfl⟩
theorem Kw {fp:List ak}{h:bF}{p:ak×Obj} (hp:p∈wp fp h):p.1∈fp/\h.get? p.1=some p.2:=by
 obtain ⟨b,hb,e⟩:=List.mem_filterMap.mp hp
 cases q:h.get? b with
 | none=>rw [q] at e;cases e
 | some o =>
  rw [q] at e
  have e':(b,o)=p:=bM e
  subst e'
  exact ⟨hb,q⟩
theorem bX.pinned {pins:List (ak×Obj)}{σ:St}{H:Hp}{s:af}{fp:List ak} (I:bX X pins σ H s) (hf:∀ b∈fp,qO X pins H b) (ho:∀ b∈fp,∃ o,s.heap.get? b=some o/\∀ v,o.data≠.cell v):bX X (pins++wp fp s.heap) σ H s :=
 I.pins_of fun p hp=>(List.mem_append.mp hp).elim (fun z=>I.pin p (aH _ z)) fun z=>by
  obtain ⟨hb,e⟩:=Kw z
  obtain ⟨f0,f1,f2,_⟩:=hf p.1 hb
  obtain ⟨o,e',d⟩:=ho p.1 hb
  rw [e] at e';cases e'
  exact ⟨e,f0,f1,f2,d⟩
theorem bX.unpinned {pins pl:List (ak×Obj)}{σ:St}{H:Hp}{s:af} (I:bX X (pins++pl) σ H s):bX X pins σ H s:=I.pins_of fun p hp=>I.pin p (aH _ (bj _ hp))
theorem MM {iter:aZ}{body:List c_}{wi:TI}{g:TG}{tb:TS}{pos:Pos} (hp:PassesOwn (ax X.prog X.w) X.A X.env X.xe) (hc:X.calm=true) (hi:PI X tg iter wi) (hg:PG X tg g) (hb:IA X body tb)
  (hs:∀ x,eu iter X.env x=pure x:=by intro _;rfl):PS X (.For tg iter body [] pos) (XT wi g tb):=by
 intro pins s σ H D I h
 refine wpAny_For (fN (hi pins s σ H _ I h) fun v s1 h1=>fN h1 fun itv s2 h2=>?_) hs
 obtain ⟨it,fp,tn,J,H2,e,I2,T,st2,f2,W,⟨m0,w0⟩,turn⟩:=h2
 subst e
 have stat:∀ {H':Hp},(∀ b∈fp,H' b=none)->∀ b∈fp,qO X pins H' b:=fun hn b hb=>⟨hn b hb,(f2 b hb).f1,(f2 b hb).f2,(f2 b hb).f3,(f2 b hb).f4,(f2 b hb).f5⟩
 refine codeAny_forLoop_any (XN X pins tn fp W) ?_ m0 ⟨0,σ,H2,I2,st2,fun b hb=>(f2 b hb).1,w0⟩
 rintro n s3 ⟨i,σ3,H3,I3,st3,fr3,w3⟩
 rcases turn i n σ3 H3 w3 with ⟨stop,qn⟩ | ⟨go,N,hN,step⟩
 ·refine iP hp (fN (T.done X rfl rfl rfl hc i pins s3 σ3 H3 X.xe I3 (stat fr3) st3 stop) fun r s4 ⟨hr,I4⟩=>?_)
  subst hr
  exact uI ⟨σ3,H3,I4,qn⟩
 ·refine iP hp (fN (T.item X rfl rfl rfl hc i pins s3 σ3 H3 X.xe I3 (stat fr3) st3 go) fun r s4 ⟨u,hr,h4⟩=>?_)
  subst hr
  refine iP hp (fN h4 fun _ s5 ⟨x,H5,I5,r5,y5,st5,fr5⟩=>?_)
  have I5':=I5.pinned (stat fr5) (T.obj _ _ st5)
  refine iP hp (fN (hg _ s5 σ3 H5 x u _ I5' r5 (step x H5 y5)) fun _ s6 ⟨σ6,H6,I6,q6⟩=>?_)
  refine iP hp (fN (hb _ s6 σ6 H6 _ I6 q6) fun f s7 q7=>?_)
  have Q2:∀ {σ7:St}{H7:Hp},bX X (pins++wp fp s5.heap) σ7 H7 s7->N σ7 H7->∃ m,m<n/\XN X pins tn fp W m s7:=fun {σ7 H7} I7 n7=>by
   obtain ⟨m',hm,w7⟩:=hN σ7 H7 n7
   refine ⟨m',hm,i + 1,σ7,H7,I7.unpinned,T.keep _ _ _ st5 fun b hb o e=>(I7.pin (b,o) (aH _ (aH _ (ko hb e)))).1,fun b hb=>?_,w7⟩
   obtain ⟨o,e,d⟩:=T.obj _ _ st5 b hb
   exact (I7.pin (b,o) (aH _ (aH _ (ko hb e)))).2.1
  cases f with
  | next=>obtain ⟨σ7,H7,I7,n7⟩:=q7;exact Q2 I7 n7
  | cont=>obtain ⟨σ7,H7,I7,n7⟩:=q7;exact Q2 I7 n7
  | brk=>obtain ⟨σ7,H7,I7,q7⟩:=q7;exact ⟨σ7,H7,I7.unpinned,q7⟩
  | ret v=>obtain ⟨x7,σ7,H7,I7,r7,q7⟩:=q7;exact ⟨x7,σ7,H7,I7.unpinned,r7,q7⟩
end
end L2
namespace L2
open PySem PySem.Spec PyProof.Rows
abbrev R2:=V->V->Hp->VK->Prop
def qD (X:Cx) (f:aa->aa->Sem aa) (r:R2):Prop :=
 ∀ (pins:List (ak×Obj)) (s:af) (σ:St) (H:Hp) (x y:V) (v u:aa) (Q:VK),bX X pins σ H s->dq x v->dq y u->r x y H Q ->
  au (ax X.prog X.w) X.A (f v u) (EP X pins σ Q) X.xe s
def XU (X:Cx) (f:aa->Sem aa) (r:V->Hp->VK->Prop):Prop :=
 ∀ (pins:List (ak×Obj)) (s:af) (σ:St) (H:Hp) (x:V) (v:aa) (Q:VK),bX X pins σ H s->dq x v->r x H Q ->
  au (ax X.prog X.w) X.A (f v) (EP X pins σ Q) X.xe s
def jz (X:Cx) (f:aa) (r:List V->Hp->VK->Prop):Prop :=
 ∀ (pins:List (ak×Obj)) (s:af) (σ:St) (H:Hp) (xs:List V) (us:List aa) (Q:VK),bX X pins σ H s->dC xs us->r xs H Q ->
  au (ax X.prog X.w) X.A (call f us) (EP X pins σ Q) X.xe s
def XV (X:Cx) (r:V->Hp->(Bool->Hp->Prop)->Prop):Prop :=
 ∀ (pins:List (ak×Obj)) (s:af) (σ:St) (H:Hp) (x:V) (v:aa) (Q:Bool->Hp->Prop),bX X pins σ H s->dq x v->r x H Q ->
  au (ax X.prog X.w) X.A (truthy v) (TP X pins σ Q) X.xe s
def Vz (r:R2) (ta tb:TE):TE:=fun σ H Q=>ta σ H fun x H1=>tb σ H1 fun y H2=>r x y H2 Q
def Zb (r:V->Hp->VK->Prop) (ta:TE):TE:=fun σ H Q=>ta σ H fun x H1=>r x H1 Q
inductive YK (C:Int->Int->Prop) (g:Int->Int->V) (x:V) (y:V) (H:Hp) (Q:VK):Prop
 | mk (i j:_) (h0:x=.int i) (h1:y=.int j) (h2:C i j) (h3:Q (g i j) H):YK C g x y H Q
def rI (C:Int->Int->Prop) (g:Int->Int->V):R2:=YK C g
inductive VA (g:Int->Int->V) (x:V) (y:V) (H:Hp) (Q:VK):Prop
 | mk (i j:_) (h0:x=.int i) (h1:y=.int j) (h2:Q (g i j) H):VA g x y H Q
def TX (g:Int->Int->V):R2:=VA g
inductive YL (g:Int->V) (x:V) (H:Hp) (Q:VK):Prop
 | mk (i:_) (h0:x=.int i) (h1:Q (g i) H):YL g x H Q
def rU (g:Int->V):V->Hp->VK->Prop:=YL g
section
variable {X:Cx}{a b c:aZ}{ta tb tc:TE}{pos:Pos}
theorem TY (ha:PE X a ta) (hb:PE X b tb) {pins:List (ak×Obj)}{s:af}{σ:St}{H:Hp}{R:V->V->Hp->Prop} (I:bX X pins σ H s)
  (h:ta σ H fun x H1=>tb σ H1 fun y H2=>R x y H2) {Q:aa->af->Prop}{f:aa->aa->Sem aa}
  (hf:∀ v u s2 x y H2,bX X pins σ H2 s2->dq x v->dq y u->R x y H2->au (ax X.prog X.w) X.A (f v u) Q X.xe s2) :
  au (ax X.prog X.w) X.A (eE a X.env) (fun v s₁=>au (ax X.prog X.w) X.A (eE b X.env) (fun u s₂=>au (ax X.prog X.w) X.A (f v u) Q X.xe s₂) X.xe s₁) X.xe s:=by
 refine fN (ha pins s σ H _ I h) fun v s1 h_19=>?_
 obtain ⟨x,H1,I1,r1,q1⟩:=h_19
 refine fN (hb pins s1 σ H1 _ I1 q1) fun u s2 h_20=>?_
 obtain ⟨y,H2,I2,r2,q2⟩:=h_20
 exact hf v u s2 x y H2 I2 r1 r2 q2
theorem S4 {op:Operator}{r:R2} (ho:qD X (gG op) r) (ha:PE X a ta) (hb:PE X b tb):PE X (.BinOp a op b pos) (Vz r ta tb):=by
 intro pins s σ H Q I h
 exact wpAny_BinOp (TY ha hb I h fun v u s2 x y H2 I2 rx ry q=>ho pins s2 σ H2 x y v u Q I2 rx ry q)
theorem VB {op:UnaryOp}{r:V->Hp->VK->Prop} (ho:XU X (unaryOp op) r) (ha:PE X a ta):PE X (.UnaryOp op a pos) (Zb r ta):=by
 intro pins s σ H Q I h
 exact UnaryOp_ (fN (ha pins s σ H _ I h) fun v s1 h_21=>by obtain ⟨x,H1,I1,r1,q1⟩:=h_21;exact ho pins s1 σ H1 x v Q I1 r1 q1)
theorem XX {f:aa->aa->Sem aa}{C:Int->Int->Prop}{g:Int->Int->Int}
  (rule:∀ (i j:Int) (t u:Tok) (s:af) (Q:aa->af->Prop) (E:aa->af->Prop),C i j->Q (.int (g i j) s.toks) { s with toks:=s.toks + 1 }->au (ax X.prog X.w) X.A (f (.int i t) (.int j u)) Q E s) :
  qD X f (rI C fun i j=>.int (g i j)):=by
 intro pins s σ H x y v u Q I rx ry h
 obtain ⟨i,j,rfl,rfl,hc,q⟩:=h
 obtain ⟨t,rfl⟩:=rx
 obtain ⟨t',rfl⟩:=ry
 exact rule i j t t' s _ _ hc ⟨.int (g i j),H,I.tok _,⟨_,rfl⟩,q⟩
theorem XY {f:aa->aa->Sem aa}{g:Int->Int->Int}
  (rule:∀ (i j:Int) (t u:Tok) (s:af) (Q:aa->af->Prop) (E:aa->af->Prop),Q (.int (g i j) s.toks) { s with toks:=s.toks + 1 }->au (ax X.prog X.w) X.A (f (.int i t) (.int j u)) Q E s) :
  qD X f (TX fun i j=>.int (g i j)):=by
 intro pins s σ H x y v u Q I rx ry h
 obtain ⟨i,j,rfl,rfl,q⟩:=h
 obtain ⟨t,rfl⟩:=rx
 obtain ⟨t',rfl⟩:=ry
 exact rule i j t t' s _ _ ⟨.int (g i j),H,I.tok _,⟨_,rfl⟩,q⟩
theorem TZ {f:aa->aa->Sem aa}{g:Int->Int->Bool}
  (rule:∀ (i j:Int) (t u:Tok) (s:af) (Q:aa->af->Prop) (E:aa->af->Prop),Q (.bool (g i j)) s->au (ax X.prog X.w) X.A (f (.int i t) (.int j u)) Q E s) :
  qD X f (TX fun i j=>.bl (g i j)):=by
 intro pins s σ H x y v u Q I rx ry h
 obtain ⟨i,j,rfl,rfl,q⟩:=h
 obtain ⟨t,rfl⟩:=rx
 obtain ⟨t',rfl⟩:=ry
 exact rule i j t t' s _ _ ⟨.bl (g i j),H,I,rfl,q⟩
def XZ (i j:Int):Prop:=0<j/\j<1073741824
def T_ (i j:Int):Prop:=(-(2 ^ 64)<i/\i<2 ^ 64)\/(-(2 ^ 64)<j/\j<2 ^ 64)
theorem T_.ok {i j:Int} (h:T_ i j):IntMulOk i j:=by
 rcases h with ⟨h1,h2⟩ | ⟨h1,h2⟩
 ·exact .of_left (intBits_le_64 h1 h2)
 ·exact .of_right (intBits_le_64 h1 h2)
theorem U0:qD X (gG .Add) (TX fun i j=>.int (i + j)):=XY fun _ _ _ _ _ _ _ q=>add_int q
theorem U1:qD X (gG .Mult) (rI T_ fun i j=>.int (i * j)):=XX fun _ _ _ _ _ _ _ hc q=>mul_int q hc.ok
theorem QB:qD X (gG .FloorDiv) (rI XZ fun i j=>.int (i / j)):=XX fun i j _ _ _ _ _ hc q=>by
 have h1:(0:Int)<j:=hc.1
 have h2:j<1073741824:=hc.2
 exact floordiv_int (by omega) (by rw [Int.fdiv_eq_ediv_of_nonneg i (by omega)];exact q) (.inl (PyProof.noPylong_small (by omega)))
theorem U2:qD X (gG .Mod) (rI (fun _ j=>0<j) fun i j=>.int (i % j)):=XX fun i j _ _ _ _ _ hc q=>by
 have h1:(0:Int)<j:=hc
 exact mod_int' (by omega) (by rw [Int.fmod_eq_emod_of_nonneg i (by omega)];exact q)
theorem Zc {f:aa->Sem aa}{g:Int->Int}
  (rule:∀ (i:Int) (t:Tok) (s:af) (Q:aa->af->Prop) (E:aa->af->Prop),Q (.int (g i) s.toks) { s with toks:=s.toks + 1 }->au (ax X.prog X.w) X.A (f (.int i t)) Q E s) :
  XU X f (rU fun i=>.int (g i)):=by
 intro pins s σ H x v Q I rx h
 obtain ⟨i,rfl,q⟩:=h
 obtain ⟨t,rfl⟩:=rx
 exact rule i t s _ _ ⟨.int (g i),H,I.tok _,⟨_,rfl⟩,q⟩
theorem U3:XU X (unaryOp .USub) (rU fun i=>.int (-i)):=Zc fun _ _ _ _ _ q=>neg_int q
end
section
variable {X:Cx}{a b c:aZ}{ta tb tc:TE}{pos:Pos}
theorem Cs {pins:List (ak×Obj)}{σ:St}{H:Hp}{s:af}{Q:VK}{k k':Bool} (I:bX X pins σ H s) (q:Q (.bl k) H) (e:k=k'):EP X pins σ Q (.bool k') s:=by
 subst e
 exact ⟨.bl k,H,I,rfl,q⟩
theorem VC:qD X (bO .Lt) (TX fun i j=>.bl (decide (i<j))):=TZ fun _ _ _ _ _ _ _ q=>lt_int q
theorem VD:qD X (bO .LtE) (TX fun i j=>.bl (decide (i<=j))):=TZ fun _ _ _ _ _ _ _ q=>le_int q
theorem VE:qD X (bO .Gt) (TX fun i j=>.bl (decide (j<i))):=TZ fun _ _ _ _ _ _ _ q=>gt_int q
theorem Kx:qD X (bO .Lt) (fun x y H Q=>∃ i j,x=.str i/\y=.str j/\Q (.bl (decide (i.cps.toList<j.cps.toList))) H):=by
 intro pins s σ H x y v u Q I rx ry h
 obtain ⟨i,j,rfl,rfl,q⟩:=h
 obtain ⟨t,rfl⟩:=rx
 obtain ⟨t',rfl⟩:=ry
 exact lt_str (Cs I q rfl)
theorem U4:qD X (bO .Is) (fun x y H Q=>y=.non/\Q (.bl (decide (x=.non))) H):=by
 intro pins s σ H x y v u Q I rx ry h
 obtain ⟨rfl,q⟩:=h
 cases ry
 refine is_none_gen (Cs I q ?_)
 cases x<;>first
  | (cases rx;rfl)
  | (obtain ⟨t,rfl⟩:=rx;rfl)
theorem QC:qD X (bO .IsNot) (fun x y H Q=>y=.non/\Q (.bl (!decide (x=.non))) H):=by
 intro pins s σ H x y v u Q I rx ry h
 obtain ⟨rfl,q⟩:=h
 cases ry
 refine isnot_none_gen (Cs I q ?_)
 cases x<;>first
  | (cases rx;rfl)
  | (obtain ⟨t,rfl⟩:=rx;rfl)
theorem MN (b:aZ) {op:M1} (h:op≠.In:=by decide) (h2:op≠.NotIn:=by decide):h_ op b=false:=by
 have e1:(op == CmpOp.In)=false:=by cases op<;>first | rfl | exact absurd rfl h
 have e2:(op == CmpOp.NotIn)=false:=by cases op<;>first | rfl | exact absurd rfl h2
 cases b<;>simp [h_,e1,e2]
theorem QD {op:M1}{r:R2} (ho:qD X (bO op) r) (ha:PE X a ta) (hb:PE X b tb) (hm:h_ op b=false):PE X (.Compare a [op] [b] pos) (Vz r ta tb):=by
 intro pins s σ H Q I h
 exact wpAny_Compare1 (TY ha hb I h fun v u s2 x y H2 I2 rx ry q=>ho pins s2 σ H2 x y v u Q I2 rx ry q) hm
def S5 (t:TE):TT:=fun σ H Q=>t σ H fun x H'=>∃ k,x=.bl k/\Q k H'
theorem QE {op:M1}{r:R2} (ho:qD X (bO op) r) (ha:PE X a ta) (hb:PE X b tb) (hm:h_ op b=false):PT X (.Compare a [op] [b] pos) (S5 (Vz r ta tb)):=by
 intro pins s σ H Q I h
 refine PN (fN (ha pins s σ H _ I h) fun v s1 ⟨x,H1,I1,r1,q1⟩=>fN (hb pins s1 σ H1 _ I1 q1) fun u s2 ⟨y,H2,I2,r2,q2⟩ =>
  fN (ho pins s2 σ H2 x y v u _ I2 r1 r2 q2) fun c s3 ⟨z,H3,I3,r3,k,e,q3⟩=>?_) hm
 subst e
 cases r3
 exact dg ⟨H3,I3,q3⟩
def GJ (r r':R2) (ta tb tc:TE):TE:=fun σ H Q=>ta σ H fun x H1=>tb σ H1 fun y H2=>r x y H2 fun z H3=>∃ k,z=.bl k /\
 (if k=true then tc σ H3 fun w' H4=>r' y w' H4 Q else Q (.bl false) H3)
theorem MO {op op':M1}{r r':R2} (ho:qD X (bO op) r) (ho':qD X (bO op') r') (ha:PE X a ta) (hb:PE X b tb) (hc:PE X c tc)
  (hm:M2 [op,op'] [b,c]=false:=by with_unfolding_all rfl):PE X (.Compare a [op,op'] [b,c] pos) (GJ r r' ta tb tc):=by
 intro pins s σ H Q I h
 refine Compare_chain (fN (ha pins s σ H _ I h) fun v s1 ⟨x,H1,I1,r1,q1⟩=>chain_link (fN (hb pins s1 σ H1 _ I1 q1) fun u s2 ⟨y,H2,I2,r2,q2⟩ =>
  fN (ho pins s2 σ H2 x y v u _ I2 r1 r2 q2) fun d s3 ⟨z,H3,I3,r3,k,e,q3⟩=>?_)) hm
 subst e
 cases r3
 refine dg ?_
 cases k with
 | false=>exact ite_ff ⟨.bl false,H3,I3,rfl,q3⟩
 | true=>exact ite_tt (chain_last (fN (hc pins s3 σ H3 _ I3 q3) fun w' s4 h_22=>by obtain ⟨z',H4,I4,r4,q4⟩:=h_22;exact ho' pins s4 σ H4 y z' u w' Q I4 r2 r4 q4))
theorem MP {op op':M1}{r r':R2} (ho:qD X (bO op) r) (ho':qD X (bO op') r') (ha:PE X a ta) (hb:PE X b tb) (hc:PE X c tc)
  (hm:M2 [op,op'] [b,c]=false:=by with_unfolding_all rfl):PT X (.Compare a [op,op'] [b,c] pos) (S5 (GJ r r' ta tb tc)):=by
 intro pins s σ H Q I h
 refine isTrue_chain (fN (ha pins s σ H _ I h) fun v s1 ⟨x,H1,I1,r1,q1⟩=>test_link (fN (hb pins s1 σ H1 _ I1 q1) fun u s2 ⟨y,H2,I2,r2,q2⟩ =>
  fN (ho pins s2 σ H2 x y v u _ I2 r1 r2 q2) fun d s3 ⟨z,H3,I3,r3,k,e,q3⟩=>?_)) hm
 subst e
 cases r3
 refine dg ?_
 cases k with
 | false =>
  obtain ⟨k',e',q'⟩:=q3
  cases e'
  exact ite_ff ⟨H3,I3,q'⟩
 | true =>
  refine ite_tt (test_last (fN (hc pins s3 σ H3 _ I3 q3) fun w' s4 ⟨z',H4,I4,r4,q4⟩=>fN (ho' pins s4 σ H4 y z' u w' _ I4 r2 r4 q4) fun d' s5 ⟨z2,H5,I5,r5,k2,e2,q5⟩=>?_))
  subst e2
  cases r5
  exact dg ⟨H5,I5,q5⟩
def VF (K:a8) (x:V) (H:Hp) (k:Bool):Prop :=
 match x with
 | .non=>k=false
 | .bl b=>k=b
 | .int i=>k=(i != 0)
 | .str y=>y.length<=sizeLine/\k=((y.length:Int) != 0)
 | .byt y=>y.size<=sizeLine/\k=((y.size:Int) != 0)
 | .ref p=>(∃ xs,ph K H p xs/\k=!xs.isEmpty)\/(∃ xs,l7 K H p xs/\k=!xs.isEmpty)\/∃ kvs,H p=some (.dK kvs)/\k=!kvs.isEmpty
 | _=>False
theorem GK {κ:Type}{kvs:List (κ×V)}{vs:List (κ×aa)} (r:KV kvs vs):(!vs.isEmpty)=!kvs.isEmpty:=by
 cases r<;>rfl
theorem yI {xs:List V}{its:List aa} (r:dC xs its):(!its.toArray.isEmpty)=!xs.isEmpty:=by
 cases r<;>simp
theorem wq:(sizeLine:Nat)<2 ^ 63:=by rw [jo];decide
theorem U5:XV X (fun x H Q=>∃ k,VF X.K x H k/\Q k H):=by
 intro pins s σ H x v Q I rx h
 obtain ⟨k,e,q⟩:=h
 have hl:=wq
 have hs:sizeLine=16777216:=jo
 cases x with
 | non =>
  cases rx
  have e':k=false:=e
  subst e'
  exact truthy_none ⟨H,I,q⟩
 | bl b =>
  cases rx
  have e':k=b:=e
  subst e'
  exact dg ⟨H,I,q⟩
 | int i =>
  obtain ⟨t,rfl⟩:=rx
  have e':k=(i != 0):=e
  subst e'
  exact PySem.P.truthy_int ⟨H,I,q⟩
 | str y =>
  obtain ⟨t,rfl⟩:=rx
  obtain ⟨hy,e'⟩:y.length<=sizeLine/\k=((y.length:Int) != 0):=e
  subst e'
  exact PySem.P.truthy_str (by omega) ⟨H,I.tok _,q⟩
 | byt y =>
  obtain ⟨t,rfl⟩:=rx
  obtain ⟨hy,e'⟩:y.size<=sizeLine/\k=((y.size:Int) != 0):=e
  subst e'
  exact PySem.W.truthy_bytes (by omega) ⟨H,I.tok _,q⟩
 | ref p =>
  cases rx
  have e':(∃ xs,ph X.K H p xs/\k=!xs.isEmpty)\/(∃ xs,l7 X.K H p xs/\k=!xs.isEmpty)\/∃ kvs,H p=some (.dK kvs)/\k=!kvs.isEmpty:=e
  rcases e' with ⟨xs,hx,e'⟩ | ⟨xs,hx,e'⟩ | ⟨kvs,hx,e'⟩
  ·subst e'
   obtain ⟨its,r,pl,hz⟩:=I.list hx
   have hlen:=r.length
   exact wpAny_truthy_list pl.isList (by simp only [aS];omega) ⟨H,I.tok _,by rw [yI r];exact q⟩
  ·subst e'
   obtain ⟨its,r,pl,hz⟩:=I.tuple hx
   have hlen:=r.length
   exact truthy_tuple pl (by simp only [aS];omega) ⟨H,I.tok _,by rw [yI r];exact q⟩
  ·subst e'
   obtain ⟨hz,hS,vs,r,m⟩:kvs.length<=sizeLine/\(p == eT)=false/\∃ vs,KV kvs vs/\s.heap.DictOf (gm X.prog X.w) p vs:=I.hok p _ hx
   have hlen:kvs.length=vs.length:=jj r
   exact wpAny_truthy_dict hS m (by omega) ⟨H,I.tok _,by rw [GK r];exact q⟩
 | _=>exact (show False from e).elim
theorem MQ (ha:PE X a ta) (he:∀ whole,vZ a X.env whole=(do let v <- whole;xi a.pos;holding [v] (truthy v))) :
  PT X a (fun σ H Q=>ta σ H fun x H'=>∃ k,VF X.K x H' k/\Q k H'):=by
 intro pins s σ H Q I h
 exact isTrue_plain (fN (ha pins s σ H _ I h) fun v s1 h_23=>by obtain ⟨x,H1,I1,r1,q1⟩:=h_23;exact U5 pins s1 σ H1 x v Q I1 r1 q1) (he _)
theorem GL:qD X (gG .Add) (fun x y H Q=>∃ i j,x=.str i/\y=.str j/\i.length + j.length<=sizeLine/\Q (.str (i++j)) H):=by
 intro pins s σ H x y v u Q I rx ry h
 obtain ⟨i,j,rfl,rfl,hz,q⟩:=h
 obtain ⟨t,rfl⟩:=rx
 obtain ⟨t',rfl⟩:=ry
 exact add_str (fun t' tk=>⟨.str (i++j),H,I.tok _,⟨_,rfl⟩,q⟩) hz
theorem l8 {x:V}{us:List aa} (r:dC [x] us):∃ u,us=[u]/\dq x u:=by
 cases r with
 | cons r1 r2=>cases r2;exact ⟨_,rfl,r1⟩
theorem S6 {x y:V}{us:List aa} (r:dC [x,y] us):∃ u w',us=[u,w']/\dq x u/\dq y w':=by
 cases r with
 | cons r1 r2 =>
  cases r2 with
  | cons r3 r4=>cases r4;exact ⟨_,_,rfl,r1,r3⟩
end
end L2
namespace L2
open PySem PySem.Spec PyProof.Rows
structure U6 (h:bF) (x dx C:ak) (mA:Str->Option aa):Prop where
 obj:h.get? x=some (xC C dx)
 ns:h.Ns1 dx mA
 ne:dx≠x
theorem Ky {h:bF}{dx:ak}{mA:Str->Option aa} (n:h.Ns1 dx mA):∃ od,h.get? dx=some od/\∀ name,yB name od=some (mA name):=by
 obtain ⟨o,es,ep,ho,hd,hk,_,hm⟩:=n
 refine ⟨o,ho,fun name=>?_⟩
 have e:=hm name
 unfold nsFind findBy at e
 rw [<- K9] at e
 unfold yB
 rw [hd]
 dsimp only
 split
 ·rename_i y q
  rw [q] at e
  exact congrArg some e
 ·rename_i q
  rw [q] at e
  have a:es.toList.any (·.refKey)=false:=by
   rw [Mj]
   intro y hy
   obtain ⟨z,t,hkey⟩:=hk y (Array.mem_toList_iff.mp hy)
   simp [DictEntry.refKey,hkey]
  have a':¬ es.toList.any (·.refKey)=true:=by rw [a];exact bq
  rw [if_neg a']
  exact congrArg some e
theorem U6.look {h:bF}{x dx C:ak}{mA:Str->Option aa} (I:U6 h x dx C mA):∃ od,PySem.W.InstAt h x (xC C dx) C (some od)/\∀ name,yB name od=some (mA name) :=
 let ⟨od,ho,hl⟩:=Ky I.ns
 ⟨od,⟨I.obj,rfl,rfl,ho⟩,hl⟩
section
variable {prog:aK}{w:bc}{A:aX}{E:aa->af->Prop}{s:af}{K:a8}{x dx C f:ak}{mA:Str->Option aa}{name:Str}{v:aa}
end
theorem yH.some_of {v:V}{o:Option aa} (r:yH (some v) o):∃ u,o=some u/\dq v u:=by
 cases o with
 | none=>exact (show False from r).elim
 | some u=>exact ⟨u,rfl,r⟩
section
variable {P:aK}{w:bc}{H H':Hp}{h h':bF}{a C dx:ak}{fs fs':List (Str×V)}
theorem QF (hok:qv P w H h) (e:H a=some (.ins C dx fs)):∃ mA,U6 h a dx C mA/\(∀ f,yH (fs.lookup f) (mA f))/\PySem.Within mA (fs.map (·.1))/\fs.length<=1000/\H dx=some (.own a):=by
 obtain ⟨d,z,ne,ob,mA,n,r,q⟩:=(show dw P w H h a (.ins C dx fs) from hok a _ e)
 exact ⟨mA,⟨ob,n,ne⟩,r,q,z,d⟩
end
structure X_ (K:a8) (C:ak):Prop where
 pg:Ka K C Str.empty=true
 hd:PySem.W.hasDictIn K C=true
 po:PySem.W.plainOver K C=true
 sa:ms K (.ref C) "__setattr__"=some (some (.builtin "object.__setattr__"))
theorem X_.get {K:a8}{C:ak} (c:X_ K C) (f:Str):Ka K C f=true:=c.pg
section
variable {X:Cx}{pins:List (ak×Obj)}{σ:St}{H:Hp}{s:af}{a C dx:ak}{fs:List (Str×V)}{f:Str}{v:V}{A:aX}{E:aa->af->Prop}
end
section
variable {X:Cx}{o e value:aZ}{f:Str}{pos pos' tpos:Pos}{ta tv:TE}
end
section
variable {X:Cx}{pins:List (ak×Obj)}{σ:St}{H:Hp}{s:af}{A:aX}{E:aa->af->Prop}{Q:aa->af->Prop}{c:aa}{b:Bool}
inductive xL (K:a8) (H:Hp):V->aa->Prop where
 | non:xL K H .non (.type "NoneType")
 | bl (x:Bool):xL K H (.bl x) (.type "bool")
 | int (i:Int):xL K H (.int i) (.type "int")
 | str (x:Str):xL K H (.str x) (.type "str")
 | flt (x:UInt64):xL K H (.flt x) (.type "float")
 | lst {a:ak}{xs:List V} (e:H a=some (.lst xs)):xL K H (.ref a) (.type "list")
 | frz {a:ak}{o:Obj}{xs:List V} (e:H a=some (.frz o (.lst xs))):xL K H (.ref a) (.type "list")
 | tup {a:ak}{xs:List V} (e:H a=some (.tup xs)):xL K H (.ref a) (.type "tuple")
 | dK {a:ak}{kvs:List (fQ×V)} (e:H a=some (.dK kvs)):xL K H (.ref a) (.type "dict")
 | dT {a:ak}{kvs:List (List fQ×V)} (e:H a=some (.dT kvs)):xL K H (.ref a) (.type "dict")
 | ins {a C dx:ak}{fs:List (Str×V)} (e:H a=some (.ins C dx fs)) (cl:X_ K C) (ha:ms K (.ref C) "__class__"=some (some (.builtin "object.__class__")))
   (hn:Ir K (.builtin "object.__class__") "__get__"=some (some (.builtin "getset_descriptor.__get__"))) (htk:M3 K (.builtin "object.__class__")=some true)
   (hm:dB K C (.type "object")=some true):xL K H (.ref a) (.ref C)
theorem rM {x:V}{u t:aa} (I:bX X pins σ H s) (rx:dq x u) (ty:xL X.K H x t) (e:qG X.K t c=some b) (h:∀ tk,Q (.bool b) { s with toks:=tk }) :
  au (ax X.prog X.w) A (call (.builtin "isinstance") [u,c]) Q E s:=by
 cases ty with
 | non=>cases (show u=dX from rx);exact cH PySem.W.kitx_none I.kIn j3 e (fun z=>nomatch z) h
 | bl y=>cases (show u=K6 y from rx);exact cH PySem.W.kitx_bool I.kIn j3 e (fun z=>nomatch z) h
 | int i=>obtain ⟨t,q⟩:=(show ∃ t,u=mT i t from rx);cases q;exact cH PySem.W.kitx_int I.kIn j3 e (fun z=>nomatch z) h
 | str y=>obtain ⟨t,q⟩:=(show ∃ t,u=jM y t from rx);cases q;exact cH PySem.W.kitx_str I.kIn j3 e (fun z=>nomatch z) h
 | flt y=>obtain ⟨t,q⟩:=(show ∃ t,u=Value.float y t from rx);cases q;exact cH PySem.W.kitx_float I.kIn j3 e (fun z=>nomatch z) h
 | @lst a xs ea =>
  cases (show u=bu a from rx)
  obtain ⟨_,_,n,_,h1⟩:=(show dw X.prog X.w H s.heap a (.lst xs) from I.hok a _ ea)
  exact cH uQ I.kIn ⟨_,h1,rfl⟩ e (fun z=>nomatch z) h
 | @frz a ob xs ea =>
  cases (show u=bu a from rx)
  obtain ⟨_,_,_,n,_,h1⟩:=(show dw X.prog X.w H s.heap a (.frz ob (.lst xs)) from I.hok a _ ea)
  exact cH uQ I.kIn ⟨_,h1,rfl⟩ e (fun z=>nomatch z) h
 | @tup a xs ea =>
  cases (show u=bu a from rx)
  obtain ⟨_,_,_,p⟩:=(show dw X.prog X.w H s.heap a (.tup xs) from I.hok a _ ea)
  obtain ⟨o,h1,h2,_⟩:=p
  exact cH Go I.kIn ⟨o,h1,h2⟩ e (fun z=>nomatch z) h
 | @dK a kvs ea =>
  cases (show u=bu a from rx)
  obtain ⟨_,_,vs,_,p⟩:=(show dw X.prog X.w H s.heap a (.dK kvs) from I.hok a _ ea)
  obtain ⟨o,es,ep,h1,h2,_⟩:=p
  exact cH Iu I.kIn ⟨o,h1,h2.1⟩ e (fun z=>nomatch z) h
 | @dT a kvs ea =>
  cases (show u=bu a from rx)
  obtain ⟨_,_,xs,_,o,es,ep,h1,h2,_⟩:=(show dw X.prog X.w H s.heap a (.dT kvs) from I.hok a _ ea)
  exact cH Iu I.kIn ⟨o,h1,h2.1⟩ e (fun z=>nomatch z) h
 | @ins a C dx fs ea cl ha hn htk hm =>
  cases (show u=bu a from rx)
  obtain ⟨mA,O,_⟩:=QF I.hok ea
  obtain ⟨od,J,_⟩:=O.look
  exact cH (PySem.W.kitx_own (cl.get _) cl.hd ha hn htk hm) I.kIn J e (fun z=>nomatch z) h
end
end L2
namespace L2
open PySem PySem.Spec PyProof.Rows
structure lG (k:Nat) (A:aX):Prop where
 hd:A.handled=none
 dp:A.depth + 3 * k + 5<recursionLimit
 un:A.units + 16 * k + 200<gT
theorem lG.mono {j k:Nat}{A:aX} (r:lG k A) (h:j<=k):lG j A:=⟨r.hd,by have:=r.dp;omega,by have:=r.un;omega⟩
theorem lG.deeper {k:Nat}{A:aX} (r:lG (k + 1) A) (env:Env):lG k (A.deeper env) :=
 ⟨r.hd,by have:=r.dp;show A.depth + 1 + 3 * k + 5<_;omega,by have:=r.un;show A.units + 3 + 16 * k + 200<_;omega⟩
theorem lG.depth {k:Nat}{A:aX} (r:lG k A):A.depth<recursionLimit:=by have:=r.dp;omega
theorem lG.units {k:Nat}{A:aX} (r:lG k A):A.units + 64<gT:=by have:=r.un;omega
def U7:TA:=fun _ H Q=>Q [] H
def MR (ta:TE) (tr:TA):TA:=fun σ H Q=>ta σ H fun x H1=>tr σ H1 fun xs H2=>Q (x::xs) H2
section
variable {X:Cx}{e:aZ}{es:List aZ}{te:TE}{t:TA}{pos:Pos}
theorem kq:PA X [] U7:=fun _ _ _ _ H Q I h=>Calls.spliced_nil ⟨[],H,I,.nil,h⟩
theorem iR (ha:PE X e te) (hr:PA X es t) (hs:aO (e::es) X.env=(false,eE e X.env)::aO es X.env:=by rfl):PA X (e::es) (MR te t):=by
 intro pos pins s σ H Q I h
 rw [hs]
 show au _ _ (spliced ((false,eE e X.env)::jn pos (aO es X.env))) _ _ s
 refine Calls.spliced_cons (fN (ha pins s σ H _ I h) fun u s1 ⟨x,H1,I1,r1,q1⟩=>?_)
 exact fN (hr pos pins s1 σ H1 _ I1 q1) fun us s2 h_25=>by obtain ⟨xs,H2,I2,r2,q2⟩:=h_25;exact ⟨x::xs,H2,I2,.cons r1 r2,q2⟩
def Y0 (t:TA):TE:=fun σ H Q=>t σ H fun xs H1=>xs.length<=sizeLine/\∀ p,H1 p=none->Q (.ref p) (upd H1 p (.tup xs))
def Y1 (t:TA):TE:=fun σ H Q=>t σ H fun xs H1=>xs.length<=sizeLine/\∀ p,H1 p=none->Q (.ref p) (upd H1 p (.lst xs))
theorem U8 {x1} (h:PA X es t):PE X (.Tuple es x1 pos) (Y0 t):=by
 intro pins s σ H Q I hq
 refine wpAny_Tuple_spliced (fN (h pos pins s σ H _ I hq) fun us s1 ⟨xs,H1,I1,r,z,q⟩=>⟨by rw [<- r.length];exact z,?_⟩)
 have hf:H1 s1.heap.objs.size=none:=I1.hok.fresh (ar _)
 refine ⟨.ref s1.heap.objs.size,upd H1 s1.heap.objs.size (.tup xs),I1.laid (t':=s1.toks) (fun b u e=>ac _ e) (ar _) ?_,rfl,q _ hf⟩
 exact ⟨z,us,r,⟨_,aw _ rfl,rfl,_,rfl⟩⟩
theorem tY (h:PA X es t):PE X (.List es pos) (Y1 t):=by
 intro pins s σ H Q I hq
 refine wpAny_List_spliced (fN (h pos pins s σ H _ I hq) fun us s1 ⟨xs,H1,I1,r,z,q⟩=>⟨by rw [<- r.length];exact z,?_⟩)
 have hf:H1 s1.heap.objs.size=none:=I1.hok.fresh (ar _)
 refine ⟨.ref s1.heap.objs.size,upd H1 s1.heap.objs.size (.lst xs),I1.laid (t':=s1.toks) (fun b u e=>ac _ e) (ar _) ?_,rfl,q _ hf⟩
 exact ⟨z,us,0,r,aw _ rfl⟩
end
abbrev Sp:=List V->Hp->VK->XK->Prop
abbrev Kz:=List Env->Hp->af->XK->aa->af->Prop
structure QG (P:aK) (w:bc) (K:a8) (mg:Str->Option aa) (base:bF) (A:aX) (outer:List Env) (s:af) (H:Hp):Prop where
 frames:A.frames=some outer
 mod:Mod K mg base
 bs:∀ b o,base.get? b=some o->s.heap.get? b=some o/\H b=none
 bsz:base.objs.size<=s.heap.objs.size
 funs:s.heap.FunFrames base outer
 frf:∀ b∈t5 outer,H b=none
 hok:qv P w H s.heap
 bare:qy s.gens
inductive CE (outer:List Env) (P:aK) (w:bc) (H:Hp) (s:af) (Q:VK) (u:aa) (s':af):Prop
 | mk (v H':_) (h0:s'.os=s.os) (h1:qy s'.gens) (h2:Un (t5 outer) [] H H' s.heap s'.heap) (h3:qv P w H' s'.heap) (h4:dq v u) (h5:Q v H'):CE outer P w H s Q u s'
def CR (CX:Kz) (outer:List Env) (P:aK) (w:bc) (H:Hp) (s:af) (Q:VK) (E:XK) (r:tQ) (s':af):Prop :=
 match r with
 | .ok (.ret u)=>CE outer P w H s Q u s'
 | .ok _=>False
 | .error e=>CX outer H s E e s'
structure sQ (P:aK) (w:bc) (K:a8) (mg:Str->Option aa) (base:bF) (CX:Kz) (k:Nat) (f:ak) (fd:eP) (ps:List Str) (sp:Sp):Prop where
 len:∀ vs H Q E,sp vs H Q E->vs.length=ps.length
 run:∀ (A:aX) (outer:List Env) (s:af) (H:Hp) (args:Args) (us:List aa) (vs:List V) (Q:VK) (E:XK),lG k A->QG P w K mg base A outer s H->Ai s fd args (ps.zip us)->dC vs us->sp vs H Q E ->
  jE (ax P w) A (.call (.ref f) args) (CR CX outer P w H s Q E) s
theorem sQ.imp {P:aK}{w:bc}{K:a8}{mg:Str->Option aa}{base:bF}{CX:Kz}{k:Nat}{f:ak}{fd:eP}{ps:List Str}{sp sp':Sp} (F:sQ P w K mg base CX k f fd ps sp)
  (h:∀ vs H Q E,sp' vs H Q E->sp vs H Q E):sQ P w K mg base CX k f fd ps sp' :=
 ⟨fun vs H Q E q=>F.len vs H Q E (h _ _ _ _ q),fun A outer s H args us vs Q E hr he hb hv hs=>F.run A outer s H args us vs Q E hr he hb hv (h _ _ _ _ hs)⟩
section
variable {X:Cx}{pins:List (ak×Obj)}{σ:St}{H:Hp}{s s':af}
theorem bX.env0 (I:bX X pins σ H s):QG X.prog X.w X.K X.mg X.base X.A X.stack s H :=
 ⟨I.ok.frames,I.ok.mod,I.bs,cy I.ok.bsz I.sz,I.stack,I.stkFree,I.hok,I.bare⟩
theorem bX.after {Q:VK}{u:aa} (I:bX X pins σ H s) (h:CE X.stack X.prog X.w H s Q u s'):EP X pins σ Q u s':=by
 obtain ⟨v,H',os,bare,un,hok,r,q⟩:=h
 obtain ⟨hh,g,d,t,os'⟩:=s'
 obtain rfl:os'=s.os:=os
 exact ⟨v,H',I.call (h':=hh) (g':=g) (d':=d) (t':=t) (ch:=[]) un hok bare (fun b z=>absurd z (by simp)),r,q⟩
end
def S7 (sp:Sp) (dvs:List V) (E:XK) (t:TA):TE:=fun σ H Q=>t σ H fun vs H1=>sp (vs++dvs) H1 Q E
def lM (K:a8) (fd:eP) (ps:List Str) (ds:List aa):Prop :=
 ∀ (s:af) (us:List aa),K.In s.heap->(us++ds).length=ps.length->Ai s fd ⟨us,[]⟩ (ps.zip (us++ds))
theorem lM.all {K:a8}{fd:eP}{ps:List Str} (h:∀ us:List aa,us.length=ps.length->Q3 fd ⟨us,[]⟩=pure (ps.zip us)):lM K fd ps []:=fun s us _ hl=>by
 rw [cO] at hl ⊢
 exact .of_eq (h us hl)
def tZ (CX:Kz) (X:Cx) (E:XK):Prop:=∀ (pins:List (ak×Obj)) (σ:St) (H:Hp) (s:af) (e:aa) (s':af),bX X pins σ H s->CX X.stack H s E e s'->X.xe e s'
section
variable {X:Cx}{CX:Kz}{k:Nat}{f C:ak}{fd:eP}{ps:List Str}{sp:Sp}{dvs:List V}{ds:List aa}{E:XK}{x m:Str}{p pos apos:Pos}{e o:aZ}{es:List aZ}{ta:TE}{t:TA}
theorem U9 {pins:List (ak×Obj)}{σ:St}{H:Hp}{s:af}{Q:VK}{us:List aa}{vs:List V} (F:sQ X.prog X.w X.K X.mg X.base CX k f fd ps sp) (hr:lG k X.A) (hb:lM X.K fd ps ds) (hd:dC dvs ds) (hx:tZ CX X E)
  (I:bX X pins σ H s) (r:dC vs us) (h:sp (vs++dvs) H Q E):au (ax X.prog X.w) X.A (call (.ref f) us) (EP X pins σ Q) X.xe s:=by
 have r2:dC (vs++dvs) (us++ds):=r.append hd
 have hl:(us++ds).length=ps.length:=by rw [<- r2.length];exact F.len _ _ _ _ h
 refine wpAny_call (tR (F.run X.A X.stack s H ⟨us,[]⟩ (us++ds) (vs++dvs) Q E hr I.env0 (hb s us I.kIn hl) r2 h) fun r s' hq=>?_)
 cases r with
 | error e=>exact hx pins σ H s e s' I hq
 | ok fl =>
  cases fl with
  | ret u=>exact I.after hq
  | next=>exact iQ hq
  | brk=>exact iQ hq
  | cont=>exact iQ hq
theorem QH (F:sQ X.prog X.w X.K X.mg X.base CX k f fd ps sp) (hr:lG k X.A) (hg:Gl X x) (hm:X.mg x=some (.ref f)) (hk:fA X.K (.ref f)=true) (hb:lM X.K fd ps ds) (hd:dC dvs ds) (hx:tZ CX X E)
  (ha:PA X (e::es) t) (hdb:(x == ("__debug__" : Str))=false:=by decide) (he:aO (e::es) X.env=(false,eE e X.env)::aO es X.env:=by rfl) (hpl:(jn pos (aO es X.env)).any (·.1)=false:=by rfl) :
  PE X (.Call (.Name x p) (e::es) [] pos) (S7 sp dvs E t):=by
 intro pins s σ H Q I h
 refine yC (Co I hg hm ?_ hdb)
 refine PySem.W.callWith_K (h₀:=X.base) I.ok.mod.kin hk (fN (ha pos pins s σ H _ I h) fun us s1 ⟨vs,H1,I1,r,q⟩=>⟨I1.kIn,?_⟩) he hpl
 exact U9 F hr hb hd hx I1 r q
end
section
variable {X:Cx}{CX:Kz}{k:Nat}{f C:ak}{fd:eP}{ps ks:List Str}{sp:Sp}{E:XK}{x m:Str}{p pos apos kpos:Pos}{e o:aZ}{es:List aZ}{kws:List Aj}{te ta:TE}{t tk:TA}{nm:Option Str}
variable {g:List aa->List aa->List aa}{gV:List V->List V->List V}
end
structure bD (N P:List Str) (sc:gE):Prop where
 kind:sc.kind=.function
 co:sc.isCoroutine=false
 gen:sc.isGenerator=false
 nd:N.Nodup
 pre:N.take P.length=P
 par:∀ x∈P,sc.names.lookup x=some .local\/sc.names.lookup x=some .cell
 nofree:∀ y∈sc.names,y.2≠.free
theorem Bd {kindOf:Str->Option lD}{x:Str}:∀ {binds:List (Str×aa)}{m:Str->Option aa},(∀ v,(x,v)∉binds)->M4 kindOf binds m x=m x
 | [],_,_=>rfl
 | (n,v)::r,m,h=>by
  unfold M4
  rw [Bd fun w hw=>h w (ah _ hw)]
  split
  ·have:x≠n:=by rintro rfl;exact h v am
   simp [this]
  ·rfl
theorem Be {kindOf:Str->Option lD}{x:Str}:∀ {binds:List (Str×aa)}{m:Str->Option aa},(∀ v,(x,v)∉binds)->M5 kindOf binds m x=m x
 | [],_,_=>rfl
 | (n,v)::r,m,h=>by
  unfold M5
  rw [Be fun w hw=>h w (ah _ hw)]
  split
  ·rfl
  ·have:x≠n:=by rintro rfl;exact h v am
   simp [this]
theorem Bf {kindOf:Str->Option lD}{x:Str}{v:aa}:∀ {P:List Str}{vs:List aa}{i:Nat}{m:Str->Option aa},P.Nodup->P[i]?=some x->vs[i]?=some v->kindOf x=some .local ->
  M4 kindOf (P.zip vs) m x=some v
 | [],_,_,_,_,h,_,_=>by simp at h
 | _::_,[],_,_,_,_,h,_=>by simp at h
 | p::P,w::vs,0,m,nd,h1,h2,hk=>by
  simp at h1 h2;subst h1;subst h2
  show M4 kindOf ((p,w)::P.zip vs) m p=_
  unfold M4
  rw [Bd fun v hv=>(List.nodup_cons.mp nd).1 (Ad hv).1,if_pos hk]
  simp
 | p::P,w::vs,i + 1,m,nd,h1,h2,hk=>by
  show M4 kindOf ((p,w)::P.zip vs) m x=_
  unfold M4
  exact Bf (i:=i) (List.nodup_cons.mp nd).2 (by simpa using h1) (by simpa using h2) hk
theorem Bg {kindOf:Str->Option lD}{x:Str}{v:aa}:∀ {P:List Str}{vs:List aa}{i:Nat}{m:Str->Option aa},P.Nodup->P[i]?=some x->vs[i]?=some v->kindOf x≠some .local ->
  M5 kindOf (P.zip vs) m x=some v
 | [],_,_,_,_,h,_,_=>by simp at h
 | _::_,[],_,_,_,_,h,_=>by simp at h
 | p::P,w::vs,0,m,nd,h1,h2,hk=>by
  simp at h1 h2;subst h1;subst h2
  show M5 kindOf ((p,w)::P.zip vs) m p=_
  unfold M5
  rw [Be fun v hv=>(List.nodup_cons.mp nd).1 (Ad hv).1,if_neg hk]
  simp
 | p::P,w::vs,i + 1,m,nd,h1,h2,hk=>by
  show M5 kindOf ((p,w)::P.zip vs) m x=_
  unfold M5
  exact Bg (i:=i) (List.nodup_cons.mp nd).2 (by simpa using h1) (by simpa using h2) hk
def start (N:List Str) (vs:List V):St:=vs.map some++sW (N.length - vs.length) none
def ke (CX:Kz) (P:aK) (w:bc) (K:a8) (mg:Str->Option aa) (base:bF) (N:List Str) (qual:Str) (scope:gE) (f:ak) (cd:aa) (A:aX) (outer:List Env) (s:af) (H:Hp) (E:XK):Cx where
 prog:=P
 w:=w
 K:=K
 mg:=mg
 base:=base
 A:=A.deeper (tS qual scope s.heap.objs.size f cd)
 N:=N
 s₀:=s
 H₀:=H
 env:=tS qual scope s.heap.objs.size f cd
 outer:=outer
 stack:=tS qual scope s.heap.objs.size f cd::outer
 ex:=[]
 calm:=true
 fn:=fun _=>true
 pn:=[]
 xe:=fun e s'=>au (ax P w) (A.deeper (tS qual scope s.heap.objs.size f cd)) (leaving (tS qual scope s.heap.objs.size f cd) e) (fun _ s''=>CX outer H s E e s'') (fun e' s''=>CX outer H s E e' s'') s'
theorem D_ {sc:gE}{n:Nat}{x:Str} (h:sc.names.lookup x=some .cell):∃ c,(br n sc.names []).lookup x=some c:=by
 have q:=i3 sc.names n [] (.inl h)
 exact Option.isSome_iff_exists.mp q
theorem KA {CX:Kz}{P:aK}{w:bc}{K:a8}{mg:Str->Option aa}{base:bF}{N ps:List Str}{qual:Str}{scope:gE}{f:ak}{cd:aa}{A:aX}{outer:List Env}{s s1:af}{H:Hp}{E:XK}{us:List aa}{vs:List V}
  (S:bD N ps scope) (hd:A.handled=none) (e0:QG P w K mg base A outer s H) (hl:vs.length=ps.length) (r:dC vs us)
  (x:InCallC s s.heap.objs.size (M4 (tS qual scope s.heap.objs.size f cd).kindOf (ps.zip us) fun _=>none) (br (s.heap.objs.size + 1) scope.names []) (M5 (tS qual scope s.heap.objs.size f cd).kindOf (ps.zip us) fun _=>none) s1) :
  bX (ke CX P w K mg base N qual scope f cd A outer s H E) [] (start N vs) H s1:=by
 have hpl:ps.length<=N.length:=by have:=congrArg lL S.pre;rw [y8] at this;omega
 obtain ⟨h1,tk,rfl,hk⟩:=x.done
 have noA:∀ b:ak,b∉(ke CX P w K mg base N qual scope f cd A outer s H E).ex:=fun b z=>absurd (show b∈([] : List ak) from z) (by simp)
 refine ⟨⟨e0.mod,S.kind,rfl,rfl,ar _,fun y z c h1 h2=>?_,fun y hy=>?_,fun y c _ h=>?_,fun _=>hd,Around.frames_deeper e0.frames,.inr ⟨rfl,rfl⟩,fun b z=>absurd z (noA b),e0.bs,e0.bsz,fun b _ _=>noA b,fun b z=>absurd z (noA b),e0.funs,e0.frf⟩,
  rfl,e0.bare,Un.kept hk,⟨_,x.toInCall.ns,fun i y v h1 h2 h3=>?_⟩,fun y c h=>⟨_,x.cell y c h⟩,e0.hok.fresh (ar _),fun y c h=>?_,fun p hp=>absurd (show p∈([] : List (ak×Obj)) from hp) (by simp),e0.hok.kept hk,?_⟩
 ·exact name_of_addr x.apart (dA h1) (dA h2)
 ·have hy:scope.names.lookup y=some .cell\/scope.names.lookup y=some .free:=hy
  rcases hy with hy | hy
  ·exact D_ hy
  ·exact absurd rfl (S.nofree _ (dA hy))
 ·exact ca (x.above y c (dA h))
 ·have hi:i<vs.length:=by
   unfold start at h2
   by_cases hi:i<vs.length
   ·exact hi
   ·rw [bh (by simpa using hi)] at h2
    rw [ck] at h2
    split at h2<;>cases h2
  have ha:vs[i]?=some v:=by
   unfold start at h2
   rw [bf (by simpa using hi),aT] at h2
   cases e:vs[i]? with
   | none=>rw [e] at h2;cases h2
   | some a=>rw [e] at h2;cases h2;rfl
  obtain ⟨u,hu,rv⟩:=r.get ha
  have hp:ps[i]?=some y:=by
   rw [<- S.pre,List.getElem?_take_of_lt (by omega)];exact h1
  have ndP:ps.Nodup:=by rw [<- S.pre];exact S.nd.sublist (List.take_sublist _ _)
  refine ⟨u,rv,?_⟩
  rcases S.par y (dh hp) with k | k
  ·exact .inl ⟨k,Bf ndP hp hu k⟩
  ·obtain ⟨c,e⟩:=D_ (n:=s.heap.objs.size + 1) k
   refine .inr ⟨.inl k,c,e,?_⟩
   have q:=x.cell y c e
   rw [Bg ndP hp hu (by show scope.names.lookup y≠_;rw [k];decide)] at q
   exact q
 ·exact e0.hok.fresh (ca (x.above y c (dA h)))
 ·unfold start
  show _=N.length
  rw [aM,ao,cZ]
  omega
theorem VG {CX:Kz}{P:aK}{w:bc}{K:a8}{mg:Str->Option aa}{base:bF}{k:Nat}{f:ak}{name qual:Str}{params:Arguments}{body:List c_}{scope:gE}{dV kV doc pm cdv ct oc:aa}{an od:Option ak}
  {osl:Array (Option aa)}{N ps:List Str}{sp:Sp} (lk:K.lookup f=some ⟨oc,od,.func (gf name qual params body scope dV kV doc pm an cdv ct),osl⟩) (hcd:mv K cdv qual=true) (S:bD N ps scope)
  (len:∀ vs H Q E,sp vs H Q E->vs.length=ps.length)
  (hbody:∀ (A:aX) (outer:List Env) (s:af) (H:Hp) (vs:List V) (Q:VK) (E:XK),lG k (A.deeper (tS qual scope s.heap.objs.size f cdv))->sp vs H Q E ->
   ∃ t,IA (ke CX P w K mg base N qual scope f cdv A outer s H E) body t/\t { nx:=fun _ H'=>Q .non H',rt:=Q } (start N vs) H) :
  sQ P w K mg base CX (k + 1) f (gf name qual params body scope dV kV doc pm an cdv ct) ps sp:=by
 refine ⟨len,fun A outer s H args us vs Q E hr e0 hb r hsp=>?_⟩
 have hl:=len _ _ _ _ hsp
 have KX:K.In s.heap:=e0.mod.kin.keeps fun b o e=>(e0.bs b o e).1
 have lim:s.heap.NoLimit:=e0.mod.nolimit.keeps fun b o e=>(e0.bs b o e).1
 have hkind:∀ y∈ps.zip us,scope.names.lookup y.1=some .local\/(scope.names.lookup y.1=some .cell/\((br (s.heap.objs.size + 1) scope.names []).lookup y.1).isSome=true):=fun ⟨n,v⟩ hy=>by
  rcases S.par n (Ad hy).1 with q | q
  ·exact .inl q
  ·exact .inr ⟨q,i3 _ _ _ (.inl q)⟩
 refine codeAny_call_function hr.depth (KX _ _ lk) rfl S.co S.gen rfl (Gp KX hcd) (hb _ _ _ _ ?_)
 refine wpAny_newFunctionEnv_cells S.kind hkind fun env he s1 x=>?_
 subst he
 refine ⟨lim.keeps x.toInCall.keep,codeAny_func ?_⟩
 obtain ⟨t,ht,hq⟩:=hbody A outer s H vs Q E (hr.deeper _) hsp
 have I:bX (ke CX P w K mg base N qual scope f cdv A outer s H E) [] (start N vs) H s1:=KA S hr.hd e0 hl r x
 refine bL (ht [] s1 (start N vs) H _ I hq) (fun fl s' hs=>?_) fun e s' hs=>hs
 have fin:∀ {σ':St}{H':Hp}{v:V}{u:aa},bX (ke CX P w K mg base N qual scope f cdv A outer s H E) [] σ' H' s'->dq v u->Q v H'->CE outer P w H s Q u s' :=
  fun {σ' H' v u} J rv q=>⟨v,H',J.os,J.bare,J.base,J.hok,rv,q⟩
 cases fl with
 | ret u =>
  obtain ⟨v,σ',H',J,rv,q⟩:=hs
  exact fin J rv q
 | next =>
  obtain ⟨σ',H',J,q⟩:=hs
  exact fin (v:=V.non) (u:=dX) J rfl q
 | brk =>
  obtain ⟨_,_,_,q⟩:=hs
  exact iQ q
 | cont =>
  obtain ⟨_,_,_,q⟩:=hs
  exact iQ q
end L2
namespace L2
open PySem PySem.Spec PyProof.Rows
section
variable {X:Cx}{x:Str}{p pos:Pos}{e:aZ}{es:List aZ}{t:TA}{id T:String}{r:List V->Hp->VK->Prop}
def VH (r:List V->Hp->VK->Prop) (t:TA):TE:=fun σ H Q=>t σ H fun vs H1=>r vs H1 Q
theorem uY (hc:jz X (.builtin id) r) (hg:Gl X x) (hm:X.mg x=none) (hv:iF x=some (.builtin id)) (ha:PA X (e::es) t) (hn:x≠"__name__":=by decide) (hdb:(x == ("__debug__" : Str))=false:=by decide)
  (he:aO (e::es) X.env=(false,eE e X.env)::aO es X.env:=by rfl) (hpl:(jn pos (aO es X.env)).any (·.1)=false:=by rfl):PE X (.Call (.Name x p) (e::es) [] pos) (VH r t):=by
 intro pins s σ H Q I h
 refine yC (wo I hg hm hv ?_ hn hdb)
 exact PyProof.Rows.callWith_builtin1 (fN (ha pos pins s σ H _ I h) fun us s1 h_27=>by obtain ⟨vs,H1,I1,r1,q1⟩:=h_27;exact hc pins s1 σ H1 vs us Q I1 r1 q1) he hpl
theorem Bh (hc:jz X (.type T) r) (hg:Gl X x) (hm:X.mg x=none) (hv:iF x=some (.type T)) (ha:PA X (e::es) t) (hn:x≠"__name__":=by decide) (hdb:(x == ("__debug__" : Str))=false:=by decide)
  (he:aO (e::es) X.env=(false,eE e X.env)::aO es X.env:=by rfl) (hpl:(jn pos (aO es X.env)).any (·.1)=false:=by rfl):PE X (.Call (.Name x p) (e::es) [] pos) (VH r t):=by
 intro pins s σ H Q I h
 refine yC (wo I hg hm hv ?_ hn hdb)
 exact i0 (fN (ha pos pins s σ H _ I h) fun us s1 h_28=>by obtain ⟨vs,H1,I1,r1,q1⟩:=h_28;exact hc pins s1 σ H1 vs us Q I1 r1 q1) he hpl
end
end L2
namespace HT
open PySem PyProof.Rows
section
open PySem.SeqAt
open PySem.AutoSeq1 (wpAny_loadPart')
open PySem.MeetsSeq PySem.MeetsSeq2 PySem.MeetsSeq3
end
section
variable {prog:aK}{w:bc}{A:aX}{E:aa->af->Prop}{s:af}
theorem QI {t b:ak}{vs ws:List aa}{Q:aa->af->Prop} (ht:IsTup s.heap t vs.toArray) (hb:IsTup s.heap b ws.toArray) (hv:vs≠[])
  (h1:ws=[]->Q (.ref t) s) (h2:ws≠[]->Q (.ref s.heap.objs.size) { s with heap:=s.heap.push { cls:=.type "tuple",data:=.seq (vs++ws).toArray } })
  (hsz:vs.length + ws.length<=sizeLine):au (ax prog w) A (gG .Add (.ref t) (.ref b)) Q E s:=by
 obtain ⟨⟨cls,dd,data,sl⟩,ho,hc,n,hd⟩:=id ht
 obtain ⟨⟨cls2,dd2,data2,sl2⟩,ho2,hc2,n2,hd2⟩:=id hb
 simp only at hc hd hc2 hd2
 subst hc hd hc2 hd2
 have e:vs.toArray++ws.toArray=(vs++ws).toArray:=by simp
 by_cases hw:ws=[]
 ·exact Ak ⟨_,ho,rfl⟩ ⟨_,ho2,rfl⟩ Cd Kb pc oB (nO _ _)
   (tuple_addW1 t b vs.toArray ws.toArray n n2 dd dd2 sl sl2 (by simpa using hv) (by simp [hw])) ⟨ho,ho2,h1 hw⟩
 ·refine Ak ⟨_,ho,rfl⟩ ⟨_,ho2,rfl⟩ Cd Kb pc oB (nO _ _)
   (tuple_addW2 t b vs.toArray ws.toArray n n2 dd dd2 sl sl2 (by simpa using hv) (by simpa using hw) (by rw [aS,aS];exact hsz)) ⟨ho,ho2,?_⟩
  rw [e]
  exact h2 hw
def j6 (n d:Nat):Option Int->Nat
 | none=>d
 | some v=>if v<0 then (v + (n:Int)).toNat else min v.toNat n
theorem E1 (n d:Nat):j6 n d none=d:=rfl
theorem IC (n d k:Nat):j6 n d (some (k:Int))=min k n:=by
 show (if (k:Int)<0 then ((k:Int) + (n:Int)).toNat else min (k:Int).toNat n)=min k n
 rw [if_neg (by omega),ki]
theorem Ua (n d:Nat) (hd:d<=n) (o:Option Int):j6 n d o<=n:=by
 cases o with
 | none=>exact hd
 | some v =>
  show (if v<0 then (v + (n:Int)).toNat else min v.toNat n)<=n
  by_cases hv:v<0
  ·rw [if_pos hv];omega
  ·rw [if_neg hv];exact qu _ _
theorem ID (v:Int) (n d:Nat):(if v<0 then max (v + (n:Int)) 0 else min v (n:Int))=((j6 n d (some v):Nat):Int):=by
 show (if v<0 then max (v + (n:Int)) 0 else min v (n:Int))=(((if v<0 then (v + (n:Int)).toNat else min v.toNat n):Nat):Int)
 by_cases hv:v<0
 ·simp only [if_pos hv];omega
 ·simp only [if_neg hv];omega
theorem GM (lo hi:Option Int) (n:Nat):lE lo hi 1 (n:Int)=(((j6 n 0 lo:Nat):Int),((j6 n n hi:Nat):Int)):=by
 have h1:¬ ((1:Int)<0):=by omega
 unfold lE
 simp only [h1,if_false]
 refine Prod.ext ?_ ?_
 ·cases lo with
  | none=>rfl
  | some v=>exact ID v n 0
 ·cases hi with
  | none=>rfl
  | some v=>exact ID v n n
theorem GN (i j:Nat):iq (i:Int) (j:Int) 1=j - i:=by
 unfold iq
 have h1:(1:Int) > 0:=by omega
 simp only [h1,if_true,Int.ediv_one]
 split<;>omega
theorem yJ {v:aa}{o:Option Int}{Q:Option Int->af->Prop} (p:v_ v o) (h:Q o s):au (ax prog w) A (Builtin.Slice.slicePartIndex v) Q E s:=by
 cases p with
 | none=>exact slicePart_none h
 | int i t=>exact slicePart_int h
theorem oE {sl:ak}{vl vu:aa}{lo hi:Option Int}{n:Nat}{Q:Int×Int×Nat->af->Prop} (hs:s.heap.IsSliceOf sl vl vu .none) (pl:v_ vl lo) (pu:v_ vu hi)
  (h:Q (((j6 n 0 lo:Nat):Int),1,j6 n n hi - j6 n 0 lo) s):au (ax prog w) A (uR (.ref sl) (pure (n:Int))) Q E s:=by
 obtain ⟨os,hos,hcs,hds⟩:=id hs
 unfold uR Builtin.Slice.sliceFields
 refine a7 (a7 (dO hos hds (x:=vl) rfl (a7 (dO hos hds (x:=vu) rfl (a7 (dO hos hds (x:=.none) rfl (a9 ?_)))))))
 refine a7 (slicePart_none ?_)
 show au _ _ (if ((1:Int) == 0)=true then _ else _) _ _ s
 rw [if_neg (by decide)]
 refine a7 (yJ pl (a7 (yJ pu (a7 (a9 ?_)))))
 show au _ _ (match lE lo hi 1 (n:Int) with | (lo,hi)=>pure (lo,(1:Int),iq lo hi 1)) _ _ s
 rw [GM lo hi n]
 show au _ _ (pure (((j6 n 0 lo:Nat):Int),(1:Int),iq ((j6 n 0 lo:Nat):Int) ((j6 n n hi:Nat):Int) 1)) _ _ s
 rw [GN]
 exact a9 h
theorem MS (xs:Array aa) (i k:Nat):((bH k).filterMap fun (m:Nat)=>xs[((i:Int) + (m:Int) * 1).toNat]?).toArray=((xs.toList.drop i).take k).toArray:=by
 have e:(fun (m:Nat)=>xs[((i:Int) + (m:Int) * 1).toNat]?)=fun m=>xs[i + m]?:=by
  funext m
  have:((i:Int) + (m:Int) * 1).toNat=i + m:=by omega
  rw [this]
 rw [e]
 have:=pick_run xs i k
 rw [nc] at this
 have e2:((fun x=>xs[x]?)∘fun x=>i + x)=fun m=>xs[i + m]?:=rfl
 rw [e2] at this
 rw [this]
theorem uZ {t sl:ak}{items:Array aa}{vl vu:aa}{lo hi:Option Int}{Q:aa->af->Prop} (ht:IsTup s.heap t items) (hs:s.heap.IsSliceOf sl vl vu .none) (pl:v_ vl lo) (pu:v_ vu hi)
  (hw:¬ (j6 items.size 0 lo=0/\j6 items.size items.size hi=items.size))
  (h:Q (.ref s.heap.objs.size) { s with heap:=s.heap.push { cls:=.type "tuple",data:=.seq ((items.toList.drop (j6 items.size 0 lo)).take (j6 items.size items.size hi - j6 items.size 0 lo)).toArray } })
  (hsz:items.size<=sizeLine):au (ax prog w) A (qz (.ref t) (.ref sl)) Q E s:=by
 have htake:sizeOk (.seq ((items.toList.drop (j6 items.size 0 lo)).take (j6 items.size items.size hi - j6 items.size 0 lo)).toArray):=by
  show ((items.toList.drop (j6 items.size 0 lo)).take (j6 items.size items.size hi - j6 items.size 0 lo)).toArray.size<=sizeLine
  rw [aS,y8,y9,aq]
  omega
 have hj:j6 items.size items.size hi<=items.size:=Ua _ _ (ar _) hi
 obtain ⟨os,hos,hcs,hds⟩:=id hs
 have hTs:s.TypeIs (.ref sl) "slice":=⟨os,hos,hcs⟩
 unfold qz
 try with_reducible refine dv ?_
 first | refine a7 (a9 ?_) | skip
 refine a7 (wpAny_sequenceKey ht.typeIs (by decide) ?_)
 refine a7 (cq (name:=gR "__getitem__") ht.typeIs fU
  (bJ fU ht.typeIs entry_tuple_getitem ?_ (args_tuple_getitem _ _)))
 show au _ _ (uS (.ref t) >>= _) _ _ s
 refine a7 (tupleItemsOf_ ht ?_)
 refine a7 (tT hTs ?_)
 rw [if_pos (by decide)]
 refine a7 (oE hs pl pu ?_)
 have hno:¬ ((((j6 items.size 0 lo:Nat):Int) == 0 && (1:Int) == 1 && (j6 items.size items.size hi - j6 items.size 0 lo) == items.size)=true):=by
  intro q
  rw [aR,aR] at q
  have q1:((j6 items.size 0 lo:Nat):Int)=0:=eq_of_beq q.1.1
  have q2:j6 items.size items.size hi - j6 items.size 0 lo=items.size:=eq_of_beq q.2
  exact hw ⟨by omega,by omega⟩
 show au _ _ (if (((j6 items.size 0 lo:Nat):Int) == 0 && (1:Int) == 1 && (j6 items.size items.size hi - j6 items.size 0 lo) == items.size)=true then _ else _) _ _ s
 rw [if_neg hno,MS]
 first
  | exact a7 (m:=iH _) (bR (a9 ⟨_,rfl,a9 h⟩) htake)
  | exact a7 (m:=iH _) (bR (a7 (a9 (a9 ⟨_,rfl,a9 h⟩))) htake)
  | exact a7 (a7 (m:=iH _) (bR (a9 (a9 ⟨_,rfl,a9 h⟩)) htake))
  | exact a7 (a7 (m:=iH _) (bR (a9 ⟨_,rfl,a9 h⟩) htake))
end
end HT
namespace L2
open PySem PySem.Spec PyProof.Rows
abbrev TO:=St->Hp->(Option Int->Hp->Prop)->Prop
def PO (X:Cx) (e:Option aZ) (t:TO):Prop :=
 ∀ (pins:List (ak×Obj)) (s:af) (σ:St) (H:Hp) (Q:Option Int->Hp->Prop),bX X pins σ H s->t σ H Q ->
  au (ax X.prog X.w) X.A (evalPart e X.env) (fun u s'=>∃ o H',bX X pins σ H' s'/\v_ u o/\Q o H') X.xe s
def QJ:TO:=fun _ H Q=>Q none H
def VI (t:TE):TO:=fun σ H Q=>t σ H fun x H1=>∃ i,x=.int i/\Q (some i) H1
section
variable {X:Cx}{e:aZ}{te:TE}{lo hi:Option aZ}{tl th:TO}{pos p2:Pos}
theorem QK:PO X none QJ:=by
 intro pins s σ H Q I h
 rw [evalPart_none]
 exact a9 ⟨none,H,I,.none,h⟩
theorem QL (h:PE X e te):PO X (some e) (VI te):=by
 intro pins s σ H Q I hw
 rw [evalPart_some]
 refine fN (h pins s σ H _ I hw) fun u s1 h_29=>?_
 obtain ⟨x,H1,I1,r1,q1⟩:=h_29
 obtain ⟨i,rfl,q⟩:=q1
 obtain ⟨t,rfl⟩:=r1
 exact ⟨some i,H1,I1,.int i t,q⟩
def VJ (X:Cx) (r:V->Option Int->Option Int->Hp->VK->Prop):Prop :=
 ∀ (pins:List (ak×Obj)) (s:af) (σ:St) (H:Hp) (x:V) (v vl vu:aa) (lo hi:Option Int) (sl:ak) (Q:VK),bX X pins σ H s->dq x v->s.heap.IsSliceOf sl vl vu .none->v_ vl lo->v_ vu hi->r x lo hi H Q ->
  ∃ T id,typeLookup (.type T) "__getitem__"=pure (some (.builtin id))/\s.TypeIs v T/\au (ax X.prog X.w) X.A (qz v (.ref sl)) (EP X pins σ Q) X.xe s
def Zd (r:V->Option Int->Option Int->Hp->VK->Prop) (te:TE) (tl th:TO):TE:=fun σ H Q=>te σ H fun x H1=>tl σ H1 fun l H2=>th σ H2 fun u H3=>r x l u H3 Q
theorem MT {r:V->Option Int->Option Int->Hp->VK->Prop} (hr:VJ X r) (he:PE X e te) (hl:PO X lo tl) (hu:PO X hi th):PE X (.Subscript e (.Slice lo hi none p2) pos) (Zd r te tl th):=by
 intro pins s σ H Q I h
 refine Subscript_ (fN (he pins s σ H _ I h) fun v s1 ⟨x,H1,I1,r1,q1⟩=>?_)
 refine wpAny_Slice (fN (hl pins s1 σ H1 _ I1 q1) fun vl s2 ⟨l,H2,I2,pl,q2⟩=>fN (hu pins s2 σ H2 _ I2 q2) fun vu s3 ⟨u,H3,I3,pu,q3⟩=>?_)
 rw [evalPart_none]
 refine a9 ?_
 have I4:bX X pins σ H3 { s3 with heap:=s3.heap.push { cls:=.type "slice",data:=.fields #[vl,vu,.none] } }:=I3.kept (t':=s3.toks) fun b ob q=>ac _ q
 obtain ⟨T,id,hT,ht,hg⟩:=hr pins { s3 with heap:=s3.heap.push { cls:=.type "slice",data:=.fields #[vl,vu,.none] } } σ H3 x v vl vu l u s3.heap.objs.size Q I4 r1 (Heap.IsSliceOf.new ..) pl pu q3
 show au (ax X.prog X.w) X.A (Kc e (.Slice lo hi none p2) v (.ref s3.heap.objs.size)) (EP X pins σ Q) X.xe { s3 with heap:=s3.heap.push { cls:=.type "slice",data:=.fields #[vl,vu,.none] } }
 exact tail_any (ops:=[.ref s3.heap.objs.size,v]) ht hT hg (by with_unfolding_all rfl)
def E2 (xs:List V) (lo hi:Option Int):List V:=(xs.drop (HT.j6 xs.length 0 lo)).take (HT.j6 xs.length xs.length hi - HT.j6 xs.length 0 lo)
theorem xo (xs:List V) (lo hi:Option Int):(E2 xs lo hi).length<=xs.length:=by
 unfold E2
 rw [y8,y9]
 omega
def Y2 (K:a8):V->Option Int->Option Int->Hp->VK->Prop:=fun x lo hi H Q=>∃ a xs,x=.ref a/\l7 K H a xs /\
 ¬ (HT.j6 xs.length 0 lo=0/\HT.j6 xs.length xs.length hi=xs.length)/\∀ p,H p=none->Q (.ref p) (upd H p (.tup (E2 xs lo hi)))
theorem Ub:VJ X (Y2 X.K):=by
 intro pins s σ H x v vl vu lo hi sl Q I rx hs pl pu h
 obtain ⟨a,xs,rfl,hx,hw,q⟩:=h
 cases rx
 obtain ⟨its,r,ht,hz⟩:=I.tuple hx
 have hlen:its.toArray.size=xs.length:=by rw [aS];exact r.length.symm
 refine ⟨"tuple",_,PyProof.Rows.slot_tuple_getitem.lookup,ht.typeIs,?_⟩
 refine HT.uZ ht hs pl pu (by rw [hlen];exact hw) ?_ (by rw [hlen];exact hz)
 rw [hlen]
 refine ⟨.ref s.heap.objs.size,_,I.laid (t':=s.toks) (o:=.tup (E2 xs lo hi)) (fun b ob q=>ac _ q) (ar _) ?_,rfl,q _ (I.hok.fresh (ar _))⟩
 exact ⟨cy (xo xs lo hi) hz,_,(r.drop (HT.j6 xs.length 0 lo)).take (HT.j6 xs.length xs.length hi - HT.j6 xs.length 0 lo),xD _ _⟩
inductive MU (K:a8) (x:V) (y:V) (H:Hp) (Q:VK):Prop
 | mk (a b xs ys:_) (h0:x=.ref a) (h1:y=.ref b) (h2:l7 K H a xs) (h3:l7 K H b ys) (h4:xs≠[]) (h5:xs.length + ys.length<=sizeLine) (h6:(ys=[]->Q (.ref a) H)) (h7:(ys≠[]->∀ p,H p=none->Q (.ref p) (upd H p (.tup (xs++ys))))):MU K x y H Q
def VL (K:a8):R2:=MU K
theorem dC.nil_iff {xs:List V}{us:List aa} (r:dC xs us):us=[]↔xs=[]:=by
 cases r with
 | nil=>simp
 | cons _ _=>simp
theorem QM:qD X (gG .Add) (VL X.K):=by
 intro pins s σ H x y v u Q I rx ry h
 obtain ⟨a,b,xs,ys,rfl,rfl,ha,hb,hx,hz,q1,q2⟩:=h
 cases rx
 cases ry
 obtain ⟨its,r1,p1,_⟩:=I.tuple ha
 obtain ⟨its2,r2,p2,_⟩:=I.tuple hb
 refine HT.QI p1 p2 (fun z=>hx (r1.nil_iff.mp z)) (fun z=>⟨.ref a,H,I,rfl,q1 (r2.nil_iff.mp z)⟩) (fun z=>?_) (by rw [<- r1.length,<- r2.length];exact hz)
 refine ⟨.ref s.heap.objs.size,_,I.laid (t':=s.toks) (o:=.tup (xs++ys)) (fun b ob q=>ac _ q) (ar _) ?_,rfl,q2 (fun w=>z (r2.nil_iff.mpr w)) _ (I.hok.fresh (ar _))⟩
 exact ⟨by rw [aM];exact hz,_,r1.append r2,xD _ _⟩
end
end L2
namespace L2
open PySem PySem.Spec PyProof.Rows
def S8 (n:Nat) (i:Int):Option Nat:=if 0<=i then (if i<n then some i.toNat else none) else if -(n:Int)<=i then some (i + n).toNat else none
def DR {α:Type} (xs:List α) (i:Int):Option α:=(S8 xs.length i).bind fun j=>xs[j]?
theorem QN {n:Nat}{i:Int}{j:Nat} (h:S8 n i=some j):seqIndex? i n=some j/\j<n/\-(n:Int)<=i/\i<n:=by
 unfold S8 at h
 by_cases h0:0<=i
 ·rw [if_pos h0] at h
  by_cases h1:i<n
  ·rw [if_pos h1] at h
   have e:i.toNat=j:=bM h
   exact ⟨by rw [seqIndex_of h0 h1,e],by omega,by omega,h1⟩
  ·rw [if_neg h1] at h;cases h
 ·rw [if_neg h0] at h
  by_cases h1:-(n:Int)<=i
  ·rw [if_pos h1] at h
   have e:(i + n).toNat=j:=bM h
   exact ⟨by rw [seqIndex_neg (by omega) h1,e],by omega,h1,by omega⟩
  ·rw [if_neg h1] at h;cases h
theorem Ct {α:Type}{xs:List α}{i:Int}{v:α} (h:DR xs i=some v):∃ j,seqIndex? i xs.length=some j/\xs[j]?=some v/\j<xs.length/\-(xs.length:Int)<=i/\i<xs.length:=by
 unfold DR at h
 cases e:S8 xs.length i with
 | none=>rw [e] at h;cases h
 | some j =>
  rw [e] at h
  obtain ⟨h1,h2,h3,h4⟩:=QN e
  exact ⟨j,h1,h,h2,h3,h4⟩
theorem rN {α:Type}{xs:List α}{j:Nat}{v:α} (h:xs[j]?=some v):DR xs (j:Int)=some v:=by
 have hj:j<xs.length:=(List.getElem?_eq_some_iff.mp h).1
 have e:S8 xs.length (j:Int)=some j:=by
  unfold S8
  rw [if_pos (by omega),if_pos (by omega)];simp
 unfold DR;rw [e];exact h
def u_ (b:aZ):Prop:=∀ o i,DN b false o i=operate [o,i] (qz o i)
def VM (X:Cx) (r:R2):Prop :=
 ∀ (value slice:aZ) (pins:List (ak×Obj)) (s:af) (σ:St) (H:Hp) (x y:V) (v u:aa) (Q:VK),bX X pins σ H s->dq x v->dq y u->r x y H Q ->
  DN slice false v u=operate [v,u] (qz v u)->au (ax X.prog X.w) X.A (Kc value slice v u) (EP X pins σ Q) X.xe s
def Ze (X:Cx) (id:String) (r:V->List V->Hp->VK->Prop):Prop :=
 ∀ (pins:List (ak×Obj)) (s:af) (σ:St) (H:Hp) (x:V) (xs:List V) (v:aa) (us:List aa) (Q:VK),bX X pins σ H s->dq x v->dC xs us->r x xs H Q ->
  au (ax X.prog X.w) X.A (call (.builtin id) (v::us)) (EP X pins σ Q) X.xe s
section
variable {X:Cx}{a b:aZ}{ta tb:TE}{pos:Pos}
theorem S9 {r:R2} (hr:VM X r) (ha:PE X a ta) (hb:PE X b tb) (hs:u_ b):PE X (.Subscript a b pos) (Vz r ta tb):=by
 intro pins s σ H Q I h
 exact Subscript_ (TY ha hb I h fun v u s2 x y H2 I2 rx ry q=>hr a b pins s2 σ H2 x y v u Q I2 rx ry q (hs _ _))
inductive Sc (K:a8) (x:V) (y:V) (H:Hp) (Q:VK):Prop
 | mk (p xs i v:_) (h0:x=.ref p) (h1:y=.int i) (h2:ph K H p xs) (h3:DR xs i=some v) (h4:Q v H):Sc K x y H Q
def VN (K:a8):R2:=Sc K
inductive Sd (K:a8) (x:V) (y:V) (H:Hp) (Q:VK):Prop
 | mk (p xs i v:_) (h0:x=.ref p) (h1:y=.int i) (h2:l7 K H p xs) (h3:DR xs i=some v) (h4:Q v H):Sd K x y H Q
def Y3 (K:a8):R2:=Sd K
inductive Se (x:V) (y:V) (H:Hp) (Q:VK):Prop
 | mk (z i c:_) (h0:x=.str z) (h1:y=.int i) (h2:z.length<=sizeLine) (h3:DR z.cps.toList i=some c) (h4:Q (.str ⟨#[c]⟩) H):Se  x y H Q
def Y4:R2:=Se
theorem rO:VM X (VN X.K):=by
 intro value slice pins s σ H x y v u Q I rx ry h hs
 obtain ⟨p,xs,i,z,rfl,rfl,hq,he,q⟩:=h
 cases rx
 obtain ⟨t,rfl⟩:=ry
 obtain ⟨its,r,pl,hz⟩:=I.list hq
 obtain ⟨j,h1,h2,h3,h4,h5⟩:=Ct he
 obtain ⟨w,ew,rw'⟩:=r.get h2
 have hl:=r.length
 have hn:=wq
 have fin:EP X pins σ Q w s:=⟨z,H,I,rw',q⟩
 by_cases h0:0<=i
 ·have hj:i.toNat=j:=by
   rw [seqIndex_of h0 h5] at h1
   exact bM h1
  exact item_listR pl.isList h0 (by omega) (by rw [hj];simpa using ew) fin hs
 ·have hj:(i + (its.toArray.size:Int)).toNat=j:=by
   rw [seqIndex_neg (by omega) h4] at h1
   rw [aS,<- hl]
   exact bM h1
  exact Mk (x:=w) pl.isList.typeIs slot_list_getitem.lookup
   (wpAny_getItem_list_neg (Q:=fun r s'=>r=w/\EP X pins σ Q r s') pl.isList (by omega) (by rw [aS]<;>omega) (by omega) (by rw [hj];simpa using ew) ⟨rfl,fin⟩) hs
theorem Uc:VM X (Y3 X.K):=by
 intro value slice pins s σ H x y v u Q I rx ry h hs
 obtain ⟨p,xs,i,z,rfl,rfl,hq,he,q⟩:=h
 cases rx
 obtain ⟨t,rfl⟩:=ry
 obtain ⟨its,r,pl,hz⟩:=I.tuple hq
 obtain ⟨j,h1,h2,h3,h4,h5⟩:=Ct he
 obtain ⟨w,ew,rw'⟩:=r.get h2
 have hl:=r.length
 have hn:=wq
 have fin:EP X pins σ Q w s:=⟨z,H,I,rw',q⟩
 exact Mk (x:=w) pl.typeIs slot_tuple_getitem.lookup
  (getItem_tuple (j:=j) (Q:=fun r s'=>r=w/\EP X pins σ Q r s') pl (by omega) (by omega) (by rw [aS,<- hl];exact h1) (by simpa using ew) ⟨rfl,fin⟩) hs
theorem Ud:VM X Y4:=by
 intro value slice pins s σ H x y v u Q I rx ry h hs
 obtain ⟨z,i,c,rfl,rfl,hz,he,q⟩:=h
 obtain ⟨t,rfl⟩:=rx
 obtain ⟨t',rfl⟩:=ry
 obtain ⟨j,h1,h2,h3,h4,h5⟩:=Ct he
 have hl:z.cps.toList.length=z.length:=by simp [Str.length]
 rw [hl] at h1 h4 h5
 have hn:=wq
 exact tail_any (typeIs_str s z t) slot_str_getitem.lookup (getItem_str (c:=c) (by
  have e1:decide (i < -(2 ^ 63:Int))=false:=decide_eq_false (by omega)
  have e2:decide (i ≥ 2 ^ 63)=false:=decide_eq_false (by omega)
  rw [e1,e2,Bool.or_false]) (by rw [h1];simpa using h2) ⟨.str ⟨#[c]⟩,H,I.tok _,⟨_,rfl⟩,q⟩) hs
theorem Cu (lo hi:Option Int) (n:Nat):(mX lo hi none n).1=((HT.j6 n 0 lo:Nat):Int)/\(mX lo hi none n).2.1=((HT.j6 n n hi:Nat):Int)/\(mX lo hi none n).2.2=1:=by
 refine ⟨?_,?_,rfl⟩
 ·cases lo with
  | none=>simp [mX,HT.j6]
  | some i =>
   simp only [mX,HT.j6,hU,show (1:Int) > 0 by decide,if_true]
   by_cases h:i<0
   ·simp only [h,if_true]<;>omega
   ·simp only [h,if_false]<;>omega
 ·cases hi with
  | none=>simp [mX,HT.j6]
  | some i =>
   simp only [mX,HT.j6,hU,show (1:Int) > 0 by decide,if_true]
   by_cases h:i<0
   ·simp only [h,if_true]<;>omega
   ·simp only [h,if_false]<;>omega
theorem Ay (its:List aa) (lo hi:Option Int):slicePick its.toArray lo hi none=((its.drop (HT.j6 its.length 0 lo)).take (HT.j6 its.length its.length hi - HT.j6 its.length 0 lo)).toArray:=by
 obtain ⟨h1,h2,h3⟩:=Cu lo hi its.toArray.size
 unfold slicePick
 rw [h1,h2,h3]
 simp only [sliceRange_one,pick_run,aS]<;>rfl
def Y5 (K:a8):V->Option Int->Option Int->Hp->VK->Prop:=fun x lo hi H Q=>∃ a xs,x=.ref a/\ph K H a xs/\∀ p,H p=none->Q (.ref p) (upd H p (.lst (E2 xs lo hi)))
theorem QO:VJ X (Y5 X.K):=by
 intro pins s σ H x v vl vu lo hi sl Q I rx hs pl pu h
 obtain ⟨a,xs,rfl,hx,q⟩:=h
 cases rx
 obtain ⟨its,r,ht,hz⟩:=I.list hx
 have hlen:=r.length
 refine ⟨"list",_,slot_list_getitem.lookup,ht.isList.typeIs,?_⟩
 refine wpAny_getItem_list_slice ht.isList hs pl pu .none (by simp) ?_ (by rw [aS]<;>omega)
 rw [Ay,<- hlen]
 refine ⟨.ref s.heap.objs.size,_,I.laid (t':=s.toks) (o:=.lst (E2 xs lo hi)) (fun b ob q=>ac _ q) (ar _) ?_,rfl,q _ (I.hok.fresh (ar _))⟩
 exact ⟨cy (xo xs lo hi) hz,_,0,(r.drop (HT.j6 xs.length 0 lo)).take (HT.j6 xs.length xs.length hi - HT.j6 xs.length 0 lo),aw _ rfl⟩
def qP:V->Bool
 | .non=>true
 | .bl _=>true
 | .int _=>true
 | .str _=>true
 | _=>false
def QP:V->V->Bool
 | .non,.non=>true
 | .bl a,.bl b=>a == b
 | .bl a,.int b=>(if a then 1 else 0) == b
 | .int a,.bl b=>a == (if b then 1 else 0)
 | .int a,.int b=>a == b
 | .str a,.str b=>a == b
 | _,_=>false
theorem Ue {A:aX}{s:af}{y x:V}{u v:aa} (ry:dq y u) (rx:dq x v) (fy:qP y=true) (fx:qP x=true):SeqAt.EqAt A s u v (QP y x):=by
 cases y with
 | non =>
  cases ry
  cases x with
  | non=>cases rx;exact SeqAt.EqAt.same _
  | bl b=>cases rx;exact SeqAt.EqAt.none_bool b
  | int b=>obtain ⟨t,rfl⟩:=rx;exact SeqAt.EqAt.none_int b t
  | str b=>obtain ⟨t,rfl⟩:=rx;exact SeqAt.EqAt.none_str b t
  | _=>exact absurd (show false=true from fx) bq
 | bl a =>
  cases ry
  cases x with
  | non=>cases rx;exact SeqAt.EqAt.bool_none a
  | bl b=>cases rx;exact SeqAt.EqAt.bool_bool a b
  | int b=>obtain ⟨t,rfl⟩:=rx;exact SeqAt.EqAt.bool_int a b t
  | str b=>obtain ⟨t,rfl⟩:=rx;exact SeqAt.EqAt.bool_str a b t
  | _=>exact absurd (show false=true from fx) bq
 | int a =>
  obtain ⟨t',rfl⟩:=ry
  cases x with
  | non=>cases rx;exact SeqAt.EqAt.int_none a t'
  | bl b=>cases rx;exact SeqAt.EqAt.int_bool a t' b
  | int b=>obtain ⟨t,rfl⟩:=rx;exact SeqAt.EqAt.int_int a t' b t
  | str b=>obtain ⟨t,rfl⟩:=rx;exact DL a t' b t
  | _=>exact absurd (show false=true from fx) bq
 | str a =>
  obtain ⟨t',rfl⟩:=ry
  cases x with
  | non=>cases rx;exact SeqAt.EqAt.str_none a t'
  | bl b=>cases rx;exact SeqAt.EqAt.str_bool a t' b
  | int b=>obtain ⟨t,rfl⟩:=rx;exact DM a t' b t
  | str b=>obtain ⟨t,rfl⟩:=rx;exact SeqAt.EqAt.str_str a t' b t
  | _=>exact absurd (show false=true from fx) bq
 | _=>exact absurd (show false=true from fy) bq
def GO (x:V) (u:aa):Bool:=match u with
 | .none=>QP .non x
 | .bool b=>QP (.bl b) x
 | .int i _=>QP (.int i) x
 | .str z _=>QP (.str z) x
 | _=>false
theorem MV {x y:V}{u:aa} (r:dq y u) (f:qP y=true):GO x u=QP y x:=by
 cases y with
 | non=>cases r;rfl
 | bl b=>cases r;rfl
 | int i=>obtain ⟨t,rfl⟩:=r;rfl
 | str z=>obtain ⟨t,rfl⟩:=r;rfl
 | _=>exact absurd (show false=true from f) bq
theorem v5 {x:V}:∀ {xs:List V}{us:List aa},dC xs us->xs.all qP=true->us.any (GO x)=xs.any fun y=>QP y x
 | _,_,.nil,_=>rfl
 | y::xs,u::us,.cons r t,f=>by
  rw [uT,aR] at f
  rw [dY,dY,MV r f.1,v5 t f.2]
theorem qQ {A:aX}{s:af}{x:V}{v:aa} (rx:dq x v) (fx:qP x=true):∀ {xs:List V}{us:List aa},dC xs us->xs.all qP=true->∀ u∈us,SeqAt.EqAt A s u v (GO x u)
 | _,_,.nil,_=>fun u hu=>by cases hu
 | y::xs,u::us,.cons r t,f=>fun u' hu=>by
  rw [uT,aR] at f
  rcases List.mem_cons.mp hu with rfl | hu
  ·rw [MV r f.1];exact Ue r rx f.1 fx
  ·exact qQ rx fx t f.2 u' hu
def Xm (x:V) (xs:List V):Bool:=xs.any fun y=>QP y x
inductive VO (K:a8) (neg:Bool) (x:V) (y:V) (H:Hp) (Q:VK):Prop
 | mk (p xs:_) (h0:y=.ref p) (h1:(ph K H p xs\/l7 K H p xs)) (h2:qP x=true) (h3:xs.all qP=true) (h4:Q (.bl (if neg then !Xm x xs else Xm x xs)) H):VO K neg x y H Q
def Y6 (K:a8) (neg:Bool):R2:=VO K neg
theorem KB:qD X (bO .In) (Y6 X.K false):=by
 intro pins s σ H x y v u Q I rx ry h
 obtain ⟨p,xs,rfl,hq,fx,fs,q⟩:=h
 cases ry
 rcases hq with hq | hq
 ·obtain ⟨its,r,pl,hz⟩:=I.list hq
  refine SeqAt.in_listAt (GO x) pl.isList (fun w hw=>qQ rx fx r fs w (by simpa using hw)) ⟨.bl _,H,I,rfl,?_⟩
  rw [show its.toArray.any (GO x)=its.any (GO x) by simp,v5 r fs]
  exact q
 ·obtain ⟨its,r,pl,hz⟩:=I.tuple hq
  refine SeqAt.in_tupleAt (GO x) pl (fun w hw=>qQ rx fx r fs w (by simpa using hw)) ⟨.bl _,H,I,rfl,?_⟩
  rw [show its.toArray.any (GO x)=its.any (GO x) by simp,v5 r fs]
  exact q
theorem Cv:qD X (bO .NotIn) (Y6 X.K true):=by
 intro pins s σ H x y v u Q I rx ry h
 obtain ⟨p,xs,rfl,hq,fx,fs,q⟩:=h
 cases ry
 rcases hq with hq | hq
 ·obtain ⟨its,r,pl,hz⟩:=I.list hq
  refine SeqAt.notIn_listAt (GO x) pl.isList (fun w hw=>qQ rx fx r fs w (by simpa using hw)) ⟨.bl _,H,I,rfl,?_⟩
  rw [show its.toArray.any (GO x)=its.any (GO x) by simp,v5 r fs]
  exact q
 ·obtain ⟨its,r,pl,hz⟩:=I.tuple hq
  refine SeqAt.notIn_tupleAt (GO x) pl (fun w hw=>qQ rx fx r fs w (by simpa using hw)) ⟨.bl _,H,I,rfl,?_⟩
  rw [show its.toArray.any (GO x)=its.any (GO x) by simp,v5 r fs]
  exact q
theorem v6:jz X (.builtin "len") (fun xs H Q=>∃ p ys,xs=[.ref p]/\(ph X.K H p ys\/l7 X.K H p ys)/\Q (.int ys.length) H):=by
 intro pins s σ H xs us Q I r h
 obtain ⟨p,ys,rfl,hq,q⟩:=h
 obtain ⟨u,rfl,rx⟩:=l8 r
 cases rx
 have hn:=wq
 rcases hq with hq | hq
 ·obtain ⟨its,r',pl,hz⟩:=I.list hq
  have hlen:=r'.length
  exact Calls.call_len_list pl.isList (by simp only [aS]<;>omega) ⟨.int ys.length,H,I.tok _,⟨s.toks + 1,by rw [aS,hlen]⟩,q⟩
 ·obtain ⟨its,r',pl,hz⟩:=I.tuple hq
  have hlen:=r'.length
  exact len_tuple pl (by simp only [aS]<;>omega) ⟨.int ys.length,H,I.tok _,⟨s.toks + 1,by rw [aS,hlen]⟩,q⟩
theorem Cy:jz X (.builtin "len") (fun xs H Q=>∃ z,xs=[.str z]/\z.length<=sizeLine/\Q (.int z.length) H):=by
 intro pins s σ H xs us Q I r h
 obtain ⟨z,rfl,hz,q⟩:=h
 obtain ⟨u,rfl,t,rfl⟩:=l8 r
 have hn:=wq
 exact len_str (by omega) ⟨.int z.length,H,I.tok _,⟨_,rfl⟩,q⟩
theorem v7:jz X (.type "list") (fun xs H Q=>∃ p ys,xs=[.ref p]/\(ph X.K H p ys\/l7 X.K H p ys)/\∀ l,H l=none->Q (.ref l) (upd H l (.lst ys))):=by
 intro pins s σ H xs us Q I r h
 obtain ⟨p,ys,rfl,hq,q⟩:=h
 obtain ⟨u,rfl,rx⟩:=l8 r
 cases rx
 have fin:∀ (its:List aa),dC ys its->ys.length<=sizeLine->∀ (h':bF) (c':Nat),(∀ b o',s.heap.get? b=some o'->h'.get? b=some o') ->
   h'.get? s.heap.objs.size=some { cls:=.type "list",dict:=none,data:=.seq its.toArray c',slots:=#[] }->EP X pins σ Q (.ref s.heap.objs.size) { s with heap:=h' }:=fun its r' hz h' c' kp e =>
  ⟨.ref s.heap.objs.size,_,I.laid (t':=s.toks) kp (ar _) (show dw X.prog X.w _ h' _ (.lst ys) from ⟨hz,its,c',r',e⟩),rfl,q _ (I.hok.fresh (ar _))⟩
 rcases hq with hq | hq
 ·obtain ⟨its,r',pl,hz⟩:=I.list hq
  have hlen:=r'.length
  obtain ⟨o,ho,hc,n,hd⟩:=pl.isList
  exact call_list_seq p (.inl rfl) ho hc hd (fun h' c' kp e=>fin its r' hz h' c' kp e) (by simp only [aS]<;>omega)
 ·obtain ⟨its,r',pl,hz⟩:=I.tuple hq
  have hlen:=r'.length
  obtain ⟨o,ho,hc,n,hd⟩:=pl
  exact call_list_seq p (.inr rfl) ho hc hd (fun h' c' kp e=>fin its r' hz h' c' kp e) (by simp only [aS]<;>omega)
theorem tf:jz X (.type "tuple") (fun xs H Q=>∃ p ys,xs=[.ref p]/\((ph X.K H p ys/\∀ l,H l=none->Q (.ref l) (upd H l (.tup ys)))\/(l7 X.K H p ys/\Q (.ref p) H))):=by
 intro pins s σ H xs us Q I r h
 obtain ⟨p,ys,rfl,h⟩:=h
 obtain ⟨u,rfl,rx⟩:=l8 r
 cases rx
 rcases h with ⟨hq,q⟩ | ⟨hq,q⟩
 ·obtain ⟨its,r',pl,hz⟩:=I.list hq
  have hlen:=r'.length
  refine call_tuple_list pl.isList (fun h' kp=>?_) (by simp only [aS]<;>omega)
  have I1:bX X pins σ H { s with heap:=h' }:=I.kept (t':=s.toks) kp
  have I2:bX X pins σ (upd H h'.objs.size (.tup ys)) { s with heap:=h'.push { cls:=.type "tuple",data:=.seq its.toArray } } :=
   I1.laid (t':=s.toks) (fun b o e=>ac _ e) (ar _) (show dw X.prog X.w _ _ _ (.tup ys) from ⟨hz,its,r',xD _ _⟩)
  exact ⟨.ref h'.objs.size,_,I2,rfl,q _ (I1.hok.fresh (ar _))⟩
 ·obtain ⟨its,r',pl,hz⟩:=I.tuple hq
  exact call_tuple_same pl ⟨.ref p,H,I,rfl,q⟩
def YM (K:a8) (T:String) (x:V) (H:Hp):Prop:=match x with
 | .str _=>T="str"
 | .int _=>T="int"
 | .ref p=>(T="list"/\∃ xs,ph K H p xs)\/(T="tuple"/\∃ o,K.lookup p=some o/\o.cls=.type "tuple"/\o.dict=none) \/
   (T="dict"/\((∃ kvs,H p=some (.dK kvs))\/∃ kvs,H p=some (.dT kvs)))\/(T="set"/\∃ S n,H p=some (.set S n))
 | _=>False
theorem Uf {pins:List (ak×Obj)}{σ:St}{H:Hp}{s:af}{T:String}{x:V}{v:aa} (I:bX X pins σ H s) (r:dq x v) (ty:YM X.K T x H) :
  s.TypeIs v T/\∀ a,v=.ref a->∃ ob,s.heap.get? a=some ob/\ob.dict=none:=by
 cases x with
 | str z =>
  obtain ⟨t,rfl⟩:=r
  cases (show T="str" from ty)
  exact ⟨typeIs_str s z t,fun _ e=>nomatch e⟩
 | int i =>
  obtain ⟨t,rfl⟩:=r
  cases (show T="int" from ty)
  exact ⟨typeIs_int s i t,fun _ e=>nomatch e⟩
 | ref p =>
  cases r
  rcases ty with ⟨rfl,xs,hq⟩ | ⟨rfl,o,hk,hc,hd⟩ | ⟨rfl,hk⟩ | ⟨rfl,S,n,hk⟩
  ·obtain ⟨its,_,pl,_⟩:=I.list hq
   refine ⟨pl.isList.typeIs,fun a e=>?_⟩
   cases e
   obtain ⟨o,n,e,c,hd,_⟩:=pl
   exact ⟨o,e,hd⟩
  ·refine ⟨⟨o,I.kIn p o hk,hc⟩,fun a e=>?_⟩
   cases e
   exact ⟨o,I.kIn _ o hk,hd⟩
  ·have z:∃ o,s.heap.get? p=some o/\o.ExactDict:=by
    rcases hk with ⟨kvs,hk⟩ | ⟨kvs,hk⟩
    ·obtain ⟨_,_,_,_,o,_,_,e,ex,_⟩:=I.hok p _ hk
     exact ⟨o,e,ex⟩
    ·obtain ⟨_,_,_,_,o,_,_,e,ex,_⟩:=I.hok p _ hk
     exact ⟨o,e,ex⟩
   obtain ⟨o,e,ex⟩:=z
   refine ⟨⟨o,e,ex.1⟩,fun a e2=>?_⟩
   cases e2
   exact ⟨o,e,ex.2.1⟩
  ·obtain ⟨o,_,_,_,e,ex,_⟩:=I.hok p _ hk
   refine ⟨⟨o,e,ex.1⟩,fun a e2=>?_⟩
   cases e2
   exact ⟨o,e,ex.2.1⟩
 | _=>exact iQ ty
def Zf (K:a8) (T:String) (r:V->List V->Hp->VK->Prop) (to:TE) (t:TA):TE:=fun σ H Q=>to σ H fun x H1=>YM K T x H1/\t σ H1 fun xs H2=>r x xs H2 Q
variable {o e:aZ}{es:List aZ}{to:TE}{t:TA}{name:Str}{apos cpos:Pos}{T id:String}{r:V->List V->Hp->VK->Prop}
theorem Sf (pa:PlainAttrs T) (slot:Slot T name id) (hty:typeOf (.builtin id)=pure (.type "method_descriptor")) (hm:Ze X id r) (ho:PE X o to) (ha:PA X (e::es) t)
  (hbase:Ke o name X.env (eE o X.env)=eE o X.env:=by rfl)
  (hfew:((jn cpos (aO (e::es) X.env)).all (fun x=>!x.1) && (backToKw cpos (Q4 [] X.env)).all (fun x=>x.1.isSome)
   && decide ((e::es).length + ([] : List Aj).length + (if ([] : List Aj).isEmpty then 0 else 1)<30))=true:=by rfl)
  (hline:(apos.endLine == cpos.line)=true:=by rfl) (hs:aO (e::es) X.env=(false,eE e X.env)::aO es X.env:=by rfl) (hplain:(jn cpos (aO es X.env)).any (·.1)=false:=by rfl) :
  PE X (.Call (.Attribute o name apos) (e::es) [] cpos) (Zf X.K T r to t):=by
 intro pins s σ H Q I h
 refine wpAny_Call_method_late hbase hfew hline rfl (fN (ho pins s σ H _ I h) fun v s1 ⟨x,H1,I1,r1,ty,q1⟩=>?_)
 obtain ⟨h1,h2⟩:=Uf I1 r1 ty
 refine ⟨T,id,pa,slot,hty,h1,h2,?_⟩
 have hA:=ha cpos pins s1 σ H1 _ I1 q1
 rw [hs] at hA ⊢
 refine Calls.callWith_builtin (by show (false || (jn cpos (aO es X.env)).any (·.1))=false;rw [hplain]<;>rfl) (Gq ?_)
 exact fN hA fun us s2 h_30=>by obtain ⟨vs,H2,I2,r2,q2⟩:=h_30;exact hm pins s2 σ H2 x vs v us Q I2 r1 r2 q2
end
end L2
namespace L2
open PySem PySem.Spec PyProof.Rows
def Zg (X:Cx) (id:String) (r:V->List V->Hp->VK->Prop):Prop :=
 ∀ (pins:List (ak×Obj)) (s:af) (σ:St) (H:Hp) (x:V) (xs:List V) (v:aa) (us:List aa) (Q:VK),bX X pins σ H s->dq x v->dC xs us->r x xs H Q ->
  au (ax X.prog X.w) X.A (call (.builtin id) (v::us)) (EP X pins σ Q) X.xe s
theorem dC.one {x:V}{us:List aa} (h:dC [x] us):∃ u,us=[u]/\dq x u:=by
 cases h with | cons r t=>cases t;exact ⟨_,rfl,r⟩
section
variable {X:Cx}{pins:List (ak×Obj)}{σ:St}{H:Hp}{s:af}{l b:ak}{xs ys zs:List V}
theorem bX.lset {its its':List aa}{n:Nat}{f:Array aa->Array aa}{t':Nat} (I:bX X pins σ H s) (hH:H l=some (.lst xs))
  (e:s.heap.get? l=some { cls:=.type "list",data:=.seq its.toArray n }) (hf:f its.toArray=its'.toArray) (hv:dC ys its') (hz:ys.length<=sizeLine) :
  bX X pins σ (upd H l (.lst ys)) { s with heap:=s.heap.update l (gW f),toks:=t' }:=by
 have q:=PySem.IsL.update e f
 rw [hf] at q
 refine I.write (x:=l) (e:=l) (by rw [hH];exact trivial) (.inl rfl) (fun b' u hb hu=>(fw s.heap (gW f) (cV hb)).trans hu) ⟨_,q⟩ ?_
 exact ⟨hz,its',_,hv,q⟩
theorem bX.lnew {its:List aa}{t':Nat} (I:bX X pins σ H s) (hv:dC ys its) (hz:ys.length<=sizeLine) :
  bX X pins σ (upd H s.heap.objs.size (.lst ys)) { s with heap:=s.heap.push { cls:=.type "list",data:=.seq its.toArray },toks:=t' } :=
 I.laid (fun _ _ q=>ac _ q) (ar _) ⟨hz,its,0,hv,aw _ rfl⟩
theorem bX.fresh (I:bX X pins σ H s):H s.heap.objs.size=none:=I.hok.fresh (ar _)
theorem bX.lstM (I:bX X pins σ H s) (hH:H l=some (.lst xs)):YJ s.heap l xs:=by
 obtain ⟨z,its,n,r,e⟩:=I.hok l _ hH
 exact ⟨z,its,n,r,r.length,e⟩
end
section
variable {X:Cx}
inductive E3 (x:V) (vs:List V) (H:Hp) (Q:VK):Prop
 | mk (l xs y:_) (h0:x=.ref l) (h1:vs=[y]) (h2:H l=some (.lst xs)) (h3:xs.length<sizeLine) (h4:Q .non (upd H l (.lst (xs++[y])))):E3  x vs H Q
def QQ:V->List V->Hp->VK->Prop:=E3
theorem Bj:Zg X "list.append" QQ:=by
 intro pins s σ H x vs v us Q I rx rv h
 obtain ⟨l,xs,y,rfl,rfl,hH,hz,q⟩:=h
 cases rx
 obtain ⟨u,rfl,ru⟩:=rv.one
 obtain ⟨z,its,n,r,hl,e⟩:=I.lstM hH
 refine call_meets F.slot_list_append ⟨_,e,rfl⟩ F.entry_list_append (F.args_list_append_2 _ _) (PySem.list_append l its.toArray n u (by rw [aS];omega)) ⟨e,?_⟩
 refine ⟨.non,_,I.lset (its':=its++[u]) hH e (by simp) (r.append (.cons ru .nil)) ?_,rfl,q⟩
 rw [aM,dJ]
 omega
end
section
variable {prog:aK}{w:bc}{A:aX}{E:aa->af->Prop}{s:af}
end
section
variable {X:Cx}
end
end L2
namespace Att
open PySem PySem.W PySem.Calls PyProof.Rows
theorem xM {P:Params}{h:bF}:∀ (ns:List Int) (vs:List aa),WellAll P h vs (ns.map WData.int)->Ml vs ns:=by
 intro ns
 induction ns with
 | nil =>
  intro vs w
  rw [d_] at w
  cases w
  exact .nil
 | cons n ns ih =>
  intro vs w
  rw [av] at w
  cases w with
  | cons a b =>
   cases a
   exact .cons _ _ (ih _ b)
theorem KC {l:OpenLaw}{n:Nat} (hn:l.most=some n) {P:Params}{h:bF}{args:List WData}{vals:List aa}
  (hpre:l.row.toRowW.claim.pre args=true) (hwl:WellAll P h vals args) :
  ∃ a vs ns,vals=[bu a]/\args=[WData.list (ns.map WData.int)]/\h.get? a=some { cls:=.type "list",data:=.seq vs.toArray }/\Ml vs ns/\ns.length<=n:=by
 have hsh:WShape.hasAll [] args [.list .int]=true:=(pre_splitW hpre).1
 have hc:l.pre.holds [] { args:=args }=true:=(pre_splitW hpre).2
 obtain ⟨d,r,rfl,h1,h2⟩:=hasAllW_cons hsh
 obtain rfl:=hasAllW_nil h2
 obtain ⟨xs,rfl,h3⟩:=hasW_list h1
 obtain ⟨ns,rfl⟩:=items_int h3
 have hlen:ns.length<=n:=by
  unfold OpenLaw.pre at hc
  have h4:(WTm.not (.lt (.lit (.int (n:Int))) (.len (.arg 0)))).holds [] { args:=[.list (ns.map .int)] }=true:=by
   have h4:=(holds_andW hc).1
   rw [hn] at h4
   exact h4
  have h5:=condW_of h4 (w_not (w_lt w_lit (w_len_list (w_arg rfl))))
  rw [ao] at h5
  refine Q5 fun q=>?_
  have q':(n:Int)<((ns.length:Nat):Int):=by omega
  first
   | (rw [decide_eq_true q'] at h5;exact absurd h5 (by decide))
   | (simp at h5;omega)
 cases hwl with
 | cons w1 w2 =>
  cases w2
  cases w1 with
  | list ho hall=>exact ⟨_,_,ns,rfl,rfl,ho,xM ns _ hall,hlen⟩
theorem KD (l:OpenLaw) (args:List WData):l.row.toRowW.claim.post args (.bool true) args=true :=
 postW_of (r:=l.row.toRowW) (X:=(true == true))
  (show WShape.has [] (.bool true) .bool=true by first | rfl | decide | simp [WShape.has,WShape.arms,WShape.armsAll])
  (show (WTm.eq .res (.lit (.bool true))).value [] { args:=args,res:=some (.bool true),after:=args }=some (.bool (true == true)) from w_eq_bool (w_res rfl) w_lit) rfl
theorem attach_call {l:OpenLaw}{n:Nat}{q:aK}{loose:List Str}{XP:(Str->Option aa)->bF->Prop}{YP:bc->bF->Prop}{d:DefRec}
  (hn:l.most=some n) (hdf:d.params.defaults=[])
  (call:∀ (w:bc) (s₀ s₁:af) (mg mb:Str->Option aa) (fa:ak) (o:Obj) (pm cd doc:aa) (a:ak) (vs:List aa) (ns:List Int),
   Ground q loose [] XP w s₀ mg mb s₁.heap->YP w s₁.heap ->
   s₁.heap.get? fa=some o->o.data=.func (docDef d.name d.params d.body d.scope pm cd doc)->s₁.heap.CodeRec cd d.name->mg d.name=some (.ref fa) ->
   s₁.heap.get? a=some { cls:=.type "list",data:=.seq vs.toArray }->Ml vs ns->ns.length<=n->s₁.gens=#[] ->
   jE (ax l.prog w) xj (.call (.ref fa) ⟨[.ref a],[]⟩) (fun r s'=>r=.ok (.ret (.bool true))/\OldK s₁.heap s'.heap/\s'.os=s₁.os/\qy s'.gens) s₁) :
  WalkO q loose XP YP l.row.toRowW d [] (fun f vs=>Kf f vs):=by
 intro w s₀ s₁ mg mb G Y fa o pm cd doc dV kV ho hd hcd hD hmg hg args vals as hpre hlay hrd hwl hlo
 obtain rfl:dV=.none:=Dflts.none hD hdf
 obtain rfl:kV=.none:=Dflts.noKw hD
 obtain ⟨a,vs,ns,rfl,rfl,hobj,hints,hlen⟩:=KC hn hpre hwl
 refine enter_call (tR (call w s₀ s₁ mg mb fa o pm cd doc a vs ns G Y ho (fd_plain hd) hcd hmg hobj hints hlen hg) fun r s' hq=>?_)
 obtain ⟨rfl,h2,h3,h4⟩:=hq
 exact ⟨.inl ⟨.bool true,.bool true,[],rfl,fun _=>rfl,.bool true,KD l _,fun _=>⟨qH,fun _ hm=>(nomatch hm)⟩⟩,h2,h3,h4⟩
section
variable {prog:aK}{w:bc}{A:aX}{E:aa->af->Prop}{s:af}{K:Frag}
def Y7 (h:bF) (L d:ak):List (ak×Obj):=(bH h.objs.size).filterMap fun a=>if a=L\/a=d then none else (h.get? a).map fun o=>(a,o)
end
end Att
namespace L2
open PySem PySem.Spec PyProof.Rows
theorem KF {vs:List aa}{ns:List Int} (h:Ml vs ns):dC (ns.map V.int) vs:=by
 induction h with
 | nil=>exact .nil
 | cons n t h ih=>exact .cons ⟨t,rfl⟩ ih
def Ug (H:Hp):Prop:=∀ b,H b=none\/∃ o xs,H b=some (.frz o (.lst xs))
theorem MW {P:aK}{w:bc}{K:a8}{mg mb:Str->Option aa}{CX:Kz}{k:Nat}{fa a:ak}{fd:eP}{x:Str}{sp:Sp}{s₁:af}{vs:List aa}{ns:List Int}
  (KX:K.In s₁.heap) (hns:s₁.heap.Ns bQ mg) (hb:s₁.heap.Ns builtinsNs mb) (hbb:∀ x:Str,x≠"__name__"->mb x=iF x) (hlim:s₁.heap.NoLimit) (hg:s₁.gens=#[])
  (ha:s₁.heap.get? a=some { cls:=.type "list",data:=.seq vs.toArray }) (hi:Ml vs ns) (hl:ns.length<=sizeLine) (hr:lG k xj)
  (F:∀ base:bF,K.In base->base.Ns bQ mg->sQ P w K mg base CX k fa fd [x] sp) (hbind:∀ (s:af) (u:aa),Ai s fd ⟨[u],[]⟩ [(x,u)])
  (hsp:∀ H:Hp,Ug H->ph K H a (ns.map V.int)->sp [.ref a] H (fun v _=>v=.bl true) fun _ _ _=>False)
  (hCX:∀ H e s',CX [] H s₁ (fun _ _ _=>False) e s'->False) :
  jE (ax P w) xj (.call (.ref fa) ⟨[.ref a],[]⟩) (fun r s'=>r=.ok (.ret (.bool true))/\OldK s₁.heap s'.heap/\s'.os=s₁.os/\qy s'.gens) s₁:=by
 have rv:=KF hi
 have lenV:=hi.length
 have core:∀ H:Hp,Ug H->ph K H a (ns.map V.int)->qv P w H s₁.heap->(∀ b,H b≠none->b=a)->(H a≠none->K.lookup a=none) ->
   jE (ax P w) xj (.call (.ref fa) ⟨[.ref a],[]⟩) (fun r s'=>r=.ok (.ret (.bool true))/\OldK s₁.heap s'.heap/\s'.os=s₁.os/\qy s'.gens) s₁:=by
  intro H hO hS hok hA hK
  have base_of:∀ {b:ak}{o:Obj},s₁.heap.get? b=some o->H b=none->(Ck s₁.heap H).get? b=some o:=fun e n=>MD e n
  have noA:∀ {b:ak}{o:Obj}{es:Array mw}{ep:Nat},s₁.heap.get? b=some o->o.data=.dict es ep->H b=none:=fun {b o es ep} e d=>by
   cases q:H b with
   | none=>rfl
   | some u =>
    have e':b=a:=hA b (by rw [q];simp)
    subst e'
    rw [ha] at e;cases e
    have d':Data.seq vs.toArray _=Data.dict es ep:=d
    cases d'
  have nsK:∀ {b:ak}{m:Str->Option aa},s₁.heap.Ns b m->(Ck s₁.heap H).Ns b m:=fun {b m} ⟨o,es,ep,e,d,r⟩=>⟨o,es,ep,base_of e (noA e d),d,r⟩
  have hKb:K.In (Ck s₁.heap H):=fun b o e=>base_of (KX b o e) (by
   cases q:H b with
   | none=>rfl
   | some u =>
    have e':b=a:=hA b (by rw [q];simp)
    subst e'
    rw [hK (by rw [q];simp)] at e;cases e)
  have hM:Mod K mg (Ck s₁.heap H):=⟨hKb,nsK hns,⟨mb,nsK hb,hbb⟩,let ⟨mc,h1,h2⟩:=hlim;⟨mc,nsK h1,h2⟩⟩
  have e0:QG P w K mg (Ck s₁.heap H) xj [] s₁ H:=⟨rfl,hM,fun b o e=>Qt e,Nat.le_of_eq (Kt _ _),trivial,fun b hb=>absurd (show b∈([] : List ak) from hb) (by simp),hok,.of_eq hg⟩
  refine tR ((F _ hKb (nsK hns)).run xj [] s₁ H ⟨[.ref a],[]⟩ [.ref a] [.ref a] _ _ hr e0 (hbind s₁ (.ref a)) (.cons rfl .nil) (hsp H hO hS)) fun r s' h=>?_
  cases r with
  | error e=>exact (hCX H e s' h).elim
  | ok fl =>
   cases fl with
   | next=>exact iQ h
   | brk=>exact iQ h
   | cont=>exact iQ h
   | ret u =>
    obtain ⟨v,H',os,bare,un,hok',r',q⟩:=h
    have q':v=.bl true:=q
    subst q'
    obtain rfl:u=K6 true:=r'
    refine ⟨rfl,OldK.of_keep fun b o e=>?_,os,bare⟩
    cases q:H b with
    | none=>exact un.keep b o e q (by intro z;exact absurd (show b∈([] : List ak) from z) (by simp)) (by simp)
    | some u =>
     rcases hO b with z | ⟨ob,xs,z⟩
     ·rw [q] at z;cases z
     ·have z2:=un.frzs b ob _ z
      obtain ⟨e1,_⟩:=hok b _ z
      obtain ⟨e2,_⟩:=hok' b _ z2
      rw [e] at e1;cases e1
      exact e2
 cases hk:K.lookup a with
 | some o =>
  have e:=KX a o hk
  rw [ha] at e
  cases e
  refine core (fun _=>none) (fun _=>.inl rfl) (.inr ⟨_,vs.toArray,_,hk,rfl,rfl,rfl,by rw [aS,lenV];exact hl,by simpa using rv⟩) (fun b u z=>by have z':(none:Option HO)=some u:=z;cases z') (fun b z=>absurd rfl z) fun z=>absurd rfl z
 | none =>
  refine core (fun b=>if b=a then some (.frz { cls:=.type "list",data:=.seq vs.toArray } (.lst (ns.map V.int))) else none) (fun b=>?_) (.inl (.inr ⟨{ cls:=.type "list",data:=.seq vs.toArray },if_pos rfl⟩)) (fun b u z=>?_) (fun b z=>?_) fun _=>hk
  ·by_cases hb:b=a
   ·exact .inr ⟨_,_,if_pos hb⟩
   ·exact .inl (if_neg hb)
  ·by_cases hb:b=a
   ·have z':=(if_pos hb).symm.trans z
    cases z'
    subst hb
    exact ⟨ha,by rw [ao];exact hl,vs,_,rv,ha⟩
   ·have z':=(if_neg hb).symm.trans z
    cases z'
  ·by_cases hb:b=a
   ·exact hb
   ·exact absurd (if_neg hb) z
end L2
namespace L2
open PySem PySem.Spec PyProof.Rows
abbrev Zo {K:a8}{h:bF} (_:K.In h):a8:=K
theorem QR {l:xE}{n k:Nat}{q:aK}{loose:List Str}{XP:(Str->Option aa)->bF->Prop}{YP:bc->bF->Prop}{d:DefRec}{K:Params->a8}{CX:bc->Kz}{sp:bc->Sp}{x:Str}
  (hn:l.most=some n) (hn2:n<=sizeLine) (hdf:d.params.defaults=[]) (hr:lG k xj)
  (hY:∀ (w:bc) (h:bF),YP w h->(K w.params).In h)
  (F:∀ (w:bc) (mg:Str->Option aa) (fa:ak) (h:bF),(K w.params).In h->h.Ns bQ mg->mg d.name=some (.ref fa) ->
   ∃ fd:eP,(∀ (s:af) (u:aa),Ai s fd ⟨[u],[]⟩ [(x,u)]) /\
    ∀ base:bF,(K w.params).In base->base.Ns bQ mg->sQ l.prog w (K w.params) mg base (CX w) k fa fd [x] (sp w))
  (hsp:∀ (w:bc) (H:Hp) (a:ak) (ns:List Int),ns.length<=n->Ug H->ph (K w.params) H a (ns.map V.int)->sp w [.ref a] H (fun v _=>v=.bl true) fun _ _ _=>False)
  (hCX:∀ (w:bc) (H:Hp) (s:af) (e:aa) (s':af),CX w [] H s (fun _ _ _=>False) e s'->False) :
  PP q loose XP YP l.row.toRowW d [] (fun f vs=>Kf f vs):=by
 refine Att.attach_call hn hdf fun w s₀ s₁ mg mb fa o pm cd doc a vs ns G Y ho hd hcd hmg hobj hints hlen hg=>?_
 have KX:=hY w _ Y
 obtain ⟨fd,hb,hF⟩:=F w mg fa _ KX G.T.g hmg
 exact MW KX G.T.g G.T.b G.T.builtins G.T.nolimit hg hobj hints (cy hlen hn2) hr hF hb (fun H hO hS=>hsp w H a ns hlen hO hS) fun H e s'=>hCX w H s₁ e s'
end L2
namespace L2
open PySem PySem.Spec PyProof.Rows
def kP (s:c_):Arguments:=match s with
 | .FunctionDef _ a _ _ _ _ _ _ _ _=>a
 | _=>{ posonlyargs:=[],args:=[],vararg:=none,kwonlyargs:=[],kw_defaults:=[],kwarg:=none,defaults:=[] }
def iu (s:c_):List c_:=match s with
 | .FunctionDef _ _ b _ _ _ _ _ _ _=>b
 | _=>[]
def az (s:c_):gE:=match s with
 | .FunctionDef _ _ _ _ _ _ sc _ _ _=>sc
 | _=>{ kind:=.function,names:=[],isGenerator:=false,isCoroutine:=false }
abbrev E0:XK:=fun _ _ _=>False
structure KG (K:a8) (x qual:Str) (st:c_) (f:ak) (fd:eP):Prop where
 ex:∃ (oc:aa) (od:Option ak) (kV doc pm:aa) (an:Option ak) (cdv ct:aa) (osl:Array (Option aa)),
  fd=gf x qual (kP st) (iu st) (az st) .none kV doc pm an cdv ct/\K.lookup f=some ⟨oc,od,.func fd,osl⟩/\mv K cdv qual=true
 kp:fA K (.ref f)=true
section
variable {P:aK}{w:bc}{K:a8}{mg:Str->Option aa}{base:bF}
theorem KG.binds {x qual:Str}{st:c_}{f:ak}{fd:eP}{ps:List Str} (F:KG K x qual st f fd)
  (h:∀ (kV doc pm:aa) (an:Option ak) (cdv ct:aa) (us:List aa),us.length=ps.length->Q3 (gf x qual (kP st) (iu st) (az st) .none kV doc pm an cdv ct) ⟨us,[]⟩=pure (ps.zip us)):lM K fd ps []:=by
 obtain ⟨oc,od,kV,doc,pm,an,cdv,ct,osl,rfl,lk,hcd⟩:=F.ex
 exact .all (h kV doc pm an cdv ct)
theorem MX {x qual:Str}{st:c_}{f:ak}{oc:aa}{od an:Option ak}{osl:Array (Option aa)}{kV doc pm cdv ct:aa} (l:K.lookup f=some ⟨oc,od,.func (gf x qual (kP st) (iu st) (az st) .none kV doc pm an cdv ct),osl⟩)
  (c:mv K cdv qual=true) (k:fA K (.ref f)=true):KG K x qual st f (gf x qual (kP st) (iu st) (az st) .none kV doc pm an cdv ct):=⟨⟨oc,od,kV,doc,pm,an,cdv,ct,osl,rfl,l,c⟩,k⟩
end
theorem iJ {A:aX}{k:Nat} (hr:lG k A):A.units + 1<gT:=w9 (Nat.add_le_add_left (by decide:1<=64) _) hr.units
theorem dW {n:Nat} (h:n<=1000):n<sizeLine:=w9 h (by decide)
section
variable {X:Cx}
end
theorem Cz {A B:Prop} (h:B):if false=true then A else B:=by
 rw [if_neg bq]
 exact h
theorem CA {A B:Prop} (h:A):if true=true then A else B:=by
 rw [if_pos rfl]
 exact h
def dD (H H':Hp):Prop:=∀ b o,H b=some o->H' b=some o
theorem dD.refl (H:Hp):dD H H:=fun _ _ h=>h
theorem dD.trans {H H1 H2:Hp} (a:dD H H1) (b:dD H1 H2):dD H H2:=fun c o h=>b c o (a c o h)
theorem dD.free {H H':Hp} (e:dD H H') {l:ak} (h:H' l=Option.none):H l=Option.none:=by
 cases q:H l with
 | none=>rfl
 | some o =>
  rw [e l o q] at h
  cases h
theorem dD.seq {K:a8}{H H':Hp}{a:ak}{xs:List V} (e:dD H H') (h:ph K H a xs):ph K H' a xs:=by
 rcases h with (h | ⟨o,h⟩) | h
 ·exact .inl (.inl (e _ _ h))
 ·exact .inl (.inr ⟨o,e _ _ h⟩)
 ·exact .inr h
end L2
end
section
namespace L2
open PySem PySem.Spec PyProof.Rows
section
variable {κ:Type} [DecidableEq κ]
def oF (kvs:List (κ×V)) (k:κ):Option V:=(kvs.find? fun kv=>decide (kv.1=k)).map (·.2)
def m_ (kvs:List (κ×V)) (k:κ) (v:V):List (κ×V) :=
 if (kvs.any fun kv=>decide (kv.1=k))=true then kvs.map (fun kv=>if kv.1=k then (kv.1,v) else kv) else kvs++[(k,v)]
def MY (kvs:List (κ×V)) (k:κ):List (κ×V):=kvs.filter fun kv=>decide (kv.1≠k)
theorem yK {p:κ×V}{r:List (κ×V)}{k:κ} (e:p.1=k):oF (p::r) k=some p.2:=by simp [oF,bS,e]
theorem yL {p:κ×V}{r:List (κ×V)}{k:κ} (e:¬ p.1=k):oF (p::r) k=oF r k:=by simp [oF,bS,e]
theorem E4 (k:κ):∀ kvs:List (κ×V),(kvs.any fun kv=>decide (kv.1=k))=(oF kvs k).isSome
 | []=>rfl
 | p::r=>by
  rw [dY]
  by_cases e:p.1=k
  ·simp only [yK e,decide_eq_true e,Bool.true_or,uJ]
  ·rw [yL e,decide_eq_false e,uU];exact E4 k r
theorem qR (kvs:List (κ×V)) (k:κ) (v:V):(m_ kvs k v).length<=kvs.length + 1:=by
 unfold m_
 split
 ·rw [ao];omega
 ·rw [aM,aW,bT];omega
theorem yH.isSome_eq  (r:yH o u):o.isSome=u.isSome:=by
 cases o with
 | none=>cases u with
  | none=>rfl
  | some _=>exact (show False from r).elim
 | some _=>cases u with
  | none=>exact (show False from r).elim
  | some _=>rfl
theorem KV.val {kvs:List (κ×V)}{vs:List (κ×aa)} (r:KV kvs vs) (k:κ):yH (oF kvs k) (Al vs k):=by
 unfold KV at r
 induction r with
 | nil=>exact j3
 | @cons p q ps qs h t ih =>
  obtain ⟨h1,h2⟩:=h
  by_cases e:p.1=k
  ·have e':q.1=k:=h1.symm.trans e
   have b:Al (q::qs) k=some q.2:=by simp [Al,bS,e']
   rw [yK e,b];exact h2
  ·have e':¬ q.1=k:=fun z=>e (h1.trans z)
   have b:Al (q::qs) k=Al qs k:=by simp [Al,bS,e']
   rw [yL e,b];exact ih
theorem KV.any  (r:KV kvs vs) (k:κ):(kvs.any fun kv=>decide (kv.1=k))=vs.any fun kv=>decide (kv.1=k):=by
 unfold KV at r
 induction r with
 | nil=>rfl
 | cons h t ih=>rw [dY,dY,ih,h.1]
theorem KV.repl  (r:KV kvs vs) (k:κ)  (ry:dq y u) :
  KV (kvs.map fun kv=>if kv.1=k then (kv.1,y) else kv) (vs.map fun kv=>if kv.1=k then (kv.1,u) else kv):=by
 unfold KV at r ⊢
 induction r with
 | nil=>exact .nil
 | @cons p q ps qs h t ih =>
  rw [av,av]
  refine .cons ?_ ih
  obtain ⟨h1,h2⟩:=h
  by_cases e:p.1=k
  ·rw [if_pos e,if_pos (h1.symm.trans e)];exact ⟨h1,ry⟩
  ·rw [if_neg e,if_neg (fun z=>e (h1.trans z))];exact ⟨h1,h2⟩
theorem KV.put  (r:KV kvs vs) (k:κ)  (ry:dq y u):KV (m_ kvs k y) (stored vs k u):=by
 unfold m_ stored
 rw [r.any k]
 by_cases e:(vs.any fun kv=>decide (kv.1=k))=true
 ·rw [if_pos e,if_pos e];exact r.repl k ry
 ·rw [if_neg e,if_neg e];exact Paired.snoc r ⟨rfl,ry⟩
theorem KV.length  (r:KV kvs vs):kvs.length=vs.length:=jj r
end
theorem E5    (r:dq (kV k) u):(gm P w).is k u=true:=by
 cases k with
 | inl i=>obtain ⟨t,e⟩:=(show ∃ t,u=mT i t from r);subst e;exact DX P w i t
 | inr x=>obtain ⟨t,e⟩:=(show ∃ t,u=jM x t from r);subst e;exact DY P w x t
theorem Bk  : ∀ {ks:List fQ}{us:List aa},dC (ks.map kV) us->ItemsAre (gm P w) ks us
 | [],_,r=>by rw [d_] at r;cases r;exact .nil
 | k::ks,_,r=>by
  rw [av] at r
  cases r with
  | cons h t=>exact .cons (E5 h) (Bk t)
abbrev KT (H:Hp):List (List fQ×V)->List (List fQ×ak×aa)->Prop:=Gk fun p q=>p.1=q.1/\H q.2.1=some (.tup (p.1.map kV))/\dq p.2 q.2.2
theorem KT.val {H:Hp}{kvs:List (List fQ×V)}{xs:List (List fQ×ak×aa)} (r:KT H kvs xs) (k:List fQ):yH (oF kvs k) ((Gr xs k).map (·.2)):=by
 induction r with
 | nil=>exact j3
 | @cons p q ps qs h t ih =>
  obtain ⟨h1,_,h2⟩:=h
  by_cases e:p.1=k
  ·have e':q.1=k:=h1.symm.trans e
   have b:Gr (q::qs) k=some q.2:=by simp [Gr,bS,e']
   rw [yK e,b];exact h2
  ·have e':¬ q.1=k:=fun z=>e (h1.trans z)
   have b:Gr (q::qs) k=Gr qs k:=by simp [Gr,bS,e']
   rw [yL e,b];exact ih
theorem KT.repl   (r:KT H kvs xs) (k:List fQ)  (ry:dq y u) :
  KT H (kvs.map fun kv=>if kv.1=k then (kv.1,y) else kv) (xs.map (putAt k u)):=by
 induction r with
 | nil=>exact .nil
 | @cons p q ps qs h t ih =>
  rw [av,av]
  refine .cons ?_ ih
  obtain ⟨h1,h2,h3⟩:=h
  unfold putAt
  by_cases e:p.1=k
  ·rw [if_pos e,if_pos (h1.symm.trans e)];exact ⟨h1,h2,ry⟩
  ·rw [if_neg e,if_neg (fun z=>e (h1.trans z))];exact ⟨h1,h2,h3⟩
theorem KT.put   (r:KT H kvs xs) (k:List fQ)   (hb:H b=some (.tup (k.map kV))) (ry:dq y u) :
  KT H (m_ kvs k y) (storedH xs k b u):=by
 have e:(kvs.any fun kv=>decide (kv.1=k))=(Gr xs k).isSome:=by
  rw [E4,(r.val k).isSome_eq,vU]
 unfold m_ storedH
 rw [e]
 by_cases q:(Gr xs k).isSome=true
 ·rw [if_pos q,if_pos q];exact r.repl k ry
 ·rw [if_neg q,if_neg q];exact Paired.snoc r ⟨rfl,hb,ry⟩
theorem KT.keeps   (r:KT H kvs xs) (ht:∀ b ys,H b=some (.tup ys)->H' b=some (.tup ys)):KT H' kvs xs :=
 Paired.mapP r fun _ _ z=>⟨z.1,ht _ _ z.2.1,z.2.2⟩
section
variable {P:aK}{w:bc}{H:Hp}{h:bF}{a:ak}
theorem Sg (ok:qv P w H h) (e:Rd H a u):dw P w H h a u:=e.ok ok
theorem E6 (ok:qv P w H h) (e:Rd H a (.dK kvs)):kvs.length<=sizeLine/\(a == eT)=false/\∃ vs,KV kvs vs/\h.DictOf (gm P w) a vs :=
 show dw P w H h a (.dK kvs) from Sg ok e
theorem VP (ok:qv P w H h) (e:H a=some (.dK kvs)):kvs.length<=sizeLine/\(a == eT)=false/\∃ vs,KV kvs vs/\h.DictOf (gm P w) a vs:=E6 ok (.inl e)
theorem wt (ok:qv P w H h) (e:H a=some (.tup (ks.map kV))):(sJ (gm P w)).is h ks a:=by
 obtain ⟨_,its,r,o,h1,h2,n,h3⟩:=(show dw P w H h a (.tup (ks.map kV)) from ok a _ e)
 exact ⟨o,its.toArray,n,h1,h2,h3,by simpa using Bk r⟩
theorem E7 (ok:qv P w H h) (e:Rd H a (.dT kvs)):kvs.length<=sizeLine/\(a == eT)=false /\
  ∃ xs,KT H kvs xs/\h.DictOfH (sJ (gm P w)) a xs:=by
 obtain ⟨z,y,xs,r,o,es,ep,h1,h2,h3,h4,h5⟩:=(show dw P w H h a (.dT kvs) from Sg ok e)
 refine ⟨z,y,xs,r,o,es,ep,h1,h2,h3,h4,fun x hx=>?_,h5⟩
 have all:∀ {l:List (List fQ×V)}{m:List (List fQ×ak×aa)},KT H l m->∀ x∈m,(sJ (gm P w)).is h x.1 x.2.1:=by
  intro l m q
  induction q with
  | nil=>intro x hx;exact nomatch hx
  | @cons p q ps qs hq t ih =>
   intro x hx
   rcases List.mem_cons.mp hx with e | hx
   ·subst e
    exact wt ok (by rw [<- hq.1];exact hq.2.1)
   ·exact ih x hx
 exact all r x hx
theorem Sh (ok:qv P w H h) (e:H a=some (.dT kvs)):kvs.length<=sizeLine/\(a == eT)=false /\
  ∃ xs,KT H kvs xs/\h.DictOfH (sJ (gm P w)) a xs:=E7 ok (.inl e)
end
def xN (H:Hp) (a:ak) (y:V) (r:Option V):Prop :=
 (∃ kvs k,Rd H a (.dK kvs)/\y=kV k/\r=oF kvs k)\/∃ kvs k b,Rd H a (.dT kvs)/\y=.ref b/\H b=some (.tup (k.map kV))/\r=oF kvs k
def E8 (H:Hp) (a:ak) (y v:V) (H':Hp):Prop :=
 (∃ kvs k,H a=some (.dK kvs)/\y=kV k/\kvs.length<sizeLine/\H'=upd H a (.dK (m_ kvs k v))) \/
 ∃ kvs k b,H a=some (.dT kvs)/\y=.ref b/\H b=some (.tup (k.map kV))/\kvs.length<sizeLine/\H'=upd H a (.dT (m_ kvs k v))
theorem xN.k {H:Hp}{a:ak}{kvs:List (fQ×V)}{k:fQ} (e:H a=some (.dK kvs)):xN H a (kV k) (oF kvs k):=.inl ⟨kvs,k,.inl e,rfl,rfl⟩
theorem xN.t {H:Hp}{a b:ak}{kvs:List (List fQ×V)}{k:List fQ} (e:H a=some (.dT kvs)) (eb:H b=some (.tup (k.map kV))):xN H a (.ref b) (oF kvs k):=.inr ⟨kvs,k,b,.inl e,rfl,eb,rfl⟩
theorem E8.k {H:Hp}{a:ak}{kvs:List (fQ×V)}{k:fQ}{v:V} (e:H a=some (.dK kvs)) (hl:kvs.length<sizeLine):E8 H a (kV k) v (upd H a (.dK (m_ kvs k v))):=.inl ⟨kvs,k,e,rfl,hl,rfl⟩
theorem E8.t {H:Hp}{a b:ak}{kvs:List (List fQ×V)}{k:List fQ}{v:V} (e:H a=some (.dT kvs)) (eb:H b=some (.tup (k.map kV))) (hl:kvs.length<sizeLine) :
  E8 H a (.ref b) v (upd H a (.dT (m_ kvs k v))):=.inr ⟨kvs,k,b,e,rfl,eb,hl,rfl⟩
section
variable {X:Cx}{pins:List (ak×Obj)}{σ:St}{H:Hp}{s:af}{a:ak}{y v:V}{u r:aa}{o:Option V}{A:aX}{E:aa->af->Prop}
theorem bX.big (I:bX X pins σ H s):eT<s.heap.objs.size:=by
 have h:bQ<s.heap.objs.size:=(I.mod.glob.keeps I.bk).lt
 exact eQ (by decide) h
theorem KH (hu:A.units + 1<gT) (I:bX X pins σ H s) (g:xN H a y (some v)) (ry:dq y u) (h:∀ w' s',bX X pins σ H s'->dq v w'->Q w' s') :
  au (ax X.prog X.w) A (qz (.ref a) u) Q E s:=by
 rcases g with ⟨kvs,k,e,ey,l⟩ | ⟨kvs,k,b,e,ey,eb,l⟩
 ·subst ey
  obtain ⟨z,hd,vs,rel,dd⟩:=E6 I.hok e
  obtain ⟨w',hw,rw'⟩:=yH.some_of (v:=v) (o:=Al vs k) (by rw [l];exact rel.val k)
  exact wpAny_getItem_of (E5 ry) dd.mapOf hw (h w' _ (I.tok _) rw')
 ·subst ey
  cases (show u=bu b from ry)
  obtain ⟨z,hd,xs,rel,dd⟩:=E7 I.hok e
  obtain ⟨w',hw,rw'⟩:=yH.some_of (v:=v) (o:=(Gr xs k).map (·.2)) (by rw [l];exact rel.val k)
  obtain ⟨p,hp,hp2⟩:=Option.map_eq_some_iff.mp hw
  refine wpAny_getItem_heap (pd hu) (wt I.hok eb) dd hp ?_
  rw [hp2]
  exact h w' _ (I.tok _) rw'
theorem d_in (hu:A.units + 1<gT) (I:bX X pins σ H s) (g:xN H a y o) (ry:dq y u) (h:∀ s',bX X pins σ H s'->Q (.bool o.isSome) s') :
  au (ax X.prog X.w) A (bO .In u (.ref a)) Q E s:=by
 rcases g with ⟨kvs,k,e,ey,l⟩ | ⟨kvs,k,b,e,ey,eb,l⟩
 ·subst ey
  obtain ⟨z,hd,vs,rel,dd⟩:=E6 I.hok e
  refine wpAny_in_of (E5 ry) hd dd.mapOf ?_
  rw [<- (rel.val k).isSome_eq,<- l]
  exact h _ (I.tok _)
 ·subst ey
  cases (show u=bu b from ry)
  obtain ⟨z,hd,xs,rel,dd⟩:=E7 I.hok e
  refine wpAny_in_heap (pd hu) (wt I.hok eb) hd dd ?_
  have q:=(rel.val k).isSome_eq
  rw [vU] at q
  rw [<- q,<- l]
  exact h _ (I.tok _)
theorem QS (hu:A.units + 1<gT) (I:bX X pins σ H s) (g:xN H a y o) (ry:dq y u) (h:∀ s',bX X pins σ H s'->Q (.bool (!o.isSome)) s') :
  au (ax X.prog X.w) A (bO .NotIn u (.ref a)) Q E s:=by
 rcases g with ⟨kvs,k,e,ey,l⟩ | ⟨kvs,k,b,e,ey,eb,l⟩
 ·subst ey
  obtain ⟨z,hd,vs,rel,dd⟩:=E6 I.hok e
  refine wpAny_notIn_of (E5 ry) hd dd.mapOf ?_
  rw [<- (rel.val k).isSome_eq,<- l]
  exact h _ (I.tok _)
 ·subst ey
  cases (show u=bu b from ry)
  obtain ⟨z,hd,xs,rel,dd⟩:=E7 I.hok e
  refine wpAny_notIn_heap (pd hu) (wt I.hok eb) hd dd ?_
  have q:=(rel.val k).isSome_eq
  rw [vU] at q
  rw [<- q,<- l]
  exact h _ (I.tok _)
theorem CB   (I:bX X pins σ H s) (mu:Vn (H a)) (hs:bN a s.heap h') (he:∃ q,h'.get? a=some q) (new:dw X.prog X.w (upd H a ob) h' a ob) :
  bX X pins σ (upd H a ob) { s with heap:=h',toks:=t' } :=
 I.write (x:=a) (e:=a) mu (.inl rfl) (fun b q hb z=>(hs.2 b hb).trans z) he new
theorem Uh      (z:kvs.length<=sizeLine) (hd:(a == eT)=false) (rel:KV kvs vs) (dd:h'.DictOf (gm P w) a vs) :
  dw P w H' h' a (.dK kvs):=⟨z,hd,vs,rel,dd⟩
theorem KI  (hu:A.units + 1<gT) (I:bX X pins σ H s) (g:E8 H a y v H') (ry:dq y u) (rv:dq v r) (h:∀ s',bX X pins σ H' s'->Q () s') :
  au (ax X.prog X.w) A (setItem (.ref a) u r) Q E s:=by
 rcases g with ⟨kvs,k,e,ey,l,eH⟩ | ⟨kvs,k,b,e,ey,eb,l,eH⟩
 ·subst ey eH
  obtain ⟨z,hd,vs,rel,dd⟩:=VP I.hok e
  have hz:vs.length<=sizeLine:=by rw [<- rel.length];exact z
  have hl:(m_ kvs k v).length<=sizeLine:=by have:=qR kvs k v;omega
  refine wpAny_setItem_pairs (hsz:=hz) (E5 ry) dd fun h' dd' hs=>h _ ?_
  have he:∃ q,h'.get? a=some q:=let ⟨q,_,_,hq,_⟩:=dd';⟨q,hq⟩
  exact CB I (by rw [e];exact j3) hs he (Uh hl hd (rel.put k rv) dd')
 ·subst ey eH
  cases (show u=bu b from ry)
  obtain ⟨z,hd,xs,rel,dd⟩:=Sh I.hok e
  have hz:xs.length<=sizeLine:=by rw [<- jj rel];exact z
  have hl:(m_ kvs k v).length<=sizeLine:=by have:=qR kvs k v;omega
  refine wpAny_setItem_heap (hsz:=hz) (pd hu) (wt I.hok eb) dd fun h' dd' hs=>h _ ?_
  obtain ⟨q,es,ep,hq,h2,h3,h4,_,h5⟩:=dd'
  refine CB I (by rw [e];exact j3) hs ⟨q,hq⟩ ⟨hl,hd,_,(rel.put k eb rv).keeps fun c ys ec=>?_,q,es,ep,hq,h2,h3,h4,h5⟩
  rw [bi (MC ec e (fun z=>nomatch z))]
  exact ec
end
section
variable {X:Cx}{pins:List (ak×Obj)}{σ:St}{H:Hp}{s:af}{a:ak}{kvs:List (fQ×V)}{k:fQ}{u:aa}{A:aX}{E:aa->af->Prop}
end
def VQ (i:aZ):Prop:=∀ ov iv,DN i false ov iv=operate [ov,iv] (qz ov iv)
theorem QT {prog:aK}{w:bc}{A:aX}{E:aa->af->Prop}{s:af}{env:Env}{value slice:aZ}{pos:Pos}{T id:String}{Q:aa->af->Prop}
  (hl:typeLookup (.type T) "__getitem__"=pure (some (.builtin id))) (hs:VQ slice)
  (h:au (ax prog w) A (eE value env) (fun o s₁=>au (ax prog w) A (eE slice env) (fun i s₂=>s₂.TypeIs o T/\au (ax prog w) A (qz o i) Q E s₂) E s₁) E s) :
  au (ax prog w) A (eE (.Subscript value slice pos) env) Q E s:=by
 refine Subscript_ (bL h (fun o s₁ h₁=>bL h₁ (fun i s₂ h₂=>?_) fun _ _ x=>x) fun _ _ x=>x)
 obtain ⟨hT,h₂⟩:=h₂
 unfold Kc
 refine a7 ?_
 rw [getitemInPython_of_ne hT.not_modules]
 refine a7 (wpAny_specialOf hT hl ?_)
 have fin:au (ax prog w) A (DN slice false o i) (fun r s₃=>au (ax prog w) A (letTemporaryGo value o r >>= fun _=>pure r) Q E s₃) E s₂:=by
  rw [hs o i]
  exact wpAny_operating (bL h₂ (fun r s₃ h₃=>a7 (wpAny_letTemporaryGo (a9 h₃))) fun _ _ x=>x)
 first
  | exact a9 (a7 fin)
  | exact a7 (a9 (a7 fin))
  | exact a7 fin
theorem E9        (I:bX X pins σ H s) (g:xN H a y o):s.TypeIs (.ref a) "dict":=by
 rcases g with ⟨kvs,k,e,_,_⟩ | ⟨kvs,k,b,e,_,_,_⟩
 ·obtain ⟨_,_,vs,_,dd⟩:=E6 I.hok e
  exact dd.typeIs
 ·obtain ⟨_,_,xs,_,dd⟩:=E7 I.hok e
  exact dd.typeIs
def VR (td ty:TE):TE:=fun σ H Q=>td σ H fun x H1=>ty σ H1 fun y H2=>∃ a v,x=.ref a/\xN H2 a y (some v)/\Q v H2
def Si (td ty tv:TE):TS:=fun D σ H=>tv σ H fun v H1=>td σ H1 fun x H2=>ty σ H2 fun y H3=>∃ a H4,x=.ref a/\E8 H3 a y v H4/\D.nx σ H4
section
variable {X:Cx}{o i e value:aZ}{pos pos' tpos:Pos}{td ty tv:TE}
theorem IE (hu:X.A.units + 1<gT) (ho:PE X o td) (hi:PE X i ty) (hs:VQ i):PE X (.Subscript o i pos) (VR td ty):=by
 intro pins s σ H Q I h
 refine QT PySem.F.slot_dict_getitem.lookup hs (fN (ho pins s σ H _ I h) fun u s1 ⟨x,H1,I1,rx,q1⟩=>fN (hi pins s1 σ H1 _ I1 q1) fun iv s2 ⟨y,H2,I2,ry,a,v,ex,g,q2⟩=>?_)
 subst ex
 obtain rfl:u=bu a:=rx
 exact ⟨E9 I2 g,KH hu I2 g ry fun w' s3 I3 rw'=>⟨v,H2,I3,rw',q2⟩⟩
theorem IF (hu:X.A.units + 1<gT) (ho:PE X o td) (hi:PE X i ty) (hv:PE X value tv) (hs:ij value (some (.Subscript o i pos')) pos.line X.env=pure false) :
  PS X (.Assign [.Subscript o i pos'] value pos) (Si td ty tv):=by
 intro pins s σ H D I h
 refine wpAny_Assign_Subscript (fN (hv pins s σ H _ I h) fun r s1 ⟨v,H1,I1,rv,q1⟩=>fN (ho pins s1 σ H1 _ I1 q1) fun u s2 ⟨x,H2,I2,rx,q2⟩=>fN (hi pins s2 σ H2 _ I2 q2) fun iv s3 ⟨y,H3,I3,ry,a,H4,ex,g,q3⟩=>?_) hs
 subst ex
 obtain rfl:u=bu a:=rx
 exact KI hu I3 g ry rv fun s4 I4=>⟨σ,H4,I4,q3⟩
end
theorem MZ   (h:bF) (hb:eT<h.objs.size):dw P w H (h.push { cls:=.type "dict",data:=.dict #[] }) h.objs.size (.dK []) :=
 ⟨cC _,beq_eq_false_iff_ne.mpr (cV (aE hb)),[],.nil,Heap.DictOf.new h⟩
theorem M_   (h:bF) (hb:eT<h.objs.size):dw P w H (h.push { cls:=.type "dict",data:=.dict #[] }) h.objs.size (.dT []) :=
 ⟨cC _,beq_eq_false_iff_ne.mpr (cV (aE hb)),[],.nil,_,#[],0,aw _ rfl,⟨rfl,rfl,rfl⟩,rfl,rfl,fO⟩
def Ui:TE:=fun _ H Q=>∀ p,H p=none->Q (.ref p) (upd H p (.dK []))
section
variable {X:Cx}{pos:Pos}
theorem N0:PE X (.Dict [] [] pos) Ui:=fun pins s σ H Q I h =>
 wpAny_Dict_empty ⟨.ref s.heap.objs.size,_,I.laid (a:=s.heap.objs.size) (o:=.dK []) (t':=s.toks) (fun _ _ q=>ac _ q) (ar _) (MZ s.heap I.big),rfl,h _ (I.hok.fresh (ar _))⟩
end
section
variable {X:Cx}{pins:List (ak×Obj)}{σ:St}{H:Hp}{s:af}{a:ak}{y d:V}{u r:aa}{o:Option V}{A:aX}{E:aa->af->Prop}
end
section
variable {X:Cx}{o e f:aZ}{apos cpos:Pos}{td ty tx:TE}
end
section
variable {X:Cx}{pins:List (ak×Obj)}{σ:St}{H:Hp}{s:af}{a:ak}{kvs:List (fQ×V)}{A:aX}{E:aa->af->Prop}
end
section
variable {X:Cx}{pins:List (ak×Obj)}{σ:St}{H:Hp}{s:af}{a:ak}{y:V}{u:aa}{A:aX}{E:aa->af->Prop}
end
end L2
namespace L2
open PySem PySem.Spec PyProof.Rows
section
variable {X:Cx}
end
section
variable {κ:Type} [DecidableEq κ]
theorem yg:∀ {l:List κ}{k:κ},l.Nodup->¬ k∈l->(l++[k]).Nodup
 | [],k,_,_=>by simp
 | a::r,k,h,hk=>by
  obtain ⟨h1,h2⟩:=List.nodup_cons.mp h
  show (a::(r++[k])).Nodup
  refine List.nodup_cons.mpr ⟨fun m=>?_,yg h2 fun m=>hk (List.mem_cons.mpr (fK m))⟩
  rcases List.mem_append.mp m with q | q
  ·exact h1 q
  ·exact hk (List.mem_cons.mpr (j9 (List.mem_singleton.mp q).symm))
end
end L2
end
namespace L2
open PySem PySem.Spec PyProof.Rows
section
section
variable {prog:aK}{w:bc}{A:aX}{R:tQ->af->Prop}{s:af}
theorem CC      (I:Nat->af->Prop)
  (turn:∀ n s,I n s->au (ax prog w) A (lB it) (fun r s₁=>match r with
   | none=>R (.ok .next) s₁
   | some v=>au (ax prog w) A (hJ target it v) (fun _ s₁'=>au (ax prog w) A (qF target env v) (fun _ s₂ =>
     au (ax prog w) A (forIn ifs true fun c r=>if r=true then do let ok <- vZ c env (eE c env);pure (fP ok) else pure (fP r)) (fun ok s₃ =>
      if ok=true then au (ax prog w) A (eE elt env) (fun x s₄ =>
       au (ax prog w) A (call (.builtin "list.append") [acc,x]) (fun _ s₅=>∃ m,m<n/\I m s₅) (fun _ _=>False) s₄) (fun _ _=>False) s₃
      else ∃ m,m<n/\I m s₃) (fun _ _=>False) s₂) (fun _ _=>False) s₁') (fun _ _=>False) s₁) (fun _ _=>False) s)
  (n:Nat) (h:I n s) :
  jE (ax prog w) A (.compLoop (.ListComp elt [⟨target,iter,ifs,0⟩] scope pos) 0 it acc env) R s:=by
 refine codeAny_loop rfl I (fun n s hI=>?_) n h
 show au _ A ((compTurn (.ListComp elt [⟨target,iter,ifs,0⟩] scope pos) 0 it acc env).onRaise (fun x=>do noteFrame x env;theTreesLotGoes x)) _ _ s
 refine wpAny_noted ?_
 rw [compTurn_list]
 have nf:∀ {α:Type}{t:Sem α}{Q:α->af->Prop}{E':aa->af->Prop}{s:af},au (ax prog w) A t Q (fun _ _=>False) s->au (ax prog w) A t Q E' s :=
  fun h=>bL h (fun _ _ q=>q) fun _ _ f=>f.elim
 refine a7 (j0 (a7 (nf (bL (turn n s hI) (fun r s₁ h₁=>?_) fun _ _ h'=>h'))))
 cases r with
 | none=>exact a9 h₁
 | some v =>
  refine a7 (nf (bL h₁ (fun _ s₁' h₁'=>?_) fun _ _ h'=>h'))
  refine a7 (nf (bL h₁' (fun _ s₂ h₂=>a7 (nf (bL h₂ (fun ok s₃ h₃=>?_) fun _ _ h'=>h'))) fun _ _ h'=>h'))
  cases ok with
  | false=>exact a9 ⟨rfl,h₃⟩
  | true =>
   exact a7 (a7 (nf (bL h₃ (fun x s₄ h₄=>a7 (nf (bL h₄ (fun _ s₅ h₅=>a9 (a9 ⟨rfl,h₅⟩)) fun _ _ h'=>h'))) fun _ _ h'=>h')))
end
theorem GQ (names : List (Str × lD)) : ∀ (cs : List (Str × ak)), (∀ y ∈ names, y.2 = .free -> ∃ c, env.cells.lookup y.1 = some c) ->
    (∀ x c, cs.lookup x = some c -> env.cells.lookup x = some c) ->
    ∃ cl, (forIn names cs fun (x : Str × lD) (cs : List (Str × ak)) => match x with
        | (name, kind) => if (kind == cw) = true then do let a <- cellOf env name; pure (fP ((name, a) :: cs)) else pure (fP cs) : Sem (List (Str × ak))) = pure cl /\
      (∀ x c, cl.lookup x = some c -> env.cells.lookup x = some c) /\ (∀ y ∈ names, y.2 = .free -> ∃ c, cl.lookup y.1 = some c) /\ (∀ x c, cs.lookup x = some c -> ∃ c', cl.lookup x = some c') := by
  induction names with
  | nil => intro cs _ h2; exact ⟨cs, rfl, h2, fun _ h => absurd h (by simp), fun x c h => ⟨c, h⟩⟩
  | cons nk r ih =>
    obtain ⟨n, k⟩ := nk
    intro cs h1 h2
    by_cases hk : k = .free
    · subst hk
      obtain ⟨a, ha⟩ := h1 (n, .free) am rfl
      have h2' : ∀ x c, ((n, a) :: cs).lookup x = some c -> env.cells.lookup x = some c := fun x c h => by
        rw [cU] at h
        cases e : x == n with
        | true => rw [e] at h; have : x = n := by simpa using e
                  subst this; cases h; exact ha
        | false => rw [e] at h; exact h2 x c h
      obtain ⟨cl, e1, e2, e3, e4⟩ := ih ((n, a) :: cs) (fun y hy => h1 y (ah _ hy)) h2'
      refine ⟨cl, ?_, e2, fun y hy hf => ?_, fun x c h => ?_⟩
      · rw [jF]
        have hc : cellOf env n = pure a := by unfold cellOf; rw [ha]
        simp only [beq_self_eq_true, if_true, hc]
        exact e1
      · rcases List.mem_cons.mp hy with rfl | hy
        · exact e4 n a (by simp)
        · exact e3 y hy hf
      · cases e : x == n with
        | true => exact e4 x a (by rw [cU, e])
        | false => exact e4 x c (by rw [cU, e]; exact h)
    · obtain ⟨cl, e1, e2, e3, e4⟩ := ih cs (fun y hy => h1 y (ah _ hy)) h2
      refine ⟨cl, ?_, e2, fun y hy hf => ?_, e4⟩
      · rw [jF]
        have hk' : (k == cw) = false := by simpa using hk
        simp only [hk', bw, if_false]
        exact e1
      · rcases List.mem_cons.mp hy with rfl | hy
        · exact absurd hf hk
        · exact e3 y hy hf
theorem t_  (h:∀ y∈scope.names,y.2=.free->∃ c,env.cells.lookup y.1=some c):∃ cl,closureFor scope env=pure cl /\
  (∀ x c,cl.lookup x=some c->env.cells.lookup x=some c)/\(∀ y∈scope.names,y.2=.free->∃ c,cl.lookup y.1=some c):=by
 obtain ⟨cl,e1,e2,e3,_⟩:=GQ (env:=env) scope.names [] h (fun x c h=>by simp at h)
 refine ⟨cl,?_,e2,e3⟩
 simp only [closureFor]
 rw [show (forIn scope.names ([] : List (Str×ak)) fun x r=>_)=(pure cl:Sem (List (Str×ak))) from e1]
 rfl
end
section
def cR (X:Cx) (N':List Str) (scope:gE) (cl:List (Str×ak)) (C:ak) (s₀:af) (H₀:Hp) (ex:List ak) (pn:List (ak×Obj)):Cx :=
 { X with N:=N',s₀:=s₀,H₀:=H₀,env:=compEnvC scope cl C X.env,outer:=X.stack,stack:=X.stack,ex:=ex,fn:=fun y=>scope.names.lookup y == some .cell,pn:=pn,xe:=fun _ _=>False }
def PZ (X:Cx) (ifs:List aZ) (t:TT):Prop :=
 ∀ (pins:List (ak×Obj)) (s:af) (σ:St) (H:Hp) (Q:Bool->Hp->Prop),bX X pins σ H s->t σ H Q ->
  au (ax X.prog X.w) X.A (forIn ifs true fun c r=>if r=true then do let ok <- vZ c X.env (eE c X.env);pure (fP ok) else pure (fP r)) (TP X pins σ Q) X.xe s
def Y8:TT:=fun _ H Q=>Q true H
theorem QU:PZ X [] Y8:=fun pins s σ H Q I h=>wpAny_tests_nil ⟨H,I,h⟩
theorem QV   (h:PT X c t):PZ X [c] t:=fun pins s σ H Q I hw=>wpAny_tests_one (h pins s σ H Q I hw)
structure nV (X:Cx) (scope:gE) (N':List Str) (nt:Nat) (ix:List Nat):Prop where
 kind:scope.kind=.function
 cel:∀ y∈scope.names,y.2=.cell->scope.names.lookup y.1=some .cell
 loc:∀ y∈scope.names,y.2=.local->scope.names.lookup y.1=some .local
 free:∀ y∈scope.names,y.2=.free->X.env.scope.names.lookup y.1=some .cell\/X.env.scope.names.lookup y.1=some .free
 cap:∀ k i,ix[k]?=some i->∃ x,X.N[i]?=some x/\N'[nt + k]?=some x/\scope.names.lookup x=some .free
 len:N'.length=nt + ix.length
def jL (nt:Nat) (ix:List Nat) (σ:St):St:=sW nt none++ix.map fun i=>(σ[i]?).join
theorem sR {env:Env}{x:Str}{names:List (Str×lD)}:names.lookup x=some .free ->
  (names.map fun (n,k)=>if (k == cw && env.scope.kind == .function && env.kindOf n == some .cell) then (n,dR) else (n,k)).lookup x=some .free \/
  (names.map fun (n,k)=>if (k == cw && env.scope.kind == .function && env.kindOf n == some .cell) then (n,dR) else (n,k)).lookup x=some .cell:=by
 induction names with
 | nil=>intro h;simp at h
 | cons nk r ih =>
  obtain ⟨n,k⟩:=nk
  intro h
  show yD x ((if (k == cw && env.scope.kind == .function && env.kindOf n == some .cell)=true then (n,dR) else (n,k))::_)=_ \/
   yD x ((if (k == cw && env.scope.kind == .function && env.kindOf n == some .cell)=true then (n,dR) else (n,k))::_)=_
  cases hx:x == n with
  | true =>
   simp only [cU,hx] at h
   cases h
   by_cases hc:(cw == cw && env.scope.kind == .function && env.kindOf n == some .cell)=true
   ·rw [if_pos hc];right;simp [cU,hx]
   ·rw [if_neg hc];left;simp [cU,hx]
  | false =>
   simp only [cU,hx] at h
   by_cases hc:(k == cw && env.scope.kind == .function && env.kindOf n == some .cell)=true
   ·rw [if_pos hc];simp only [cU,hx];exact ih h
   ·rw [if_neg hc];simp only [cU,hx];exact ih h
theorem v8 {env:Env}{x:Str}{names:List (Str×lD)} :
  ((names.map fun (n,k)=>if (k == cw && env.scope.kind == .function && env.kindOf n == some .cell) then (n,dR) else (n,k)).lookup x=some .free \/
  (names.map fun (n,k)=>if (k == cw && env.scope.kind == .function && env.kindOf n == some .cell) then (n,dR) else (n,k)).lookup x=some .cell) ->
  (x,cw)∈names\/(x,dR)∈names:=by
 induction names with
 | nil=>intro h;simp at h
 | cons nk r ih =>
  obtain ⟨n,k⟩:=nk
  intro h
  have h:yD x ((if (k == cw && env.scope.kind == .function && env.kindOf n == some .cell)=true then (n,dR) else (n,k))::_)=_ \/
   yD x ((if (k == cw && env.scope.kind == .function && env.kindOf n == some .cell)=true then (n,dR) else (n,k))::_)=_:=h
  cases hx:x == n with
  | true =>
   have e:x=n:=by simpa using hx
   subst e
   by_cases hc:(k == cw && env.scope.kind == .function && env.kindOf x == some .cell)=true
   ·have:k=.free:=by simp at hc;exact hc.1.1
    subst this;left;exact am
   ·rw [if_neg hc] at h;simp only [cU,hx] at h
    rcases h with h | h
    ·cases h;left;exact am
    ·cases h;right;exact am
  | false =>
   have h':=ih (by
    by_cases hc:(k == cw && env.scope.kind == .function && env.kindOf n == some .cell)=true
    ·rw [if_pos hc] at h;simp only [cU,hx] at h;exact h
    ·rw [if_neg hc] at h;simp only [cU,hx] at h;exact h)
   rcases h' with h' | h'
   ·left;exact ah _ h'
   ·right;exact ah _ h'
inductive Sj (nt:Nat) (ix:List Nat) (g:TG) (tt:TT) (te:TE) (σ:St) (Q:VK) (J:It) (H1:Hp):Prop
 | mk (W:Nat->Nat->List V->Hp->Prop) (w0:∃ m,W 0 m [] H1) (turn:∀ i m acc H,W i m acc H ->
 (J.stop i H/\∀ p,H p=none->Q (.ref p) (upd H p (.lst acc))) \/
 (J.go i H/\acc.length<sizeLine/\∀ x H',J.yld i H x H'->g x (jL nt ix σ) H' fun σ2 H2=>tt σ2 H2 fun b H3 =>
  if b=true then te σ2 H3 fun y H4=>∃ m',m'<m/\W (i + 1) m' (acc++[y]) H4 else ∃ m',m'<m/\W (i + 1) m' acc H3)):Sj nt ix g tt te σ Q J H1
def N1 (nt:Nat) (ix:List Nat) (wi:TI) (g:TG) (tt:TT) (te:TE):TE:=fun σ H Q=>wi σ H (Sj nt ix g tt te σ Q)
theorem jf:∀ (names:List (Str×lD)) (n:Nat) (acc:List (Str×ak)),br n names acc=br n names []++acc
 | [],_,_=>rfl
 | (y,k)::r,n,acc=>by
  unfold br
  split
  ·rw [jf r (n + 1) ((y,n)::acc),jf r (n + 1) [(y,n)],eW];rfl
  ·exact jf r n acc
theorem nW  : ∀ (names:List (Str×lD)) (n:Nat) (acc:List (Str×ak)),(x,c)∈br n names acc->(x,dR)∈names\/(x,c)∈acc
 | [],_,_,h=>.inr h
 | (y,k)::r,n,acc,h=>by
  unfold br at h
  split at h
  ·rename_i hk
   have hk:k=.cell:=by simpa using hk
   rcases nW r _ _ h with z | z
   ·exact .inl (ah _ z)
   ·rcases List.mem_cons.mp z with z | z
    ·cases z;subst hk;exact .inl am
    ·exact .inr z
  ·exact (nW r _ _ h).imp (ah _) id
theorem l9     (h:(br n names cl).lookup x=some c) :
  (x,c)∈br n names []\/((br n names []).lookup x=none/\cl.lookup x=some c):=by
 rw [jf,M6] at h
 cases e:(br n names []).lookup x with
 | some d=>rw [e] at h;cases h;exact .inl (dA e)
 | none=>rw [e] at h;exact .inr ⟨rfl,h⟩
theorem IG {M:Ag}{A:aX}{E:aa->af->Prop}{s:af}{scope:gE}{globals:ak}{cl:List (Str×ak)}{qual:Str}{func:Option ak}{code:aa}{outer:Env}{builtins:ak}{Q:Env->af->Prop}
  (hQ:∀ h₁,h₁=pushCells (s.heap.push { cls:=.type "dict",data:=.dict #[] }) scope.names->Q (newEnv scope s.heap.objs.size globals (br (s.heap.objs.size + 1) scope.names cl) qual func code (some outer) builtins) { s with heap:=h₁ }) :
  au M A (wa scope globals cl [] qual func code (some outer) builtins) Q E s:=by
 simp only [wa,uJ,if_true]
 refine a7 (Q6 ?_)
 refine a7 (wpAny_layCells _ (fun name kind cells=>by cases hkc:kind == dR<;>simp [hkc]) _ _ _ _ ?_)
 rw [show ({ s with heap:=s.heap.push { cls:=.type "dict",data:=.dict #[] } }:af).heap.objs.size=s.heap.objs.size + 1 from cc ..]
 refine a7 ?_
 rw [ng]
 exact a9 (a9 (hQ _ rfl))
theorem Bl (h:bF) (names:List (Str×lD)):CellsOk (pushCells (h.push { cls:=.type "dict",data:=.dict #[] }) names) (h.objs.size + 1) (br (h.objs.size + 1) names []):=by
 have ok:=cellsFrom_ok names (h.push { cls:=.type "dict",data:=.dict #[] }) (h.objs.size + 1) [] ⟨fun _ _ hm=>(nomatch hm),qH⟩ (by rw [cc];exact ar _)
 rw [cc] at ok
 exact ok
section
variable {X:Cx}{pins:List (ak×Obj)}{σ:St}{H:Hp}{s:af}
theorem Ea {scope:gE}{N':List Str}{nt:Nat}{ix:List Nat}{cl:List (Str×ak)}{C:ak}{fp:List ak}{h₁:bF}{t':Nat}{m:Str->Option aa}
  (S:nV X scope N' nt ix) (I:bX X pins σ H s) (c1:∀ x c,cl.lookup x=some c->X.env.cells.lookup x=some c) (c2:∀ y∈scope.names,y.2=.free->∃ c,cl.lookup y.1=some c)
  (hf:∀ b∈fp,qO X pins H b) (ff:∀ b∈fp,b<s.heap.objs.size) (hC:s.heap.objs.size<=C) (hns:h₁.Ns C m) (old:∀ b o,s.heap.get? b=some o->h₁.get? b=some o) (ok:CellsOk h₁ (C + 1) (br (C + 1) scope.names [])) :
  bX (cR X N' scope (br (C + 1) scope.names cl) C s H fp (X.pn++pins)) [] (jL nt ix σ) H { s with heap:=h₁,toks:=t' }:=by
 have cellOld:∀ {c v},s.heap.IsCell c v->h₁.IsCell c v:=fun {c v} ⟨o,ho,hd⟩=>⟨o,old _ _ ho,hd⟩
 have up:∀ {x c},(x,c)∈br (C + 1) scope.names []->s.heap.objs.size<c:=fun {x c} h=>aC (kj hC) (ok.empty x c h).2
 have low:∀ {x c},cl.lookup x=some c->c<s.heap.objs.size:=fun {x c} h=>by
  obtain ⟨v,q⟩:=I.cell x c (c1 x c h)
  exact q.lt
 refine ⟨⟨I.ok.mod,S.kind,I.ok.glob,I.ok.blt,hC,fun x y c h1 h2=>?_,fun x hx=>?_,fun x c h h2=>?_,I.ok.hd,I.ok.frames,.inl rfl,fun b hb=>⟨?_,fun x c h=>?_⟩,I.bs,cy I.ok.bsz I.sz,fun b o h hb=>?_,fun b hb z=>?_,I.stack,I.stkFree⟩,
  rfl,I.bare,Un.kept old,⟨m,hns,fun i x v h1 h2 h3=>?_⟩,fun x c h=>?_,I.hok.fresh hC,fun x c h=>?_,fun p hp=>?_,I.hok.kept old,?_⟩
 ·rcases l9 h1 with a | ⟨_,a⟩<;>rcases l9 h2 with b | ⟨_,b⟩
  ·exact name_of_addr ok.apart a b
  ·exact absurd (up a) (xF (low b))
  ·exact absurd (up b) (xF (low a))
  ·exact I.ok.inj x y c (c1 x c a) (c1 y c b)
 ·have hx':(x,cw)∈scope.names\/(x,dR)∈scope.names:=v8 (env:=X.env) (hx.elim .inr .inl)
  have hs:((br (C + 1) scope.names cl).lookup x).isSome=true:=by
   rcases hx' with z | z
   ·obtain ⟨c,e⟩:=c2 _ z rfl
    exact i3 _ _ _ (.inr (by rw [e];rfl))
   ·exact i3 _ _ _ (.inl (S.cel _ z rfl))
  exact Option.isSome_iff_exists.mp hs
 ·rcases l9 h2 with a | ⟨a,_⟩
  ·exact ca (up a)
  ·have:=i3 (x:=x) scope.names (C + 1) [] (.inl (by simpa [cR] using h))
   rw [a] at this;cases this
 ·exact aE (aC (ff b hb) hC)
 ·rcases l9 h with a | ⟨_,a⟩
  ·exact eO (eQ (ff b hb) (up a))
  ·exact (hf b hb).f4 x c (c1 x c a)
 ·rcases (hf b hb).f3 with z | z
  ·exact I.ok.noex b o h z
  ·exact absurd (aC (ap h) (cy I.ok.bsz z)) (bW _)
 ·rcases List.mem_cons.mp (I.stkSub b z) with e | e
  ·exact (hf b hb).f1 e
  ·exact (hf b hb).f2 e
 ·have hnt:nt<=i:=by
   refine Q5 fun hlt=>?_
   have h2':(jL nt ix σ)[i]?=some (some v):=h2
   unfold jL at h2'
   rw [bf (by simpa using hlt),ck,if_pos hlt] at h2'
   cases h2'
  have h2':(jL nt ix σ)[i]?=some (some v):=h2
  unfold jL at h2'
  rw [bh (by simpa using hnt),cZ,aT] at h2'
  cases e:ix[i - nt]? with
  | none=>rw [e] at h2';cases h2'
  | some j =>
   rw [e] at h2'
   have hj:σ[j]?=some (some v):=by
    have q:(σ[j]?).join=some v:=bM h2'
    cases e3:σ[j]? with
    | none=>rw [e3] at q;cases q
    | some o=>rw [e3] at q;cases o with
     | none=>cases q
     | some v'=>cases q;rfl
   obtain ⟨x',n1,n2,fr⟩:=S.cap _ _ e
   rw [Nat.add_sub_cancel' hnt] at n2
   have h1':N'[i]?=some x:=h1
   rw [h1'] at n2
   cases n2
   obtain ⟨mm,hn,hl⟩:=I.loc
   have hfree:=S.free (x,.free) (dA fr) rfl
   obtain ⟨u,r,l⟩:=hl j x v n1 hj (hfree.elim (fun z=>.inr (.inl z)) fun z=>.inr (.inr z))
   refine ⟨u,r,?_⟩
   rcases l with ⟨k,_⟩ | ⟨k,c,hc,hcell⟩
   ·have k:X.env.scope.names.lookup x=some .local:=k
    rcases hfree with z | z<;>(rw [z] at k;cases k)
   ·obtain ⟨c',hc'⟩:=c2 _ (dA fr) rfl
    have:=c1 x c' hc'
    rw [hc] at this
    cases this
    have hno:(br (C + 1) scope.names []).lookup x=none:=by
     cases e:(br (C + 1) scope.names []).lookup x with
     | none=>rfl
     | some d =>
      rcases nW _ _ _ (dA e) with z | z
      ·have q:=S.cel _ z rfl
       rw [fr] at q;cases q
      ·cases z
    refine .inr ⟨?_,c,by show (br (C + 1) scope.names cl).lookup x=some c;rw [jf,M6,hno];exact hc',cellOld hcell⟩
    rcases sR (env:=X.env) fr with z | z
    ·exact .inr z
    ·exact .inl z
 ·rcases l9 h with a | ⟨_,a⟩
  ·exact ⟨none,(ok.empty x c a).1⟩
  ·obtain ⟨v,q⟩:=I.cell x c (c1 x c a)
   exact ⟨v,cellOld q⟩
 ·rcases l9 h with a | ⟨_,a⟩
  ·exact I.hok.fresh (ca (up a))
  ·exact I.freeC x c (c1 x c a)
 ·have hp:p∈X.pn++pins:=(List.mem_append.mp hp).elim id fun z=>absurd z (by simp)
  obtain ⟨e,n,ne,nf,d⟩:=I.pin p hp
  refine ⟨old _ _ e,n,aE (aC (ap e) hC),fun z=>?_,d⟩
  rcases List.mem_cons.mp (I.stkSub p.1 z) with e | e
  ·exact ne e
  ·exact nf e
 ·show (jL nt ix σ).length=N'.length
  rw [S.len];simp [jL]
end
end
section
theorem Un.grow   (u:Un fs ex H H1 h h1)  (sb:bN C h1 h2) (hC:h.objs.size<=C) (hD:h.objs.size<=D) (hn:H1 D=none):Un fs ex H (upd H1 D o) h h2 where
 keep:=fun b ob q n hb hx=>(sb.2 b (aE (aC (ap q) hC))).trans (u.keep b ob q n hb hx)
 slot:=fun b ob q n hb hx=>by
  obtain ⟨sl,e⟩:=u.slot b ob q n hb hx
  exact ⟨sl,(sb.2 b (aE (aC (ap q) hC))).trans e⟩
 free:=fun b ob q n hx=>by rw [bi (aE (aC (ap q) hD))];exact u.free b ob q n hx
 there:=fun b ob q hx=>by
  obtain ⟨o',e⟩:=u.there b ob q hx
  exact ⟨o',(sb.2 b (aE (aC (ap q) hC))).trans e⟩
 tups:=fun b xs q=>by have z:=u.tups b xs q;rw [bi (bZ z hn)];exact z
 frzs:=fun b ob xs q=>by have z:=u.frzs b ob xs q;rw [bi (bZ z hn)];exact z
 tbls:=fun b ps q=>by
  obtain ⟨m,z⟩:=u.tbls b ps q
  exact ⟨m,by rw [bi (bZ z hn)];exact z⟩
theorem Eb     (k:qv P w H h) (hC:H C=none) (sb:bN C h h'):qv P w H h':=fun b ob e=>by
 refine (k b ob e).stay (fun c w' hc q=>(sb.2 c ?_).trans q) (fun _ q=>q) fun _ _ q=>q
 rintro rfl
 rcases hc with rfl | hc
 ·rw [hC] at e;cases e
 ·rw [hC] at hc;cases hc
theorem wu      (k:qv P w H h) (hD:H D=none) (new:dw P w (upd H D o) h D o):qv P w (upd H D o) h:=fun b ob e=>by
 by_cases hb:b=D
 ·subst hb;rw [bg] at e;cases e;exact new
 ·rw [bi hb] at e
  exact (k b ob e).stay (fun c w' hc q=>q) (fun c q=>by rw [bi (bZ q hD)];exact q) fun c x q=>by rw [bi (bZ q hD)];exact q
theorem nf {M:Ag}{A:aX}{α:Type}{t:Sem α}{Q:α->af->Prop}{E':aa->af->Prop}{s:af} (h:au M A t Q (fun _ _=>False) s):au M A t Q E' s :=
 bL h (fun _ _ q=>q) fun _ _ f=>f.elim
theorem bX.pin1      (I:bX X [] σ H s) (e:s.heap.get? D=some o) (n:H D=none) (ne:D≠X.env.locals) (nf:D∉X.fs) (d:∀ v,o.data≠.cell v):bX X [(D,o)] σ H s :=
 I.pins_of fun p hp=>by
  have:p=(D,o):=by simpa using hp
  subst this
  exact ⟨e,n,ne,nf,d⟩
def Sk (nt:Nat) (g:TG):Prop:=∀ x σ0 H (Q:St->Hp->Prop),g x σ0 H Q->g x σ0 H (fun σ2 H2=>Q σ2 H2/\σ2.length=σ0.length/\∀ j,nt<=j->σ2[j]?=σ0[j]?)
theorem N5 (h:i<nt):Sk nt (xn i):=fun x σ0 H Q q=>⟨q,by simp,fun j hj=>al (by omega)⟩
theorem QW {nt i k n:Nat}{K:a8} (h:i<nt) (h':k<nt):Sk nt (TU K n (ag (xn i) (ag (xn k) aL))):=by
 rintro x σ0 H Q ⟨a,xs,rfl,sq,hl,v,r,rfl,v',r',rfl,rfl,q⟩
 exact ⟨a,_,rfl,sq,hl,v,_,rfl,v',_,rfl,rfl,q,by simp,fun j hj=>by rw [al (by omega),al (by omega)]⟩
inductive YN (X:Cx) (pins:List (ak×Obj)) (N':List Str) (scope:gE) (cl:List (Str×ak)) (C:ak) (s2:af) (H2:Hp) (fp:List ak) (nt:Nat) (ix:List Nat) (σ:St) (tn:Nat->bF->Prop) (W:Nat->Nat->List V->Hp->Prop) (n:Nat) (s':af):Prop
 | mk (i:Nat) (acc:List V) (its:List aa) (nn:Nat) (H':Hp) (I:bX (cR X N' scope cl C s2 H2 fp (X.pn++pins)) [(s2.heap.objs.size,{ cls:=.type "list",data:=.seq its.toArray nn })] (jL nt ix σ) H' s') (v:dC acc its) (l:acc.length<=sizeLine) (t:tn i s'.heap) (f:∀ b∈fp,H' b=none) (w:W i n acc H'):YN X pins N' scope cl C s2 H2 fp nt ix σ tn W n s'
theorem yM {X:Cx}{elt tg iter:aZ}{ifs:List aZ}{scope:gE}{pos:Pos}{g:TG}{tt:TT}{te:TE}{N':List Str}{nt:Nat}{ix:List Nat}
  (hc:X.calm=true) (S:nV X scope N' nt ix) (lo:Sk nt g)
  (hb:∀ cl C s₀ H₀ ex pn,PG (cR X N' scope cl C s₀ H₀ ex pn) tg g/\PZ (cR X N' scope cl C s₀ H₀ ex pn) ifs tt/\PE (cR X N' scope cl C s₀ H₀ ex pn) elt te)
  {cl:List (Str×ak)} (c1:∀ x c,cl.lookup x=some c->X.env.cells.lookup x=some c) (c2:∀ y∈scope.names,y.2=.free->∃ c,cl.lookup y.1=some c)
  {pins:List (ak×Obj)}{σ:St}{H2:Hp}{s2:af}{it:ak}{fp:List ak}{tn:Nat->bF->Prop}{J:It}{Q:VK}{E:aa->af->Prop}
  (I2:bX X pins σ H2 s2) (T:Ax X.prog X.w X.K tg J fp it tn) (st2:tn 0 s2.heap) (f2:∀ b∈fp,qO X pins H2 b)
  {W:Nat->Nat->List V->Hp->Prop} (w0:∃ m,W 0 m [] H2)
  (turn:∀ i m acc H,W i m acc H->(J.stop i H/\∀ p,H p=none->Q (.ref p) (upd H p (.lst acc))) \/
   (J.go i H/\acc.length<sizeLine/\∀ x H',J.yld i H x H'->g x (jL nt ix σ) H' fun σ2 H2=>tt σ2 H2 fun b H3 =>
    if b=true then te σ2 H3 fun y H4=>∃ m',m'<m/\W (i + 1) m' (acc++[y]) H4 else ∃ m',m'<m/\W (i + 1) m' acc H3))
  {RR:aa->ak->tQ->af->Prop}
  (hRR:∀ D C m s' (acc:List V) H',H' D=none->qO X pins (upd H' D (.lst acc)) C->Q (.ref D) (upd H' D (.lst acc))->s'.heap.Ns C m->(∀ h',bN C s'.heap h'->bX X pins σ (upd H' D (.lst acc)) { s' with heap:=h' })->RR (.ref D) C (.ok .next) s') :
  au (ax X.prog X.w) X.A (newList []) (fun acc s₃=>au (ax X.prog X.w) X.A (wa scope X.env.globals cl [] X.env.qual none .none (some X.env)) (fun cenv s₄ =>
   jE (ax X.prog X.w) X.A (.compStart (.ListComp elt [⟨tg,iter,ifs,0⟩] scope pos) 0 (.ref it) acc { cenv with scope:=relabel scope X.env }) (RR acc cenv.locals) s₄) E s₃) E s2:=by
 refine bR (IG fun h₁ hh₁=>?_)
 dsimp only at hh₁ ⊢
 generalize hG2:s2.heap.push { cls:=.type "list",dict:=none,data:=.seq ([] : List aa).toArray }=G2 at hh₁ ⊢
 have hC:G2.objs.size=s2.heap.objs.size + 1:=by rw [<- hG2,cc]
 have hDC:s2.heap.objs.size≠G2.objs.size:=by rw [hC];exact aE (dS _)
 have hCle:s2.heap.objs.size<=G2.objs.size:=by rw [hC];exact k8 _
 have below:∀ b,b<s2.heap.objs.size->b≠G2.objs.size:=fun b hb=>by rw [hC];exact aE (dI hb)
 have kp:∀ b o,G2.get? b=some o->h₁.get? b=some o:=fun b o e=>by rw [hh₁];exact uK _ _ b o (ac _ e)
 have hns₁:h₁.Ns G2.objs.size (fun _=>none):=by rw [hh₁];exact (Heap.Ns.new G2 (.type "dict")).keeps (uK _ _)
 have ok₁:CellsOk h₁ (G2.objs.size + 1) (br (G2.objs.size + 1) scope.names []):=by rw [hh₁];exact Bl G2 scope.names
 have cne:∀ x c,(br (G2.objs.size + 1) scope.names cl).lookup x=some c->X.env.cells.lookup x=some c\/s2.heap.objs.size<c:=fun x c e=>by
  rcases l9 e with a | ⟨_,a⟩
  ·exact .inr (aC (kj hCle) (ok₁.empty x c a).2)
  ·exact .inl (c1 x c a)
 have old:∀ b o,s2.heap.get? b=some o->h₁.get? b=some o:=fun b o e=>kp b o (hG2 ▸ ac _ e)
 have hacc:h₁.get? s2.heap.objs.size=some { cls:=.type "list",dict:=none,data:=.seq ([] : List aa).toArray }:=kp _ _ (hG2 ▸ aw _ rfl)
 have ff:∀ b∈fp,b<s2.heap.objs.size:=fun b hb=>by
  obtain ⟨o,e,_⟩:=T.obj _ _ st2 b hb
  exact ap e
 have I3:bX (cR X N' scope (br (G2.objs.size + 1) scope.names cl) G2.objs.size s2 H2 fp (X.pn++pins)) [] (jL nt ix σ) H2 { s2 with heap:=h₁,toks:=s2.toks }:=Ea S I2 c1 c2 f2 ff hCle hns₁ old ok₁
 obtain ⟨pg,pt,pe⟩:=hb (br (G2.objs.size + 1) scope.names cl) G2.objs.size s2 H2 fp (X.pn++pins)
 have hDfs:s2.heap.objs.size∉t5 X.stack:=fun z=>by
  rcases List.mem_cons.mp (I2.stkSub _ z) with e | e
  ·exact absurd I2.lt (by rw [<- e];exact bW _)
  ·exact I2.nofs (ar _) e
 have nod:∀ (its:List aa) (n:Nat) v,({ cls:=.type "list",data:=.seq its.toArray n }:Obj).data≠.cell v:=fun _ _ _ z=>nomatch z
 have st1:tn 0 h₁:=T.keep _ _ _ st2 fun b _ o e=>old b o e
 have hDf:s2.heap.objs.size∉fp:=fun z=>absurd (ff _ z) (bW _)
 have stat:∀ {H':Hp}{pl:List (ak×Obj)},(∀ p∈pl,p.1∉fp)->(∀ b∈fp,H' b=none)->∀ b∈fp,qO (cR X N' scope (br (G2.objs.size + 1) scope.names cl) G2.objs.size s2 H2 fp (X.pn++pins)) pl H' b:=fun hpl hn b hb=>by
  obtain ⟨f0,f1,f2',f3,f4,f5⟩:=f2 b hb
  refine ⟨hn b hb,below b (ff b hb),fun z=>?_,.inl hb,fun x c e=>(cne x c e).elim (f4 x c) fun q z=>xF q (by rw [z];exact ff b hb),fun p hp z=>?_⟩
  ·rcases List.mem_cons.mp (I2.stkSub _ z) with e | e
   ·exact f1 e
   ·exact f2' e
  ·rcases List.mem_append.mp hp with q | q
   ·exact f5 p q z
   ·exact hpl p q (z ▸ hb)
 obtain ⟨m0,w0⟩:=w0
 have loop:jE (ax X.prog X.w) X.A (.compLoop (.ListComp elt [⟨tg,iter,ifs,0⟩] scope pos) 0 (.ref it) (.ref s2.heap.objs.size) (compEnvC scope (br (G2.objs.size + 1) scope.names cl) G2.objs.size X.env))
    (RR (.ref s2.heap.objs.size) G2.objs.size) { s2 with heap:=h₁,toks:=s2.toks }:=by
  refine CC (YN X pins N' scope (br (G2.objs.size + 1) scope.names cl) G2.objs.size s2 H2 fp nt ix σ tn W) ?_ m0
   ⟨0,[],[],0,H2,I3.pin1 hacc (I2.hok.fresh (ar _)) hDC hDfs (nod _ _),.nil,cC _,st1,fun b hb=>(f2 b hb).1,w0⟩
  rintro n s3 ⟨i,acc,its,nn,H3,J3,rv,hz,st3,fr3,w3⟩
  have plD:∀ p∈[(s2.heap.objs.size,({ cls:=.type "list",data:=.seq its.toArray nn }:Obj))],p.1∉fp:=fun p hp=>by
   have:p=(s2.heap.objs.size,({ cls:=.type "list",data:=.seq its.toArray nn }:Obj)):=by simpa using hp
   rw [this];exact hDf
  rcases turn i n acc H3 w3 with ⟨stop,qn⟩ | ⟨go,hlt,step⟩
  ·refine fN (T.done (cR X N' scope (br (G2.objs.size + 1) scope.names cl) G2.objs.size s2 H2 fp (X.pn++pins)) rfl rfl rfl hc i _ s3 _ H3 _ J3 (stat plD fr3) st3 stop) fun r s4 h_0=>?_
   obtain ⟨hr,I4⟩:=h_0
   subst hr
   obtain ⟨pD,pN,_⟩:=I4.pin (s2.heap.objs.size,_) (aH _ (List.mem_singleton.mpr rfl))
   obtain ⟨mm,hn,_⟩:=I4.loc
   have hCn:H3 G2.objs.size=none:=I4.free
   refine hRR _ _ mm s4 acc H3 pN (I2.fpOk hCle (by rw [bi (cV hDC)];exact hCn)) (qn _ pN) hn fun h' sb=>?_
   have hu:Un (t5 X.stack) fp H2 (upd H3 s2.heap.objs.size (.lst acc)) s2.heap h':=Un.grow I4.base sb hCle (ar _) pN
   refine I2.call' (s':={ s4 with heap:=h' }) (ch:=fp) I4.os hu ?_ I4.bare fun b hb=>?_
   ·refine wu (Eb I4.hok hCn sb) pN ⟨hz,its,nn,rv,(sb.2 _ hDC).trans pD⟩
   ·obtain ⟨_,f1,_,f3,f4,f5⟩:=f2 b hb
    exact ⟨f3,f1,f4,f5⟩
  ·refine fN (T.item (cR X N' scope (br (G2.objs.size + 1) scope.names cl) G2.objs.size s2 H2 fp (X.pn++pins)) rfl rfl rfl hc i _ s3 _ H3 _ J3 (stat plD fr3) st3 go) fun r s4 h_1=>?_
   obtain ⟨u,hr,h4⟩:=h_1
   subst hr
   refine fN h4 fun _ s5 h_2=>?_
   obtain ⟨x,H5,I5,r5,y5,st5,fr5⟩:=h_2
   have I5':=I5.pinned (stat plD fr5) (T.obj _ _ st5)
   refine fN (pg _ s5 _ H5 x u _ I5' r5 (lo _ _ _ _ (step x H5 y5))) fun _ s6 h_3=>?_
   obtain ⟨σ6,H6,I6,q6,l6,k6⟩:=h_3
   have hw:∀ (j:Nat) v,(jL nt ix σ)[j]?=some (some v)->σ6[j]?=some (some v):=fun j v e=>by
    by_cases hj:nt<=j
    ·rw [k6 j hj];exact e
    ·unfold jL at e
     rw [bf (by simpa using hj),ck,if_pos (by omega)] at e
     cases e
   refine fN (pt _ s6 σ6 H6 _ I6 q6) fun b s7 h_4=>?_
   obtain ⟨H7,I7,q7⟩:=h_4
   have fpk:∀ {s8:af}{σ8:St}{H8:Hp},bX (cR X N' scope (br (G2.objs.size + 1) scope.names cl) G2.objs.size s2 H2 fp (X.pn++pins)) ([(s2.heap.objs.size,{ cls:=.type "list",data:=.seq its.toArray nn })]++wp fp s5.heap) σ8 H8 s8 ->
     tn (i + 1) s8.heap/\∀ b∈fp,H8 b=none:=fun {s8 σ8 H8} I8=>by
    refine ⟨T.keep _ _ _ st5 fun b hb o e=>(I8.pin (b,o) (aH _ (aH _ (ko hb e)))).1,fun b hb=>?_⟩
    obtain ⟨o,e,d⟩:=T.obj _ _ st5 b hb
    exact (I8.pin (b,o) (aH _ (aH _ (ko hb e)))).2.1
   cases b with
   | false =>
    simp only [bw,if_false] at q7 ⊢
    obtain ⟨m',hm,w7⟩:=q7
    obtain ⟨t7,f7⟩:=fpk I7
    exact ⟨m',hm,i + 1,acc,its,nn,H7,(I7.weak l6.symm hw).unpinned,rv,hz,t7,f7,w7⟩
   | true =>
    simp only [if_true] at q7 ⊢
    refine fN (pe _ s7 σ6 H7 _ I7 q7) fun u8 s8 h_5=>?_
    obtain ⟨y,H8,I8,r8,m',hm,w8⟩:=h_5
    obtain ⟨t8,f8⟩:=fpk I8
    obtain ⟨pD,pN,_⟩:=I8.pin (s2.heap.objs.size,_) (aH _ (bj _ (List.mem_singleton.mpr rfl)))
    have hl:=rv.length
    refine wpAny_list_append_plain ⟨nn,pD⟩ (hsz:=by rw [aS];omega) ?_
    intro h9 pl9 sb9
    obtain ⟨n9,e9⟩:=pl9
    have e9':h9.get? s2.heap.objs.size=some { cls:=.type "list",data:=.seq (its++[u8]).toArray n9 }:=by rw [e9];simp
    refine ⟨m',hm,i + 1,acc++[y],its++[u8],n9,H8,?_,rv.append (.cons r8 .nil),by rw [aM,dJ];omega,T.keep _ _ _ t8 fun b hb o e=>sb9.extBut b o (fun z=>hDf (z ▸ hb)) e,f8,w8⟩
    have I8':bX (cR X N' scope (br (G2.objs.size + 1) scope.names cl) G2.objs.size s2 H2 fp (X.pn++pins)) [] (jL nt ix σ) H8 s8:=(I8.weak l6.symm hw).pins_of fun p hp=>absurd hp (by simp)
    have I9:bX (cR X N' scope (br (G2.objs.size + 1) scope.names cl) G2.objs.size s2 H2 fp (X.pn++pins)) [] (jL nt ix σ) H8 { s8 with heap:=h9,toks:=s8.toks } :=
     I8'.turned (it:=s2.heap.objs.size) (fun b o hb e=>sb9.extBut b o hb e) pN hDC (.inr (ar _)) (fun x c e z=>by
      rcases cne x c e with e | e
      ·obtain ⟨v,q⟩:=I2.cell x c e
       exact absurd q.lt (by rw [z];exact bW _)
      ·exact absurd e (by rw [z];exact bW _)) fun p hp z=>by
      have hp:p∈X.pn++pins:=(List.mem_append.mp hp).elim id fun z=>absurd z (by simp)
      exact absurd (ap (I2.pin p hp).1) (by rw [z];exact bW _)
    exact I9.pin1 e9' pN hDC hDfs (nod _ _)
 exact codeAny_compStart_list loop (T.self _ 0 _ _ _ st1 loop)
end
section
theorem Ec
  (hc:X.calm=true) (S:nV X scope N' nt ix) (lo:Sk nt g) (hi:PI X tg iter wi)
  (hb:∀ cl C s₀ H₀ ex pn,PG (cR X N' scope cl C s₀ H₀ ex pn) tg g/\PZ (cR X N' scope cl C s₀ H₀ ex pn) ifs tt/\PE (cR X N' scope cl C s₀ H₀ ex pn) elt te)
  (hs:∀ x,eu iter X.env x=pure x:=by intro _;rfl):PE X (.ListComp elt [⟨tg,iter,ifs,0⟩] scope pos) (N1 nt ix wi g tt te):=by
 intro pins s σ H Q I h
 obtain ⟨cl,hcl,c1,c2⟩:=t_ (scope:=scope) (env:=X.env) fun y hy hf=>I.ok.has y.1 (S.free y hy hf)
 rw [eval_ListComp]
 refine qI (use:=none) rfl hs hcl S.kind S.loc (fN (hi pins s σ H _ I h) fun v s1 h1=>fN h1 fun itv s2 h2=>?_)
 obtain ⟨it,fp,tn,J,H2,e,I2,T,st2,f2,W,w0,turn⟩:=h2
 subst e
 refine yM (RR:=fun acc C=>compPost (ax X.prog X.w) X.A X.xe none (EP X pins σ Q) acc C) hc S lo hb c1 c2 I2 T st2 f2 w0 turn ?_
 intro D C m s' acc H' hD _ q hn hI
 exact ⟨m,hn,fun h' sb=>⟨.ref D,_,hI h' sb,rfl,q⟩⟩
def VS (i:Nat) (te:TE):TS:=fun D σ H=>te σ H fun x H1=>D.nx (σ.set i (some x)) H1
theorem GR
  (hN:X.N.Nodup) (hiN:X.N[i]?=some y) (hy:X.env.scope.names.lookup y=some .local)
  (hc:X.calm=true) (S:nV X scope N' nt ix) (lo:Sk nt g) (hi:PI X tg iter wi)
  (hb:∀ cl C s₀ H₀ ex pn,PG (cR X N' scope cl C s₀ H₀ ex pn) tg g/\PZ (cR X N' scope cl C s₀ H₀ ex pn) ifs tt/\PE (cR X N' scope cl C s₀ H₀ ex pn) elt te)
  (hsw:ij (.ListComp elt [⟨tg,iter,ifs,0⟩] scope pos) (some (.Name y py)) spos.line X.env=pure true:=by rfl)
  (hs:∀ x,eu iter X.env x=pure x:=by intro _;rfl):PS X (.Assign [.Name y py] (.ListComp elt [⟨tg,iter,ifs,0⟩] scope pos) spos) (VS i (N1 nt ix wi g tt te)):=by
 intro pins s σ H D I h
 obtain ⟨cl,hcl,c1,c2⟩:=t_ (scope:=scope) (env:=X.env) fun y hy hf=>I.ok.has y.1 (S.free y hy hf)
 rw [exec_Assign_Name_used _ _ _ _ hsw]
 refine a7 (j0 (a7 ?_))
 show au _ X.A (do let _ <- comprehension (.ListComp elt [⟨tg,iter,ifs,0⟩] scope pos) scope X.env _ (newList []) false (eE iter X.env) (some (qF (.Name y py) X.env))) _ _ s
 refine a7 (bL (qI (use:=some (qF (.Name y py) X.env)) (Q:=fun _ s'=>SP X pins D .next s') rfl hs hcl S.kind S.loc
  (fN (hi pins s σ H _ I h) fun v s1 h1=>fN h1 fun itv s2 h2=>?_)) (fun _ s' hq=>a9 (a9 hq)) fun _ _ e=>e)
 obtain ⟨it,fp,tn,J,H2,e,I2,T,st2,f2,W,w0,turn⟩:=h2
 subst e
 refine yM (Q:=fun x H1=>D.nx (σ.set i (some x)) H1) (RR:=fun acc C=>compPost (ax X.prog X.w) X.A X.xe (some (qF (.Name y py) X.env)) (fun _ s'=>SP X pins D .next s') acc C) hc S lo hb c1 c2 I2 T st2 f2 w0 turn ?_
 intro L C m s' acc H' hD fC q hn hI
 show au _ X.A (qF (.Name y py) X.env (.ref L)) _ _ _
 have I3:bX X pins σ (upd H' L (.lst acc)) s':=hI s'.heap (.refl ..)
 refine wpAny_assign_Name (Bc I3 hN hiN (.inl hy) (v:=.ref L) rfl (fun s4 I4 ⟨a,sb,ha⟩=>?_) (.inr hy))
 obtain ⟨g0,g1,g2,g3,g4,g5⟩:=fC
 have hCa:C≠a:=by
  rcases ha with z | z
  ·rw [z];exact g1
  ·exact fun e=>g4 y a z e.symm
 refine ⟨m,hn.sameBut sb hCa,fun h5 sb5=>?_⟩
 exact ⟨_,_,I4.turned (t':=s4.toks) (fun b o hb e=>(sb5.2 b hb).trans e) g0 g1 g3 g4 g5,q⟩
end
section
def kf (e:Int×aa):Str:=match e.2 with
 | .str x _=>x
 | _=>⟨#[]⟩
def u0 (w:bc) (e:Int×aa):Prop:=∃ x tk,e=(hashStr w x,jM x tk)
structure cX (w:bc) (h:bF) (a:ak) (es:Array (Int×aa)) (ep:Nat) (t:jq):Prop where
 at_:h.get? a=some { cls:=.type "set",dict:=none,data:=.set es ep t }
 txt:∀ e∈es.toList,u0 w e
 nd:(es.toList.map kf).Nodup
 few:es.size<j4
 fits:t.fits es.size=true
 led:t.led=!w.params.followText "set-order"
 pl:es.size=0\/t.plain=false
inductive lH (w:bc) (h:bF) (a:ak) (ss:List Str):Prop
 | mk (es ep t:_) (h0:cX w h a es ep t) (h1:(es.toList.map kf).Perm ss):lH w h a ss
theorem GS (t:jq) (es:Array (Int×aa)) (h:Int) (x:aa):(layNew t es h x).2.1.led=t.led:=by
 unfold layNew
 cases t.freeSlot h with
 | none=>rfl
 | some p =>
  obtain ⟨slot,d⟩:=p
  show ((t.put slot).1.orStandIn _).led=_
  unfold Gb
  split<;>rfl
theorem CD (t:jq) (es:Array (Int×aa)) (h:Int) (x:aa):t.plain=false->(layNew t es h x).2.1.plain=false:=by
 intro hp
 unfold layNew
 cases t.freeSlot h with
 | none=>rfl
 | some p =>
  obtain ⟨slot,d⟩:=p
  show ((t.put slot).1.orStandIn _).plain=_
  unfold Gb
  split
  ·exact hp
  ·rfl
theorem Ed {t t':jq}{hs:Array Int}{n:Nat}{o:Array Nat} (h:t.relaid hs n=some (t',o)):t'.led=t.led/\t'.plain=t.plain:=by
 unfold Kg Ae at h
 cases e:uL (cx n - 1) hs with
 | none=>rw [e] at h;cases h
 | some ow =>
  rw [e] at h
  have h:=bM h
  have h1:=congrArg Prod.fst h
  subst h1
  exact ⟨rfl,rfl⟩
theorem KJ (t:jq) (es:Array (Int×aa)) (n:Nat):(wc t es n).2.1.led=t.led/\(t.plain=false->(wc t es n).2.1.plain=false):=by
 unfold wc
 cases e:t.relaid (es.map (·.1)) n with
 | none=>exact ⟨rfl,fun _=>rfl⟩
 | some p =>
  obtain ⟨t',o⟩:=p
  obtain ⟨h1,h2⟩:=Ed e
  dsimp only
  split
  ·exact ⟨h1,fun h=>h2.trans h⟩
  ·exact ⟨rfl,fun _=>rfl⟩
theorem N6   (h:∀ e∈l,u0 w e):ElemsOf (strKind P w) l:=fun e he=>by
 obtain ⟨x,tk,rfl⟩:=h e he
 exact ⟨⟨x,by simp [PySem.strKind,uH],rfl⟩,rfl⟩
theorem Xn (P:aK) (w:bc) (x:Str) (tk:Tok):(strKind P w).is x (.str x tk)=true:=by simp [PySem.strKind,uH]
theorem IH   (h:u0 w e) (x:Str):(strKind P w).is x e.2=true↔kf e=x:=by
 obtain ⟨y,tk,rfl⟩:=h
 constructor
 ·intro q
  have:=(strKind P w).inj _ _ _ q (Xn P w y tk)
  rw [this];rfl
 ·rintro rfl
  exact Xn P w _ tk
section
variable {P:aK}{w:bc}{A:aX}{E:aa->af->Prop}{s:af}
theorem rP     (I:cX w h a es ep t):(h.update a (qJ es' t')).get? a=some { cls:=.type "set",dict:=none,data:=.set es' (ep + 1) t' }:=by
 have q:=fV (qJ es' t') I.at_ rfl
 exact q
theorem Bm     (hS:lH w s.heap a ss) (hr:ss.length + 1<j4)
  (h:∀ h' tk',bN a s.heap h'->lH w h' a (if x∈ss then ss else ss++[x])->Q (!decide (x∈ss)) { s with heap:=h',toks:=tk' }) :
  au (ax P w) A (setAddHashed a (.str x tk) ((strKind P w).hash x)) Q E s:=by
 obtain ⟨es,ep,t,I,pm⟩:=hS
 have hlen:es.size=ss.length:=by rw [<- pm.length_eq,ao,aq]
 have hel:ElemsOf (strKind P w) es.toList:=N6 I.txt
 unfold setAddHashed setAddHashedIn
 refine dv (a7 (bA (s:=s) I.at_ rfl I.fits ?_))
 dsimp only
 rw [byScan_of rfl I.few hel]
 rw [if_pos rfl]
 unfold setAddByScan
 refine a7 (a7 (df (a7 (wpAny_setScan_of (s:=s) (Xn P w x tk) I.at_ rfl I.fits hel ?_))))
 have inmem:x∈ss↔∃ e∈es.toList,(strKind P w).is x e.2=true:=by
  rw [<- pm.mem_iff,xk]
  constructor
  ·rintro ⟨e,he,q⟩;exact ⟨e,he,(IH (I.txt e he) x).mpr q⟩
  ·rintro ⟨e,he,q⟩;exact ⟨e,he,(IH (I.txt e he) x).mp q⟩
 cases hf:List.findIdx? (fun e=>(strKind P w).is x e.2) es.toList with
 | some j =>
  obtain ⟨hj,hp,_⟩:=List.findIdx?_eq_some_iff_getElem.mp hf
  have hin:x∈ss:=inmem.mpr ⟨_,ja hj,hp⟩
  have q:=h s.heap s.toks (.refl ..) (by rw [if_pos hin];exact ⟨es,ep,t,I,pm⟩)
  rw [decide_eq_true hin] at q
  exact a9 (a9 q)
 | none =>
  have hout:x∉ss:=fun z=>by
   obtain ⟨e,he,q⟩:=inmem.mp z
   rw [List.findIdx?_eq_none_iff.mp hf e he] at q
   cases q
  have h:=fun h' tk' sb=>h h' tk' sb
  rw [decide_eq_false hout,if_neg hout] at h
  have p1:=layNew_perm t es ((strKind P w).hash x) (.str x tk)
  have f1:=layNew_fits t es ((strKind P w).hash x) (.str x tk)
  have l1:=GS t es ((strKind P w).hash x) (.str x tk)
  have q1:=CD t es ((strKind P w).hash x) (.str x tk)
  generalize layNew t es ((strKind P w).hash x) (.str x tk)=L at p1 f1 l1 q1 ⊢
  obtain ⟨es1,t1,wd,gv⟩:=L
  dsimp only at p1 f1 l1 q1 ⊢
  rw [iz] at p1
  have tx1:∀ e∈es1.toList,u0 w e:=fun e he=>by
   rcases List.mem_append.mp (p1.mem_iff.mp he) with z | z
   ·exact I.txt e z
   ·rw [cf] at z;exact ⟨x,tk,z⟩
  have km:(es1.toList.map kf).Perm (ss++[x]):=(p1.map kf).trans (by rw [b9];exact pm.append_right _)
  have nd1:(ss++[x]).Nodup:=by
   rw [Mm]
   exact ⟨pm.nodup_iff.mp I.nd,by simp,fun y hy z hz e=>hout (by rw [cf] at hz;rw [<- hz,<- e];exact hy)⟩
  have sz1:es1.size=es.size + 1:=by rw [<- aq,p1.length_eq,aM,aq];rfl
  have few1:es1.size<j4:=by omega
  have gw:∀ (b:Bool) {s₁:af}{Q':Unit->af->Prop},Q' () s₁->au (ax P w) A (match b with | true=>rule "set.scan.the-table-gave-way" | false=>pure ()) Q' E s₁ :=
   fun b _ _ z=>by cases b<;>first | exact a9 z | exact df z
  have tail:∀ t2:jq,t2.fits es1.size=true->t2.led=t.led->t2.plain=false->au (ax P w) A (do
    storeSet a es1 t2
    if (!wd && t2.tooFull)=true then do
      (match (wc t2 es1 (iA es1.size)).2.2 with | true=>rule "set.scan.the-table-gave-way" | false=>pure ())
      storeSet a (wc t2 es1 (iA es1.size)).1 (wc t2 es1 (iA es1.size)).2.1
      pure (some true)
     else pure (some true)) (fun r s'=>r=some true/\Q true s') E s:=fun t2 f2 l2 n2=>by
   refine a7 (jb (s:=s) I.at_ rfl ?_ (fz few1))
   have at1:=rP (es':=es1) (t':=t2) I
   have sb1:=bK s.heap a (qJ es1 t2)
   have I1:cX w (s.heap.update a (qJ es1 t2)) a es1 (ep + 1) t2:=⟨at1,tx1,km.nodup_iff.mpr nd1,few1,f2,l2.trans I.led,.inr n2⟩
   split
   ·have p2:=relayAll_perm t2 es1 (iA es1.size)
    have f3:=relayAll_fits t2 es1 (iA es1.size)
    have l3:=KJ t2 es1 (iA es1.size)
    generalize wc t2 es1 (iA es1.size)=R3 at p2 f3 l3 ⊢
    obtain ⟨es2,t3,gv2⟩:=R3
    dsimp only at p2 f3 l3 ⊢
    have few2:es2.size<j4:=by rw [<- aq,p2.length_eq,aq];exact few1
    have km2:=(p2.map kf).trans km
    refine a7 (gw _ (a7 (jb (s:={ s with heap:=s.heap.update a (qJ es1 t2) }) I1.at_ rfl ?_ (fz few2))))
    refine a9 ⟨rfl,h _ _ (sb1.trans (bK _ a _)) ⟨es2,ep + 1 + 1,t3,⟨rP I1,fun e he=>tx1 e (p2.mem_iff.mp he),km2.nodup_iff.mpr nd1,few2,f3,l3.1.trans (l2.trans I.led),.inr (l3.2 n2)⟩,km2⟩⟩
   ·exact a9 ⟨rfl,h _ _ sb1 ⟨es1,ep + 1,t2,I1,km⟩⟩
  refine a7 (gw gv ?_)
  cases hp:t1.plain with
  | true =>
   simp only [if_true]
   rw [hashByValue_scannable 8 (x:=.str x tk) rfl]
   refine a7 (a9 ?_)
   refine bL (tail { t1 with plain:=false } (by cases t1;exact f1) l1 rfl) (fun r s' z=>?_) fun _ _ z=>z
   obtain ⟨rfl,z⟩:=z
   exact a9 z
  | false =>
   simp only [bw,if_false]
   refine a7 (a9 ?_)
   refine bL (tail t1 f1 l1 hp) (fun r s' z=>?_) fun _ _ z=>z
   obtain ⟨rfl,z⟩:=z
   exact a9 z
theorem Ee     (hS:lH w s.heap a ss) (hr:ss.length + 1<j4)
  (h:∀ h' tk',bN a s.heap h'->lH w h' a (if x∈ss then ss else ss++[x])->Q (!decide (x∈ss)) { s with heap:=h',toks:=tk' }) :
  au (ax P w) A (setAdd a (.str x tk)) Q E s:=by
 unfold setAdd
 refine dv (a7 ((strKind P w).pyHash (k:=x) (Xn P w x tk) ?_))
 exact Bm (s:={ s with toks:=s.toks + 1 }) hS hr h
end
end
section
abbrev fe (w:bc):Obj:={ cls:=.type "set",dict:=none,data:=.set #[] 0 (.fresh 0 0 (!w.params.followText "set-order")) }
theorem Bo (w:bc)  (e:h.get? a=some (fe w)):lH w h a [] :=
 ⟨#[],0,_,⟨e,fun e he=>by simp at he,by simp,by decide,rfl,rfl,.inl rfl⟩,by simp⟩
def dn:List Str->List Str->List Str
 | acc,[]=>acc
 | acc,x::r=>dn (if x∈acc then acc else acc++[x]) r
theorem iS:∀ (l acc:List Str) (x:Str),x∈dn acc l↔x∈acc\/x∈l
 | [],acc,x=>by simp [dn]
 | y::r,acc,x=>by
  rw [dn,iS r]
  by_cases h:y∈acc
  ·rw [if_pos h];simp only [a_]
   constructor
   ·exact fun z=>z.elim .inl fun z=>.inr (.inr z)
   ·rintro (z | z | z)
    ·exact .inl z
    ·exact .inl (z ▸ h)
    ·exact .inr z
  ·rw [if_neg h];simp [e_,or_assoc]
theorem iK:∀ (l acc:List Str),acc.Nodup->(dn acc l).Nodup
 | [],acc,h=>h
 | y::r,acc,h=>by
  rw [dn]
  refine iK r _ ?_
  by_cases hy:y∈acc
  ·rw [if_pos hy];exact h
  ·rw [if_neg hy,Mm]
   exact ⟨h,by simp,fun a ha b hb e=>hy (by rw [cf] at hb;rw [<- hb,<- e];exact ha)⟩
theorem gn:∀ (l acc:List Str),(dn acc l).length<=acc.length + l.length
 | [],acc=>by simp [dn]
 | y::r,acc=>by
  rw [dn]
  have:=gn r (if y∈acc then acc else acc++[y])
  by_cases hy:y∈acc
  ·rw [if_pos hy] at this ⊢;simp only [aW];omega
  ·rw [if_neg hy] at this ⊢;simp only [aW,aM,dJ,bT] at this ⊢;omega
section
variable {prog:aK}{w:bc}{A:aX}{E:aa->af->Prop}{s:af}{R:tQ->af->Prop}
theorem lH.keep   (x:lH w h a ss) (k:∀ o,h.get? a=some o->h'.get? a=some o):lH w h' a ss :=
 let ⟨es,ep,t,I,p⟩:=x;⟨es,ep,t,⟨k _ I.at_,I.txt,I.nd,I.few,I.fits,I.led,I.pl⟩,p⟩
theorem Az {I:ak}{fp wr:List ak}{n:Nat}{Pv:Nat->aa->Prop}{St:Nat->bF->Prop} (W:Q7 prog w A.in1 I fp wr n Pv St) (D:ak) (hD:D∉fp) (xs:List Str) (hx:xs.length=n)
  (hv:∀ i v,Pv i v->∃ x t,xs[i]?=some x/\v=.str x t) (hb:n + 1<j4) :
  ∀ (k i:Nat) (s:af) (acc:List Str),n - i=k->i<=n->acc.length<=i->St i s.heap->lH w s.heap D acc ->
   (∀ h' tk,(∀ b o,b∉D::wr->s.heap.get? b=some o->h'.get? b=some o)->lH w h' D (dn acc (xs.drop i))->R (.ok (.ret .none)) { s with heap:=h',toks:=tk }) ->
   jE (ax prog w) A (.builtin "set.update.loop" ⟨[.ref D,.ref I],[]⟩) R s:=by
 have hDw:D∉wr:=fun z=>hD (W.sub _ z)
 intro k
 induction k with
 | zero =>
  intro i s acc hk hi hl st hS hR
  obtain rfl:i=n:=by omega
  refine hV oW ?_
  rw [eN ir _]
  show au _ A.in1 (lB (.ref I) >>= _) _ _ s
  refine a7 (W.done s _ _ st fun h' tk kp=>?_)
  refine a9 (hR h' tk (fun b o hb e=>kp b o (fun z=>hb (ah _ z)) e) ?_)
  rw [List.drop_of_length_le (by omega)]
  exact hS.keep fun o e=>kp D o hDw e
 | succ k ih =>
  intro i s acc hk hi hl st hS hR
  have hlt:i<n:=by omega
  refine hV oW ?_
  rw [eN ir _]
  show au _ A.in1 (lB (.ref I) >>= _) _ _ s
  refine a7 (W.item i s _ _ hlt st fun v h' tk hP st' kp=>?_)
  obtain ⟨x,t,hxi,rfl⟩:=hv i v hP
  have hS':lH w h' D acc:=hS.keep fun o e=>kp D o hDw e
  refine a7 (dv (Ee (s:={ s with heap:=h',toks:=tk }) hS' (by omega) fun h2 tk2 sb hS2=>?_))
  refine a9 ⟨qK ir _,ih (i + 1) _ (if x∈acc then acc else acc++[x]) (by omega) hlt ?_ (W.frame _ _ _ st' fun b hb o e=>?_) hS2 fun h3 tk3 k3 hS3=>?_⟩
  ·by_cases z:x∈acc
   ·rw [if_pos z];omega
   ·rw [if_neg z,aM,dJ];omega
  ·rw [sb.2 b fun z=>hD (z ▸ hb)];exact e
  ·refine hR h3 tk3 (fun b o hb e=>k3 b o hb ?_) ?_
   ·rw [sb.2 b fun z=>hb (by rw [z];exact am)]
    exact kp b o (fun z=>hb (ah _ z)) e
   ·have hd:xs.drop i=x::xs.drop (i + 1):=by
     obtain ⟨h1,h2⟩:=List.getElem?_eq_some_iff.mp hxi
     rw [Ce h1,h2]
    rw [hd,dn];exact hS3
theorem N7 (a:aa) (h:Q₁ (.ref s.heap.objs.size) { s with heap:=s.heap.push (fe w) }) :
  jE (ax prog w) A (.call (.builtin "set.__new__") ⟨[.type "set",a],[]⟩) (wants Q₁ E) s:=by
 refine DS ?_
 show au _ A.in1 (do checkBuiltinCall "set.__new__" ⟨[.type "set",a],[]⟩;Q2 (.builtin "set.__new__" ⟨[.type "set",a],[]⟩)) _ _ s
 refine a7 (f9 (F.newCall_set_1 a) (a9 ⟨qK F.plain_set_new _,hV F.entry_set_new ?_⟩))
 rw [eN F.plain_set_new _]
 unfold jG.«set.__new__» Q8
 have hsub:=Mn
 obtain ⟨hp,g,d,tk,os⟩:=s
 dsimp only
 wp_walk
 refine ik (a9 ?_)
 dsimp only
 simp only [newObj]
 refine a7 (Q6 (a9 ?_))
 exact a9 h
structure Uj (prog:aK) (w:bc) (A:aX) (T:String) (l:ak) (o:Obj) (items:Array aa):Prop where
 ty:o.cls=.type T
 s1:isSubtype (.type T) (.type "set")=pure false
 s2:isSubtype (.type T) (.type "frozenset")=pure false
 nd:(iO T == iO "dict")=false
 iter:∀ (s:af) (Q:aa->af->Prop) (E:aa->af->Prop),s.heap.get? l=some o ->
  (∀ ob St,Q7 prog w A.in1 s.heap.objs.size [s.heap.objs.size,l] [s.heap.objs.size] items.size (fun i v=>items[i]?=some v) St->St 0 (s.heap.push ob)->Q (.ref s.heap.objs.size) { s with heap:=s.heap.push ob })->au (ax prog w) A (yA (.ref l)) Q E s
theorem v9 {T:String}{l:ak}{ol:Obj}{items:Array aa}{xs:List Str}{Q:aa->af->Prop}
  (src:Uj prog w A.in1.in1 T l ol items) (hol:s.heap.get? l=some ol) (hi:∀ (i:Nat) (v:aa),items[i]?=some v->∃ x t,xs[i]?=some x/\v=jM x t) (hx:xs.length=items.size) (hb:items.size + 1<j4)
  (h:∀ (h':bF) (tk:Nat),lH w h' s.heap.objs.size (dn [] xs)->(∀ b o,s.heap.get? b=some o->h'.get? b=some o)->Q (.ref s.heap.objs.size) { s with heap:=h',toks:=tk }) :
  au (ax prog w) A (call (.type "set") [.ref l]) Q E s:=by
 obtain ⟨c,tl,hmro⟩:=F.called_set.mro
 have hmade:=F.called_set.made
 have hsub:=F.called_set.sub
 refine wpAny_call (DS ?_)
 show au _ _ (callAny (.type "set") _) _ _ _
 refine a9 ⟨Code.quiet_builtin _ (by decide +kernel),hV F.entry_type_call ?_⟩
 rw [Around.under_plain (weight_type_call_type "set" [.ref l] []) rfl]
 have h1:=F.called_set.notType
 have h2:=F.called_set.canCreate
 have hct:=F.typeCall_set_1 (.ref l)
 repeat (any_goals (first | assumption | wp_step))
 refine tR (N7 (.ref l) (E:=E) (Q₁:=fun obj s₁=>obj=.ref s.heap.objs.size/\s₁={ s with heap:=s.heap.push (fe w) }) ⟨rfl,rfl⟩) fun r s₁ hr=>?_
 cases r with
 | error e=>exact hr
 | ok fl =>
  cases fl with
  | ret obj =>
   obtain ⟨rfl,rfl⟩:=hr
   have hS:(s.heap.push (fe w)).get? s.heap.objs.size=some (fe w):=aw _ rfl
   have hT:Q9 { s with heap:=s.heap.push (fe w) } (.ref s.heap.objs.size) "set":=⟨_,hS,rfl⟩
   have hli:=F.called_set.init.lookup
   have hbi:=F.called_set.init.bind (.ref s.heap.objs.size)
   repeat (any_goals (first | assumption | wp_step))
   refine tR (codeAny_call_builtin (R:=wants (fun r s₂=>r=.none/\∃ h' tk,s₂={ s with heap:=h',toks:=tk }/\lH w h' s.heap.objs.size (dn [] xs) /\
     (∀ b o,s.heap.get? b=some o->h'.get? b=some o)) E) F.called_set.init.plain F.entry_set_init (check_set_init_1 hT ?_)) fun r₂ s₂ hr₂=>?_
   ·obtain ⟨oc,od,odt,os'⟩:=ol
    obtain ⟨ty,s1,s2,nd,iter⟩:=src
    have ty:oc=.type T:=ty
    subst ty
    have hol':(s.heap.push (fe w)).get? l=some { cls:=.type T,dict:=od,data:=odt,slots:=os' }:=ac _ hol
    unfold jG.«set.__init__» noKeywords jH
    generalize hPI:yA=PI
    wp_walk
    subst hPI
    refine iter { s with heap:=s.heap.push (fe w) } _ _ hol' fun ob St W st=>?_
    have hlS:l<s.heap.objs.size:=ap hol
    refine a7 (Gs ?_)
    have szp:(s.heap.push (fe w)).objs.size=s.heap.objs.size + 1:=cc ..
    refine Az (A:=A.in1.in1) W s.heap.objs.size (by rw [szp];simp only [a_,bv,or_false,not_or];exact ⟨aE (dS _),eO hlS⟩) xs hx hi hb items.size 0 _ [] (by omega) (cC _) (ar _) st (Bo w (ac _ hS)) fun h' tk kp hS'=>?_
    show au _ _ _ _ _ _
    refine a9 ?_
    show au _ _ (ret dX) _ _ _
    refine a9 ⟨rfl,h',tk,rfl,hS',fun b o e=>kp b o ?_ (ac _ (ac _ e))⟩
    have:=ap e
    rw [szp]
    simp only [a_,bv,or_false,not_or]
    exact ⟨aE this,aE (dI this)⟩
   ·cases r₂ with
    | error e=>exact hr₂
    | ok fl₂ =>
     cases fl₂ with
     | ret r =>
      obtain ⟨rfl,h',tk,rfl,hS',hk'⟩:=hr₂
      repeat (any_goals (first | assumption | wp_step))
      exact h _ _ hS' hk'
     | next=>exact hr₂.elim
     | brk=>exact hr₂.elim
     | cont=>exact hr₂.elim
  | next=>exact hr.elim
  | brk=>exact hr.elim
  | cont=>exact hr.elim
theorem N8 {l:ak}{o:Obj}{its:List aa} (hh:A.handled=none) (e0:o.cls=.type "list") (e1:∃ n,o.data=.seq its.toArray n):Uj prog w A "list" l o its.toArray :=
 ⟨e0,F.sub_list_set,F.sub_list_frozenset,by decide,fun s Q E e h=>lC ⟨_,e,e0,e1⟩
  (h _ _ (Am (by simpa using hh) _ l (aE (ap e)) its.toArray) ⟨⟨_,aw _ rfl,rfl,rfl⟩,⟨_,ac _ e,e0,e1⟩⟩)⟩
theorem QX {l:ak}{o:Obj}{its:List aa} (hh:A.handled=none) (e0:o.cls=.type "tuple") (e1:∃ n,o.data=.seq its.toArray n):Uj prog w A "tuple" l o its.toArray :=
 ⟨e0,F.sub_tuple_set,F.sub_tuple_frozenset,by decide,fun s Q E e h=>gF ⟨_,e,e0,e1⟩
  (h _ _ (Walks.tuple (by simpa using hh) _ l (aE (ap e)) its.toArray) ⟨⟨_,aw _ rfl,rfl,rfl⟩,⟨_,ac _ e,e0,e1⟩⟩)⟩
end
end
end L2
section
namespace L2
open PySem PySem.Spec PyProof.Rows
namespace SI
theorem entry_iter:Qa table "set.__iter__"=some jG.«frozenset.__iter__» :=
 Gu (id':="frozenset.__iter__") (by kernel_rfl) rfl (by decide +kernel) (by kernel_rfl)
theorem slot_next:Slot "set_iterator" "__next__" "set_iterator.__next__":=by
 refine .of (owner:="set_iterator") (n:="__next__") ?_ ?_ ?_ ?_ ?_ ?_
 ·rw [typeLookup_type,PQ];kernel_rfl
 ·decide +kernel
 ·decide +kernel
 ·decide +kernel
 ·first
   | exact .inl (by decide +kernel)
   | exact .inr (by decide +kernel)
 ·rw [Gv];kernel_rfl
theorem entry_next:Qa table "set_iterator.__next__"=some jG.«set_iterator.__next__» :=
 entryFor_of_tree (by kernel_rfl)
theorem Ef:Manifest.owners.lookup (String.ofList ['r','o','t','a','r','e','t','i','_','t','e','s'].reverse)=some Manifest.sig_set_iterator:=by kernel_rfl
theorem args_next (a:aa):argsOk "set_iterator.__next__" ⟨[a],[]⟩:=by
 unfold argsOk
 rw [signature?_of (id:="set_iterator.__next__") (n:=['_','_','t','x','e','n','_','_']) (o:=['r','o','t','a','r','e','t','i','_','t','e','s']) (by kernel_rfl) Ef]
 kernel_rfl
theorem args_iter (a:aa):argsOk "set_iterator.__iter__" ⟨[a],[]⟩:=by
 unfold argsOk
 rw [signature?_of (id:="set_iterator.__iter__") (n:=['_','_','r','e','t','i','_','_']) (o:=['r','o','t','a','r','e','t','i','_','t','e','s']) (by kernel_rfl) Ef]
 kernel_rfl
theorem entry_self:Qa table "set_iterator.__iter__"=some jG.«dict_keyiterator.__iter__» :=
 Gu (id':="dict_keyiterator.__iter__") (by kernel_rfl) rfl (by decide +kernel) (by kernel_rfl)
theorem slot_iter:Slot "set_iterator" "__iter__" "set_iterator.__iter__":=by
 refine .of (owner:="set_iterator") (n:="__iter__") ?_ ?_ ?_ ?_ ?_ ?_
 ·rw [typeLookup_type,PQ];kernel_rfl
 ·decide +kernel
 ·decide +kernel
 ·decide +kernel
 ·first
   | exact .inl (by decide +kernel)
   | exact .inr (by decide +kernel)
 ·rw [Gv];kernel_rfl
end SI
end L2
end
namespace L2
open PySem PySem.Spec PyProof.Rows
section
theorem u4 {α:Type}:∀ {l:List α}{i:Nat} (h:i<l.length),(l[i]::l.eraseIdx i).Perm l
 | x::r,0,_=>.refl _
 | x::r,i + 1,h=>by
  have q:=u4 (l:=r) (i:=i) (by simpa using h)
  rw [List.getElem_cons_succ,List.eraseIdx_cons_succ]
  exact (List.Perm.swap _ _ _).trans (q.cons x)
section
variable {M:Ag}{A:aX}{E:aa->af->Prop}{s:af}
theorem KL   (hn:n≠0) (h:∀ i d,i<n->Q i { s with drawn:=d }):au M A (choose src n) Q E s :=
 fun _ _ _=>⟨hn,h _ _ (Cf _ (Nat.pos_of_ne_zero hn))⟩
theorem vb {α:Type}:∀ (n:Nat) (xs:List α) (s:af) (Q:List α->af->Prop),n=xs.length->(∀ ys d,ys.Perm xs->Q ys { s with drawn:=d })->au M A (drawOrder n xs) Q E s
 | 0,xs,s,Q,hn,h=>by
  obtain rfl:xs=[]:=List.length_eq_zero_iff.mp hn.symm
  exact a9 (h [] s.drawn .nil)
 | n + 1,[],s,Q,hn,h=>by cases hn
 | n + 1,x::r,s,Q,hn,h=>by
  show au M A (choose .order (x::r).length >>= _) Q E s
  refine a7 (KL (by simp) fun i d hi=>?_)
  rw [aV hi]
  refine a7 (vb n _ _ _ (by rw [B9 hi];omega) fun ys d' p=>a9 ?_)
  exact h _ _ ((p.cons _).trans (u4 hi))
end
theorem CF {α:Type} (next:Nat->Nat):∀ (n k:Nat) (left:List α) (out:Array α),n=left.length->(An next n k left out).toList.Perm (out.toList++left)
 | 0,k,left,out,hn=>by
  obtain rfl:left=[]:=List.length_eq_zero_iff.mp hn.symm
  rw [An,cO]
 | n + 1,k,left,out,hn=>by
  have hl:next k % left.length<left.length:=Cf _ (by omega)
  rw [An,aV hl]
  refine (CF next n (k + 1) _ _ (by rw [B9 hl];omega)).trans ?_
  rw [iz,eW]
  exact (u4 hl).append_left _
theorem wv {α:Type} (next:Nat->Nat) (xs:Array α):(oX next xs).toList.Perm xs.toList:=by
 have:=CF next xs.size 0 xs.toList #[] (by simp)
 simpa [oX] using this
def CG (h:bF) (I S:ak) (first:aa) (i n ep:Nat):Prop:=h.get? I=some { cls:=.type "set_iterator",data:=.fields #[first,.int i 0,.ref S,.int n 0,.int ep 0] }
section
variable {prog:aK}{w:bc}{A:aX}{E:aa->af->Prop}{s:af}{I S:ak}{es:Array (Int×aa)}{ep:Nat}{t:jq}{i n:Nat}{first:aa}
theorem CG.put {f f':aa}{j j':Nat}{k:Nat}{x:aa}{h:bF} (hit:CG h I S f j n ep) (e:(#[f,.int j 0,.ref S,.int n 0,.int ep 0] : Array aa).setIfInBounds k x=#[f',.int j' 0,.ref S,.int n 0,.int ep 0]) :
  CG (h.update I (e6 (·.setIfInBounds k x))) I S f' j' n ep:=by
 have q:=fV (e6 (·.setIfInBounds k x)) hit rfl
 unfold CG
 rw [q]
 show some ({ cls:=.type "set_iterator",data:=.fields ((#[f,.int j 0,.ref S,.int n 0,.int ep 0] : Array aa).setIfInBounds k x) }:Obj)=_
 rw [e]
theorem rQ (hit:CG s.heap I S first i n ep) (hS:cX w s.heap S es ep t) (hn:n=es.size)
  (h:au (ax prog w) A.in1 (do
   if let .int slot _:=first then
    match <- Mo S slot.toNat i ep with
    | some (x,next) =>
     il (.ref I) 0 (cn next)
     il (.ref I) 1 (cn (i + 1))
     ret x
    | none=>il (.ref I) 2 .none;sK (<- tU (.type "StopIteration") [])
   else
    let some places <- M7 first | we "internal:set_iterator"
    match places[i]? with
    | some (.int place _) =>
     let x <- setNextDrawn S place.toNat ep
     il (.ref I) 1 (cn (i + 1))
     ret x
    | some _=>we "internal:set_iterator"
    | none=>il (.ref I) 0 (cn 0);il (.ref I) 2 .none;sK (<- tU (.type "StopIteration") []))
   (fun fin s'=>∃ v,fin=.done (.ret v)/\Q (some v) s') (fun e s'=>au (ax prog w) A (isInstance e (.type "StopIteration")) (fun b s''=>b=true/\Q none s'') E s') s) :
  au (ax prog w) A (lB (.ref I)) Q E s:=by
 unfold lB
 refine a7 (k9 ?_)
 refine cq (name:=gR "__next__") ⟨_,hit,rfl⟩ SI.slot_next ?_
 refine bJ SI.slot_next ⟨_,hit,rfl⟩ SI.entry_next ?_ (SI.args_next _)
 show au _ _ (fieldsOf (.ref I) >>= _) _ _ s
 refine a7 (Gw hit rfl ?_)
 show au _ _ (setEntries S >>= _) _ _ s
 refine a7 (wpAny_setEntries_of hS.at_ rfl hS.fits ?_)
 rw [if_neg (by rw [hn];simp)]
 refine bL h (fun fin s' z=>?_) fun e s' z=>?_
 ·obtain ⟨v,rfl,q⟩:=z
  exact ⟨v,rfl,a9 q⟩
 ·refine a7 (bL z (fun b s'' ⟨hb,q⟩=>?_) fun _ _ z=>z)
  subst hb
  exact a9 q
theorem CH {B:aX}{Q:Option aa->af->Prop}{Q':Fin->af->Prop}{o:Obj}{vs:Array aa} (hh:B.handled=none) (ho:s.heap.get? I=some o) (hd:o.data=.fields vs) (hz:2<vs.size)
  (h:∀ h',Iv I s.heap h'->Q none { s with heap:=h' }) :
  au (ax prog w) B (do il (.ref I) 2 .none;sK (<- tU (.type "StopIteration") []))
   Q' (fun e s'=>au (ax prog w) A (isInstance e (.type "StopIteration")) (fun b s''=>b=true/\Q none s'') E s') s:=by
 refine a7 (gH ho hd hz ?_)
 show au _ _ (tU (.type "StopIteration") [] >>= _) _ _ _
 refine a7 ?_
 simp only [tU,Qb]
 refine a7 (bR ?_ (by size_fits))
 refine a7 (m:=lF _ _) (f9 (a:=dX) ?_ ?_)
 ·first
   | rfl
   | (simp only [lF];rfl)
 refine bR ?_ (by size_fits)
 simp only [sK]
 refine a7 (Kh ?_)
 rw [hh]
 refine a7 (a9 (Qc ?_))
 refine gg (T:="StopIteration") (b:=true) ⟨_,aw _ rfl,rfl⟩ wf ⟨rfl,?_⟩
 exact h _ (((bK ..).extBut.push _).push _)
end
end
section
section
variable {prog:aK}{w:bc}{A:aX}{E:aa->af->Prop}{s:af}{I S:ak}{es:Array (Int×aa)}{ep:Nat}{t:jq}{i n:Nat}{first:aa}
theorem cX.keep (x:cX w h S es ep t) (k:∀ o,h.get? S=some o->h'.get? S=some o):cX w h' S es ep t:=⟨k _ x.at_,x.txt,x.nd,x.few,x.fits,x.led,x.pl⟩
theorem CI {Q:aa->af->Prop} (hit:CG s.heap I S first i n ep) (h:Q (.ref I) s):au (ax prog w) A (yA (.ref I)) Q E s:=by
 refine Ao ⟨_,hit,rfl⟩ SI.slot_iter (bJ SI.slot_iter ⟨_,hit,rfl⟩ SI.entry_self ?_ (SI.args_iter _))
 show au _ _ (ret (.ref I)) _ _ s
 exact a9 ⟨_,rfl,"set_iterator",_,⟨_,hit,rfl⟩,SI.slot_next.lookup,h⟩
theorem fj {Q:Bool->af->Prop}{B:aX} (h:Q (w.params.followText "set-order") s):au (ax prog w) B setsByText Q E s:=by
 unfold setsByText
 exact a7 (ik (a9 h))
theorem N9 {B:aX}{Q':Fin->af->Prop}{x:aa}{nx:Nat}{E':aa->af->Prop} (hit:CG s.heap I S first i n ep)
  (h:∀ h',CG h' I S (.int nx 0) (i + 1) n ep->bN I s.heap h'->Q' (.done (.ret x)) { s with heap:=h' }) :
  au (ax prog w) B (do il (.ref I) 0 (cn nx);il (.ref I) 1 (cn (i + 1));ret x) Q' E' s:=by
 refine a7 (gH hit rfl (by simp) ?_)
 have h1:CG (s.heap.update I (e6 (·.setIfInBounds 0 (cn nx)))) I S (.int nx 0) i n ep:=hit.put (by simp [cn])
 refine a7 (gH h1 rfl (by simp) ?_)
 have h2:CG ((s.heap.update I (e6 (·.setIfInBounds 0 (cn nx)))).update I (e6 (·.setIfInBounds 1 (cn (i + 1))))) I S (.int nx 0) (i + 1) n ep:=h1.put (by simp [cn])
 exact a9 (h _ h2 ((bK ..).trans (bK ..)))
theorem ww (f:Nat->Nat) (es:Array (Int×aa)):(oX f es).size=es.size:=by
 rw [<- aq,(wv f es).length_eq,aq]
theorem GT (hh:A.handled=none) (hw:w.params.followText "set-order"=true) (hne:S≠I) :
  Q7 prog w A I [I,S] [I] es.size (fun i v=>((oX (w.params.setOrder S ep) es).toList.map (·.2))[i]?=some v) (fun i h=>CG h I S (.int 0 0) i es.size ep/\cX w h S es ep t) where
 sub:=fun b hb=>by simp at hb;simp [hb]
 frame:=fun i h h' st k=>⟨k I (by simp) _ st.1,st.2.keep fun o e=>k S (by simp) o e⟩
 item:=fun i s Q E hi st hQ=>by
  obtain ⟨hit,hS⟩:=st
  refine rQ hit hS rfl ?_
  dsimp only
  unfold Mo setWalk
  refine a7 (a7 (bA hS.at_ rfl hS.fits (a7 (fj ?_))))
  rw [hw]
  simp only [if_true,bne_self_eq_false,bw,if_false]
  refine a7 (a7 (bA hS.at_ rfl hS.fits (a7 (fj ?_))))
  rw [hw]
  simp only [if_true]
  refine a7 (ik (a9 (a9 ?_)))
  have hi':i<(oX (w.params.setOrder S ep) es).size:=by rw [ww];exact hi
  show au _ _ (match ((oX (w.params.setOrder S ep) es)[i]?).map fun e=>(e.2,(0:Int).toNat) with
   | some (x,next)=>do il (.ref I) 0 (cn next);il (.ref I) 1 (cn (i + 1));ret x
   | none=>do il (.ref I) 2 .none;sK (<- tU (.type "StopIteration") [])) _ _ s
  rw [getElem?_pos _ i hi']
  refine N9 (nx:=0) hit fun h' h1 sb=>⟨_,rfl,hQ _ h' s.toks ?_ ⟨h1,hS.keep fun o e=>(sb.2 S hne).trans e⟩ fun b o hb e=>(sb.2 b fun z=>hb (by simp [z])).trans e⟩
  simp [hi']
 done:=fun s Q E st hQ=>by
  obtain ⟨hit,hS⟩:=st
  refine rQ hit hS rfl ?_
  dsimp only
  unfold Mo setWalk
  refine a7 (a7 (bA hS.at_ rfl hS.fits (a7 (fj ?_))))
  rw [hw]
  simp only [if_true,bne_self_eq_false,bw,if_false]
  refine a7 (a7 (bA hS.at_ rfl hS.fits (a7 (fj ?_))))
  rw [hw]
  simp only [if_true]
  refine a7 (ik (a9 (a9 ?_)))
  show au _ _ (match ((oX (w.params.setOrder S ep) es)[es.size]?).map fun e=>(e.2,(0:Int).toNat) with
   | some (x,next)=>do il (.ref I) 0 (cn next);il (.ref I) 1 (cn (es.size + 1));ret x
   | none=>do il (.ref I) 2 .none;sK (<- tU (.type "StopIteration") [])) _ _ s
  rw [getElem?_neg _ es.size (by rw [ww];exact bW _)]
  exact CH (by simpa using hh) hit rfl (by simp) fun h' eb=>hQ h' s.toks fun b o hb e=>eb b o (fun z=>hb (by simp [z])) e
 self:=fun i s Q E st h=>CI st.1 h
inductive Y9 (h:bF) (T:ak) (ps:List Nat):Prop
 | mk (o k:_) (h0:h.get? T=some o) (h1:o.data=.seq (ps.map fun (p:Nat)=>mT (p:Int) 0).toArray k):Y9 h T ps
theorem Eg (hh:A.handled=none)  (hne:S≠I) (hT:T≠I) (hp:∀ p∈ps,p<es.size) (hn:ps.length=es.size) :
  Q7 prog w A I [I,S,T] [I] es.size (fun i v=>(ps.map fun p=>(es.getD p (0,.none)).2)[i]?=some v) (fun i h=>CG h I S (.ref T) i es.size ep/\cX w h S es ep t/\Y9 h T ps) where
 sub:=fun b hb=>by simp at hb;simp [hb]
 frame:=fun i h h' st k=>⟨k I (by simp) _ st.1,st.2.1.keep fun o e=>k S (by simp) o e,let ⟨o,q,e,d⟩:=st.2.2;⟨o,q,k T (by simp) o e,d⟩⟩
 item:=fun i s Q E hi st hQ=>by
  obtain ⟨hit,hS,o,q,e,d⟩:=st
  refine rQ hit hS rfl ?_
  dsimp only
  refine a7 (fc e d ?_)
  have hi':i<ps.length:=by omega
  dsimp only
  rw [show ((ps.map fun (p:Nat)=>mT (p:Int) 0).toArray)[i]?=some (.int (ps[i] : Nat) 0) by simp [hi']]
  dsimp only
  unfold setNextDrawn
  refine a7 (a7 (bA hS.at_ rfl hS.fits ?_))
  have hlt:=hp ps[i] (ja hi')
  simp only [bne_self_eq_false,bw,if_false,ki]
  rw [getElem?_pos es ps[i] hlt]
  refine a9 ?_
  refine a7 (gH hit rfl (by simp) ?_)
  have h1:CG (s.heap.update I (e6 (·.setIfInBounds 1 (cn (i + 1))))) I S (.ref T) (i + 1) es.size ep:=hit.put (by simp [cn])
  have sb:bN I s.heap (s.heap.update I (e6 (·.setIfInBounds 1 (cn (i + 1))))):=bK ..
  refine a9 ⟨_,rfl,hQ _ _ s.toks ?_ ⟨h1,hS.keep fun o e=>(sb.2 S hne).trans e,o,q,(sb.2 T hT).trans e,d⟩ fun b o hb e=>(sb.2 b fun z=>hb (by simp [z])).trans e⟩
  simp [hi',hlt]
 done:=fun s Q E st hQ=>by
  obtain ⟨hit,hS,o,q,e,d⟩:=st
  refine rQ hit hS rfl ?_
  dsimp only
  refine a7 (fc e d ?_)
  dsimp only
  rw [show ((ps.map fun (p:Nat)=>mT (p:Int) 0).toArray)[es.size]?=none by simp [<- hn]]
  dsimp only
  refine a7 (gH hit rfl (by simp) ?_)
  have h1:CG (s.heap.update I (e6 (·.setIfInBounds 0 (cn 0)))) I S (.int 0 0) es.size es.size ep:=hit.put (by simp [cn])
  have sb:bN I s.heap (s.heap.update I (e6 (·.setIfInBounds 0 (cn 0)))):=bK ..
  exact CH (s:={ s with heap:=s.heap.update I (e6 (·.setIfInBounds 0 (cn 0))) }) (by simpa using hh) h1 rfl (by simp) fun h' eb=>hQ h' s.toks fun b o hb e=>eb b o (fun z=>hb (by simp [z])) ((sb.2 b fun z=>hb (by simp [z])).trans e)
 self:=fun i s Q E st h=>CI st.1 h
theorem Na  (h:p=#[j]):iB p 0=0:=by subst h;simp [iB,Ap]
theorem Nb {p:Array Nat}{j:Nat} (h:p=#[j]):iB p (j + 1)=1:=by subst h;simp [iB,Ap]
theorem KM (h : t.fits 1 = true) : ∃ j, t.place = #[j] := by
  have h1 : t.place.size = 1 := by
    simp only [nh, aR, beq_iff_eq] at h; exact h.1
  exact ⟨t.place[0], by apply Array.ext; · simp [h1]
                        · intro i h2 h3; have : i = 0 := by omega
                          subst this; simp⟩
theorem Uk   (hl:t.led=true) (h:au (ax prog w) B (k ()) Q E s) :
  au (ax prog w) B ((if (!t.led && !es.isEmpty)=true then we "set:maker-not-led" else pure ()) >>= k) Q E s:=by
 rw [if_neg (by rw [hl];simp)]
 exact a7 (a9 h)
theorem vc {B:aX}{slot g:Nat}{Q:Option (aa×Nat)->af->Prop} (hw:w.params.followText "set-order"=false) (hS:cX w s.heap S es ep t) (h1:es.size<=1)
  (h:Q (match es[iB t.place slot]?,t.place[iB t.place slot]? with | some (_,x),some j=>some (x,j + 1) | _,_=>none) s):au (ax prog w) B (Mo S slot g ep) Q E s:=by
 unfold Mo
 refine a7 (bA hS.at_ rfl hS.fits (a7 (fj ?_)))
 rw [hw]
 simp only [bw,if_false]
 split
 ·rename_i z
  exact absurd (show (!t.plain && decide (es.size > 1))=true from z) (by simp;omega)
 ·have hl:t.led=true:=by rw [hS.led,hw];rfl
  exact Uk hl (a9 h)
theorem KN (hh:A.handled=none) (hw:w.params.followText "set-order"=false) (hne:S≠I) (h1:es.size<=1) :
  Q7 prog w A I [I,S] [I] es.size (fun i v=>(es.toList.map (·.2))[i]?=some v)
   (fun i h=>∃ k,CG h I S (.int (k:Nat) 0) i es.size ep/\cX w h S es ep t/\(i=0->k=0)/\(i=1->es.size=1->∃ j,t.place=#[j]/\k=j + 1)) where
 sub:=fun b hb=>by simp at hb;simp [hb]
 frame:=fun i h h' st k=>let ⟨c,a1,a2,a3⟩:=st;⟨c,k I (by simp) _ a1,a2.keep fun o e=>k S (by simp) o e,a3⟩
 item:=fun i s Q E hi st hQ=>by
  obtain ⟨c,hit,hS,c0,c1⟩:=st
  have hi0:i=0:=by omega
  subst hi0
  obtain rfl:c=0:=c0 rfl
  have e1:es.size=1:=by omega
  obtain ⟨j,hj⟩:=KM (t:=t) (by rw [<- e1];exact hS.fits)
  refine rQ hit hS rfl ?_
  dsimp only
  refine a7 (vc hw hS h1 ?_)
  rw [show (((0:Nat):Int).toNat)=0 from rfl,Na hj,getElem?_pos es 0 (by omega),hj]
  refine N9 (nx:=j + 1) hit fun h' h1 sb=>⟨_,rfl,hQ _ h' s.toks ?_ ⟨j + 1,h1,hS.keep fun o e=>(sb.2 S hne).trans e,by simp,fun _ _=>⟨j,hj,rfl⟩⟩ fun b o hb e=>(sb.2 b fun z=>hb (by simp [z])).trans e⟩
  simp [e1]
 done:=fun s Q E st hQ=>by
  obtain ⟨c,hit,hS,c0,c1⟩:=st
  refine rQ hit hS rfl ?_
  dsimp only
  refine a7 (vc hw hS h1 ?_)
  have hz:es[iB t.place ((c:Nat):Int).toNat]?=none:=by
   rcases fW es.size with z | z
   ·rw [getElem?_neg];omega
   ·have e1:es.size=1:=by omega
    obtain ⟨j,hj,hc⟩:=c1 e1 e1
    rw [hc,show (((j + 1:Nat):Int).toNat)=j + 1 from rfl,Nb hj,getElem?_neg];omega
  rw [hz]
  exact CH (by simpa using hh) hit rfl (by simp) fun h' eb=>hQ h' s.toks fun b o hb e=>eb b o (fun z=>hb (by simp [z])) e
 self:=fun i s Q E st h=>let ⟨_,a1,_⟩:=st;CI a1 h
theorem GU {Q:aa->af->Prop} (hh:A.handled=none) (hS:cX w s.heap S es ep t)
  (h:∀ (I:ak) (fp:List ak) (ord:List aa) (St:Nat->bF->Prop) (h':bF) (d:M0),s.heap.objs.size<=I->(∀ b∈fp,b=S\/s.heap.objs.size<=b)->(∀ b∈fp,b<h'.objs.size)->ord.Perm (es.toList.map (·.2))->(∀ B:aX,B.handled=none->Q7 prog w B I fp [I] ord.length (fun i v=>ord[i]?=some v) St)->St 0 h' ->
   (∀ b o,s.heap.get? b=some o->h'.get? b=some o)->Q9 { s with heap:=h',drawn:=d } (.ref I) "set_iterator"->Q (.ref I) { s with heap:=h',drawn:=d }):au (ax prog w) A (yA (.ref S)) Q E s:=by
 have hT:s.TypeIs (.ref S) "set":=⟨_,hS.at_,rfl⟩
 have hlt:=ap hS.at_
 refine Ao hT F.slot_set_iter (bJ F.slot_set_iter hT SI.entry_iter ?_ (F.args_set_iter_1 _))
 show au _ _ (tV S >>= _) _ _ s
 unfold tV
 refine a7 (a7 (wpAny_setEntries_of hS.at_ rfl hS.fits (a9 ?_)))
 show au _ _ (setDrawn S >>= _) _ _ s
 unfold setDrawn
 refine a7 (a7 (bA hS.at_ rfl hS.fits (a7 (fj (a9 ?_)))))
 have fin:∀ (first:aa) (fp:List ak) (ord:List aa) (St:Nat->bF->Prop) (h':bF) (d:M0),(∀ b o,s.heap.get? b=some o->h'.get? b=some o)->s.heap.objs.size<=h'.objs.size ->
   (∀ b∈fp,b=S\/b=h'.objs.size\/(s.heap.objs.size<=b/\b<h'.objs.size))->ord.Perm (es.toList.map (·.2))->(∀ B:aX,B.handled=none->Q7 prog w B h'.objs.size fp [h'.objs.size] ord.length (fun i v=>ord[i]?=some v) St) ->
   (∀ h'':bF,(∀ b o,h'.get? b=some o->h''.get? b=some o)->CG h'' h'.objs.size S first 0 es.size ep->St 0 h'') ->
   au (ax prog w) A.in1 (setEpoch S >>= fun e=>newFields "set_iterator" [first,cn 0,.ref S,cn es.size,cn e] >>= fun x=>ret x) (fun fin s'=>∃ v,fin=.done (.ret v)/\∃ T' r,s'.TypeIs v T'/\typeLookup (.type T') "__next__"=pure (some r)/\Q v s') E { s with heap:=h',drawn:=d }:=by
  intro first fp ord St h' d kp hsz hfp pm W st
  have hS':cX w h' S es ep t:=hS.keep fun o e=>kp S o e
  refine a7 (wpAny_setEpoch_of (s:={ s with heap:=h',drawn:=d }) hS'.at_ rfl hS'.fits ?_)
  refine a7 (bR ?_ (by size_fits))
  have gp:∀ b o,h'.get? b=some o->(h'.push { cls:=.type "set_iterator",dict:=none,data:=.fields #[first,cn 0,.ref S,cn es.size,cn ep] }).get? b=some o:=fun b o e=>ac _ e
  have it:(h'.push { cls:=.type "set_iterator",dict:=none,data:=.fields #[first,cn 0,.ref S,cn es.size,cn ep] }).get? h'.objs.size=some { cls:=.type "set_iterator",dict:=none,data:=.fields #[first,cn 0,.ref S,cn es.size,cn ep] }:=aw _ rfl
  refine a9 ⟨_,rfl,"set_iterator",_,⟨_,it,rfl⟩,SI.slot_next.lookup,h h'.objs.size fp ord St _ d hsz (fun b hb=>?_) (fun b hb=>?_) pm W (st _ gp it) (fun b o e=>gp b o (kp b o e)) ⟨_,it,rfl⟩⟩
  ·rcases hfp b hb with z | z | z
   ·exact .inl z
   ·exact .inr (by rw [z];exact hsz)
   ·exact .inr z.1
  ·rw [cc]
   rcases hfp b hb with z | z | z
   ·rw [z];exact dI (aC hlt hsz)
   ·rw [z];exact dS _
   ·exact dI z.2
 dsimp only
 split
 ·rename_i z
  have z:(!w.params.followText "set-order" && (!t.plain && decide (es.size > 1)))=true:=z
  refine a7 (vb _ _ _ _ (by simp) fun ys d pm=>?_)
  simp only [Qb]
  have hyl:ys.length=es.size:=by have:=pm.length_eq;rwa [eX] at this
  have zl:=fz hS.few
  refine a7 (bR ?_ (by show (ys.map fun (i:Nat)=>cn i).toArray.size<=sizeLine;simp;omega))
  have tp:∀ ob:Obj,(s.heap.push ob).objs.size=s.heap.objs.size + 1:=fun ob=>cc ..
  refine fin (.ref s.heap.objs.size) [s.heap.objs.size + 1,S,s.heap.objs.size] (ys.map fun p=>(es.getD p (0,.none)).2)
   (fun i h=>CG h (s.heap.objs.size + 1) S (.ref s.heap.objs.size) i es.size ep/\cX w h S es ep t/\Y9 h s.heap.objs.size ys) (s.heap.push _) d
   (fun b o e=>ac _ e) (by rw [tp];exact k8 _) (fun b hb=>?_) ?_ (fun B hB=>?_) (fun h'' k it=>⟨by rw [tp] at it;exact it,hS.keep fun o e=>k S o (ac _ e),_,_,k _ _ (aw _ rfl),rfl⟩)
  ·simp only [a_,bv,or_false] at hb
   rcases hb with y | y | y
   ·exact .inr (.inl (by rw [tp];exact y))
   ·exact .inl y
   ·exact .inr (.inr ⟨by rw [y];exact ar _,by rw [tp,y];exact dS _⟩)
  ·refine (pm.map _).trans (.of_eq ?_)
   apply yb
   ·simp
   ·intro k h1 h2
    have:k<es.size:=by simpa using h1
    simp [this]
  ·rw [ao,hyl,tp]
   exact Eg hB (aE (dI hlt)) (aE (dS _)) (fun p hp=>List.mem_range.mp (pm.mem_iff.mp hp)) hyl
 ·rename_i z
  have z:¬ (!w.params.followText "set-order" && (!t.plain && decide (es.size > 1)))=true:=z
  refine a7 (a9 ?_)
  have hne:S≠s.heap.objs.size:=aE hlt
  cases hw:w.params.followText "set-order" with
  | true =>
   refine fin (cn 0) [s.heap.objs.size,S] ((oX (w.params.setOrder S ep) es).toList.map (·.2)) (fun i h=>CG h s.heap.objs.size S (.int 0 0) i es.size ep/\cX w h S es ep t) s.heap s.drawn (fun _ _ e=>e) (ar _) (fun b hb=>?_) ((wv _ es).map _) (fun B hB=>?_) (fun h'' k it=>⟨it,hS.keep fun o e=>k S o e⟩)
   ·simp only [a_,bv,or_false] at hb
    exact hb.elim (fun z=>.inr (.inl z)) .inl
   ·rw [ao,aq,ww]
    exact GT hB hw hne
  | false =>
   have h1:es.size<=1:=by
    rw [hw] at z
    rcases hS.pl with y | y
    ·omega
    ·rw [y] at z;simpa using z
   refine fin (cn 0) [s.heap.objs.size,S] (es.toList.map (·.2)) (fun i h=>∃ k,CG h s.heap.objs.size S (.int (k:Nat) 0) i es.size ep/\cX w h S es ep t/\(i=0->k=0)/\(i=1->es.size=1->∃ j,t.place=#[j]/\k=j + 1)) s.heap s.drawn (fun _ _ e=>e) (ar _) (fun b hb=>?_) (.refl _) (fun B hB=>?_) (fun h'' k it=>⟨0,it,hS.keep fun o e=>k S o e,fun _=>rfl,fun y=>by cases y⟩)
   ·simp only [a_,bv,or_false] at hb
    exact hb.elim (fun z=>.inr (.inl z)) .inl
   ·rw [ao,aq]
    exact KN hB hw hne h1
end
end
section
section
variable {prog:aK}{w:bc}{A:aX}{E:aa->af->Prop}{s:af}{S:ak}{es:Array (Int×aa)}{ep:Nat}{t:jq}
theorem Eh (hh:A.handled=none) (hS:cX w s.heap S es ep t)
  (h:∀ (ord:List aa) (h':bF) (d:M0) (tk:Nat),ord.Perm (es.toList.map (·.2))->(∀ b o,s.heap.get? b=some o->h'.get? b=some o)->s.heap.objs.size<=h'.objs.size->Q ord { s with heap:=h',drawn:=d,toks:=tk }) :
  au (ax prog w) A (Aq (.ref S)) Q E s:=by
 have hlt:=ap hS.at_
 unfold Aq
 refine a7 (Gs (hV M8 ?_))
 rw [eN M9 _]
 show au _ A.in1 (newList [] >>= fun l=>Q2 (.builtin "list.__iadd__" ⟨[l,.ref S],[]⟩)) _ _ s
 refine a7 (bR ?_)
 refine a9 ⟨qK qj _,hV F.entry_list_iadd ?_⟩
 rw [eN qj _]
 let s1:af:={ s with heap:=s.heap.push { cls:=.type "list",data:=.seq ([] : List aa).toArray } }
 have sz1:s1.heap.objs.size=s.heap.objs.size + 1:=cc ..
 have at1:s1.heap.get? s.heap.objs.size=some { cls:=.type "list",data:=.seq ([] : List aa).toArray }:=aw _ rfl
 have hS1:cX w s1.heap S es ep t:=hS.keep fun o e=>ac _ e
 show au _ A.in1 (kL (.ref s.heap.objs.size) (.ref S) (.ref s.heap.objs.size)) _ _ s1
 have hT1:s1.TypeIs (.ref S) "set":=⟨_,hS1.at_,rfl⟩
 unfold kL
 refine a7 (tT hT1 ?_)
 have e1:xl (.ref s.heap.objs.size) (.ref S)=false:=by simp [xl,eO hlt]
 have e2:(iO "set" == iO "list")=false:=by decide
 have e3:(iO "set" == iO "tuple")=false:=by decide
 simp only [e1,e2,e3,Bool.or_false,bw,if_false]
 refine a7 (GU (A:=A.in1) (by simpa using hh) hS1 fun I fp ord St h' d hI hfp hfl pm W st kp tI=>?_)
 let s2:af:={ s1 with heap:=h',drawn:=d }
 have hS2:cX w s2.heap S es ep t:=hS1.keep fun o e=>kp S o e
 have hT2:s2.TypeIs (.ref S) "set":=⟨_,hS2.at_,rfl⟩
 refine a7 (dv ?_)
 unfold Builtin.List.listLengthHint
 refine a7 (wpAny_specialOf (s:=s2) hT2 F.slot_set_len.lookup ?_)
 dsimp only
 rw [show splitId "set.__len__"=some ("set","__len__") from by decide +kernel]
 dsimp only
 refine a7 (gg (b:=true) (s:=s2) hT2 (by rw [Gv];kernel_rfl) ?_)
 rw [if_neg (by decide),if_pos (by decide)]
 refine a7 (tT (s:=s2) hT2 (a9 ?_))
 rw [if_pos (by decide)]
 refine a7 (df ?_)
 have nS:s.heap.objs.size∉fp:=fun z=>by
  rcases hfp _ z with q | q
  ·exact absurd hlt (by rw [<- q];exact bW _)
  ·rw [sz1] at q;exact absurd q (Nat.not_succ_le_self _)
 have at2:s2.heap.get? s.heap.objs.size=some { cls:=.type "list",data:=.seq ([] : List aa).toArray }:=kp _ _ at1
 refine a7 ?_
 show au _ A.in1 (updateSeq s.heap.objs.size (·.push .none) >>= fun _=>updateSeq s.heap.objs.size (·.pop)) _ _ s2
 refine a7 (wpAny_updateSeq at2 rfl ?_)
 have at3:=fV (gW (·.push dX)) at2 rfl
 refine wpAny_updateSeq at3 rfl ?_
 have at4:=fV (gW (·.pop)) at3 rfl
 have oth:∀ b o,b≠s.heap.objs.size->s2.heap.get? b=some o->((s2.heap.update s.heap.objs.size (gW (·.push dX))).update s.heap.objs.size (gW (·.pop))).get? b=some o :=
  fun b o hb e=>(fw _ _ (cV hb)).trans ((fw _ _ (cV hb)).trans e)
 have zl:ord.length<=sizeLine:=by rw [pm.length_eq,ao,aq];exact fz hS.few
 have W1:=W A.in1 (by simpa using hh)
 refine a9 ⟨qK F.plain_extend_loop _,codeAny_extend_loopS (A:=A) W1.toS zl _ nS _ ord.length 0 { s2 with heap:=(s2.heap.update s.heap.objs.size (gW (·.push dX))).update s.heap.objs.size (gW (·.pop)) } _ _ rfl (cC _) (W1.frame 0 _ _ st fun b hb o e=>oth b o (fun z=>nS (z ▸ hb)) e) at4 (ItemsOf.nil _) fun s' acc' c' hm hS' hacc=>?_⟩
 show au _ A (load s.heap.objs.size >>= _) _ _ s'
 refine a7 (wpAny_load hS' (a9 ?_))
 have hacc':acc'.toList=ord:=by
  apply Mp
  intro j
  rw [aQ]
  by_cases hj:j<acc'.size
  ·have:=hacc.2 j acc'[j] (by simp [hj])
   rw [this];simp [hj]
  ·rw [getElem?_neg acc' j hj,cB (by rw [<- hacc.1];omega)]
 rw [hacc']
 obtain ⟨h3,g3,d3,t3,o3⟩:=s'
 obtain rfl:g3=s.gens:=hm.gens
 obtain rfl:d3=d:=hm.drawn
 obtain rfl:o3=s.os:=hm.os
 have old:∀ b o,s.heap.get? b=some o->h3.get? b=some o:=fun b o e=>by
  have hb:=ap e
  refine hm.heap b o ?_ (oth b o (aE hb) (kp b o (ac _ e)))
  simp only [a_,bv,or_false,not_or]
  exact ⟨aE hb,aE (aC hb (by have q:=hI;rw [sz1] at q;exact Nat.le_of_succ_le q))⟩
 refine h ord h3 _ t3 pm old ?_
 have:=ap (show h3.get? s.heap.objs.size=some _ from hS')
 exact ca this
theorem Ei  (hc:au (ax prog w) A.in1 (Aq x) (fun vs s1=>∃ ss,qA vs ss/\vs.length<64 /\
   ∀ (h':bF) (vs':List aa) (ss':List Str) (e:Nat),(∀ b o,s1.heap.get? b=some o->h'.get? b=some o)->h'.get? s1.heap.objs.size=some (j7 "list" vs'.toArray e)->qA vs' ss'->ss'.Perm ss->sortedS ss'=true ->
    Q (.ref s1.heap.objs.size) { s1 with heap:=h' }) E s):au (ax prog w) A (call (.builtin "sorted") [x]) Q E s:=by
 refine nP kind_sorted plain_sorted entry_sorted (args_sorted1 _) ?_
 unfold jG.«sorted»
 refine a7 (m:=checkCount "sorted" 1 1 _) (a9 ?_)
 refine a7 (bL hc (fun vs s1 z=>?_) fun _ _ z=>z)
 obtain ⟨ss,hss,h64,hq⟩:=z
 refine a7 (Ki ?_)
 have at1:(s1.heap.push (j7 "list" vs.toArray 0)).get? s1.heap.objs.size=some (j7 "list" vs.toArray 0):=aw _ rfl
 show au _ _ _ _ _ { s1 with heap:=s1.heap.push (j7 "list" vs.toArray 0) }
 refine a7 (dv (bJ slot_list_sort ⟨_,at1,rfl⟩ entry_list_sort (list_sort_treeK strKind_oneLt at1 hss.keysOf (fun v₁ v₂ c6 e=>keyKind_strs (by rw [<- e];exact hss)) h64 fun st' a1 a2=>⟨_,rfl,?_⟩) (args_list_sort _)))
 obtain ⟨ss',p1,p2,p3⟩:=sorted_out_str hss a1 a2
 obtain ⟨e,at2⟩:=sortedHeap_at (out:=(aN st').map (·.2)) at1
 refine a9 ⟨_,rfl,hq _ _ ss' e (fun b o q=>?_) at2 p1 p2 p3⟩
 have hb:=ap q
 rw [sortedHeap_old (aE hb) (by rw [cc];exact dI hb)]
 exact ac _ q
end
end
section
def qk (x y:Str):Bool:=decide (x.cps.toList<y.cps.toList)
def GV (x:Str):List Str->List Str
 | []=>[x]
 | y::r=>if qk y x then y::GV x r else x::y::r
def jP:List Str->List Str
 | []=>[]
 | x::r=>GV x (jP r)
theorem wx (x:Str):∀ l,(GV x l).Perm (x::l)
 | []=>.refl _
 | y::r=>by
  rw [GV]
  split
  ·exact ((wx x r).cons y).trans (.swap ..)
  ·exact .refl _
theorem i4:∀ l,(jP l).Perm l
 | []=>.refl _
 | x::r=>(wx x _).trans ((i4 r).cons x)
theorem u5 (x:Str):qk x x=false:=decide_eq_false (List.lt_irrefl _)
theorem rR (h1:qk x y=true) (h2:qk y z=true):qk x z=true :=
 decide_eq_true (List.lt_trans (of_decide_eq_true h1) (of_decide_eq_true h2))
theorem yh (h1:qk x y=false) (h2:qk y x=false):x=y:=by
 have h1:¬ x.cps.toList<y.cps.toList:=of_decide_eq_false h1
 have h2:¬ y.cps.toList<x.cps.toList:=of_decide_eq_false h2
 have:x.cps.toList=y.cps.toList:=List.le_antisymm (List.not_lt.mp h2) (List.not_lt.mp h1)
 cases x;cases y
 exact congrArg Str.mk (Array.toList_inj.mp this)
abbrev P_ (l:List Str):Prop:=l.Pairwise fun a b=>qk b a=false
theorem Nc (x:Str):∀ l,P_ l->P_ (GV x l)
 | [],_=>by simp [GV,P_]
 | y::r,h=>by
  obtain ⟨h1,h2⟩:=List.pairwise_cons.mp h
  rw [GV]
  split
  ·rename_i hy
   refine List.pairwise_cons.mpr ⟨fun z hz=>?_,Nc x r h2⟩
   rcases List.mem_cons.mp ((wx x r).mem_iff.mp hz) with e | e
   ·subst e
    cases q:qk z y with
    | false=>rfl
    | true=>exact absurd (rR q hy) (by rw [u5];decide)
   ·exact h1 z e
  ·rename_i hy
   have hy:qk y x=false:=by simpa using hy
   refine List.pairwise_cons.mpr ⟨fun z hz=>?_,h⟩
   rcases List.mem_cons.mp hz with e | e
   ·subst e;exact hy
   ·cases q:qk z x with
    | false=>rfl
    | true =>
     have hzy:=h1 z e
     cases q2:qk x y with
     | true=>rw [rR q q2] at hzy;cases hzy
     | false=>rw [<- yh hy q2,hzy] at q;cases q
theorem qS:∀ l,P_ (jP l)
 | []=>.nil
 | x::r=>Nc x _ (qS r)
theorem vd:∀ (p:Str) (l:List Str),risingS p l=true->P_ (p::l)
 | p,[],_=>by simp [P_]
 | p,x::r,h=>by
  rw [risingS,aR] at h
  obtain ⟨h1,h2⟩:=h
  have h1:qk x p=false:=by
   rw [ltCps_eq] at h1
   simpa [qk] using h1
  have ih:=vd x r h2
  refine List.pairwise_cons.mpr ⟨fun z hz=>?_,ih⟩
  rcases List.mem_cons.mp hz with e | e
  ·rw [e];exact h1
  ·have hzx:=(List.pairwise_cons.mp ih).1 z e
   cases q:qk z p with
   | false=>rfl
   | true =>
    cases q2:qk p x with
    | true=>rw [rR q q2] at hzx;cases hzx
    | false=>rw [yh q2 h1,hzx] at q;cases q
theorem CJ:∀ (l:List Str),sortedS l=true->P_ l
 | [],_=>.nil
 | x::r,h=>vd x r h
theorem Bp:∀ {l l':List Str},l.Perm l'->P_ l->P_ l'->l=l'
 | [],l',p,_,_=>by rw [List.nil_perm.mp p]
 | x::r,[],p,_,_=>by have:=p.length_eq;simp at this
 | x::r,y::r',p,h,h'=>by
  obtain ⟨a1,a2⟩:=List.pairwise_cons.mp h
  obtain ⟨b1,b2⟩:=List.pairwise_cons.mp h'
  have e:x=y:=by
   have hx:x∈y::r':=p.mem_iff.mp am
   have hy:y∈x::r:=p.mem_iff.mpr am
   rcases List.mem_cons.mp hx with e | e
   ·exact e
   ·rcases List.mem_cons.mp hy with e' | e'
    ·exact e'.symm
    ·exact yh (b1 x e) (a1 y e')
  subst e
  rw [Bp (List.Perm.cons_inv p) a2 b2]
theorem Ej (p:l'.Perm l) (h:sortedS l'=true):l'=jP l:=Bp (p.trans (i4 l).symm) (CJ _ h) (qS l)
theorem wy (h:P_ l) (nd:l.Nodup):l.Pairwise fun a b=>qk a b=true:=by
 induction l with
 | nil=>exact .nil
 | cons x r ih =>
  obtain ⟨a1,a2⟩:=List.pairwise_cons.mp h
  obtain ⟨n1,n2⟩:=List.nodup_cons.mp nd
  refine List.pairwise_cons.mpr ⟨fun y hy=>?_,ih a2 n2⟩
  cases q:qk x y with
  | true=>rfl
  | false=>exact absurd (yh q (a1 y hy) ▸ hy) n1
theorem jQ:∀ {ss:List Str}{us:List aa},dC (ss.map V.str) us->qA us ss
 | [],_,.nil=>.nil
 | x::r,_,.cons h t=>by obtain ⟨tk,rfl⟩:=h;exact .cons x tk (jQ t)
theorem pi:∀ {ss:List Str}{us:List aa},qA us ss->dC (ss.map V.str) us
 | _,_,.nil=>.nil
 | _,_,.cons x t h=>.cons ⟨t,rfl⟩ (pi h)
theorem fD:∀ {ss:List Str}{us:List aa},qA us ss->us.length=ss.length
 | _,_,.nil=>rfl
 | _,_,.cons x t h=>by simp [fD h]
theorem yN  (h:qA us ss) (i:Nat) (v:aa) (e:us[i]?=some v):∃ x t,ss[i]?=some x/\v=jM x t:=by
 induction h generalizing i with
 | nil=>simp at e
 | cons y t _ ih =>
  cases i with
  | zero=>simp at e;exact ⟨y,t,by simp,e.symm⟩
  | succ i=>simp at e;simpa using ih i e
theorem ve:∀ {l:List (Int×aa)},(∀ e∈l,u0 w e)->qA (l.map (·.2)) (l.map kf)
 | [],_=>.nil
 | e::r,h=>by
  obtain ⟨x,tk,rfl⟩:=h e am
  exact .cons x tk (ve fun e he=>h e (ah _ he))
theorem CK  (h:qA us ss) (p:us'.Perm us):∃ ss',qA us' ss'/\ss'.Perm ss:=by
 refine ⟨us'.map strOf,strsAre_map _ fun v hv=>h.all v (p.mem_iff.mp hv),?_⟩
 rw [<- h.strs]
 exact p.map _
def lQ (w:bc) (a:ak) (ss:List Str):HO:=.ext fun h=>lH w h a ss
theorem CL      (x:lH w h a ss):dw P w H h a (lQ w a ss) :=
 ⟨x,let ⟨_,_,_,I,_⟩:=x;⟨_,I.at_⟩,fun _ _ y k=>y.keep k⟩
section
variable {X:Cx}
theorem Ek (hc:X.calm=true):jz X (.type "set") (fun xs H Q=>∃ p ss,xs=[.ref p]/\(ph X.K H p (ss.map V.str)\/l7 X.K H p (ss.map V.str))/\ss.length + 1<j4/\∀ a,H a=none->Q (.ref a) (upd H a (lQ X.w a (dn [] ss)))):=by
 intro pins s σ H xs us Q I r h
 obtain ⟨p,ss,rfl,hq,hz,q⟩:=h
 obtain ⟨u,rfl,rx⟩:=l8 r
 cases rx
 have hh:=I.ok.hd hc
 have fin:∀ (h':bF) (tk:Nat),lH X.w h' s.heap.objs.size (dn [] ss)->(∀ b o,s.heap.get? b=some o->h'.get? b=some o)->EP X pins σ Q (.ref s.heap.objs.size) { s with heap:=h',toks:=tk }:=fun h' tk hS kp =>
  ⟨.ref s.heap.objs.size,_,I.laid (t':=tk) kp (ar _) (CL hS),rfl,q _ (I.hok.fresh (ar _))⟩
 rcases hq with hq | hq
 ·obtain ⟨its,r',⟨o,n,ho,h1,h2,h3⟩,_⟩:=I.list hq
  have sa:=jQ r'
  exact v9 (N8 (by simpa using hh) h1 ⟨n,h3⟩) ho (fun i v e=>yN sa i v (by simpa using e)) (by simp [fD sa]) (by simp [fD sa];exact hz) fin
 ·obtain ⟨its,r',⟨o,ho,h1,n,h3⟩,_⟩:=I.tuple hq
  have sa:=jQ r'
  exact v9 (QX (by simpa using hh) h1 ⟨n,h3⟩) ho (fun i v e=>yN sa i v (by simpa using e)) (by simp [fD sa]) (by simp [fD sa];exact hz) fin
theorem wz:jz X (.builtin "sorted") (fun xs H Q=>∃ p ss,xs=[.ref p]/\ph X.K H p (ss.map V.str)/\ss.length<64/\∀ l,H l=none->Q (.ref l) (upd H l (.lst ((jP ss).map V.str)))):=by
 intro pins s σ H xs us Q I r h
 obtain ⟨p,ss,rfl,hq,hz,q⟩:=h
 obtain ⟨u,rfl,rx⟩:=l8 r
 cases rx
 obtain ⟨its,r',pl,hl⟩:=I.list hq
 have sa:=jQ r'
 refine sorted_strs pl.isList sa (by rw [fD sa];exact hz) fun out ss' a1 a2 a3=>?_
 obtain ⟨e,he⟩:=sortedAll_at s.heap its out
 have kp:∀ b o,s.heap.get? b=some o->(sortedAll s.heap its out).get? b=some o:=fun b o=>sortedAll_old
 obtain rfl:=Ej a2 a3
 refine ⟨.ref (s.heap.objs.size + 1),upd H (s.heap.objs.size + 1) (.lst ((jP ss).map V.str)),I.laid (t':=s.toks) kp (k8 _) (show dw X.prog X.w _ _ _ (.lst _) from ⟨?_,out.toList,e,pi a1,by simpa [j7] using he⟩),rfl,q _ (I.hok.fresh (k8 _))⟩
 rw [ao,(i4 ss).length_eq]
 have:=hl
 rw [ao] at this
 exact this
theorem xO (hc:X.calm=true):jz X (.builtin "sorted") (fun xs H Q=>∃ p ss,xs=[.ref p]/\H p=some (lQ X.w p ss)/\ss.length<64/\∀ l,H l=none->Q (.ref l) (upd H l (.lst ((jP ss).map V.str)))):=by
 intro pins s σ H xs us Q I r h
 obtain ⟨p,ss,rfl,hq,hz,q⟩:=h
 obtain ⟨u,rfl,rx⟩:=l8 r
 cases rx
 have hh:=I.ok.hd hc
 obtain ⟨⟨es,ep,t,S,pm⟩,_⟩:=(show dw X.prog X.w H s.heap p (lQ X.w p ss) from I.hok p _ hq)
 refine Ei (Eh (by simpa using hh) S fun ord h' d tk po kp sz=>?_)
 obtain ⟨ss1,sa,p1⟩:=CK (ve S.txt) po
 have ln:ss1.length=ss.length:=(p1.trans pm).length_eq
 refine ⟨ss1,sa,by rw [fD sa,ln];exact hz,fun h2 vs' ss' e kp2 at2 sa2 p2 s2=>?_⟩
 have kk:∀ b o,s.heap.get? b=some o->h2.get? b=some o:=fun b o e=>kp2 b o (kp b o e)
 have es':ss'=jP ss:=Ej (p2.trans (p1.trans pm)) s2
 subst es'
 have fr:=I.hok.fresh sz
 have ok2:dw X.prog X.w (upd H h'.objs.size (.lst ((jP ss).map V.str))) h2 h'.objs.size (.lst ((jP ss).map V.str)) :=
  ⟨by rw [ao,(i4 ss).length_eq];exact cy (ca hz) (by rw [jo];decide),vs',e,pi sa2,at2⟩
 exact ⟨.ref h'.objs.size,_,I.call' (s':={ s with heap:=h2,drawn:=d,toks:=tk }) (ch:=[]) rfl (Un.laid kk sz fr) (I.hok.laid kk sz ok2) I.bare (fun b z=>absurd z (by simp)),rfl,q _ fr⟩
end
end
section
section
variable {X:Cx}
theorem xp {prog:aK}{w:bc}{B:aX}{bs:List Bool}{its:List aa} (r:dC (bs.map V.bl) its):TruthOf prog w B (fun i v=>its.toArray[i]?=some v) (fun i=>bs.getD i false):=by
 intro i v s Q E hv hq
 have hv:its[i]?=some v:=by simpa using hv
 have hl:=r.length
 rw [ao] at hl
 obtain ⟨hi,_⟩:=List.getElem?_eq_some_iff.mp hv
 have hb:bs[i]?=some bs[i]:=aV (by omega)
 obtain ⟨u,hu,ru⟩:=r.get (i:=i) (x:=.bl bs[i]) (by rw [aT,hb];rfl)
 rw [hv] at hu;cases hu
 cases ru
 have hq:Q (bs.getD i false) s:=hq
 rw [dk,hb] at hq
 exact dg hq
theorem Nd (bs:List Bool):(bH bs.length).all (fun i=>bs.getD i false)=bs.all id:=by
 rw [jI,cu,cu]
 constructor
 ·intro h b hb
  obtain ⟨i,hi,rfl⟩:=jk hb
  have:=h i (List.mem_range.mpr hi)
  simpa [dk,hi] using this
 ·intro h i hi
  have hi:=List.mem_range.mp hi
  have:=h bs[i] (ja hi)
  simpa [dk,hi] using this
theorem Nf (bs:List Bool):(bH bs.length).any (fun i=>bs.getD i false)=bs.any id:=by
 rw [jI,lv,lv]
 constructor
 ·rintro ⟨i,hi,h⟩
  have hi:=List.mem_range.mp hi
  exact ⟨bs[i],ja hi,by simpa [dk,hi] using h⟩
 ·rintro ⟨b,hb,h⟩
  obtain ⟨i,hi,rfl⟩:=jk hb
  exact ⟨i,List.mem_range.mpr hi,by simpa [dk,hi] using h⟩
theorem yO (hc:X.calm=true):jz X (.builtin "all") (fun xs H Q=>∃ p,∃ bs:List Bool,xs=[.ref p]/\ph X.K H p (bs.map V.bl)/\Q (.bl (bs.all id)) H):=by
 intro pins s σ H xs us Q I r h
 obtain ⟨p,bs,rfl,hq,q⟩:=h
 obtain ⟨u,rfl,rx⟩:=l8 r
 cases rx
 obtain ⟨its,r',pl,hl⟩:=I.list hq
 have ln:its.toArray.size=bs.length:=by have:=r'.length;simp at this ⊢;omega
 obtain ⟨o,ho,hk⟩:=pl.isList
 refine call_all_walk (lC pl.isList ⟨_,_,_,_,_,_,_,rfl,Am (by simpa using I.ok.hd hc) _ p (aE (ap ho)) its.toArray,⟨⟨_,aw _ rfl,rfl,rfl⟩,pl.isList.push _⟩,xp r',fun h' tk kp=>?_⟩)
 rw [ln,Nd]
 refine ⟨.bl _,H,I.kept (t':=tk) fun b o e=>kp b o ?_ (ac _ e),rfl,q⟩
 simp only [cf]
 exact aE (ap e)
theorem yP (hc:X.calm=true):jz X (.builtin "any") (fun xs H Q=>∃ p,∃ bs:List Bool,xs=[.ref p]/\ph X.K H p (bs.map V.bl)/\Q (.bl (bs.any id)) H):=by
 intro pins s σ H xs us Q I r h
 obtain ⟨p,bs,rfl,hq,q⟩:=h
 obtain ⟨u,rfl,rx⟩:=l8 r
 cases rx
 obtain ⟨its,r',pl,hl⟩:=I.list hq
 have ln:its.toArray.size=bs.length:=by have:=r'.length;simp at this ⊢;omega
 obtain ⟨o,ho,hk⟩:=pl.isList
 refine call_any_walk (lC pl.isList ⟨_,_,_,_,_,_,_,rfl,Am (by simpa using I.ok.hd hc) _ p (aE (ap ho)) its.toArray,⟨⟨_,aw _ rfl,rfl,rfl⟩,pl.isList.push _⟩,xp r',fun h' tk kp=>?_⟩)
 rw [ln,Nf]
 refine ⟨.bl _,H,I.kept (t':=tk) fun b o e=>kp b o ?_ (ac _ e),rfl,q⟩
 simp only [cf]
 exact aE (ap e)
theorem KO:qD X (bO .LtE) (fun x y H Q=>∃ i j,x=.str i/\y=.str j/\Q (.bl (!decide (j.cps.toList<i.cps.toList))) H):=by
 intro pins s σ H x y v u Q I rx ry h
 obtain ⟨i,j,rfl,rfl,q⟩:=h
 obtain ⟨t,rfl⟩:=rx
 obtain ⟨t',rfl⟩:=ry
 exact PySem.P.le_str (Cs I q rfl)
end
end
section
def VT (x:Str):It:=⟨fun i _=>i<x.cps.size,fun i H v H'=>H'=H/\∃ c,x.cps[i]?=some c/\v=.str ⟨#[c]⟩,fun i _=>x.cps.size<=i⟩
theorem Ng {P:aK}{w:bc}{K:a8}{tg:aZ} (x:Str) (t:Tok) (it:ak):Ax P w K tg (VT x) [it] it (fun i h=>h.IsStrIter it (iC x) x t i) where
 mem:=by simp
 obj:=fun i h st b hb=>by
  obtain rfl:b=it:=by simpa using hb
  obtain ⟨o,e,c,d⟩:=st
  exact ⟨o,e,fun v z=>by rw [d] at z;cases z⟩
 keep:=fun i h h' st k=>let ⟨o,e,r⟩:=st;⟨o,k it (by simp) o e,r⟩
 item:=by
  intro X hP hw hK hc i pins s σ H E I hf st hg
  subst hP hw hK
  have hg:i<x.cps.size:=hg
  obtain ⟨f0,f1,f2,f3,f4,f5⟩:=hf it (by simp)
  have hx:x.cps[i]?=some x.cps[i]:=getElem?_pos _ i hg
  have go:∀ (h':bF) (tk tk':Nat),h'.IsStrIter it (iC x) x t (i + 1)->bN it s.heap h'->∃ u,some (jM ⟨#[x.cps[i]]⟩ tk)=some u /\
    au (ax X.prog X.w) X.A (hJ tg (.ref it) u) (fun _ s2=>∃ v H',bX X pins σ H' s2/\dq v u/\(VT x).yld i H v H'/\s2.heap.IsStrIter it (iC x) x t (i + 1)/\∀ b∈[it],H' b=none) E { s with heap:=h',toks:=tk' }:=fun h' tk tk' st' sb=>by
   have I1:bX X pins σ H { s with heap:=h',toks:=tk' }:=I.turned (fun b o hb e=>(sb.2 b hb).trans e) f0 f1 f3 f4 f5
   refine ⟨_,rfl,?_⟩
   have q:∃ v H',bX X pins σ H' { s with heap:=h',toks:=tk' }/\dq v (jM ⟨#[x.cps[i]]⟩ tk)/\(VT x).yld i H v H'/\h'.IsStrIter it (iC x) x t (i + 1)/\∀ b∈[it],H' b=none :=
    ⟨.str ⟨#[x.cps[i]]⟩,H,I1,⟨tk,rfl⟩,⟨rfl,_,hx,rfl⟩,st',fun b hb=>(hf b hb).1⟩
   unfold hJ
   cases tg<;>exact a9 q
  cases ha:x.cps.all (·<128)
  ·have ty:iC x="str_iterator":=by unfold iC;rw [ha];rfl
   rw [ty] at st
   exact wpAny_pyNext_wide_item st hx fun h' st' sb=>go h' _ _ (by rw [ty];exact st') sb
  ·have ty:iC x="str_ascii_iterator":=by unfold iC;rw [ha];rfl
   rw [ty] at st
   exact wpAny_pyNext_ascii_item st hx fun h' st' sb=>go h' _ _ (by rw [ty];exact st') sb
 done:=by
  intro X hP hw hK hc i pins s σ H E I hf st hg
  subst hP hw hK
  have hg:x.cps.size<=i:=hg
  obtain ⟨f0,f1,f2,f3,f4,f5⟩:=hf it (by simp)
  have hx:x.cps[i]?=none:=getElem?_neg _ i (Nat.not_lt.mpr hg)
  unfold iC at st
  cases ha:x.cps.all (·<128)
  ·rw [ha] at st
   exact wpAny_pyNext_wide_end (I.ok.hd hc) st hx fun h' eb=>⟨rfl,I.turned (t':=s.toks) (fun b o hb e=>eb b o hb e) f0 f1 f3 f4 f5⟩
  ·rw [ha] at st
   exact wpAny_pyNext_ascii_end (I.ok.hd hc) st hx fun h' eb=>⟨rfl,I.turned (t':=s.toks) (fun b o hb e=>eb b o hb e) f0 f1 f3 f4 f5⟩
 self:=fun _ _ _ _ _ st h=>by
  unfold iC at st
  cases ha:x.cps.all (·<128)
  ·rw [ha] at st;exact wpAny_pyIter_striter_wide st h
  ·rw [ha] at st;exact wpAny_pyIter_striter_ascii st h
def Ya (tl:TE):TI:=fun σ H R=>tl σ H fun v H1=>∃ x,v=.str x/\R (VT x) H1
theorem Nh {X:Cx}{tg l:aZ}{tl:TE} (hl:PE X l tl):PI X tg l (Ya tl):=by
 intro pins s σ H R I h
 refine fN (hl pins s σ H _ I h) fun v s1 h_0=>?_
 obtain ⟨y,H1,I1,r1,q1⟩:=h_0
 obtain ⟨x,rfl,q⟩:=q1
 obtain ⟨t,rfl⟩:=r1
 refine wpAny_pyIter_strU ?_
 refine ⟨s1.heap.objs.size,[s1.heap.objs.size],_,_,H1,rfl,I1.kept (t':=s1.toks) fun b o e=>ac _ e,Ng x t _,⟨_,aw _ rfl,rfl,rfl⟩,fun b hb=>?_,q⟩
 obtain rfl:b=s1.heap.objs.size:=by simpa using hb
 exact I1.fpOk (ar _) (I1.hok.fresh (ar _))
end
section
section
variable {X:Cx}{pins:List (ak×Obj)}{σ:St}{H H':Hp}{s:af}{h':bF}
theorem bX.turnedL {t':Nat}{ch:List ak} (I:bX X pins σ H s) (k:∀ b o,b∉ch->s.heap.get? b=some o->h'.get? b=some o) (hf:∀ b∈ch,qO X pins H b):bX X pins σ H { s with heap:=h',toks:=t' }:=by
 have nt:∀ b u,H b=some u->b∉ch:=fun b u e z=>by rw [(hf b z).1] at e;cases e
 refine I.step (g':=s.gens) (d':=s.drawn) (ch:=ch) (fun b hb=>?_) (fun b o _ _ hc e _=>k b o hc e) (fun b o _ _ hc e _=>⟨o.slots,k b o hc e⟩) (fun _ _ _ _ n=>n)
  (fun b o hc e=>⟨o,k b o hc e⟩) (fun _ _ e=>e) (fun _ _ _ e=>e) (fun b ps e=>⟨#[],by rw [e];simp⟩) (fun m hm=>?_) (fun b u e=>?_) I.bare
 ·obtain ⟨f0,f1,f2,f3,f4,f5⟩:=hf b hb
  exact ⟨f3,f1,f4,f5⟩
 ·obtain ⟨o,es,ep,ho,r⟩:=hm
  exact ⟨o,es,ep,k _ o (fun z=>(hf _ z).f1 rfl) ho,r⟩
 ·refine (I.hok b u e).stay (fun c v hc q=>k c v ?_ q) (fun _ q=>q) fun _ _ q=>q
  rcases hc with z | z
  ·rw [z];exact nt b u e
  ·exact nt c _ z
theorem bX.track  (I:bX X pins σ H s) (hf:qO X pins H D) (new:dw X.prog X.w (upd H D ho) s.heap D ho):bX X pins σ (upd H D ho) s:=by
 obtain ⟨f0,f1,f2,f3,f4,f5⟩:=hf
 have I':bX X pins σ (upd H D ho) { s with heap:=s.heap,gens:=s.gens,drawn:=s.drawn,toks:=s.toks }:=I.step (ch:=[D]) (fun b hb=>by
   obtain rfl:b=D:=by simpa using hb
   exact ⟨f3,f1,f4,f5⟩) (fun b o _ _ _ e _=>e) (fun b o _ _ _ e _=>⟨o.slots,e⟩) (fun b o hc e n=>by rw [bi (fun z=>hc (by simp [z]))];exact n) (fun b o _ e=>⟨o,e⟩)
  (fun b xs e=>by rw [bi (bZ e f0)];exact e) (fun b o xs e=>by rw [bi (bZ e f0)];exact e) (fun b ps e=>⟨#[],by rw [bi (bZ e f0),e];simp⟩) (fun m hm=>hm) (wu I.hok f0 new) I.bare
 exact I'
end
section
variable {prog:aK}{w:bc}{A:aX}{E:aa->af->Prop}{s:af}{it l:ak}{i:Nat}{items:Array aa}
theorem vf  (ti:s.heap.IsTupleIter it l i) (tl:s.heap.IsTuple l items) (hx:items[i]?=some x)
  (q:∀ h',h'.IsTupleIter it l (i + 1)->bN it s.heap h'->Q x { s with heap:=h' }):au (ax prog w) A (cA (.ref it)) Q E s:=by
 obtain ⟨oi,ei,ci,di⟩:=id ti
 obtain ⟨ot,et,_,nt,dt⟩:=tl
 unfold cA
 refine a7 (cq (name:=gR "__next__") ti.typeIs jd ?_)
 refine bJ jd ti.typeIs DO ?_ (Cg _)
 show au _ _ (Gx (.ref it) 0 >>= _) _ _ s
 refine a7 (dO ei di (x:=.ref l) rfl ?_)
 show au _ _ (if (bu l == dX)=true then _ else _) _ _ s
 rw [if_neg (fun z:(bu l == dX)=true=>bq z)]
 show au _ _ (Gx (.ref it) 1 >>= _) _ _ s
 refine a7 (dO ei di (x:=.int i 0) rfl ?_)
 show au _ _ (M7 (.ref l) >>= _) _ _ s
 refine a7 (fc et dt ?_)
 simp only [ki,hx]
 refine a7 (gH ei di (by simp) (a9 ⟨x,rfl,a9 (q _ ?_ (bK ..))⟩))
 refine ⟨_,fV _ ei (Obj.isFreed_of_fields (Mq di _)),(Obj.cls_mapFields ..).trans ci,?_⟩
 rw [Mq di];simp [cn]
theorem vg (hh:A.handled=none) (ti:s.heap.IsTupleIter it l i) (tl:s.heap.IsTuple l items) (hx:items[i]?=none)
  (q:∀ h' e,Iv it s.heap h'->(∃ o,h'.get? e=some o/\o.cls=.type "StopIteration")->E (.ref e) { s with heap:=h' }):au (ax prog w) A (cA (.ref it)) Q E s:=by
 obtain ⟨oi,ei,ci,di⟩:=id ti
 obtain ⟨ot,et,_,nt,dt⟩:=tl
 unfold cA
 refine a7 (cq (name:=gR "__next__") ti.typeIs jd ?_)
 refine bJ jd ti.typeIs DO ?_ (Cg _)
 show au _ _ (Gx (.ref it) 0 >>= _) _ _ s
 refine a7 (dO ei di (x:=.ref l) rfl ?_)
 show au _ _ (if (bu l == dX)=true then _ else _) _ _ s
 rw [if_neg (fun z:(bu l == dX)=true=>bq z)]
 show au _ _ (Gx (.ref it) 1 >>= _) _ _ s
 refine a7 (dO ei di (x:=.int i 0) rfl ?_)
 show au _ _ (M7 (.ref l) >>= _) _ _ s
 refine a7 (fc et dt ?_)
 simp only [ki,hx]
 refine a7 (df (a7 (gH ei di (by simp) ?_)))
 show au _ _ (tU (.type "StopIteration") [] >>= _) _ _ _
 refine a7 ?_
 simp only [tU,Qb]
 refine a7 (bR ?_ (by size_fits))
 refine a7 (m:=lF _ _) (f9 (a:=dX) ?_ ?_)
 ·first
   | rfl
   | (simp only [lF];rfl)
 refine bR ?_ (by size_fits)
 simp only [sK]
 refine a7 (Kh ?_)
 rw [show A.in1.handled=none from hh]
 refine a7 (a9 (Qc ?_))
 exact q _ _ (((bK ..).extBut.push _).push _) ⟨_,aw _ rfl,rfl⟩
theorem KP (hh:A.handled=none) (it l:ak) (hne:l≠it) (items:Array aa) :
  Draws prog w A it [it,l] items.size (fun i v=>items[i]?=some v) (fun i h=>h.IsTupleIter it l i/\h.IsTuple l items) where
 live:=fun i h st=>let ⟨o,e,_⟩:=st.1;⟨o,e⟩
 frame:=fun i h h' st k=>⟨let ⟨o,e,r⟩:=st.1;⟨o,k it (by simp) o e,r⟩,let ⟨o,e,r⟩:=st.2;⟨o,k l (by simp) o e,r⟩⟩
 item:=fun i s Q E hi st q=>vf st.1 st.2 (x:=items[i]) (by simp [hi]) fun h' t' sb=>q _ h' s.toks (by simp [hi]) ⟨t',st.2.extBut sb.extBut hne⟩ sb
 done:=fun s Q E st q=>vg hh st.1 st.2 (by simp) q
end
theorem yQ (l:ak) (items:Array aa) (n:Nat) (dct:Option ak) (sl:Array (Option aa)) :
  Meets (jG.«enumerate.__new__» ⟨[.type "enumerate",.ref l],[]⟩) (fun _ R s=>s.heap.get? l=some { cls:=.type "tuple",dict:=dct,data:=.seq items n,slots:=sl } /\
   R (.ok (.ret (.ref (s.heap.push { cls:=.type "tuple_iterator",data:=.fields #[.ref l,.int 0 0] }).objs.size)))
    { s with heap:=(s.heap.push { cls:=.type "tuple_iterator",data:=.fields #[.ref l,.int 0 0] }).push { cls:=.type "enumerate",data:=.fields #[.none,.bool false,.ref s.heap.objs.size,cn 0,.none,.none] } }) :=
 .of_wp fun prog w A R s h=>by
  obtain ⟨hp,g,d,tk,os⟩:=s
  obtain ⟨hl,h⟩:=h
  have hsub:=PySem.sub_enumerate
  have hL:Gc (Gd ⟨hp,g,d,tk,os⟩) l items:=⟨_,hl,rfl,n,rfl⟩
  wp_walk using g6 hl
  refine wpAny_stack_any fun st=>a9 ?_
  split
  ·rename_i c _ _ _ _ _
   cases (c == iO "enumerate")
   ·wp_walk using g6 hl,gF hL
    exact ⟨_,rfl,h⟩
   ·wp_walk using g6 hl,gF hL
    exact ⟨_,rfl,h⟩
  ·wp_walk using g6 hl,gF hL
   exact ⟨_,rfl,h⟩
end
section
section
variable {prog:aK}{w:bc}{A:aX}{E:aa->af->Prop}{s:af}
theorem AA   (hL:s.heap.IsTuple l items)
  (h:∀ h',IsEnum h' (s.heap.objs.size + 1) s.heap.objs.size 0 .none->h'.IsTupleIter s.heap.objs.size l 0->(∀ b o,s.heap.get? b=some o->h'.get? b=some o)->h'.objs.size=s.heap.objs.size + 2 ->
   Q (.ref (s.heap.objs.size + 1)) { s with heap:=h' }):au (ax prog w) A (call (.type "enumerate") [.ref l]) Q E s:=by
 obtain ⟨⟨c,dc,dt,sl⟩,hl,hc,n,hd⟩:=hL
 obtain rfl:c=.type "tuple":=hc
 obtain rfl:dt=.seq items n:=hd
 refine callType_new F.called_enumerate (by decide) (F.typeCall_enumerate_1 _) (F.newCall_enumerate_1 _) (fun obj=>F.args_object_init_2 obj _) F.entry_enumerate_new (yQ l items n dc sl) ⟨hl,?_⟩
 have z1:(s.heap.push { cls:=.type "tuple_iterator",data:=.fields #[.ref l,.int 0 0] }).objs.size=s.heap.objs.size + 1:=cc ..
 show _/\_
 rw [z1]
 have he:IsEnum ((s.heap.push { cls:=.type "tuple_iterator",data:=.fields #[.ref l,.int 0 0] }).push { cls:=.type "enumerate",data:=.fields #[.none,.bool false,.ref s.heap.objs.size,cn 0,.none,.none] }) (s.heap.objs.size + 1) s.heap.objs.size 0 .none:=by
  have q:=aw (s.heap.push { cls:=.type "tuple_iterator",data:=.fields #[.ref l,.int 0 0] }) (o:={ cls:=.type "enumerate",data:=.fields #[.none,.bool false,.ref s.heap.objs.size,cn 0,.none,.none] }) rfl
  rw [z1] at q
  exact q
 exact ⟨⟨_,he,rfl⟩,h _ he ⟨_,ac _ (aw _ rfl),rfl,rfl⟩ (fun b o e=>ac _ (ac _ e)) (by rw [cc,z1])⟩
end
def Yb (K:a8) (a:ak):It :=
 ⟨fun i H=>∃ xs x,l7 K H a xs/\xs[i]?=some x,fun i H v H'=>∃ p,H p=none/\v=.ref p/\∀ xs,l7 K H a xs->∃ x,xs[i]?=some x/\H'=upd H p (.tup [.int i,x]),fun i H=>∃ xs,l7 K H a xs/\xs.length<=i⟩
theorem KQ {P:aK}{w:bc}{K:a8}{elts:List aZ}{x1}{pos:Pos} (a e it:ak) (hei:e≠it):Ax P w K (.Tuple elts x1 pos) (Yb K a) [e,it] e (fun i h=>(∃ old,IsEnum h e it i old)/\h.IsTupleIter it a i) where
 mem:=by simp
 obj:=fun i h st b hb=>by
  simp only [a_,bv,or_false] at hb
  rcases hb with rfl | rfl
  ·obtain ⟨⟨old,q⟩,_⟩:=st
   exact ⟨_,q,fun v z=>by cases z⟩
  ·obtain ⟨_,o,q,_,d⟩:=st
   exact ⟨o,q,fun v z=>by rw [d] at z;cases z⟩
 keep:=fun i h h' st k=>⟨let ⟨old,q⟩:=st.1;⟨old,k e (by simp) _ q⟩,let ⟨o,q,r⟩:=st.2;⟨o,k it (by simp) o q,r⟩⟩
 item:=by
  intro X hP hw hK hc i pins s σ H E I hf st hg
  subst hP hw hK
  obtain ⟨xs,x,hq,hx⟩:=hg
  obtain ⟨its,rv,p,hz⟩:=I.tuple hq
  obtain ⟨u,hu,ru⟩:=rv.get hx
  obtain ⟨⟨old,he⟩,hit⟩:=st
  have hit0:=hit
  obtain ⟨oi,ei,_⟩:=hit0
  have hai:a≠it:=fun z=>by
   obtain ⟨o1,e1,c1,_⟩:=p
   obtain ⟨o2,e2,c2,_⟩:=hit
   rw [z,e2] at e1;cases e1;rw [c2] at c1;exact absurd (Iw c1) (by decide)
  have hae:a≠e:=fun z=>by
   obtain ⟨o1,e1,c1,_⟩:=p
   rw [z,he] at e1;cases e1;exact absurd (Iw (show iO "enumerate"=iO "tuple" from c1)) (by decide)
  have hlt:i<its.toArray.size:=by simp;exact (List.getElem?_eq_some_iff.mp hu).1
  have he0:=ap he
  refine wpAny_pyNext_enum_itemD (KP (by simpa using I.ok.hd hc) it a hai its.toArray) he ⟨hit,p⟩ hlt hei (by simp [hei,cV hae]) ?_
  intro x' h1 tk hx' eo st1 tup sz k1
  have hx'':its[i]?=some x':=by simpa using hx'
  rw [hu] at hx'';cases hx''
  refine ⟨_,rfl,wpAny_letOwnedTupleGo_enum eo fun h2 e2 sb2=>?_⟩
  have szn:s.heap.objs.size≠e:=eO he0
  have I2:bX X pins σ H { s with heap:=h2,toks:=tk + 1 }:=I.turnedL (ch:=[e,it]) (fun b o hb q=>by
   simp only [a_,bv,or_false,not_or] at hb
   exact (sb2.2 b hb.1).trans (k1 b o hb.1 hb.2 q)) hf
  have fT:=I.fpOk (H':=H) (ar _) (I.hok.fresh (ar _))
  have tup2:h2.get? s.heap.objs.size=some { cls:=.type "tuple",data:=.seq #[.int i tk,u] }:=(sb2.2 _ szn).trans tup
  have I3:=I2.track (ho:=.tup [.int i,x]) fT ⟨by show 2<=sizeLine;decide,[.int i tk,u],.cons ⟨tk,rfl⟩ (.cons ru .nil),⟨_,tup2,rfl,0,rfl⟩⟩
  refine ⟨.ref s.heap.objs.size,_,I3,rfl,⟨_,fT.1,rfl,fun ys hy=>?_⟩,⟨⟨u,?_⟩,?_⟩,fun b hb=>?_⟩
  ·rw [I.tuple_inj hy hq];exact ⟨x,hx,rfl⟩
  ·have:(((i + 1:Nat):Int))=(i:Int) + 1:=by omega
   rw [this];exact e2
  ·obtain ⟨o,q,r⟩:=st1.1
   exact ⟨o,(sb2.2 it (cV hei)).trans q,r⟩
  ·rw [bi]
   ·exact (hf b hb).1
   ·simp only [a_,bv,or_false] at hb
    rcases hb with z | z
    ·rw [z];exact aE he0
    ·rw [z];exact aE (ap ei)
 done:=by
  intro X hP hw hK hc i pins s σ H E I hf st hg
  subst hP hw hK
  obtain ⟨xs,hq,hx⟩:=hg
  obtain ⟨its,rv,p,hz⟩:=I.tuple hq
  obtain ⟨⟨old,he⟩,hit⟩:=st
  have hl:=rv.length
  have hT:s.TypeIs (.ref e) "enumerate":=⟨_,he,rfl⟩
  unfold lB
  refine a7 (k9 (cq (name:=gR "__next__") hT Ma ?_))
  refine bJ Ma hT F.entry_enumerate_next ?_ (F.args_enumerate_next_1 _)
  show au _ _ (Gx (.ref e) 2 >>= _) _ _ _
  refine a7 (dO he rfl (x:=.ref it) rfl ?_)
  refine a7 (vg (by simpa using I.ok.hd hc) hit (show s.heap.IsTuple a its.toArray from p) (by simp;omega) fun h' z eb hz'=>?_)
  obtain ⟨o,ho,hcl⟩:=hz'
  refine a7 (gg (T:="StopIteration") (b:=true) ⟨o,ho,hcl⟩ wf ?_)
  exact a9 ⟨rfl,I.turnedL (t':=s.toks) (ch:=[e,it]) (fun b o hb q=>eb b o (by
   simp only [a_,bv,or_false,not_or] at hb;exact hb.2) q) hf⟩
 self:=fun _ _ _ _ _ st h=>let ⟨⟨_,q⟩,_⟩:=st;wpAny_pyIter_enum q h
def VU (K:a8) (ta:TA):TI:=fun σ H R=>ta σ H fun vs H1=>∃ a xs,vs=[.ref a]/\l7 K H1 a xs/\R (Yb K a) H1
theorem QY {X:Cx}{elts:List aZ}{x1}{tpos p pos:Pos}{a:aZ}{ta:TA} (hg:Gl X "enumerate") (hm:X.mg "enumerate"=none) (ha:PA X [a] ta) (hs:aO [a] X.env=[(false,eE a X.env)]:=by rfl) :
  PI X (.Tuple elts x1 tpos) (.Call (.Name "enumerate" p) [a] [] pos) (VU X.K ta):=by
 intro pins s σ H R I h
 refine Call_ (wo I hg hm boot_enumerate (i0 (fN (ha pos pins s σ H _ I h) fun us s1 ⟨vs,H1,I1,r1,q1⟩=>?_) hs rfl))
 obtain ⟨ad,xs,rfl,hq,q⟩:=q1
 obtain ⟨u,rfl,rx⟩:=l8 r1
 cases rx
 obtain ⟨its,rv,tp,hz⟩:=I1.tuple hq
 refine AA (show s1.heap.IsTuple ad its.toArray from tp) fun h' e1 t1 kp sz=>?_
 refine wpAny_pyIter_enum e1 ?_
 have I2:bX X pins σ H1 { s1 with heap:=h' }:=I1.kept (t':=s1.toks) kp
 refine ⟨s1.heap.objs.size + 1,[s1.heap.objs.size + 1,s1.heap.objs.size],_,_,H1,rfl,I2,KQ ad _ _ (eO (dS _)),⟨⟨.none,e1⟩,t1⟩,fun b hb=>?_,q⟩
 simp only [a_,bv,or_false] at hb
 rcases hb with z | z
 ·rw [z];exact I1.fpOk (k8 _) (I1.hok.fresh (k8 _))
 ·rw [z];exact I1.fpOk (ar _) (I1.hok.fresh (ar _))
end
section
section
variable {prog:aK}{w:bc}{A:aX}{E:aa->af->Prop}{s:af}{z TI TO i1 i2 l1 l2:ak}{k1 k2:Nat}{xs ys:Array aa}{x y a b:aa}
theorem jr    (t:h.IsTupleIter it l k) (sb:bN c h h') (ne:it≠c):h'.IsTupleIter it l k:=t.extBut sb.extBut ne
theorem pj    (t:h.IsTuple l xs) (sb:bN c h h') (ne:l≠c):h'.IsTuple l xs:=t.extBut sb.extBut ne
theorem Ni {Q:aa->af->Prop} (D:Qd z TI TO i1 i2 l1 l2) (za:wg s.heap z TI TO .none) (pa:kn s.heap TI (.ref i1) (.ref i2)) (pb:kn s.heap TO a b)
  (u1:s.heap.IsTupleIter i1 l1 k1) (u2:s.heap.IsTupleIter i2 l2 k2) (v1:s.heap.IsTuple l1 xs) (v2:s.heap.IsTuple l2 ys) (hx:xs[k1]?=some x) (hy:ys[k2]?=some y)
  (q:∀ h',wg h' z TI TO (cn s.heap.objs.size)->kn h' TO x y->h'.IsTupleIter i1 l1 (k1 + 1)->h'.IsTupleIter i2 l2 (k2 + 1)->kn h' s.heap.objs.size x y ->
   (∀ c o,c≠z->c≠TO->c≠i1->c≠i2->s.heap.get? c=some o->h'.get? c=some o)->Q (.ref s.heap.objs.size) { s with heap:=h' }) :
  au (ax prog w) A (jG.«zip.__next__» ⟨[.ref z],[]⟩) (fun fin s'=>∃ v,fin=.done (.ret v)/\Q v s') E s:=by
 show au _ _ (Gx (.ref z) 2 >>= _) _ _ _
 refine a7 (dO za rfl (x:=.bool false) rfl ?_)
 show au _ _ (Gx (.ref z) 3 >>= _) _ _ _
 refine a7 (dO za rfl (x:=.ref TI) rfl ?_)
 refine a7 (fc pa rfl ?_)
 show au _ _ (eF (.ref z) >>= _) _ _ _
 refine a7 ?_
 unfold eF
 refine a7 (dO za rfl (x:=.none) rfl (a9 ?_))
 simp only [if_true]
 refine a7 (df ?_)
 refine a7 (dO za rfl (x:=.ref TO) rfl ?_)
 refine a7 (iI za (by simp) fun g1 z1 b1=>?_)
 replace z1:wg g1 z TI TO .ellipsis:=z1
 refine a7 ?_
 simp only [yc,Qe,jF,ng]
 refine a7 (a7 (yd ?_))
 show au _ _ (cA (.ref i1) >>= _) _ _ _
 refine a7 (vf (jr u1 b1 D.i1z) (pj v1 b1 D.l1z) hx fun g2 w1 b2=>a9 ?_)
 have p2:kn g2 TO a b:=b2.extBut _ _ D.TOi1 (b1.extBut _ _ D.TOz pb)
 refine a7 (fc p2 rfl (a7 (wj p2 fun g3 p3 b3=>?_)))
 replace p3:kn g3 TO x b:=p3
 refine a7 (Qf (a9 (a7 (a7 (yd ?_)))))
 show au _ _ (cA (.ref i2) >>= _) _ _ _
 refine a7 (vf (jr (jr (jr u2 b1 D.i2z) b2 D.i12.symm) b3 D.TOi2.symm) (pj (pj (pj v2 b1 D.l2z) b2 D.l2i1) b3 D.l2TO) hy fun g4 w2 b4=>a9 ?_)
 have p4:kn g4 TO x b:=b4.extBut _ _ D.TOi2 p3
 refine a7 (fc p4 rfl (a7 (wj p4 fun g5 p5 b5=>?_)))
 replace p5:kn g5 TO x y:=p5
 refine a7 (Qf (a9 (a9 ?_)))
 refine a7 (fc p5 rfl (a7 (wpAny_newTuple ?_)))
 have sz:g5.objs.size=s.heap.objs.size:=by rw [b5.1,b4.1,b3.1,b2.1,b1.1]
 have z5:wg g5 z TI TO .ellipsis:=b5.extBut _ _ D.TOz.symm (b4.extBut _ _ D.i2z.symm (b3.extBut _ _ D.TOz.symm (b2.extBut _ _ D.i1z.symm z1)))
 have k5:∀ c o,c≠z->c≠TO->c≠i1->c≠i2->s.heap.get? c=some o->g5.get? c=some o:=fun c o n1 n2 n3 n4 e =>
  b5.extBut _ _ n2 (b4.extBut _ _ n4 (b3.extBut _ _ n2 (b2.extBut _ _ n3 (b1.extBut _ _ n1 e))))
 have y1:g5.IsTupleIter i1 l1 (k1 + 1):=jr (jr (jr w1 b3 D.TOi1.symm) b4 D.i12) b5 D.TOi1.symm
 have y2:g5.IsTupleIter i2 l2 (k2 + 1):=jr w2 b5 D.TOi2.symm
 have zl:z<g5.objs.size:=ap z5
 show au _ _ (ni (.ref z) (.ref g5.objs.size) >>= _) _ _ _
 refine a7 ?_
 unfold ni
 have z6:wg (g5.push { cls:=.type "tuple",data:=.seq #[x,y] }) z TI TO .ellipsis:=ac _ z5
 refine a7 (iI z6 (by simp) fun g7 z7 b7=>?_)
 replace z7:wg g7 z TI TO (cn g5.objs.size):=z7
 refine iI z7 (by simp) fun g8 z8 b8=>?_
 replace z8:wg g8 z TI TO (cn g5.objs.size):=z8
 have up:∀ c o,c≠z->g5.get? c=some o->g8.get? c=some o:=fun c o n1 e=>b8.extBut _ _ n1 (b7.extBut _ _ n1 (ac _ e))
 have p8:kn g8 g5.objs.size x y:=b8.extBut _ _ (eO zl) (b7.extBut _ _ (eO zl) (aw _ rfl))
 rw [sz] at z8 p8
 refine a9 ⟨_,rfl,?_⟩
 show Q (.ref g5.objs.size) _
 rw [sz]
 exact q g8 z8 (up _ _ D.TOz p5) (let ⟨o,e,r⟩:=y1;⟨o,up _ o D.i1z e,r⟩) (let ⟨o,e,r⟩:=y2;⟨o,up _ o D.i2z e,r⟩) p8 fun c o n1 n2 n3 n4 e=>up c o n1 (k5 c o n1 n2 n3 n4 e)
theorem Nj (hh:A.handled=none) (D:Qd z TI TO i1 i2 l1 l2) (za:wg s.heap z TI TO .none) (pa:kn s.heap TI (.ref i1) (.ref i2)) (pb:kn s.heap TO a b)
  (u1:s.heap.IsTupleIter i1 l1 k1) (u2:s.heap.IsTupleIter i2 l2 k2) (v1:s.heap.IsTuple l1 xs) (v2:s.heap.IsTuple l2 ys) (hend:xs[k1]?=none\/ys[k2]?=none)
  (q:∀ h' e,(∀ c o,c≠z->c≠TO->c≠i1->c≠i2->s.heap.get? c=some o->h'.get? c=some o)->(∃ o,h'.get? e=some o/\o.cls=.type "StopIteration")->E (.ref e) { s with heap:=h' }) :
  au (ax prog w) A (jG.«zip.__next__» ⟨[.ref z],[]⟩) Q E s:=by
 show au _ _ (Gx (.ref z) 2 >>= _) _ _ _
 refine a7 (dO za rfl (x:=.bool false) rfl ?_)
 show au _ _ (Gx (.ref z) 3 >>= _) _ _ _
 refine a7 (dO za rfl (x:=.ref TI) rfl ?_)
 refine a7 (fc pa rfl ?_)
 show au _ _ (eF (.ref z) >>= _) _ _ _
 refine a7 ?_
 unfold eF
 refine a7 (dO za rfl (x:=.none) rfl (a9 ?_))
 simp only [if_true]
 refine a7 (df ?_)
 refine a7 (dO za rfl (x:=.ref TO) rfl ?_)
 refine a7 (iI za (by simp) fun g1 z1 b1=>?_)
 replace z1:wg g1 z TI TO .ellipsis:=z1
 refine a7 ?_
 simp only [yc,Qe,jF,ng]
 refine a7 (a7 (yd ?_))
 show au _ _ (cA (.ref i1) >>= _) _ _ _
 cases hx:xs[k1]? with
 | none =>
  refine a7 (vg hh (jr u1 b1 D.i1z) (pj v1 b1 D.l1z) hx fun g2 e b2 he=>?_)
  obtain ⟨oe,ee,ce⟩:=he
  have z2:wg g2 z TI TO .ellipsis:=b2 _ _ D.i1z.symm z1
  have ez:e≠z:=fun n=>by subst n;rw [z2] at ee;cases ee;simp at ce
  refine iI z2 (by simp) fun g3 _ b3=>q g3 e (fun c o n1 _ n3 _ m=>b3.extBut _ _ n1 (b2 _ _ n3 (b1.extBut _ _ n1 m))) ⟨oe,b3.extBut _ _ ez ee,ce⟩
 | some x =>
  have hy:ys[k2]?=none:=hend.resolve_left fun n=>by rw [hx] at n;cases n
  refine a7 (vf (jr u1 b1 D.i1z) (pj v1 b1 D.l1z) hx fun g2 w1 b2=>a9 ?_)
  have p2:kn g2 TO a b:=b2.extBut _ _ D.TOi1 (b1.extBut _ _ D.TOz pb)
  refine a7 (fc p2 rfl (a7 (wj p2 fun g3 p3 b3=>?_)))
  refine a7 (Qf (a9 (a7 (a7 (yd ?_)))))
  show au _ _ (cA (.ref i2) >>= _) _ _ _
  refine a7 (vg hh (jr (jr (jr u2 b1 D.i2z) b2 D.i12.symm) b3 D.TOi2.symm) (pj (pj (pj v2 b1 D.l2z) b2 D.l2i1) b3 D.l2TO) hy fun g4 e b4 he=>?_)
  obtain ⟨oe,ee,ce⟩:=he
  have z4:wg g4 z TI TO .ellipsis:=b4 _ _ D.i2z.symm (b3.extBut _ _ D.TOz.symm (b2.extBut _ _ D.i1z.symm z1))
  have ez:e≠z:=fun n=>by subst n;rw [z4] at ee;cases ee;simp at ce
  refine iI z4 (by simp) fun g5 _ b5=>q g5 e (fun c o n1 n2 n3 n4 m=>b5.extBut _ _ n1 (b4 _ _ n4 (b3.extBut _ _ n2 (b2.extBut _ _ n3 (b1.extBut _ _ n1 m))))) ⟨oe,b5.extBut _ _ ez ee,ce⟩
end
abbrev Xo (h:bF) (l1:ak):bF:=h.push { cls:=.type "tuple_iterator",data:=.fields #[.ref l1,.int 0 0] }
abbrev Xp (h:bF) (l1 l2:ak):bF:=(Xo h l1).push { cls:=.type "tuple_iterator",data:=.fields #[.ref l2,.int 0 0] }
abbrev Xq (h:bF) (l1 l2:ak):bF:=(Xp h l1 l2).push { cls:=.type "tuple",data:=.seq #[.ref h.objs.size,.ref (Xo h l1).objs.size] }
abbrev Xr (h:bF) (l1 l2:ak):bF:=(Xq h l1 l2).push { cls:=.type "tuple",data:=.seq #[.none,.none] }
abbrev Vi (h:bF) (l1 l2:ak):bF:=(Xr h l1 l2).push { cls:=.type "zip",data:=.fields #[.none,.bool false,.bool false,.ref (Xp h l1 l2).objs.size,.ref (Xq h l1 l2).objs.size] }
theorem AB (l1 l2:ak) (xs ys:Array aa) :
  Meets (jG.«zip.__new__» ⟨[.type "zip",.ref l1,.ref l2],[]⟩) (fun _ R s=>s.heap.IsTuple l1 xs/\s.heap.IsTuple l2 ys/\R (.ok (.ret (.ref (Xr s.heap l1 l2).objs.size))) { s with heap:=Vi s.heap l1 l2 }) :=
 .of_wp fun prog w A R s h=>by
  obtain ⟨hp,g,d,tk,os⟩:=s
  obtain ⟨v1,v2,h⟩:=h
  have hsub:=PySem.sub_zip
  have L1:Gc (Gd ⟨hp,g,d,tk,os⟩) l1 xs:=v1
  have L2:Gc (Gd ⟨hp.push { cls:=.type "tuple_iterator",data:=.fields #[.ref l1,.int 0 0] },g,d,tk,os⟩) l2 ys:=Heap.IsTuple.push v2 _
  wp_walk using gF L1,gF L2
  exact ⟨_,rfl,h⟩
section
variable {prog:aK}{w:bc}{A:aX}{E:aa->af->Prop}{s:af}
theorem CM   (v1:s.heap.IsTuple l1 xs) (v2:s.heap.IsTuple l2 ys)
  (h:∀ h',wg h' (s.heap.objs.size + 4) (s.heap.objs.size + 2) (s.heap.objs.size + 3) .none->kn h' (s.heap.objs.size + 2) (.ref s.heap.objs.size) (.ref (s.heap.objs.size + 1)) ->
   kn h' (s.heap.objs.size + 3) .none .none->h'.IsTupleIter s.heap.objs.size l1 0->h'.IsTupleIter (s.heap.objs.size + 1) l2 0 ->
   (∀ c o,s.heap.get? c=some o->h'.get? c=some o)->Q (.ref (s.heap.objs.size + 4)) { s with heap:=h' }):au (ax prog w) A (call (.type "zip") [.ref l1,.ref l2]) Q E s:=by
 refine callType_new F.called_zip (by decide) (F.typeCall_zip_2 _ _) (F.newCall_zip_2 _ _) (fun obj=>F.args_object_init_3 obj _ _) F.entry_zip_new (AB l1 l2 xs ys) ⟨v1,v2,?_⟩
 have n1:(Xo s.heap l1).objs.size=s.heap.objs.size + 1:=cc ..
 have n2:(Xp s.heap l1 l2).objs.size=s.heap.objs.size + 2:=by rw [cc,n1]
 have n3:(Xq s.heap l1 l2).objs.size=s.heap.objs.size + 3:=by rw [cc,n2]
 have n4:(Xr s.heap l1 l2).objs.size=s.heap.objs.size + 4:=by rw [cc,n3]
 have c5:(Vi s.heap l1 l2).get? (Xr s.heap l1 l2).objs.size=some _:=aw _ rfl
 have c4:(Vi s.heap l1 l2).get? (Xq s.heap l1 l2).objs.size=some _:=ac _ (aw _ rfl)
 have c3:(Vi s.heap l1 l2).get? (Xp s.heap l1 l2).objs.size=some _:=ac _ (ac _ (aw _ rfl))
 have c2:(Vi s.heap l1 l2).get? (Xo s.heap l1).objs.size=some _:=ac _ (ac _ (ac _ (aw _ rfl)))
 have c1:(Vi s.heap l1 l2).get? s.heap.objs.size=some _:=ac _ (ac _ (ac _ (ac _ (aw _ rfl))))
 show _/\_
 rw [n2,n3,n4] at c5
 rw [n1,n2] at c3
 rw [n3] at c4
 rw [n1] at c2
 rw [n4]
 exact ⟨⟨_,c5,rfl⟩,h _ c5 c3 c4 ⟨_,c1,rfl,rfl⟩ ⟨_,c2,rfl,rfl⟩ fun c o e=>ac _ (ac _ (ac _ (ac _ (ac _ e))))⟩
end
theorem l7.ne_fp       (I:bX X pins σ H s) (hq:l7 X.K H a xs) (hf:qO X pins H b):a≠b:=by
 rintro rfl
 rcases hq with (h | ⟨o,h⟩) | ⟨o,its,n,hk,_⟩
 ·rw [hf.1] at h;cases h
 ·rw [hf.1] at h;cases h
 ·have e:X.base.get? a=some o:=I.mod.kin a o hk
  rcases hf.f3 with z | z
  ·exact I.ok.noex a o e z
  ·exact absurd (aC (ap e) (cy I.ok.bsz z)) (bW _)
def Yc (K:a8) (a b:ak):It :=
 ⟨fun i H=>∃ xs ys x y,l7 K H a xs/\l7 K H b ys/\xs[i]?=some x/\ys[i]?=some y,
  fun i H v H'=>∃ p,H p=none/\v=.ref p/\∀ xs ys,l7 K H a xs->l7 K H b ys->∃ x y,xs[i]?=some x/\ys[i]?=some y/\H'=upd H p (.tup [x,y]),
  fun i H=>∃ xs ys,l7 K H a xs/\l7 K H b ys/\(xs.length<=i\/ys.length<=i)⟩
structure Yd (z TI TO i1 i2:ak):Prop where
 d1:TI≠z
 d2:TO≠z
 d3:i1≠z
 d4:i2≠z
 d5:TI≠TO
 d6:TI≠i1
 d7:TI≠i2
 d8:TO≠i1
 d9:TO≠i2
 d0:i1≠i2
theorem Nk {P:aK}{w:bc}{K:a8}{elts:List aZ}{x1}{pos:Pos} (l1 l2 z TI TO i1 i2:ak) (Z:Yd z TI TO i1 i2) :
  Ax P w K (.Tuple elts x1 pos) (Yc K l1 l2) [z,TI,TO,i1,i2] z (fun i h=>wg h z TI TO .none/\kn h TI (.ref i1) (.ref i2)/\(∃ a b,kn h TO a b)/\h.IsTupleIter i1 l1 i/\h.IsTupleIter i2 l2 i) where
 mem:=by simp
 obj:=fun i h st b hb=>by
  obtain ⟨s1,s2,⟨_,_,s3⟩,⟨o4,e4,_,f4⟩,⟨o5,e5,_,f5⟩⟩:=st
  simp only [a_,bv,or_false] at hb
  rcases hb with rfl | rfl | rfl | rfl | rfl
  ·exact ⟨_,s1,fun v q=>by cases q⟩
  ·exact ⟨_,s2,fun v q=>by cases q⟩
  ·exact ⟨_,s3,fun v q=>by cases q⟩
  ·exact ⟨o4,e4,fun v q=>by rw [f4] at q;cases q⟩
  ·exact ⟨o5,e5,fun v q=>by rw [f5] at q;cases q⟩
 keep:=fun i h h' st k=>by
  obtain ⟨s1,s2,⟨u,v,s3⟩,⟨o4,e4,r4⟩,⟨o5,e5,r5⟩⟩:=st
  exact ⟨k z (by simp) _ s1,k TI (by simp) _ s2,⟨u,v,k TO (by simp) _ s3⟩,⟨o4,k i1 (by simp) _ e4,r4⟩,⟨o5,k i2 (by simp) _ e5,r5⟩⟩
 item:=by
  intro X hP hw hK hc i pins s σ H E I hf st hg
  subst hP hw hK
  obtain ⟨xs,ys,x,y,hq1,hq2,hx,hy⟩:=hg
  obtain ⟨its1,rv1,p1,_⟩:=I.tuple hq1
  obtain ⟨its2,rv2,p2,_⟩:=I.tuple hq2
  obtain ⟨u,hu,ru⟩:=rv1.get hx
  obtain ⟨v,hv,rv⟩:=rv2.get hy
  obtain ⟨s1,s2,⟨a,b,s3⟩,s4,s5⟩:=st
  have ne1:∀ b∈[z,TI,TO,i1,i2],l1≠b:=fun b hb=>hq1.ne_fp I (hf b hb)
  have ne2:∀ b∈[z,TI,TO,i1,i2],l2≠b:=fun b hb=>hq2.ne_fp I (hf b hb)
  have D:Qd z TI TO i1 i2 l1 l2:=⟨Z.d1,Z.d2,Z.d3,Z.d4,Z.d5,Z.d6,Z.d7,Z.d8,Z.d9,Z.d0,ne1 z (by simp),ne1 TO (by simp),ne1 i1 (by simp),ne1 i2 (by simp),ne2 z (by simp),ne2 TO (by simp),ne2 i1 (by simp),ne2 i2 (by simp)⟩
  have zl:=ap s1
  have hT:s.TypeIs (.ref z) "zip":=⟨_,s1,rfl⟩
  unfold lB
  refine a7 (k9 (cq (name:=gR "__next__") hT sX ?_))
  refine bJ sX hT F.entry_zip_next (Ni D s1 s2 s3 s4 s5 p1 p2 (by simpa using hu) (by simpa using hv) fun h1 z1 t1 y1 y2 pr k1=>?_) (F.args_zip_next_1 _)
  refine a9 ⟨_,rfl,wpAny_letOwnedTupleGo_zip z1 fun h2 z2 b2=>?_⟩
  have szn:s.heap.objs.size≠z:=eO zl
  have TIk:kn h1 TI (.ref i1) (.ref i2):=k1 TI _ Z.d1 Z.d5 Z.d6 Z.d7 s2
  have I2:bX X pins σ H { s with heap:=h2 }:=I.turnedL (t':=s.toks) (ch:=[z,TI,TO,i1,i2]) (fun b o hb q=>by
   simp only [a_,bv,or_false,not_or] at hb
   exact (b2.2 b hb.1).trans (k1 b o hb.1 hb.2.2.1 hb.2.2.2.1 hb.2.2.2.2 q)) hf
  have fT:=I.fpOk (H':=H) (ar _) (I.hok.fresh (ar _))
  have pr2:h2.get? s.heap.objs.size=some { cls:=.type "tuple",data:=.seq #[u,v] }:=(b2.2 _ szn).trans pr
  have I3:=I2.track (ho:=.tup [x,y]) fT ⟨by show 2<=sizeLine;decide,[u,v],.cons ru (.cons rv .nil),⟨_,pr2,rfl,0,rfl⟩⟩
  refine ⟨.ref s.heap.objs.size,_,I3,rfl,⟨_,fT.1,rfl,fun xs' ys' h1 h2=>?_⟩,⟨z2,(b2.2 TI Z.d1).trans TIk,⟨u,v,(b2.2 TO Z.d2).trans t1⟩,jr y1 b2 Z.d3,jr y2 b2 Z.d4⟩,fun b hb=>?_⟩
  ·rw [I.tuple_inj h1 hq1,I.tuple_inj h2 hq2];exact ⟨x,y,hx,hy,rfl⟩
  ·have bl:b<s.heap.objs.size:=by
    simp only [a_,bv,or_false] at hb
    rcases hb with q | q | q | q | q
    ·rw [q];exact zl
    ·rw [q];exact ap s2
    ·rw [q];exact ap s3
    ·obtain ⟨_,e,_⟩:=s4;rw [q];exact ap e
    ·obtain ⟨_,e,_⟩:=s5;rw [q];exact ap e
   rw [bi (aE bl)];exact (hf b hb).1
 done:=by
  intro X hP hw hK hc i pins s σ H E I hf st hg
  subst hP hw hK
  obtain ⟨xs,ys,hq1,hq2,hend⟩:=hg
  obtain ⟨its1,rv1,p1,_⟩:=I.tuple hq1
  obtain ⟨its2,rv2,p2,_⟩:=I.tuple hq2
  obtain ⟨s1,s2,⟨a,b,s3⟩,s4,s5⟩:=st
  have ne1:∀ b∈[z,TI,TO,i1,i2],l1≠b:=fun b hb=>hq1.ne_fp I (hf b hb)
  have ne2:∀ b∈[z,TI,TO,i1,i2],l2≠b:=fun b hb=>hq2.ne_fp I (hf b hb)
  have D:Qd z TI TO i1 i2 l1 l2:=⟨Z.d1,Z.d2,Z.d3,Z.d4,Z.d5,Z.d6,Z.d7,Z.d8,Z.d9,Z.d0,ne1 z (by simp),ne1 TO (by simp),ne1 i1 (by simp),ne1 i2 (by simp),ne2 z (by simp),ne2 TO (by simp),ne2 i1 (by simp),ne2 i2 (by simp)⟩
  have hT:s.TypeIs (.ref z) "zip":=⟨_,s1,rfl⟩
  have n1:=rv1.length
  have n2:=rv2.length
  unfold lB
  refine a7 (k9 (cq (name:=gR "__next__") hT sX ?_))
  refine bJ sX hT F.entry_zip_next (Nj (by simpa using I.ok.hd hc) D s1 s2 s3 s4 s5 p1 p2 (hend.elim (fun q=>.inl (by simp;omega)) fun q=>.inr (by simp;omega)) fun h' e kp he=>?_) (F.args_zip_next_1 _)
  obtain ⟨o,eo,co⟩:=he
  refine a7 (gg (T:="StopIteration") (b:=true) ⟨o,eo,co⟩ wf ?_)
  exact a9 ⟨rfl,I.turnedL (t':=s.toks) (ch:=[z,TI,TO,i1,i2]) (fun b o hb q=>by
   simp only [a_,bv,or_false,not_or] at hb
   exact kp b o hb.1 hb.2.2.1 hb.2.2.2.1 hb.2.2.2.2 q) hf⟩
 self:=fun _ _ _ _ _ st h=>wpAny_pyIter_zip st.1 h
def Ye (K:a8) (ta:TA):TI:=fun σ H R=>ta σ H fun vs H1=>∃ a b xs ys,vs=[.ref a,.ref b]/\l7 K H1 a xs/\l7 K H1 b ys/\R (Yc K a b) H1
theorem Ul {X:Cx}{elts:List aZ}{x1}{tpos p pos:Pos}{a b:aZ}{ta:TA} (hg:Gl X "zip") (hm:X.mg "zip"=none) (ha:PA X [a,b] ta) (hs:aO [a,b] X.env=[(false,eE a X.env),(false,eE b X.env)]:=by rfl)
  (hs2:aO [b] X.env=[(false,eE b X.env)]:=by rfl):PI X (.Tuple elts x1 tpos) (.Call (.Name "zip" p) [a,b] [] pos) (Ye X.K ta):=by
 intro pins s σ H R I h
 refine Call_ (wo I hg hm boot_zip (i0 (fN (ha pos pins s σ H _ I h) fun us s1 ⟨vs,H1,I1,r1,q1⟩=>?_) (by rw [hs,hs2]) (by rw [hs2];rfl)))
 obtain ⟨a1,a2,xs,ys,rfl,hq1,hq2,q⟩:=q1
 obtain ⟨u1,u2,rfl,rx1,rx2⟩:=S6 r1
 cases rx1
 cases rx2
 obtain ⟨its1,rv1,p1,_⟩:=I1.tuple hq1
 obtain ⟨its2,rv2,p2,_⟩:=I1.tuple hq2
 refine CM (show s1.heap.IsTuple a1 its1.toArray from p1) (show s1.heap.IsTuple a2 its2.toArray from p2) fun h' c1 c2 c3 c4 c5 kp=>?_
 refine wpAny_pyIter_zip c1 ?_
 have I2:bX X pins σ H1 { s1 with heap:=h' }:=I1.kept (t':=s1.toks) kp
 have ad:∀ k j:Nat,k≠j->s1.heap.objs.size + k≠s1.heap.objs.size + j:=fun k j n e=>n (Nat.add_left_cancel e)
 refine ⟨s1.heap.objs.size + 4,[s1.heap.objs.size + 4,s1.heap.objs.size + 2,s1.heap.objs.size + 3,s1.heap.objs.size + 0,s1.heap.objs.size + 1],_,_,H1,rfl,I2,
  Nk a1 a2 _ _ _ _ _ ⟨ad _ _ (by decide),ad _ _ (by decide),ad _ _ (by decide),ad _ _ (by decide),ad _ _ (by decide),ad _ _ (by decide),ad _ _ (by decide),ad _ _ (by decide),ad _ _ (by decide),ad _ _ (by decide)⟩,
  ⟨c1,c2,⟨_,_,c3⟩,c4,c5⟩,fun b hb=>?_,q⟩
 have:∀ k:Nat,qO X pins H1 (s1.heap.objs.size + k):=fun k=>I1.fpOk (Qg _ _) (I1.hok.fresh (Qg _ _))
 simp only [a_,bv,or_false] at hb
 rcases hb with q | q | q | q | q<;>(rw [q];exact this _)
end
section
mutual
inductive GW (K:a8) (H:Hp):V->Ch->Prop
 | none:GW K H .non .none
 | bool (b:Bool):GW K H (.bl b) (.bool b)
 | int (i:Int):GW K H (.int i) (.int i)
 | str (x:Str):GW K H (.str x) (.str x)
 | list {a:ak}{xs:List V}{ds:List Ch}:ph K H a xs->Reps K H xs ds->GW K H (.ref a) (.list ds)
 | tuple {a:ak}{xs:List V}{ds:List Ch}:l7 K H a xs->Reps K H xs ds->GW K H (.ref a) (.tuple ds)
inductive Reps (K:a8) (H:Hp):List V->List Ch->Prop
 | nil:Reps K H [] []
 | cons {x:V}{xs:List V}{d:Ch}{ds:List Ch}:GW K H x d->Reps K H xs ds->Reps K H (x::xs) (d::ds)
end
theorem dD.tup {K:a8}{H H':Hp}{a:ak}{xs:List V} (e:dD H H') (h:l7 K H a xs):l7 K H' a xs:=by
 rcases h with (h | ⟨o,h⟩) | h
 ·exact .inl (.inl (e _ _ h))
 ·exact .inl (.inr ⟨o,e _ _ h⟩)
 ·exact .inr h
section
variable {X:Cx}{pins:List (ak×Obj)}{σ:St}{H:Hp}{s:af}
theorem QZ (I:bX X pins σ H s)    (h:ph X.K H a xs) (ih:∀ {us:List aa},dC xs us->∃ as,ReadsAll s.heap us ds as) (r:dq (.ref a) u):∃ as,Reads s.heap u (.list ds) as:=by
 cases r
 obtain ⟨its,rv,⟨o,n,e,c,_,d⟩,_⟩:=I.list h
 obtain ⟨as,ra⟩:=ih rv
 exact ⟨_,.list e c d (by simpa using ra)⟩
theorem Nl (I:bX X pins σ H s)    (h:l7 X.K H a xs) (ih:∀ {us:List aa},dC xs us->∃ as,ReadsAll s.heap us ds as) (r:dq (.ref a) u):∃ as,Reads s.heap u (.tuple ds) as:=by
 cases r
 obtain ⟨its,rv,⟨o,e,c,n,d⟩,_⟩:=I.tuple h
 obtain ⟨as,ra⟩:=ih rv
 exact ⟨_,.tuple e c d (by simpa using ra)⟩
theorem rT (I:bX X pins σ H s)  (h:GW X.K H v d):∀ {u:aa},dq v u->∃ as,Reads s.heap u d as :=
 GW.rec (motive_1:=fun v d _=>∀ {u:aa},dq v u->∃ as,Reads s.heap u d as) (motive_2:=fun vs ds _=>∀ {us:List aa},dC vs us->∃ as,ReadsAll s.heap us ds as)
  (fun r=>by cases r;exact ⟨_,.none⟩) (fun b _ r=>by cases r;exact ⟨_,.bool b⟩) (fun i _ r=>by obtain ⟨t,rfl⟩:=r;exact ⟨_,.int i t⟩) (fun x _ r=>by obtain ⟨t,rfl⟩:=r;exact ⟨_,.str x t⟩)
  (fun h _ ih _ r=>QZ I h ih r) (fun h _ ih _ r=>Nl I h ih r) (fun r=>by cases r;exact ⟨_,.nil⟩) (fun _ _ a b _ r=>by
   cases r with
   | cons r rs =>
    obtain ⟨as,ra⟩:=a r
    obtain ⟨bs,rb⟩:=b rs
    exact ⟨_,.cons ra rb⟩) h
end
section
variable {X:Cx}
inductive Sn (K:a8) (neg:Bool) (x:V) (y:V) (H:Hp) (Q:VK):Prop
 | mk (dx dy:_) (h0:GW K H x dx) (h1:GW K H y dy) (h2:dx.canLay0=true) (h3:dy.canLay0=true) (h4:min dx.depth dy.depth<=60) (h5:Q (.bl (if neg then !bn dx dy else bn dx dy)) H):Sn K neg x y H Q
def Um (K:a8) (neg:Bool):R2:=Sn K neg
theorem Uo (hu:X.A.units + 64<gT):qD X (bO .Eq) (Um X.K false):=by
 intro pins s σ H x y v u Q I rx ry h
 obtain ⟨dx,dy,hx,hy,lx,ly,dp,q⟩:=h
 obtain ⟨as,ra⟩:=rT I hx rx
 obtain ⟨bs,rb⟩:=rT I hy ry
 exact PySem.SeqAt.compareEq_reads ra rb lx ly (by omega) ⟨.bl _,H,I,rfl,q⟩
theorem Uq (hu:X.A.units + 64<gT):qD X (bO .NotEq) (Um X.K true):=by
 intro pins s σ H x y v u Q I rx ry h
 obtain ⟨dx,dy,hx,hy,lx,ly,dp,q⟩:=h
 obtain ⟨as,ra⟩:=rT I hx rx
 obtain ⟨bs,rb⟩:=rT I hy ry
 exact PySem.SeqAt.compareNe_reads ra rb lx ly (by omega) ⟨.bl _,H,I,rfl,q⟩
end
end
section
structure Yf (P:aK) (w:bc) (l:List Env) (H H':Hp) (h h' B:bF) (ea C t:ak):Prop where
 fly:Heap.FlyingW B l ea (.ref C) (.ref t) h'
 cov:∀ b u,H' b=some u->∃ o,B.get? b=some o
 old:∀ b o,h.get? b=some o->H b=none->b∉t5 l->B.get? b=some o
 all:∀ b o,h.get? b=some o->b∉t5 l->∃ o',B.get? b=some o'
 un:Un (t5 l) [] H H' h h'
 hok:qv P w H' h'
inductive VV (P:aK) (w:bc) (outer:List Env) (H:Hp) (s:af) (E:XK) (e:aa) (s':af):Prop
 | mk (ea C t H' B:_) (h0:e=.ref ea) (h1:s'.os=s.os) (h2:qy s'.gens) (h3:Yf P w outer H H' s.heap s'.heap B ea C t) (h4:E (.ref C) none H'):VV P w outer H s E e s'
def qm (P:aK) (w:bc):Kz:=VV P w
theorem Nm      (x:qv P w H h) (e:H b=some u):∃ o,h.get? b=some o:=by
 have y:=x b u e
 cases u with
 | lst xs=>obtain ⟨_,_,_,_,k⟩:=y;exact ⟨_,k⟩
 | tup xs=>obtain ⟨_,_,_,o,k,_⟩:=y;exact ⟨o,k⟩
 | dK kvs=>obtain ⟨_,_,_,_,o,_,_,k,_⟩:=y;exact ⟨o,k⟩
 | dT kvs=>obtain ⟨_,_,_,_,o,_,_,k,_⟩:=y;exact ⟨o,k⟩
 | set S n=>obtain ⟨o,_,_,_,k,_⟩:=y;exact ⟨o,k⟩
 | ins C dx fs=>obtain ⟨_,_,_,k,_⟩:=y;exact ⟨_,k⟩
 | own y'=>exact y
 | xd fs=>obtain ⟨_,⟨o,_,_,k,_⟩,_⟩:=y;exact ⟨o,k⟩
 | rng lo hi=>obtain ⟨_,_,_,k⟩:=y;exact ⟨_,k⟩
 | frz o u=>exact ⟨o,y.1⟩
 | tbl ps=>exact ⟨_,y⟩
 | met f y'=>exact ⟨_,y⟩
 | ext φ=>exact y.2.1
theorem II   (he:env∈l) (hf:env.frame=some b):b∈t5 l:=List.mem_filterMap.mpr ⟨env,he,hf⟩
section
variable {P:aK}{w:bc}{l:List Env}{H H':Hp}{h h' h'' B:bF}{ea C t:ak}
theorem Yf.kp (x:Yf P w l H H' h h' B ea C t) (st:B.StaysIn h'') (b:ak) (u:HO) (o:Obj) (e:H' b=some u) (q:h'.get? b=some o):h''.get? b=some o:=by
 obtain ⟨o',e1⟩:=x.cov b u e
 have:=x.fly.1 b o' e1
 rw [q] at this;cases this
 exact st b o e1
end
section
variable {P:aK}{w:bc}{K:a8}{mg:Str->Option aa}{base:bF}{N:List Str}{qual:Str}{scope:gE}{f:ak}{cd:aa}{A:aX}{outer:List Env}{s:af}{H:Hp}{E:XK}
theorem CN       (I:bX (ke (qm P w) P w K mg base N qual scope f cd A outer s H E) pins σ H1 s1)
  (hx:Heap.MadeExcOf s1.heap h' ea (.ref C) vs) (q:E (.ref C) none H1):(ke (qm P w) P w K mg base N qual scope f cd A outer s H E).xe (.ref ea) { s1 with heap:=h' }:=by
 let X:=ke (qm P w) P w K mg base N qual scope f cd A outer s H E
 let B:=L_ s1.heap (t5 X.stack)
 have hin:∀ env∈X.stack,∀ a,env.frame=some a->a∈t5 X.stack:=fun env he a hf=>II he hf
 have stB:B.StaysIn s1.heap:=fun b o e=>Gm _ e
 have nS:∀ b,b∉t5 X.stack->∀ o,s1.heap.get? b=some o->B.get? b=some o:=fun b n o e=>Ga _ e n
 show au _ X.A (leaving X.env (.ref ea)) _ _ _
 refine wpAny_leaves_madeW (s:={ s1 with heap:=h' }) (base:=B) (outer:=outer) (L:=X.env.locals) I.ok.frames rfl stB (PySem.W.funFrames_hide I.stack hin) hx fun h2 t fl tup tn up=>?_
 have st2:=fl.1
 have bl:∀ b o,s.heap.get? b=some o->b∉t5 outer->b∉t5 X.stack:=fun b o e n z=>by
  rcases List.mem_cons.mp (I.stkSub b z) with y | y
  ·exact absurd (ap e) (by rw [y];exact Nat.not_lt.mpr I.ok.above)
  ·exact n y
 have noex:∀ b:ak,b∉X.ex:=fun b z=>absurd (show b∈([] : List ak) from z) (by simp)
 have cov:∀ b u,H1 b=some u->∃ o,B.get? b=some o:=fun b u e=>by
  have hb:b∉t5 X.stack:=fun z=>by have:=I.stkFree b z;rw [e] at this;cases this
  obtain ⟨o,k⟩:=Nm I.hok e
  exact ⟨o,nS b hb o k⟩
 refine ⟨ea,C,t,H1,B,rfl,I.os,I.bare,⟨fl,cov,fun b o e n hb=>?_,fun b o e hb=>?_,⟨fun b o e n hb hx'=>?_,fun b o e n hb hx'=>?_,fun b o e n _=>I.base.free b o e n (noex b),fun b o e _=>?_,I.base.tups,I.base.frzs,I.base.tbls⟩,fun b u e=>?_⟩,q⟩
 ·exact nS b (bl b o e hb) o (I.base.keep b o e n hb (noex b))
 ·obtain ⟨o',k⟩:=I.base.there b o e (noex b)
  exact ⟨o',nS b (bl b o e hb) o' k⟩
 ·exact st2 b o (nS b (bl b o e hb) o (I.base.keep b o e n hb (noex b)))
 ·obtain ⟨sl,k⟩:=I.base.slot b o e n hb (noex b)
  obtain ⟨_,o',k1,k2⟩:=kM I.funs hb
  rw [k] at k1;cases k1
  obtain ⟨sl',k3⟩:=up b _ (hx.keeps _ _ k) k2
  exact ⟨sl',k3⟩
 ·obtain ⟨o',k⟩:=I.base.there b o e (noex b)
  by_cases hb:b∈t5 outer
  ·obtain ⟨_,o2,k1,_⟩:=kM fl.2.2.1 hb
   exact ⟨o2,k1⟩
  ·exact ⟨o',st2 b o' (nS b (bl b o e hb) o' k)⟩
 ·refine (I.hok b u e).stay (fun c o hc k=>?_) (fun _ q=>q) fun _ _ q=>q
  have hcs:c∉t5 X.stack:=fun z=>by
   have:=I.stkFree c z
   rcases hc with y | y
   ·rw [y,e] at this;cases this
   ·rw [y] at this;cases this
  exact st2 c o (nS c hcs o k)
theorem El (hE:∀ c H',E' c none H'->E c none H'):tZ (qm P w) (ke (qm P w) P w K mg base N qual scope f cd A outer s H E) E':=by
 intro pins σ H1 s1 e s' I h
 obtain ⟨ea,C,t,H',B,rfl,os,bare,x,q⟩:=h
 let X:=ke (qm P w) P w K mg base N qual scope f cd A outer s H E
 have noex:∀ b:ak,b∉X.ex:=fun b z=>absurd (show b∈([] : List ak) from z) (by simp)
 have bl:∀ b o,s.heap.get? b=some o->b∉t5 outer->b∉t5 X.stack:=fun b o e n z=>by
  rcases List.mem_cons.mp (I.stkSub b z) with y | y
  ·exact absurd (ap e) (by rw [y];exact Nat.not_lt.mpr I.ok.above)
  ·exact n y
 have sub:∀ b∈t5 outer,b∈t5 X.stack:=fun b hb=>by
  obtain ⟨env,he,hf⟩:=List.mem_filterMap.mp hb
  exact II (ah _ he) hf
 show au _ X.A (leaving X.env (.ref ea)) _ _ _
 refine wpAny_leaves_onW (base:=B) (outer:=outer) (L:=X.env.locals) I.ok.frames rfl x.fly fun h2 fl up=>?_
 have st2:=fl.1
 refine ⟨ea,C,t,H',B,rfl,os.trans I.os,bare,⟨fl,x.cov,fun b o e n hb=>?_,fun b o e hb=>?_,⟨fun b o e n hb hx'=>?_,fun b o e n hb hx'=>?_,fun b o e n _=>?_,fun b o e _=>?_,fun b xs e=>x.un.tups b xs (I.base.tups b xs e),fun b o xs e=>x.un.frzs b o xs (I.base.frzs b o xs e),fun b ps e=>?_⟩,fun b u e=>?_⟩,hE _ _ q⟩
 ·exact x.old b o (I.base.keep b o e n hb (noex b)) (I.base.free b o e n (noex b)) (bl b o e hb)
 ·obtain ⟨o',k⟩:=I.base.there b o e (noex b)
  exact x.all b o' k (bl b o e hb)
 ·exact st2 b o (x.old b o (I.base.keep b o e n hb (noex b)) (I.base.free b o e n (noex b)) (bl b o e hb))
 ·obtain ⟨sl,k⟩:=I.base.slot b o e n hb (noex b)
  obtain ⟨sl1,k1⟩:=x.un.slot b _ k (I.base.free b o e n (noex b)) (sub b hb) (by simp)
  obtain ⟨_,o',k2,k3⟩:=kM x.fly.2.2.1 (sub b hb)
  rw [k1] at k2;cases k2
  obtain ⟨sl2,k4⟩:=up b _ k1 k3
  exact ⟨sl2,k4⟩
 ·obtain ⟨o',k⟩:=I.base.there b o e (noex b)
  exact x.un.free b o' k (I.base.free b o e n (noex b)) (by simp)
 ·obtain ⟨o',k⟩:=I.base.there b o e (noex b)
  by_cases hb:b∈t5 outer
  ·obtain ⟨_,o2,k1,_⟩:=kM fl.2.2.1 hb
   exact ⟨o2,k1⟩
  ·obtain ⟨o2,k2⟩:=x.all b o' k (bl b o e hb)
   exact ⟨o2,st2 b o2 k2⟩
 ·obtain ⟨m1,e1⟩:=I.base.tbls b ps e
  obtain ⟨m2,e2⟩:=x.un.tbls b _ e1
  exact ⟨m1++m2,by rw [e2,K7]⟩
 ·exact (x.hok b u e).stay (fun c o hc k=>by
   rcases hc with z | z
   ·rw [z] at k ⊢;exact x.kp st2 b u o e k
   ·exact x.kp st2 c _ o z k) (fun _ q=>q) fun _ _ q=>q
end
end
section
section
variable {P:aK}{w:bc}{K:a8}{mg:Str->Option aa}{base:bF}{N:List Str}{qual:Str}{scope:gE}{f:ak}{cd:aa}{A:aX}{outer:List Env}{s:af}{H:Hp}{E:XK}
theorem No {x:Str}{np cpos pos:Pos}{e0:aZ}{c6:List aZ}{C:ak}{bmB:List aa}{newId initId Bn:String}{ta:TA} (O:OwnCls x C bmB newId mg base) (FB:ExcBaseFacts Bn newId initId bmB)
  (hg:Gl (ke (qm P w) P w K mg base N qual scope f cd A outer s H E) x) (ha:PA (ke (qm P w) P w K mg base N qual scope f cd A outer s H E) (e0::c6) ta)
  (he:aO (e0::c6) (ke (qm P w) P w K mg base N qual scope f cd A outer s H E).env=(false,eE e0 (ke (qm P w) P w K mg base N qual scope f cd A outer s H E).env)::aO c6 (ke (qm P w) P w K mg base N qual scope f cd A outer s H E).env:=by rfl)
  (hdb:(x == ("__debug__" : Str))=false:=by decide) (hpl:(jn cpos (aO c6 (ke (qm P w) P w K mg base N qual scope f cd A outer s H E).env)).any (·.1)=false:=by rfl) :
  PS (ke (qm P w) P w K mg base N qual scope f cd A outer s H E) (.Raise (some (.Call (.Name x np) (e0::c6) [] cpos)) none pos) (fun D σ H1=>ta σ H1 fun vs H2=>vs.length<=sizeLine/\E (.ref C) none H2):=by
 intro pins s1 σ H1 D I h
 obtain ⟨tl,Nn,nm,q,bs,hdct,sn,sub,ab,col,dd,k0,k1,k2,k3,k5,mN,hC,hN,hni,T⟩:=O.obj
 refine wpAny_Raise_call_subT (C:=C) (nm:=nm) (q:=q) (N:=Nn) (bs:=bs) (bm:=tl) (hdct:=hdct) (sn:=sn) (sub:=sub) (ab:=ab) (col:=col) (dd:=dd) (k0:=k0) (k1:=k1) (k2:=k2) (k3:=k3) (k5:=k5)
  FB (mN:=mN) (T.hasType FB.hasBase) (I.ok.hd rfl) ?_ hni (Co I hg O.bound ⟨rfl,?_⟩ hdb)
 ·rw [he]
  show (false || _)=false
  rw [uU];exact hpl
 ·have hx:=ha cpos pins s1 σ H1 _ I h
  rw [he] at hx ⊢
  refine Gq (fN hx fun us s2 ⟨vs,H2,I2,r2,z,qE⟩=>?_)
  have kb:∀ b o,base.get? b=some o->s2.heap.get? b=some o:=I2.bk
  exact ⟨rfl,by show us.length<=sizeLine;rw [<- r2.length];exact z,kb _ _ hC,hN.keeps kb,T.keeps kb,fun h' ea hm=>CN I2 hm qE⟩
end
structure VW (base:bF) (C:ak) (bm:List aa):Prop where
 obj:∃ nm q N bs hdct sn sub ab col dd k0 k1 k2 k3 k5 newId,base.get? C=some (excClassObj nm q C N bs bm hdct sn sub ab col dd k0 k1 k2 k3 k5 newId)
 exc:bm.contains (.type "BaseException")=true
end
section
section
variable {prog:aK}{w:bc}{A:aX}{E:aa->af->Prop}{s:af}{K:a8}{x C:ak}{R:tQ->af->Prop}
end
section
variable {X:Cx}
end
end
section
section
variable {P:aK}{w:bc}{K:a8}{mg:Str->Option aa}{base:bF}
end
section
variable {X:Cx}{k:Nat}{f:ak}{fd:eP}{ps:List Str}{sp:Sp}{x:Str}{p pos:Pos}{e:aZ}{es:List aZ}{t:TA}
end
end
section
section
variable {X:Cx}
def Yg:Ch->String
 | .none=>"NoneType" | .bool _=>"bool" | .int _=>"int" | .str _=>"str" | .list _=>"list" | .tuple _=>"tuple" | .dict _=>"dict"
theorem GX            (I:bX X pins σ H s) (rx:dq x u) (r:GW X.K H x d) (e:qG X.K (.type (Yg d)) c=some b) (h:∀ tk,Q (.bool b) { s with toks:=tk }) :
  au (ax X.prog X.w) A (call (.builtin "isinstance") [u,c]) Q E s:=by
 cases r with
 | none=>exact rM I rx .non e h
 | bool y=>exact rM I rx (.bl y) e h
 | int i=>exact rM I rx (.int i) e h
 | str y=>exact rM I rx (.str y) e h
 | list hq _ =>
  cases rx
  obtain ⟨its,rv,⟨o,n,ho,c,_,dd⟩,_⟩:=I.list hq
  exact cH uQ I.kIn ⟨o,ho,c⟩ e (fun z=>nomatch z) h
 | tuple hq _ =>
  cases rx
  obtain ⟨its,rv,⟨o,ho,c,n,dd⟩,_⟩:=I.tuple hq
  exact cH Go I.kIn ⟨o,ho,c⟩ e (fun z=>nomatch z) h
theorem Np:jz X (.builtin "isinstance") (fun xs H Q=>∃ x d T b,xs=[x,.ty T]/\GW X.K H x d/\qG X.K (.type (Yg d)) (.type T)=some b/\Q (.bl b) H):=by
 intro pins s σ H xs us Q I r h
 obtain ⟨x,d,T,b,rfl,rp,e,q⟩:=h
 obtain ⟨u,v,rfl,ru,rv⟩:=S6 r
 obtain rfl:v=.type T:=rv
 exact GX I ru rp e fun tk=>⟨.bl b,H,I.tok tk,rfl,q⟩
end
end
end L2
section
namespace HT
open PySem PyProof.Rows
section
variable {prog:aK}{w:bc}{A:aX}{E:aa->af->Prop}{s:af}
theorem Em {t sl:ak}{items:Array aa}{vl vu:aa}{lo hi:Option Int}{Q:aa->af->Prop} (ht:IsTup s.heap t items) (hs:s.heap.IsSliceOf sl vl vu .none) (pl:v_ vl lo) (pu:v_ vu hi)
  (hw:j6 items.size 0 lo=0/\j6 items.size items.size hi=items.size) (h:Q (.ref t) s):au (ax prog w) A (qz (.ref t) (.ref sl)) Q E s:=by
 obtain ⟨os,hos,hcs,hds⟩:=id hs
 have hTs:s.TypeIs (.ref sl) "slice":=⟨os,hos,hcs⟩
 unfold qz
 try with_reducible refine dv ?_
 first | refine a7 (a9 ?_) | skip
 refine a7 (wpAny_sequenceKey ht.typeIs (by decide) ?_)
 refine a7 (cq (name:=gR "__getitem__") ht.typeIs fU
  (bJ fU ht.typeIs entry_tuple_getitem ?_ (args_tuple_getitem _ _)))
 show au _ _ (uS (.ref t) >>= _) _ _ s
 refine a7 (tupleItemsOf_ ht ?_)
 refine a7 (tT hTs ?_)
 rw [if_pos (by decide)]
 refine a7 (oE hs pl pu ?_)
 have hyes:((((j6 items.size 0 lo:Nat):Int) == 0 && (1:Int) == 1 && (j6 items.size items.size hi - j6 items.size 0 lo) == items.size)=true):=by
  rw [hw.1,hw.2];simp
 show au _ _ (if (((j6 items.size 0 lo:Nat):Int) == 0 && (1:Int) == 1 && (j6 items.size items.size hi - j6 items.size 0 lo) == items.size)=true then _ else _) _ _ s
 rw [if_pos hyes]
 refine a7 ?_
 unfold Builtin.Tuple.tupleIsExact
 refine a7 (tT ht.typeIs (a9 ?_))
 rw [if_pos (by decide)]
 refine a7 (df ?_)
 first
  | exact a9 (a9 ⟨_,rfl,h⟩)
  | exact a9 ⟨_,rfl,a9 h⟩
  | exact a7 (a9 (a9 ⟨_,rfl,a9 h⟩))
  | exact a7 (a9 (a9 ⟨_,rfl,h⟩))
end
end HT
namespace L2
open PySem PySem.Spec PyProof.Rows
section
variable {X:Cx}
inductive Nq (K:a8) (x:V) (lo:Option Int) (hi:Option Int) (H:Hp) (Q:VK):Prop
 | mk (a xs:_) (h0:x=.ref a) (h1:l7 K H a xs) (h2:(HT.j6 xs.length 0 lo=0/\HT.j6 xs.length xs.length hi=xs.length)) (h3:Q (.ref a) H):Nq K x lo hi H Q
def VX (K:a8):V->Option Int->Option Int->Hp->VK->Prop:=Nq K
theorem Q_:VJ X (VX X.K):=by
 intro pins s σ H x v vl vu lo hi sl Q I rx hs pl pu h
 obtain ⟨a,xs,rfl,hx,hw,q⟩:=h
 cases rx
 obtain ⟨its,r,ht,hz⟩:=I.tuple hx
 have hlen:its.toArray.size=xs.length:=by rw [aS];exact r.length.symm
 exact ⟨"tuple",_,PyProof.Rows.slot_tuple_getitem.lookup,ht.typeIs,HT.Em ht hs pl pu (by rw [hlen];exact hw) ⟨.ref a,H,I,rfl,q⟩⟩
theorem mC   (h:H p=none):dD H (upd H p o):=fun b u e=>by rw [bi (bZ e h)];exact e
theorem yR (hc:X.calm=true):jz X (.type "list") (fun xs H Q=>∃ a kvs,xs=[.ref a]/\H a=some (.dK kvs)/\∀ l,H l=none->Q (.ref l) (upd H l (.lst (kvs.map fun p=>kV p.1)))):=by
 intro pins s σ H xs us Q I r h
 obtain ⟨a,kvs,rfl,hH,q⟩:=h
 obtain ⟨u,rfl,rx⟩:=l8 r
 cases rx
 obtain ⟨hz,hs,vs,rk,hd⟩:=(show dw X.prog X.w H s.heap a (.dK kvs) from I.hok a _ hH)
 obtain ⟨ep,hat⟩:∃ ep,s.heap.DictAt (gm X.prog X.w) a vs ep:=by
  obtain ⟨o,es,ep,h1,h2,h3,h4⟩:=hd
  exact ⟨ep,o,es,h1,h2,h3,h4⟩
 have hlen:kvs.length=vs.length:=jj rk
 refine PySem.W.kdl_call (PySem.W.kdl_dict hs) (I.ok.hd hc) hat (by omega) fun h' tk acc' c' kp e hacc=>?_
 have rv:dC (kvs.map fun p=>kV p.1) acc'.toList:=by
  have key:∀ {kvs:List (fQ×V)}{vs:List (fQ×aa)} (acc:List aa),KV kvs vs->acc.length=vs.length->(∀ (j:Nat) (v:aa),acc[j]?=some v->∃ k x,vs[j]?=some (k,x)/\yG k v=true)->dC (kvs.map fun p=>kV p.1) acc:=by
   intro kvs
   induction kvs with
   | nil=>intro vs acc rk hl _;cases rk;cases acc with
    | nil=>exact .nil
    | cons _ _=>simp at hl
   | cons p kvs ih =>
    intro vs acc rk hl hv
    cases rk with
    | cons h1 t1 =>
     cases acc with
     | nil=>simp at hl
     | cons v acc =>
      refine .cons ?_ (ih acc t1 (by simpa using hl) fun j v hj=>by simpa using hv (j + 1) v (by simpa using hj))
      obtain ⟨k,x,e1,e2⟩:=hv 0 v rfl
      simp only [DT,DP] at e1
      subst e1
      have hk:p.1=k:=h1.1
      rcases fi e2 with ⟨i,t,e,rfl⟩ | ⟨i,t,e,rfl⟩
      ·show dq (kV p.1) _;rw [hk,e];exact ⟨t,rfl⟩
      ·show dq (kV p.1) _;rw [hk,e];exact ⟨t,rfl⟩
  exact key acc'.toList rk (by rw [aq];exact hacc.1) fun j v hj=>hacc.2 j v (by rw [<- aQ];exact hj)
 exact ⟨.ref s.heap.objs.size,_,I.laid (t':=tk) kp (ar _) (show dw X.prog X.w _ h' _ (.lst _) from ⟨by simpa using hz,acc'.toList,c',rv,by rw [Gy];exact e⟩),rfl,q _ (I.hok.fresh (ar _))⟩
def yS (x:Str):List V:=x.cps.toList.map fun c=>V.str ⟨#[c]⟩
theorem xP (hc:X.calm=true):jz X (.type "tuple") (fun xs H Q=>∃ x,xs=[.str x]/\x.cps.size<=sizeLine/\∀ l,H l=none->Q (.ref l) (upd H l (.tup (yS x)))):=by
 intro pins s σ H xs us Q I r h
 obtain ⟨x,rfl,hz,q⟩:=h
 obtain ⟨u,rfl,rx⟩:=l8 r
 obtain ⟨t,rfl⟩:=rx
 refine call_tuple_str (I.ok.hd hc) x t (fun h' tk acc kp hacc=>?_) hz
 have I1:bX X pins σ H { s with heap:=h',toks:=tk }:=I.kept (t':=tk) kp
 have rv:dC (yS x) acc.toList:=by
  have key:∀ (cs:List Nat) (acc:List aa),acc.length=cs.length->(∀ (j:Nat) (v:aa),acc[j]?=some v->∃ c u,cs[j]?=some c/\v=.str ⟨#[c]⟩ u)->dC (cs.map fun c=>V.str ⟨#[c]⟩) acc:=by
   intro cs
   induction cs with
   | nil=>intro acc hl _;cases acc with
    | nil=>exact .nil
    | cons _ _=>simp at hl
   | cons c cs ih =>
    intro acc hl hv
    cases acc with
    | nil=>simp at hl
    | cons v acc =>
     obtain ⟨c',u,e1,rfl⟩:=hv 0 v rfl
     simp only [DT,DP] at e1
     subst e1
     exact .cons ⟨u,rfl⟩ (ih acc (by simpa using hl) fun j v hj=>by simpa using hv (j + 1) v (by simpa using hj))
  refine key x.cps.toList acc.toList (by rw [aq,aq];exact hacc.1) fun j v hj=>?_
  obtain ⟨c,u,e1,e2⟩:=hacc.2 j v (by rw [<- aQ];exact hj)
  exact ⟨c,u,by rw [aQ];exact e1,e2⟩
 have I2:bX X pins σ (upd H h'.objs.size (.tup (yS x))) { s with heap:=h'.push { cls:=.type "tuple",data:=.seq acc },toks:=tk } :=
  I1.laid (t':=tk) (fun b o e=>ac _ e) (ar _) (show dw X.prog X.w _ _ _ (.tup (yS x)) from ⟨by unfold yS;simpa using hz,acc.toList,rv,by rw [Gy];exact xD _ _⟩)
 exact ⟨.ref h'.objs.size,_,I2,rfl,q _ (I1.hok.fresh (ar _))⟩
end
end L2
end
namespace L2
open PySem PySem.Spec PyProof.Rows
section
theorem CO (elt target iter:aZ) (ifs:List aZ) (scope:gE) (pos:Pos) (it acc:aa) (env:Env) :
  compTurn (.SetComp elt [⟨target,iter,ifs,0⟩] scope pos) 0 it acc env=(do
   xi iter.pos
   let r <- lB it
   match r with
   | none=>pure (.done .next)
   | some v =>
    hJ target it v
    qF target env v
    let mut ok:=true
    for c in ifs do
     if ok then ok <- vZ c env (eE c env)
    if ok then
     (do let v <- eE elt env;xi elt.pos;let _ <- call (.builtin "set.add") [acc,v])
    Q2 (.compLoop (.SetComp elt [⟨target,iter,ifs,0⟩] scope pos) 0 it acc env)):=by rfl
section
variable {prog:aK}{w:bc}{A:aX}{E:aa->af->Prop}{R:tQ->af->Prop}{s:af}
theorem qw {elt target iter ifs c6 scope pos it acc env}
  (h0:jE (ax prog w) A (.compLoop (.SetComp elt (⟨target,iter,ifs,0⟩::c6) scope pos) 0 it acc env) R s)
  (h:au (ax prog w) A (yA it) (fun it' s'=>jE (ax prog w) A (.compLoop (.SetComp elt (⟨target,iter,ifs,0⟩::c6) scope pos) 0 it' acc env) R s')
   (notedBy (ax prog w) A env fun x s'=>R (.error x) s') s) :
  jE (ax prog w) A (.compStart (.SetComp elt (⟨target,iter,ifs,0⟩::c6) scope pos) 0 it acc env) R s:=by
 refine DS ?_
 show au _ _ ((compStart (.SetComp elt (⟨target,iter,ifs,0⟩::c6) scope pos) 0 it acc env).onRaise (fun x=>do noteFrame x env;xi theWindowsPlace)) _ _ s
 refine wpAny_notedAt ?_
 unfold compStart
 show au _ _ (ask >>= _) _ _ s
 refine a7 (ik (wpAny_ite ?_))
 split
 ·first
   | exact a7 (a9 (a9 (uM rfl h0)))
   | exact a9 (uM rfl h0)
 ·first
   | exact a7 (df (a7 (j0 (a7 (bL h (fun it' s' hq=>a9 (uM rfl hq)) fun _ _ x=>x)))))
   | (refine a7 (df ?_);show au _ _ (xi iter.pos >>= _) _ _ s;exact a7 (j0 (a7 (bL h (fun it' s' hq=>a9 (uM rfl hq)) fun _ _ x=>x))))
theorem tj (h:Q (.ref s.heap.objs.size) { s with heap:=s.heap.push (fe w) }):au (ax prog w) A (newSet (.type "set")) Q E s:=by
 unfold newSet setsByText
 refine a7 (a7 (ik (a9 ?_)))
 dsimp only
 simp only [newObj]
 exact a7 (Q6 (a9 h))
theorem AC     (hS:lH w s.heap a ss) (hr:ss.length + 1<j4)
  (h:∀ h' tk',bN a s.heap h'->lH w h' a (if x∈ss then ss else ss++[x])->Q .none { s with heap:=h',toks:=tk' }) :
  au (ax prog w) A (call (.builtin "set.add") [.ref a,.str x tk]) Q E s:=by
 have hT:s.TypeIs (.ref a) "set":=by obtain ⟨es,ep,t,I,_⟩:=id hS;exact ⟨_,I.at_,rfl⟩
 refine bJ F.slot_set_add hT F.entry_set_add ?_ (F.args_set_add_2 _ _)
 unfold jG.«set.add» Qh
 simp only [List.isEmpty_nil,bind_assoc]
 unfold Qi
 refine a7 (a9 ?_)
 try dsimp only
 refine a7 (a9 ?_)
 try dsimp only
 refine a7 ?_
 refine Ee hS hr fun h' tk' sb hS'=>?_
 exact a9 ⟨_,rfl,h h' tk' sb hS'⟩
end
section
variable {prog:aK}{w:bc}{A:aX}{R:tQ->af->Prop}{s:af}
theorem Eo      (I:Nat->af->Prop)
  (turn:∀ n s,I n s->au (ax prog w) A (lB it) (fun r s₁=>match r with
   | none=>R (.ok .next) s₁
   | some v=>au (ax prog w) A (hJ target it v) (fun _ s₁'=>au (ax prog w) A (qF target env v) (fun _ s₂ =>
     au (ax prog w) A (forIn ifs true fun c r=>if r=true then do let ok <- vZ c env (eE c env);pure (fP ok) else pure (fP r)) (fun ok s₃ =>
      if ok=true then au (ax prog w) A (eE elt env) (fun x s₄ =>
       au (ax prog w) A (call (.builtin "set.add") [acc,x]) (fun _ s₅=>∃ m,m<n/\I m s₅) (fun _ _=>False) s₄) (fun _ _=>False) s₃
      else ∃ m,m<n/\I m s₃) (fun _ _=>False) s₂) (fun _ _=>False) s₁') (fun _ _=>False) s₁) (fun _ _=>False) s)
  (n:Nat) (h:I n s) :
  jE (ax prog w) A (.compLoop (.SetComp elt [⟨target,iter,ifs,0⟩] scope pos) 0 it acc env) R s:=by
 refine codeAny_loop rfl I (fun n s hI=>?_) n h
 show au _ A ((compTurn (.SetComp elt [⟨target,iter,ifs,0⟩] scope pos) 0 it acc env).onRaise (fun x=>do noteFrame x env;theTreesLotGoes x)) _ _ s
 refine wpAny_noted ?_
 rw [CO]
 have nf:∀ {α:Type}{t:Sem α}{Q:α->af->Prop}{E':aa->af->Prop}{s:af},au (ax prog w) A t Q (fun _ _=>False) s->au (ax prog w) A t Q E' s :=
  fun h=>bL h (fun _ _ q=>q) fun _ _ f=>f.elim
 refine a7 (j0 (a7 (nf (bL (turn n s hI) (fun r s₁ h₁=>?_) fun _ _ h'=>h'))))
 cases r with
 | none=>exact a9 h₁
 | some v =>
  refine a7 (nf (bL h₁ (fun _ s₁' h₁'=>?_) fun _ _ h'=>h'))
  refine a7 (nf (bL h₁' (fun _ s₂ h₂=>a7 (nf (bL h₂ (fun ok s₃ h₃=>?_) fun _ _ h'=>h'))) fun _ _ h'=>h'))
  cases ok with
  | false=>exact a9 ⟨rfl,h₃⟩
  | true =>
   exact a7 (a7 (nf (bL h₃ (fun x s₄ h₄=>a7 (j0 (a7 (nf (bL h₄ (fun _ s₅ h₅=>a9 (a9 ⟨rfl,h₅⟩)) fun _ _ h'=>h'))))) fun _ _ h'=>h')))
end
inductive YO (X:Cx) (pins:List (ak×Obj)) (N':List Str) (scope:gE) (cl:List (Str×ak)) (C:ak) (s2:af) (H2:Hp) (fp:List ak) (nt:Nat) (ix:List Nat) (σ:St) (tn:Nat->bF->Prop) (W:Nat->Nat->List Str->Hp->Prop) (n:Nat) (s':af):Prop
 | mk (i:Nat) (acc:List Str) (oD:Obj) (H':Hp) (I:bX (cR X N' scope cl C s2 H2 fp (X.pn++pins)) [(s2.heap.objs.size,oD)] (jL nt ix σ) H' s') (S:lH X.w s'.heap s2.heap.objs.size acc) (t:tn i s'.heap) (f:∀ b∈fp,H' b=none) (w:W i n acc H'):YO X pins N' scope cl C s2 H2 fp nt ix σ tn W n s'
theorem KR {X:Cx}{elt tg iter:aZ}{ifs:List aZ}{scope:gE}{pos:Pos}{g:TG}{tt:TT}{te:TE}{N':List Str}{nt:Nat}{ix:List Nat}
  (hc:X.calm=true) (S:nV X scope N' nt ix) (lo:Sk nt g)
  (hb:∀ cl C s₀ H₀ ex pn,PG (cR X N' scope cl C s₀ H₀ ex pn) tg g/\PZ (cR X N' scope cl C s₀ H₀ ex pn) ifs tt/\PE (cR X N' scope cl C s₀ H₀ ex pn) elt te)
  {cl:List (Str×ak)} (c1:∀ x c,cl.lookup x=some c->X.env.cells.lookup x=some c) (c2:∀ y∈scope.names,y.2=.free->∃ c,cl.lookup y.1=some c)
  {pins:List (ak×Obj)}{σ:St}{H2:Hp}{s2:af}{it:ak}{fp:List ak}{tn:Nat->bF->Prop}{J:It}{Q:VK}{E:aa->af->Prop}
  (I2:bX X pins σ H2 s2) (T:Ax X.prog X.w X.K tg J fp it tn) (st2:tn 0 s2.heap) (f2:∀ b∈fp,qO X pins H2 b)
  {W:Nat->Nat->List Str->Hp->Prop} (w0:∃ m,W 0 m [] H2)
  (turn:∀ i m acc H,W i m acc H->(J.stop i H/\∀ p,H p=none->Q (.ref p) (upd H p (lQ X.w p acc))) \/
   (J.go i H/\acc.length + 1<j4/\∀ x H',J.yld i H x H'->g x (jL nt ix σ) H' fun σ2 H2=>tt σ2 H2 fun b H3 =>
    if b=true then te σ2 H3 fun y H4=>∃ z m',y=.str z/\m'<m/\W (i + 1) m' (if z∈acc then acc else acc++[z]) H4 else ∃ m',m'<m/\W (i + 1) m' acc H3))
  {RR:aa->ak->tQ->af->Prop}
  (hRR:∀ D C m s' (acc:List Str) H',H' D=none->qO X pins (upd H' D (lQ X.w D acc)) C->Q (.ref D) (upd H' D (lQ X.w D acc))->s'.heap.Ns C m->(∀ h',bN C s'.heap h'->bX X pins σ (upd H' D (lQ X.w D acc)) { s' with heap:=h' })->RR (.ref D) C (.ok .next) s') :
  au (ax X.prog X.w) X.A (newSet (.type "set")) (fun acc s₃=>au (ax X.prog X.w) X.A (wa scope X.env.globals cl [] X.env.qual none .none (some X.env)) (fun cenv s₄ =>
   jE (ax X.prog X.w) X.A (.compStart (.SetComp elt [⟨tg,iter,ifs,0⟩] scope pos) 0 (.ref it) acc { cenv with scope:=relabel scope X.env }) (RR acc cenv.locals) s₄) E s₃) E s2:=by
 refine tj (IG fun h₁ hh₁=>?_)
 dsimp only at hh₁ ⊢
 generalize hG2:s2.heap.push (fe X.w)=G2 at hh₁ ⊢
 have hC:G2.objs.size=s2.heap.objs.size + 1:=by rw [<- hG2,cc]
 have hDC:s2.heap.objs.size≠G2.objs.size:=by rw [hC];exact aE (dS _)
 have hCle:s2.heap.objs.size<=G2.objs.size:=by rw [hC];exact k8 _
 have below:∀ b,b<s2.heap.objs.size->b≠G2.objs.size:=fun b hb=>by rw [hC];exact aE (dI hb)
 have kp:∀ b o,G2.get? b=some o->h₁.get? b=some o:=fun b o e=>by rw [hh₁];exact uK _ _ b o (ac _ e)
 have hns₁:h₁.Ns G2.objs.size (fun _=>none):=by rw [hh₁];exact (Heap.Ns.new G2 (.type "dict")).keeps (uK _ _)
 have ok₁:CellsOk h₁ (G2.objs.size + 1) (br (G2.objs.size + 1) scope.names []):=by rw [hh₁];exact Bl G2 scope.names
 have cne:∀ x c,(br (G2.objs.size + 1) scope.names cl).lookup x=some c->X.env.cells.lookup x=some c\/s2.heap.objs.size<c:=fun x c e=>by
  rcases l9 e with a | ⟨_,a⟩
  ·exact .inr (aC (kj hCle) (ok₁.empty x c a).2)
  ·exact .inl (c1 x c a)
 have old:∀ b o,s2.heap.get? b=some o->h₁.get? b=some o:=fun b o e=>kp b o (hG2 ▸ ac _ e)
 have hacc:h₁.get? s2.heap.objs.size=some (fe X.w):=kp _ _ (hG2 ▸ aw _ rfl)
 have ff:∀ b∈fp,b<s2.heap.objs.size:=fun b hb=>by
  obtain ⟨o,e,_⟩:=T.obj _ _ st2 b hb
  exact ap e
 have I3:bX (cR X N' scope (br (G2.objs.size + 1) scope.names cl) G2.objs.size s2 H2 fp (X.pn++pins)) [] (jL nt ix σ) H2 { s2 with heap:=h₁,toks:=s2.toks }:=Ea S I2 c1 c2 f2 ff hCle hns₁ old ok₁
 obtain ⟨pg,pt,pe⟩:=hb (br (G2.objs.size + 1) scope.names cl) G2.objs.size s2 H2 fp (X.pn++pins)
 have hDfs:s2.heap.objs.size∉t5 X.stack:=fun z=>by
  rcases List.mem_cons.mp (I2.stkSub _ z) with e | e
  ·exact absurd I2.lt (by rw [<- e];exact bW _)
  ·exact I2.nofs (ar _) e
 have st1:tn 0 h₁:=T.keep _ _ _ st2 fun b _ o e=>old b o e
 have hDf:s2.heap.objs.size∉fp:=fun z=>absurd (ff _ z) (bW _)
 have stat:∀ {H':Hp}{pl:List (ak×Obj)},(∀ p∈pl,p.1∉fp)->(∀ b∈fp,H' b=none)->∀ b∈fp,qO (cR X N' scope (br (G2.objs.size + 1) scope.names cl) G2.objs.size s2 H2 fp (X.pn++pins)) pl H' b:=fun hpl hn b hb=>by
  obtain ⟨f0,f1,f2',f3,f4,f5⟩:=f2 b hb
  refine ⟨hn b hb,below b (ff b hb),fun z=>?_,.inl hb,fun x c e=>(cne x c e).elim (f4 x c) fun q z=>xF q (by rw [z];exact ff b hb),fun p hp z=>?_⟩
  ·rcases List.mem_cons.mp (I2.stkSub _ z) with e | e
   ·exact f1 e
   ·exact f2' e
  ·rcases List.mem_append.mp hp with q | q
   ·exact f5 p q z
   ·exact hpl p q (z ▸ hb)
 obtain ⟨m0,w0⟩:=w0
 have loop:jE (ax X.prog X.w) X.A (.compLoop (.SetComp elt [⟨tg,iter,ifs,0⟩] scope pos) 0 (.ref it) (.ref s2.heap.objs.size) (compEnvC scope (br (G2.objs.size + 1) scope.names cl) G2.objs.size X.env))
    (RR (.ref s2.heap.objs.size) G2.objs.size) { s2 with heap:=h₁,toks:=s2.toks }:=by
  refine Eo (YO X pins N' scope (br (G2.objs.size + 1) scope.names cl) G2.objs.size s2 H2 fp nt ix σ tn W) ?_ m0
   ⟨0,[],_,H2,I3.pin1 hacc (I2.hok.fresh (ar _)) hDC hDfs (fun v z=>nomatch z),Bo X.w hacc,st1,fun b hb=>(f2 b hb).1,w0⟩
  rintro n s3 ⟨i,acc,oD,H3,J3,hS3,st3,fr3,w3⟩
  have plD:∀ p∈[(s2.heap.objs.size,oD)],p.1∉fp:=fun p hp=>by
   have:p=(s2.heap.objs.size,oD):=by simpa using hp
   rw [this];exact hDf
  have stS:∀ {s8:af},s8.heap.get? s2.heap.objs.size=some oD->lH X.w s8.heap s2.heap.objs.size acc:=fun {s8} e=>hS3.keep fun o eo=>by
   have q:=(J3.pin (s2.heap.objs.size,oD) (aH _ (List.mem_singleton.mpr rfl))).1
   rw [q] at eo;cases eo;exact e
  rcases turn i n acc H3 w3 with ⟨stop,qn⟩ | ⟨go,hlt,step⟩
  ·refine fN (T.done (cR X N' scope (br (G2.objs.size + 1) scope.names cl) G2.objs.size s2 H2 fp (X.pn++pins)) rfl rfl rfl hc i _ s3 _ H3 _ J3 (stat plD fr3) st3 stop) fun r s4 h_0=>?_
   obtain ⟨hr,I4⟩:=h_0
   subst hr
   obtain ⟨pD,pN,_⟩:=I4.pin (s2.heap.objs.size,_) (aH _ (List.mem_singleton.mpr rfl))
   obtain ⟨mm,hn,_⟩:=I4.loc
   have hCn:H3 G2.objs.size=none:=I4.free
   refine hRR _ _ mm s4 acc H3 pN (I2.fpOk hCle (by rw [bi (cV hDC)];exact hCn)) (qn _ pN) hn fun h' sb=>?_
   have hu:Un (t5 X.stack) fp H2 (upd H3 s2.heap.objs.size (lQ X.w s2.heap.objs.size acc)) s2.heap h':=Un.grow I4.base sb hCle (ar _) pN
   refine I2.call' (s':={ s4 with heap:=h' }) (ch:=fp) I4.os hu ?_ I4.bare fun b hb=>?_
   ·exact wu (Eb I4.hok hCn sb) pN (CL ((stS pD).keep fun o e=>(sb.2 _ hDC).trans e))
   ·obtain ⟨_,f1,_,f3,f4,f5⟩:=f2 b hb
    exact ⟨f3,f1,f4,f5⟩
  ·refine fN (T.item (cR X N' scope (br (G2.objs.size + 1) scope.names cl) G2.objs.size s2 H2 fp (X.pn++pins)) rfl rfl rfl hc i _ s3 _ H3 _ J3 (stat plD fr3) st3 go) fun r s4 h_1=>?_
   obtain ⟨u,hr,h4⟩:=h_1
   subst hr
   refine fN h4 fun _ s5 h_2=>?_
   obtain ⟨x,H5,I5,r5,y5,st5,fr5⟩:=h_2
   have I5':=I5.pinned (stat plD fr5) (T.obj _ _ st5)
   refine fN (pg _ s5 _ H5 x u _ I5' r5 (lo _ _ _ _ (step x H5 y5))) fun _ s6 h_3=>?_
   obtain ⟨σ6,H6,I6,q6,l6,k6⟩:=h_3
   have hw:∀ (j:Nat) v,(jL nt ix σ)[j]?=some (some v)->σ6[j]?=some (some v):=fun j v e=>by
    by_cases hj:nt<=j
    ·rw [k6 j hj];exact e
    ·unfold jL at e
     rw [bf (by simpa using hj),ck,if_pos (by omega)] at e
     cases e
   refine fN (pt _ s6 σ6 H6 _ I6 q6) fun b s7 h_4=>?_
   obtain ⟨H7,I7,q7⟩:=h_4
   have fpk:∀ {s8:af}{σ8:St}{H8:Hp},bX (cR X N' scope (br (G2.objs.size + 1) scope.names cl) G2.objs.size s2 H2 fp (X.pn++pins)) ([(s2.heap.objs.size,oD)]++wp fp s5.heap) σ8 H8 s8 ->
     tn (i + 1) s8.heap/\∀ b∈fp,H8 b=none:=fun {s8 σ8 H8} I8=>by
    refine ⟨T.keep _ _ _ st5 fun b hb o e=>(I8.pin (b,o) (aH _ (aH _ (ko hb e)))).1,fun b hb=>?_⟩
    obtain ⟨o,e,d⟩:=T.obj _ _ st5 b hb
    exact (I8.pin (b,o) (aH _ (aH _ (ko hb e)))).2.1
   cases b with
   | false =>
    simp only [bw,if_false] at q7 ⊢
    obtain ⟨m',hm,w7⟩:=q7
    obtain ⟨t7,f7⟩:=fpk I7
    obtain ⟨pD,_⟩:=I7.pin (s2.heap.objs.size,oD) (aH _ (bj _ (List.mem_singleton.mpr rfl)))
    exact ⟨m',hm,i + 1,acc,oD,H7,(I7.weak l6.symm hw).unpinned,stS pD,t7,f7,w7⟩
   | true =>
    simp only [if_true] at q7 ⊢
    refine fN (pe _ s7 σ6 H7 _ I7 q7) fun u8 s8 h_5=>?_
    obtain ⟨y,H8,I8,r8,z,m',hy,hm,w8⟩:=h_5
    obtain ⟨t8,f8⟩:=fpk I8
    obtain ⟨pD,pN,_⟩:=I8.pin (s2.heap.objs.size,_) (aH _ (bj _ (List.mem_singleton.mpr rfl)))
    subst hy
    obtain ⟨tz,rfl⟩:=r8
    refine AC (stS pD) hlt fun h9 tk9 sb9 hS9=>?_
    obtain ⟨es9,ep9,t9,is9,pm9⟩:=id hS9
    have e9':=is9.at_
    refine ⟨m',hm,i + 1,_,{ cls:=.type "set",dict:=none,data:=.set es9 ep9 t9 },H8,?_,hS9,T.keep _ _ _ t8 fun b hb o e=>sb9.extBut b o (fun z=>hDf (z ▸ hb)) e,f8,w8⟩
    have I8':bX (cR X N' scope (br (G2.objs.size + 1) scope.names cl) G2.objs.size s2 H2 fp (X.pn++pins)) [] (jL nt ix σ) H8 s8:=(I8.weak l6.symm hw).pins_of fun p hp=>absurd hp (by simp)
    have I9:bX (cR X N' scope (br (G2.objs.size + 1) scope.names cl) G2.objs.size s2 H2 fp (X.pn++pins)) [] (jL nt ix σ) H8 { s8 with heap:=h9,toks:=tk9 } :=
     I8'.turned (it:=s2.heap.objs.size) (fun b o hb e=>sb9.extBut b o hb e) pN hDC (.inr (ar _)) (fun x c e z=>by
      rcases cne x c e with e | e
      ·obtain ⟨v,q⟩:=I2.cell x c e
       exact absurd q.lt (by rw [z];exact bW _)
      ·exact absurd e (by rw [z];exact bW _)) fun p hp z=>by
      have hp:p∈X.pn++pins:=(List.mem_append.mp hp).elim id fun z=>absurd z (by simp)
      exact absurd (ap (I2.pin p hp).1) (by rw [z];exact bW _)
    exact I9.pin1 e9' pN hDC hDfs (fun v z=>nomatch z)
 exact qw loop (T.self _ 0 _ _ _ st1 loop)
inductive So (w:bc) (nt:Nat) (ix:List Nat) (g:TG) (tt:TT) (te:TE) (σ:St) (Q:VK) (J:It) (H1:Hp):Prop
 | mk (W:Nat->Nat->List Str->Hp->Prop) (w0:∃ m,W 0 m [] H1) (turn:∀ i m acc H,W i m acc H ->
 (J.stop i H/\∀ p,H p=none->Q (.ref p) (upd H p (lQ w p acc))) \/
 (J.go i H/\acc.length + 1<j4/\∀ x H',J.yld i H x H'->g x (jL nt ix σ) H' fun σ2 H2=>tt σ2 H2 fun b H3 =>
  if b=true then te σ2 H3 fun y H4=>∃ z m',y=.str z/\m'<m/\W (i + 1) m' (if z∈acc then acc else acc++[z]) H4 else ∃ m',m'<m/\W (i + 1) m' acc H3)):So w nt ix g tt te σ Q J H1
def Nr (w:bc) (nt:Nat) (ix:List Nat) (wi:TI) (g:TG) (tt:TT) (te:TE):TE:=fun σ H Q=>wi σ H (So w nt ix g tt te σ Q)
theorem GY {X:Cx}{elt tg iter:aZ}{ifs:List aZ}{scope:gE}{pos:Pos}{wi:TI}{g:TG}{tt:TT}{te:TE}{N':List Str}{nt:Nat}{ix:List Nat}
  (hc:X.calm=true) (S:nV X scope N' nt ix) (lo:Sk nt g) (hi:PI X tg iter wi)
  (hb:∀ cl C s₀ H₀ ex pn,PG (cR X N' scope cl C s₀ H₀ ex pn) tg g/\PZ (cR X N' scope cl C s₀ H₀ ex pn) ifs tt/\PE (cR X N' scope cl C s₀ H₀ ex pn) elt te)
  (hs:∀ x,eu iter X.env x=pure x:=by intro _;rfl):PE X (.SetComp elt [⟨tg,iter,ifs,0⟩] scope pos) (Nr X.w nt ix wi g tt te):=by
 intro pins s σ H Q I h
 obtain ⟨cl,hcl,c1,c2⟩:=t_ (scope:=scope) (env:=X.env) fun y hy hf=>I.ok.has y.1 (S.free y hy hf)
 show au _ _ (comprehension (.SetComp elt [⟨tg,iter,ifs,0⟩] scope pos) scope X.env (firstIterPos [⟨tg,iter,ifs,0⟩] pos) (newSet (.type "set")) (firstAsync [⟨tg,iter,ifs,0⟩]) (firstIter [⟨tg,iter,ifs,0⟩] X.env)) _ _ _
 refine qI (use:=none) rfl hs hcl S.kind S.loc (fN (hi pins s σ H _ I h) fun v s1 h1=>fN h1 fun itv s2 h2=>?_)
 obtain ⟨it,fp,tn,J,H2,e,I2,T,st2,f2,W,w0,turn⟩:=h2
 subst e
 refine KR (RR:=fun acc C=>compPost (ax X.prog X.w) X.A X.xe none (EP X pins σ Q) acc C) hc S lo hb c1 c2 I2 T st2 f2 w0 turn ?_
 intro D C m s' acc H' hD _ q hn hI
 exact ⟨m,hn,fun h' sb=>⟨.ref D,_,hI h' sb,rfl,q⟩⟩
section
variable {X:Cx}
theorem AD:jz X (.builtin "len") (fun xs H Q=>∃ p ss,xs=[.ref p]/\H p=some (lQ X.w p ss)/\Q (.int ss.length) H):=by
 intro pins s σ H xs us Q I r h
 obtain ⟨p,ss,rfl,hq,q⟩:=h
 obtain ⟨u,rfl,rx⟩:=l8 r
 cases rx
 obtain ⟨es,ep,t,is,pm⟩:=(show dw X.prog X.w H s.heap p (lQ X.w p ss) from I.hok p _ hq).1
 have hlen:es.size=ss.length:=by rw [<- pm.length_eq,ao,aq]
 have hsm:(es.size:Int)<2 ^ 63:=by
  have h1:=is.few
  have h2:j4<=2 ^ 62:=by decide
  omega
 refine nP kind_len plain_len entry_len (args_len1 _) (wpAny_len_body_set is.at_ ⟨rfl,rfl,rfl⟩ rfl is.fits hsm ?_)
 refine ⟨.int _,H,I.tok _,⟨_,rfl⟩,?_⟩
 rw [hlen];exact q
end
end
end L2
section
namespace L2
open PySem PySem.Spec PyProof.Rows
section
variable {K:a8}{nt:Nat}{ix:List Nat}{te:TE}{σ:St}{H1:Hp}{Q:VK}{a:ak}{xs:List V}{i:Nat}
end
end L2
namespace L2
open PySem PySem.Spec PyProof.Rows
def IJ (so:gE) (N:List Str) (scope:gE) (N':List Str) (nt:Nat) (ix:List Nat):Bool :=
 (scope.kind == .function) && (scope.names.all fun y=>y.2 != .cell || scope.names.lookup y.1 == some .cell) && (scope.names.all fun y=>y.2 != .local || scope.names.lookup y.1 == some .local) &&
 (scope.names.all fun y=>y.2 != .free || so.names.lookup y.1 == some .cell || so.names.lookup y.1 == some .free) &&
 ((bH ix.length).all fun k=>match ix[k]? with
  | none=>false
  | some i=>match N[i]? with
   | none=>false
   | some x=>N'[nt + k]? == some x && scope.names.lookup x == some .free) && (N'.length == nt + ix.length)
theorem cg       (h:IJ so N scope N' nt ix=true) (h1:X.env.scope=so:=by rfl) (h2:X.N=N:=by rfl):nV X scope N' nt ix:=by
 unfold IJ at h
 simp only [aR,cu] at h
 obtain ⟨⟨⟨⟨⟨a,b⟩,c⟩,d⟩,e⟩,l⟩:=h
 refine ⟨by simpa using a,fun y hy z=>?_,fun y hy z=>?_,fun y hy z=>?_,fun k i hk=>?_,by simpa using l⟩
 ·have:=b y hy;simpa [z] using this
 ·have:=c y hy;simpa [z] using this
 ·have:=d y hy
  rw [h1]
  simpa [z] using this
 ·have hl:k<ix.length:=(List.getElem?_eq_some_iff.mp hk).1
  have:=e k (List.mem_range.mpr hl)
  rw [hk] at this
  rw [h2]
  simp only at this
  split at this
  ·cases this
  ·rename_i x hx
   simp only [aR] at this
   exact ⟨x,hx,by simpa using this.1,by simpa using this.2⟩
end L2
end
namespace L2
open PySem PySem.Spec PyProof.Rows
section
section
variable {K:a8}{nt:Nat}{ix:List Nat}{te:TE}{σ:St}{H1:Hp}{Q:VK}{a b:ak}{xs ys:List V}{i k:Nat}
end
end
end L2
namespace J
open PySem L2
section
abbrev D:=Ch
inductive R (α:Type) where
 | ok (a:α)
 | ex (c:Str) (n:Option D)
 | no
def R.bind {α β:Type}:R α->(α->R β)->R β
 | .ok a,f=>f a
 | .ex c n,_=>.ex c n
 | .no,_=>.no
@[simp] theorem bind_ok {α β:Type} (a:α) (f:α->R β):(R.ok a).bind f=f a:=rfl
@[simp] theorem bind_ex {α β:Type} (c:Str) (n:Option D) (f:α->R β):(R.ex c n).bind f=.ex c n:=rfl
@[simp] theorem bind_no {α β:Type} (f:α->R β):(R.no:R α).bind f=.no:=rfl
def kD:fQ->D
 | .inl i=>.int i
 | .inr x=>.str x
def tD (ks:List fQ):D:=.tuple (ks.map kD)
mutual
inductive RD (K:a8) (H:Hp):V->D->Prop
 | none:RD K H .non .none
 | bool (b:Bool):RD K H (.bl b) (.bool b)
 | int (i:Int):RD K H (.int i) (.int i)
 | str (x:Str):RD K H (.str x) (.str x)
 | list {a:ak}{xs:List V}{ds:List D}:ph K H a xs->RDs K H xs ds->RD K H (.ref a) (.list ds)
 | tuple {a:ak}{xs:List V}{ds:List D}:H a=some (.tup xs)->RDs K H xs ds->RD K H (.ref a) (.tuple ds)
 | dictK {a:ak}{kvs:List (fQ×V)}{ds:List (D×D)}:H a=some (.dK kvs)->RDk K H kvs ds->RD K H (.ref a) (.dict ds)
 | dictT {a:ak}{kvs:List (List fQ×V)}{ds:List (D×D)}:H a=some (.dT kvs)->kvs≠[]->RDt K H kvs ds->RD K H (.ref a) (.dict ds)
 | dictF {a:ak}{o:Obj}{kvs:List (List fQ×V)}{ds:List (D×D)}:H a=some (.frz o (.dT kvs))->kvs≠[]->RDt K H kvs ds->RD K H (.ref a) (.dict ((.none,.none)::ds))
inductive RDs (K:a8) (H:Hp):List V->List D->Prop
 | nil:RDs K H [] []
 | cons {x:V}{xs:List V}{d:D}{ds:List D}:RD K H x d->RDs K H xs ds->RDs K H (x::xs) (d::ds)
inductive RDk (K:a8) (H:Hp):List (fQ×V)->List (D×D)->Prop
 | nil:RDk K H [] []
 | cons {k:fQ}{x:V}{xs:List (fQ×V)}{d:D}{ds:List (D×D)}:RD K H x d->RDk K H xs ds->RDk K H ((k,x)::xs) ((kD k,d)::ds)
inductive RDt (K:a8) (H:Hp):List (List fQ×V)->List (D×D)->Prop
 | nil:RDt K H [] []
 | cons {k:List fQ}{x:V}{xs:List (List fQ×V)}{d:D}{ds:List (D×D)}:RD K H x d->RDt K H xs ds->RDt K H ((k,x)::xs) ((tD k,d)::ds)
end
section
variable {K:a8}{H H':Hp}
theorem RD.same (e:dD H H')  (h:RD K H v d):RD K H' v d:=RD.rec (motive_1:=fun v d _=>RD K H' v d) (motive_2:=fun v d _=>RDs K H' v d) (motive_3:=fun v d _=>RDk K H' v d) (motive_4:=fun v d _=>RDt K H' v d) .none .bool .int .str (fun h _ r=>.list (e.seq h) r) (fun h _ r=>.tuple (e _ _ h) r) (fun h _ r=>.dictK (e _ _ h) r) (fun h n _ r=>.dictT (e _ _ h) n r) (fun h n _ r=>.dictF (e _ _ h) n r) .nil (fun _ _ a b=>.cons a b) .nil (fun _ _ a b=>.cons a b) .nil (fun _ _ a b=>.cons a b) h
theorem RDs.same (e:dD H H')  (h:RDs K H v d):RDs K H' v d:=RDs.rec (motive_1:=fun v d _=>RD K H' v d) (motive_2:=fun v d _=>RDs K H' v d) (motive_3:=fun v d _=>RDk K H' v d) (motive_4:=fun v d _=>RDt K H' v d) .none .bool .int .str (fun h _ r=>.list (e.seq h) r) (fun h _ r=>.tuple (e _ _ h) r) (fun h _ r=>.dictK (e _ _ h) r) (fun h n _ r=>.dictT (e _ _ h) n r) (fun h n _ r=>.dictF (e _ _ h) n r) .nil (fun _ _ a b=>.cons a b) .nil (fun _ _ a b=>.cons a b) .nil (fun _ _ a b=>.cons a b) h
theorem RDk.same (e:dD H H')  (h:RDk K H v d):RDk K H' v d:=RDk.rec (motive_1:=fun v d _=>RD K H' v d) (motive_2:=fun v d _=>RDs K H' v d) (motive_3:=fun v d _=>RDk K H' v d) (motive_4:=fun v d _=>RDt K H' v d) .none .bool .int .str (fun h _ r=>.list (e.seq h) r) (fun h _ r=>.tuple (e _ _ h) r) (fun h _ r=>.dictK (e _ _ h) r) (fun h n _ r=>.dictT (e _ _ h) n r) (fun h n _ r=>.dictF (e _ _ h) n r) .nil (fun _ _ a b=>.cons a b) .nil (fun _ _ a b=>.cons a b) .nil (fun _ _ a b=>.cons a b) h
theorem RDt.same (e:dD H H')  (h:RDt K H v d):RDt K H' v d:=RDt.rec (motive_1:=fun v d _=>RD K H' v d) (motive_2:=fun v d _=>RDs K H' v d) (motive_3:=fun v d _=>RDk K H' v d) (motive_4:=fun v d _=>RDt K H' v d) .none .bool .int .str (fun h _ r=>.list (e.seq h) r) (fun h _ r=>.tuple (e _ _ h) r) (fun h _ r=>.dictK (e _ _ h) r) (fun h n _ r=>.dictT (e _ _ h) n r) (fun h n _ r=>.dictF (e _ _ h) n r) .nil (fun _ _ a b=>.cons a b) .nil (fun _ _ a b=>.cons a b) .nil (fun _ _ a b=>.cons a b) h
mutual
def qT:D->Bool
 | .dict _=>false
 | .list xs=>noDs xs
 | .tuple xs=>noDs xs
 | _=>true
def noDs:List D->Bool
 | []=>true
 | x::r=>qT x && noDs r
end
theorem VY (h:(a && b)=true):a=true:=(Bool.and_eq_true_iff.mp h).1
theorem VZ (h:(a && b)=true):b=true:=(Bool.and_eq_true_iff.mp h).2
theorem RD.rep  (h:RD K H v d):qT d=true->GW K H v d:=RD.rec (motive_1:=fun v d _=>qT d=true->GW K H v d) (motive_2:=fun v d _=>noDs d=true->Reps K H v d) (motive_3:=fun _ _ _=>True) (motive_4:=fun _ _ _=>True) (fun _=>.none) (fun b _=>.bool b) (fun i _=>.int i) (fun x _=>.str x) (fun h _ r e=>.list h (r e)) (fun h _ r e=>.tuple (.of h) (r e)) (fun _ _ _ e=>ye e) (fun _ _ _ _ e=>ye e) (fun _ _ _ _ e=>ye e) (fun _=>.nil) (fun _ _ a b e=>.cons (a (VY e)) (b (VZ e))) trivial (fun _ _ _ _=>trivial) trivial (fun _ _ _ _=>trivial) h
theorem RDs.length:∀ {ds:List D},RDs K H vs ds->vs.length=ds.length:=by
 induction vs with
 | nil=>intro ds h;cases h;rfl
 | cons x r ih=>intro ds h;cases h with | cons a b=>exact congrArg (· + 1) (ih b)
theorem RDs.get:∀ {ds:List D}{i:Nat}{v:V},RDs K H vs ds->vs[i]?=some v->∃ d,ds[i]?=some d/\RD K H v d:=by
 induction vs with
 | nil=>intro ds i v _ e;cases e
 | cons x r ih =>
  intro ds i v h e
  cases h with
  | cons a b =>
   cases i with
   | zero=>cases e;exact ⟨_,rfl,a⟩
   | succ i=>have q:=ih (i:=i) b e;exact q
theorem RDs.get':∀ {ds:List D}{i:Nat}{d:D},RDs K H vs ds->ds[i]?=some d->∃ v,vs[i]?=some v/\RD K H v d:=by
 induction vs with
 | nil=>intro ds i v h e;cases h;cases e
 | cons x r ih =>
  intro ds i v h e
  cases h with
  | cons a b =>
   cases i with
   | zero=>cases e;exact ⟨_,rfl,a⟩
   | succ i=>have q:=ih (i:=i) b e;exact q
theorem RDs.append  : ∀ {ds:List D},RDs K H vs ds->RDs K H ws es->RDs K H (vs++ws) (ds++es):=by
 induction vs with
 | nil=>intro ds h s;cases h;exact s
 | cons x r ih=>intro ds h s;cases h with | cons a b=>exact .cons a (ih b s)
theorem RDs.drop:∀ {ds:List D} (n:Nat),RDs K H vs ds->RDs K H (vs.drop n) (ds.drop n):=by
 induction vs with
 | nil=>intro ds n h;cases h;cases n<;>exact .nil
 | cons x r ih =>
  intro ds n h
  cases n with
  | zero=>exact h
  | succ n=>cases h with | cons a b=>exact ih n b
theorem RDs.take:∀ {ds:List D} (n:Nat),RDs K H vs ds->RDs K H (vs.take n) (ds.take n):=by
 induction vs with
 | nil=>intro ds n h;cases h;cases n<;>exact .nil
 | cons x r ih =>
  intro ds n h
  cases n with
  | zero=>exact .nil
  | succ n=>cases h with | cons a b=>exact .cons a (ih n b)
theorem vh:∀ (ss:List Str),RDs K H (ss.map V.str) (ss.map aU)
 | []=>.nil
 | x::r=>.cons (.str x) (vh r)
theorem RD.str_inv  (h:RD K H v (.str x)):v=.str x:=by cases h;rfl
theorem RD.bool_inv  (h:RD K H v (.bool x)):v=.bl x:=by cases h;rfl
theorem RD.int_inv  (h:RD K H v (.int x)):v=.int x:=by cases h;rfl
theorem yi {α:Type}{c:α->D}{k:α->V} (hc:∀ {v x},RD K H v (c x)->v=k x) {ss:List α}:∀ {vs:List V},RDs K H vs (ss.map c)->vs=ss.map k:=by
 induction ss with
 | nil=>intro vs h;cases h;rfl
 | cons x r ih=>intro vs h;cases h with | cons a b=>rw [hc a,ih b];rfl
theorem lR {ss:List Str}{vs:List V}:RDs K H vs (ss.map aU)->vs=ss.map V.str:=yi RD.str_inv
theorem AE {ss:List Bool}{vs:List V}:RDs K H vs (ss.map c9)->vs=ss.map V.bl:=yi RD.bool_inv
theorem CQ {ss:List Int}{vs:List V}:RDs K H vs (ss.map cD)->vs=ss.map V.int:=yi RD.int_inv
end
def nt:HO->Bool
 | .tup _=>false
 | _=>true
structure cK (H Hs H' Hs':Hp):Prop where
 all:dD H H'
 sh:dD Hs Hs'
 sub:dD Hs' H'
 out:∀ a o,H a=some o->nt o=true->Hs a=none->Hs' a=none
theorem cK.refl (h:dD Hs H):cK H Hs H Hs:=⟨.refl _,.refl _,h,fun _ _ _ _ e=>e⟩
theorem cK.trans (a:cK H Hs H1 Hs1) (b:cK H1 Hs1 H2 Hs2):cK H Hs H2 Hs2 :=
 ⟨a.all.trans b.all,a.sh.trans b.sh,b.sub,fun c o e t n=>b.out c o (a.all c o e) t (a.out c o e t n)⟩
theorem cK.new   (h:dD Hs H) (n:H p=none):cK H Hs (upd H p o) (upd Hs p o):=by
 have n':Hs p=none:=h.free n
 refine ⟨mC n,mC n',fun b u e=>?_,fun a u e t z=>?_⟩
 ·by_cases hb:b=p
  ·subst hb;rw [bg] at e ⊢;exact e
  ·rw [bi hb] at e ⊢;exact h b u e
 ·rw [bi (bZ e n)];exact z
theorem cK.mine   (h:dD Hs H) (n:H p=none):cK H Hs (upd H p o) Hs:=by
 refine ⟨mC n,.refl _,fun b u e=>?_,fun a u e t z=>z⟩
 have e':=h b u e
 rw [bi (bZ e' n)];exact e'
inductive n5 (K:a8) (Hs:Hp):HO->D->Prop
 | lst {vs:List V}{ds:List D}:RDs K Hs vs ds->n5 K Hs (.lst vs) (.list ds)
 | dK {kvs:List (fQ×V)}{ds:List (D×D)}:RDk K Hs kvs ds->n5 K Hs (.dK kvs) (.dict ds)
 | dT {kvs:List (List fQ×V)}{ds:List (D×D)}:kvs≠[]->RDt K Hs kvs ds->n5 K Hs (.dT kvs) (.dict ds)
 | dF {o:Obj}{kvs:List (List fQ×V)}{ds:List (D×D)}:kvs≠[]->RDt K Hs kvs ds->n5 K Hs (.frz o (.dT kvs)) (.dict ((.none,.none)::ds))
theorem n5.same    (e:dD Hs Hs') (h:n5 K Hs o d):n5 K Hs' o d:=by
 cases h with
 | lst r=>exact .lst (r.same e)
 | dK r=>exact .dK (r.same e)
 | dT n r=>exact .dT n (r.same e)
 | dF n r=>exact .dF n (r.same e)
theorem n5.nt    (h:n5 K Hs o d):J.nt o=true:=by cases h<;>rfl
theorem n5.share     (n:Hs a=none) (h:n5 K Hs o d):RD K (upd Hs a o) (.ref a) d:=by
 have e:dD Hs (upd Hs a o):=mC n
 cases h with
 | lst r=>exact .list (.of bg) (r.same e)
 | dK r=>exact .dictK bg (r.same e)
 | dT n r=>exact .dictT bg n (r.same e)
 | dF n r=>exact .dictF bg n (r.same e)
inductive Sl where
 | no
 | shr (d:D)
 | own (d:D)
 | lck (d:D)
 | ow2 (dss:List (List D))
abbrev aB:=List Sl
inductive Br (K:a8) (H Hs:Hp):List ak->List (List D)->Prop
 | nil:Br K H Hs [] []
 | cons {a:ak}{as:List ak}{vs:List V}{ds:List D}{dss:List (List D)}:H a=some (.lst vs)->RDs K Hs vs ds->Br K H Hs as dss->Br K H Hs (a::as) (ds::dss)
theorem Br.step  (e:dD H H') (e':dD Hs Hs')  (h:Br K H Hs as dss):Br K H' Hs' as dss:=by
 induction h with
 | nil=>exact .nil
 | cons h r t ih=>exact .cons (e _ _ h) (r.same e') ih
theorem Br.upd      (n:b∉as) (h:Br K H Hs as dss):Br K (upd H b o) Hs as dss:=by
 induction h with
 | nil=>exact .nil
 | cons h r t ih=>exact .cons (by rw [bi (fun z=>n (by rw [<- z];exact am))];exact h) r (ih fun z=>n (ah _ z))
theorem Br.there     (h:Br K H Hs as dss) (hb:b∈as):∃ o,H b=some o/\nt o=true:=by
 induction h with
 | nil=>cases hb
 | cons h r t ih =>
  rcases List.mem_cons.mp hb with e | hb
  ·exact ⟨_,e ▸ h,rfl⟩
  ·exact ih hb
structure O2 (K:a8) (H0 H Hs:Hp) (ρ:aB) (σ:St) (i:Nat) (dss:List (List D)) (a:ak) (as:List ak):Prop where
 at_:σ[i]?=some (some (V.ref a))
 ob:H a=some (.lst (as.map V.ref))
 nd:(a::as).Nodup
 out:∀ b∈a::as,Hs b=none/\H0 b=none
 dj:∀ b∈a::as,∀ (j:Nat) (e:D),ρ[j]?=some (Sl.own e)->σ[j]?≠some (some (V.ref b))
 inn:Br K H Hs as dss
structure Fr (K:a8) (H0 Hs0:Hp) (la:Nat->Option ak) (ρ:aB) (σ:St) (H Hs:Hp):Prop where
 st:cK H0 Hs0 H Hs
 len:ρ.length=σ.length
 sh:∀ (i:Nat) (d:D),ρ[i]?=some (Sl.shr d)->∃ v,σ[i]?=some (some v)/\RD K Hs v d
 ow:∀ (i:Nat) (d:D),ρ[i]?=some (Sl.own d)->∃ a o,σ[i]?=some (some (V.ref a))/\H a=some o/\Hs a=none/\H0 a=none/\n5 K Hs o d
 lk:∀ (i:Nat) (d:D),ρ[i]?=some (Sl.lck d)->∃ a o,σ[i]?=some (some (V.ref a))/\la i=some a/\H a=some o/\Hs a=none/\H0 a=some o/\n5 K Hs o d
 dj:∀ (i j:Nat) (d e:D) (a:ak),ρ[i]?=some (Sl.own d)->ρ[j]?=some (Sl.own e)->σ[i]?=some (some (V.ref a))->σ[j]?=some (some (V.ref a))->i=j
 lh:∀ (i:Nat) (a:ak),la i=some a->∃ o,H0 a=some o
 o2:∀ (i:Nat) (dss:List (List D)),ρ[i]?=some (Sl.ow2 dss)->∃ a as,O2 K H0 H Hs ρ σ i dss a as
 u2:∀ (i j:Nat) (d e:List (List D)),ρ[i]?=some (Sl.ow2 d)->ρ[j]?=some (Sl.ow2 e)->i=j
theorem Fr.step     (f:Fr K H0 Hs0 la ρ σ H Hs) (s:cK H Hs H' Hs'):Fr K H0 Hs0 la ρ σ H' Hs':=by
 refine ⟨f.st.trans s,f.len,fun i d e=>?_,fun i d e=>?_,fun i d e=>?_,f.dj,f.lh,fun i dss e=>?_,f.u2⟩
 ·obtain ⟨v,h1,h2⟩:=f.sh i d e
  exact ⟨v,h1,h2.same s.sh⟩
 ·obtain ⟨a,o,h1,h2,h3,h4,h5⟩:=f.ow i d e
  exact ⟨a,o,h1,s.all _ _ h2,s.out _ _ h2 h5.nt h3,h4,h5.same s.sh⟩
 ·obtain ⟨a,o,h1,h2,h3,h4,h5,h6⟩:=f.lk i d e
  exact ⟨a,o,h1,h2,s.all _ _ h3,s.out _ _ h3 h6.nt h4,h5,h6.same s.sh⟩
 ·obtain ⟨a,as,h⟩:=f.o2 i dss e
  refine ⟨a,as,h.at_,s.all _ _ h.ob,h.nd,fun b hb=>⟨?_,(h.out b hb).2⟩,h.dj,h.inn.step s.all s.sh⟩
  have there:∃ o,H b=some o/\nt o=true:=by
   rcases List.mem_cons.mp hb with rfl | hb
   ·exact ⟨_,h.ob,rfl⟩
   ·exact h.inn.there hb
  obtain ⟨o,ho,hn⟩:=there
  exact s.out b o ho hn (h.out b (by assumption)).1
inductive V_ (K:a8) (H Hs:Hp) (v:V) (d:D):Prop
 | mk (a:ak) (o:HO) (h0:v=.ref a) (h1:H a=some o) (h2:Hs a=none) (h3:n5 K Hs o d):V_ K H Hs v d
def RB (K:a8) (H Hs:Hp) (v:V) (d:D):Prop:=RD K Hs v d\/V_ K H Hs v d
theorem RB.step    (h:RB K H Hs v d) (s:cK H Hs H' Hs'):RB K H' Hs' v d:=by
 rcases h with h | ⟨a,o,h1,h2,h3,h4⟩
 ·exact .inl (h.same s.sh)
 ·exact .inr ⟨a,o,h1,s.all _ _ h2,s.out _ _ h2 h4.nt h3,h4.same s.sh⟩
theorem RB.full    (sub:dD Hs H) (h:RB K H Hs v d):RD K H v d:=by
 rcases h with h | ⟨a,o,rfl,h2,h3,h4⟩
 ·exact h.same sub
 ·have e:dD (upd Hs a o) H:=fun b u q=>by
   by_cases hb:b=a
   ·subst hb;rw [bg] at q;cases q;exact h2
   ·rw [bi hb] at q;exact sub b u q
  exact (h4.share h3).same e
theorem RB.list    (sub:dD Hs H) (h:RB K H Hs v (.list ds)):∃ a vs,v=.ref a/\ph K H a vs/\RDs K Hs vs ds:=by
 rcases h with h | ⟨a,o,rfl,h2,h3,h4⟩
 ·cases h with | list q r=>exact ⟨_,_,rfl,sub.seq q,r⟩
 ·cases h4 with | lst r=>exact ⟨a,_,rfl,.of h2,r⟩
theorem RB.tuple    (sub:dD Hs H) (h:RB K H Hs v (.tuple ds)):∃ a vs,v=.ref a/\l7 K H a vs/\RDs K Hs vs ds/\Hs a=some (.tup vs):=by
 rcases h with h | ⟨a,o,rfl,h2,h3,h4⟩
 ·cases h with | tuple q r=>exact ⟨_,_,rfl,.of (sub _ _ q),r,q⟩
 ·cases h4
theorem RB.str    (h:RB K H Hs v (.str x)):v=.str x:=by
 rcases h with h | ⟨a,o,rfl,h2,h3,h4⟩
 ·exact h.str_inv
 ·cases h4
theorem RB.int    (h:RB K H Hs v (.int i)):v=.int i:=by
 rcases h with h | ⟨a,o,rfl,h2,h3,h4⟩
 ·exact h.int_inv
 ·cases h4
theorem RB.non   (h:RB K H Hs v .none):v=.non:=by
 rcases h with h | ⟨a,o,rfl,h2,h3,h4⟩
 ·cases h;rfl
 ·cases h4
def XW (K:a8) (cls:Str->ak) (E:XK) (c:Str) (n:Option D) (H Hs:Hp):Prop:=match n with
 | none=>E (.ref (cls c)) none H
 | some d=>∀ dx v,H dx=some (.xd [("number",v)])->RD K Hs v d->E (.ref (cls c)) (some dx) H
def Fin {α:Type} (K:a8) (cls:Str->ak) (E:XK) (H Hs:Hp) (r:R α) (q:α->Prop):Prop:=match r with
 | .ok d=>q d
 | .ex c n=>∀ H' Hs',cK H Hs H' Hs'->XW K cls E c n H' Hs'
 | .no=>False
inductive YQ (K:a8) (cls:Str->ak) (E:XK) (ρ:aB) (r:R D) (σ:St) (H:Hp) (Q:VK):Prop
 | mk (H0 Hs0:Hp) (la:Nat->Option ak) (Hs:Hp) (f:Fr K H0 Hs0 la ρ σ H Hs) (q:Fin K cls E H Hs r fun d=>∀ v H' Hs',cK H Hs H' Hs'->RD K Hs' v d->Q v H'):YQ K cls E ρ r σ H Q
def TR (K:a8) (cls:Str->ak) (E:XK) (ρ:aB) (r:R D):TE:=YQ K cls E ρ r
inductive YR (K:a8) (cls:Str->ak) (E:XK) (ρ:aB) (r:R D) (σ:St) (H:Hp) (Q:VK):Prop
 | mk (H0 Hs0:Hp) (la:Nat->Option ak) (Hs:Hp) (f:Fr K H0 Hs0 la ρ σ H Hs) (q:Fin K cls E H Hs r fun d=>∀ v H' Hs',cK H Hs H' Hs'->RB K H' Hs' v d->Q v H'):YR K cls E ρ r σ H Q
def TB (K:a8) (cls:Str->ak) (E:XK) (ρ:aB) (r:R D):TE:=YR K cls E ρ r
inductive W0 (K:a8) (cls:Str->ak) (E:XK) (ρ:aB) (r:R Bool) (σ:St) (H:Hp) (Q:Bool->Hp->Prop):Prop
 | mk (H0 Hs0:Hp) (la:Nat->Option ak) (Hs:Hp) (f:Fr K H0 Hs0 la ρ σ H Hs) (q:Fin K cls E H Hs r fun b=>∀ H' Hs',cK H Hs H' Hs'->Q b H'):W0 K cls E ρ r σ H Q
def KS (K:a8) (cls:Str->ak) (E:XK) (ρ:aB) (r:R Bool):TT:=W0 K cls E ρ r
inductive Sq (K:a8) (H Hs:Hp):List V->List D->Prop
 | nil:Sq K H Hs [] []
 | cons {x:V}{xs:List V}{d:D}{ds:List D}:RB K H Hs x d->Sq K H Hs xs ds->Sq K H Hs (x::xs) (d::ds)
inductive W2 (K:a8) (cls:Str->ak) (E:XK) (ρ:aB) (r:R (List D)) (σ:St) (H:Hp) (Q:List V->Hp->Prop):Prop
 | mk (H0 Hs0:Hp) (la:Nat->Option ak) (Hs:Hp) (f:Fr K H0 Hs0 la ρ σ H Hs) (q:Fin K cls E H Hs r fun d=>∀ v H' Hs',cK H Hs H' Hs'->RDs K Hs' v d->Q v H'):W2 K cls E ρ r σ H Q
def Xs (K:a8) (cls:Str->ak) (E:XK) (ρ:aB) (r:R (List D)):TA:=W2 K cls E ρ r
inductive W3 (K:a8) (cls:Str->ak) (E:XK) (ρ:aB) (r:R (List D)) (σ:St) (H:Hp) (Q:List V->Hp->Prop):Prop
 | mk (H0 Hs0:Hp) (la:Nat->Option ak) (Hs:Hp) (f:Fr K H0 Hs0 la ρ σ H Hs) (q:Fin K cls E H Hs r fun d=>∀ v H' Hs',cK H Hs H' Hs'->Sq K H' Hs' v d->Q v H'):W3 K cls E ρ r σ H Q
def Xt (K:a8) (cls:Str->ak) (E:XK) (ρ:aB) (r:R (List D)):TA:=W3 K cls E ρ r
structure C where
 X:Cx
 cls:Str->ak
 E:XK
structure JE (c:C) (e:aZ) (g:aB->R D):Prop where of ::
 run:∀ ρ,PE c.X e (TR c.X.K c.cls c.E ρ (g ρ))
instance {c:C}{e:aZ}{g:aB->R D}:CoeFun (JE c e g) (fun _=>∀ ρ,PE c.X e (TR c.X.K c.cls c.E ρ (g ρ))):=⟨JE.run⟩
structure JB (c:C) (e:aZ) (g:aB->R D):Prop where of ::
 run:∀ ρ,PE c.X e (TB c.X.K c.cls c.E ρ (g ρ))
instance {c:C}{e:aZ}{g:aB->R D}:CoeFun (JB c e g) (fun _=>∀ ρ,PE c.X e (TB c.X.K c.cls c.E ρ (g ρ))):=⟨JB.run⟩
structure JT (c:C) (e:aZ) (g:aB->R Bool):Prop where of ::
 run:∀ ρ,PT c.X e (KS c.X.K c.cls c.E ρ (g ρ))
instance {c:C}{e:aZ}{g:aB->R Bool}:CoeFun (JT c e g) (fun _=>∀ ρ,PT c.X e (KS c.X.K c.cls c.E ρ (g ρ))):=⟨JT.run⟩
structure JW (c:C) (e:aZ) (g:aB->R Bool):Prop where of ::
 run:∀ ρ,PW c.X e (KS c.X.K c.cls c.E ρ (g ρ))
instance {c:C}{e:aZ}{g:aB->R Bool}:CoeFun (JW c e g) (fun _=>∀ ρ,PW c.X e (KS c.X.K c.cls c.E ρ (g ρ))):=⟨JW.run⟩
structure IK (c:C) (es:List aZ) (g:aB->R (List D)):Prop where of ::
 run:∀ ρ,PA c.X es (Xs c.X.K c.cls c.E ρ (g ρ))
instance {c:C}{es:List aZ}{g:aB->R (List D)}:CoeFun (IK c es g) (fun _=>∀ ρ,PA c.X es (Xs c.X.K c.cls c.E ρ (g ρ))):=⟨IK.run⟩
structure Sr (c:C) (es:List aZ) (g:aB->R (List D)):Prop where of ::
 run:∀ ρ,PA c.X es (Xt c.X.K c.cls c.E ρ (g ρ))
instance {c:C}{es:List aZ}{g:aB->R (List D)}:CoeFun (Sr c es g) (fun _=>∀ ρ,PA c.X es (Xt c.X.K c.cls c.E ρ (g ρ))):=⟨Sr.run⟩
section
variable {c:C}{e a b:aZ}{g ga gb:aB->R D}{pos:Pos}
theorem tm   (h:PE X e t) (m:∀ σ H Q,t' σ H Q->t σ H Q):PE X e t':=fun pins s σ H Q I q=>h pins s σ H Q I (m σ H Q q)
theorem W4   (h:PT X e t) (m:∀ σ H Q,t' σ H Q->t σ H Q):PT X e t':=fun pins s σ H Q I q=>h pins s σ H Q I (m σ H Q q)
theorem YS   (h:PW X e t) (m:∀ σ H Q,t' σ H Q->t σ H Q):PW X e t':=fun wh pins s σ H Q I q=>h wh pins s σ H Q I (m σ H Q q)
theorem Xu {X:Cx}{e:List aZ}{t t':TA} (h:PA X e t) (m:∀ σ H Q,t' σ H Q->t σ H Q):PA X e t':=fun pos pins s σ H Q I q=>h pos pins s σ H Q I (m σ H Q q)
theorem AF {X:Cx}{e:c_}{t t':TS} (h:PS X e t) (m:∀ D σ H,t' D σ H->t D σ H):PS X e t':=fun pins s σ H Q I q=>h pins s σ H Q I (m Q σ H q)
theorem Yh {X:Cx}{e:List c_}{t t':TS} (h:IA X e t) (m:∀ D σ H,t' D σ H->t D σ H):IA X e t':=fun pins s σ H Q I q=>h pins s σ H Q I (m Q σ H q)
theorem JE.bor (h:JE c e g):JB c e g:=.of fun ρ=>tm (h ρ) fun σ H Q ⟨H0,Hs0,la,Hs,f,q⟩=>⟨H0,Hs0,la,Hs,f,by
 cases hr:g ρ with
 | ok d=>rw [hr] at q;exact fun v H' Hs' s r=>q v H' Hs' s (.inl r)
 | ex c n=>rw [hr] at q;exact q
 | no=>rw [hr] at q;exact q⟩
theorem one {K:a8}{cls:Str->ak}{E:XK}{ρ:aB}{r:R D}{β:Type}{k:D->R β}{σ:St}{H:Hp}{H0 Hs0 Hs:Hp}{la:Nat->Option ak}{Q:V->Hp->Prop}{q:β->Prop} (f:Fr K H0 Hs0 la ρ σ H Hs)
  (h:Fin K cls E H Hs (r.bind k) q) (m:∀ d v H' Hs',r=.ok d->cK H Hs H' Hs'->Fr K H0 Hs0 la ρ σ H' Hs'->RB K H' Hs' v d->Q v H'):TB K cls E ρ r σ H Q:=by
 refine ⟨H0,Hs0,la,Hs,f,?_⟩
 cases r with
 | ok d=>exact fun v H' Hs' s r=>m d v H' Hs' rfl s (f.step s) r
 | ex c n=>exact h
 | no=>exact h
theorem AG {K:a8}{cls:Str->ak}{E:XK}{ρ:aB}{r:R D}{β:Type}{k:D->R β}{σ:St}{H:Hp}{H0 Hs0 Hs:Hp}{la:Nat->Option ak}{Q:V->Hp->Prop}{q:β->Prop} (f:Fr K H0 Hs0 la ρ σ H Hs)
  (h:Fin K cls E H Hs (r.bind k) q) (m:∀ d v H' Hs',r=.ok d->cK H Hs H' Hs'->Fr K H0 Hs0 la ρ σ H' Hs'->RD K Hs' v d->Q v H'):TR K cls E ρ r σ H Q:=by
 refine ⟨H0,Hs0,la,Hs,f,?_⟩
 cases r with
 | ok d=>exact fun v H' Hs' s r=>m d v H' Hs' rfl s (f.step s) r
 | ex c n=>exact h
 | no=>exact h
theorem KU {K:a8}{cls:Str->ak}{E:XK}{ρ:aB}{r:R Bool}{β:Type}{k:Bool->R β}{σ:St}{H:Hp}{H0 Hs0 Hs:Hp}{la:Nat->Option ak}{Q:Bool->Hp->Prop}{q:β->Prop} (f:Fr K H0 Hs0 la ρ σ H Hs)
  (h:Fin K cls E H Hs (r.bind k) q) (m:∀ d H' Hs',r=.ok d->cK H Hs H' Hs'->Fr K H0 Hs0 la ρ σ H' Hs'->Q d H'):KS K cls E ρ r σ H Q:=by
 refine ⟨H0,Hs0,la,Hs,f,?_⟩
 cases r with
 | ok d=>exact fun H' Hs' s=>m d H' Hs' rfl s (f.step s)
 | ex c n=>exact h
 | no=>exact h
theorem GZ {K:a8}{cls:Str->ak}{E:XK}{ρ:aB}{r:R (List D)}{β:Type}{k:List D->R β}{σ:St}{H:Hp}{H0 Hs0 Hs:Hp}{la:Nat->Option ak}{Q:List V->Hp->Prop}{q:β->Prop} (f:Fr K H0 Hs0 la ρ σ H Hs)
  (h:Fin K cls E H Hs (r.bind k) q) (m:∀ d v H' Hs',r=.ok d->cK H Hs H' Hs'->Fr K H0 Hs0 la ρ σ H' Hs'->RDs K Hs' v d->Q v H'):Xs K cls E ρ r σ H Q:=by
 refine ⟨H0,Hs0,la,Hs,f,?_⟩
 cases r with
 | ok d=>exact fun v H' Hs' s r=>m d v H' Hs' rfl s (f.step s) r
 | ex c n=>exact h
 | no=>exact h
theorem Nt {K:a8}{cls:Str->ak}{E:XK}{ρ:aB}{r:R (List D)}{β:Type}{k:List D->R β}{σ:St}{H:Hp}{H0 Hs0 Hs:Hp}{la:Nat->Option ak}{Q:List V->Hp->Prop}{q:β->Prop} (f:Fr K H0 Hs0 la ρ σ H Hs)
  (h:Fin K cls E H Hs (r.bind k) q) (m:∀ d v H' Hs',r=.ok d->cK H Hs H' Hs'->Fr K H0 Hs0 la ρ σ H' Hs'->Sq K H' Hs' v d->Q v H'):Xt K cls E ρ r σ H Q:=by
 refine ⟨H0,Hs0,la,Hs,f,?_⟩
 cases r with
 | ok d=>exact fun v H' Hs' s r=>m d v H' Hs' rfl s (f.step s) r
 | ex c n=>exact h
 | no=>exact h
theorem Fin.on {α:Type}{K:a8}{cls:Str->ak}{E:XK}{H Hs H' Hs':Hp}{r:R α}{q q':α->Prop} (h:Fin K cls E H Hs r q) (s:cK H Hs H' Hs') (m:∀ a,q a->q' a):Fin K cls E H' Hs' r q':=by
 cases r with
 | ok a=>exact m a h
 | ex c n=>exact fun H2 Hs2 s2=>h H2 Hs2 (s.trans s2)
 | no=>exact h
end
end
section
def Gi (ρ:aB) (i:Nat):R D:=match ρ[i]? with
 | some (Sl.shr d)=>.ok d
 | _=>.no
def Gj (ρ:aB) (i:Nat):R D:=match ρ[i]? with
 | some (Sl.shr d)=>.ok d
 | some (Sl.own d)=>.ok d
 | some (Sl.lck d)=>.ok d
 | _=>.no
section
variable {c:C}{e a b:aZ}{g ga gb:aB->R D}{pos:Pos}
theorem ai (i:Nat) (hN:c.X.N[i]?=some x:=by rfl) (hv:Qv c.X.env.scope x:=by first | exact j9 rfl | exact fK (j9 rfl) | exact fK (fK rfl)) (hd:(x == ("__debug__" : Str))=false:=by decide)
  (hcd:(x == ("__classdict__" : Str))=false:=by decide):JE c (.Name x pos) (fun ρ=>Gi ρ i):=.of fun ρ=>tm (tX hN hv hd hcd) fun σ H Q h_0=>by
 obtain ⟨H0,Hs0,la,Hs,f,q⟩:=h_0
 cases hr:ρ[i]? with
 | none=>simp only [Gi,hr] at q;exact q.elim
 | some s =>
  cases s with
  | shr d =>
   obtain ⟨v,h1,h2⟩:=f.sh i d hr
   simp only [Gi,hr] at q
   exact ⟨v,h1,q v H Hs (.refl f.st.sub) h2⟩
  | no=>simp only [Gi,hr] at q;exact q.elim
  | own d=>simp only [Gi,hr] at q;exact q.elim
  | lck d=>simp only [Gi,hr] at q;exact q.elim
  | ow2 d=>simp only [Gi,hr] at q;exact q.elim
theorem aj (i:Nat) (hN:c.X.N[i]?=some x:=by rfl) (hv:Qv c.X.env.scope x:=by first | exact j9 rfl | exact fK (j9 rfl) | exact fK (fK rfl)) (hd:(x == ("__debug__" : Str))=false:=by decide)
  (hcd:(x == ("__classdict__" : Str))=false:=by decide):JB c (.Name x pos) (fun ρ=>Gj ρ i):=.of fun ρ=>tm (tX hN hv hd hcd) fun σ H Q h_1=>by
 obtain ⟨H0,Hs0,la,Hs,f,q⟩:=h_1
 cases hr:ρ[i]? with
 | none=>simp only [Gj,hr] at q;exact q.elim
 | some s =>
  cases s with
  | shr d =>
   obtain ⟨v,h1,h2⟩:=f.sh i d hr
   simp only [Gj,hr] at q
   exact ⟨v,h1,q v H Hs (.refl f.st.sub) (.inl h2)⟩
  | no=>simp only [Gj,hr] at q;exact q.elim
  | own d =>
   obtain ⟨a,o,h1,h2,h3,h4,h5⟩:=f.ow i d hr
   simp only [Gj,hr] at q
   exact ⟨_,h1,q _ H Hs (.refl f.st.sub) (.inr ⟨a,o,rfl,h2,h3,h5⟩)⟩
  | lck d =>
   obtain ⟨a,o,h1,h2,h3,h4,h5,h6⟩:=f.lk i d hr
   simp only [Gj,hr] at q
   exact ⟨_,h1,q _ H Hs (.refl f.st.sub) (.inr ⟨a,o,rfl,h3,h4,h6⟩)⟩
  | ow2 d=>simp only [Gj,hr] at q;exact q.elim
theorem qU  (h:PE c.X e (tC v)) (r:∀ Hs,RD c.X.K Hs v d):JE c e (fun _=>.ok d):=.of fun ρ=>tm h fun σ H Q h_2=>by obtain ⟨H0,Hs0,la,Hs,f,q⟩:=h_2;exact q v H Hs (.refl f.st.sub) (r Hs)
theorem aI  : JE c (.Constant (.int i) j pos) (fun _=>.ok (.int i)):=qU Tw fun _=>.int i
theorem mD  : JE c (.Constant (.bool i) j pos) (fun _=>.ok (.bool i)):=qU Vp fun _=>.bool i
theorem lI:JE c (.Constant .none j pos) (fun _=>.ok .none):=qU Tx fun _=>.none
theorem u6  : JE c (.Constant (.str i) j pos) (fun _=>.ok (.str i)):=qU Tz fun _=>.str i
theorem qV  (hg:Gl c.X x) (hm:∃ t,c.X.mg x=some (.int i t)) (hd:(x == ("__debug__" : Str))=false:=by decide):JE c (.Name x pos) (fun _=>.ok (.int i)):=by
 obtain ⟨t,hm⟩:=hm
 exact qU (Qw hg hm (v:=.int i) ⟨t,rfl⟩ hd) fun _=>.int i
inductive YT (K:a8) (h:D->D->R D) (x:V) (y:V) (H:Hp) (Q:VK):Prop
 | mk (Hs dx dy:_) (h0:dD Hs H) (h1:RB K H Hs x dx) (h2:RB K H Hs y dy) (h3:∃ d,h dx dy=.ok d/\∀ v H' Hs',cK H Hs H' Hs'->RD K Hs' v d->Q v H'):YT K h x y H Q
def rD (K:a8) (h:D->D->R D):R2:=YT K h
def xQ (X:Cx) (f:aa->aa->Sem aa) (h:D->D->R D):Prop:=qD X f (rD X.K h)/\∀ x y c n,h x y≠.ex c n
def g2 (ga gb:aB->R D) (h:D->D->R D):aB->R D:=fun ρ=>(ga ρ).bind fun x=>(gb ρ).bind fun y=>h x y
theorem two        (hx:∀ x y c n,h x y≠.ex c n) (q:TR K cls E ρ (g2 ga gb h ρ) σ H Q):Vz (rD K h) (TB K cls E ρ (ga ρ)) (TB K cls E ρ (gb ρ)) σ H Q:=by
 obtain ⟨H0,Hs0,la,Hs,f,q⟩:=q
 refine one f q fun x v H1 Hs1 e1 s1 f1 r1=>?_
 unfold g2 at q
 rw [e1,bind_ok] at q
 refine one f1 (q.on s1 (q':=fun _=>True) fun _ _=>trivial) fun y u H2 Hs2 e2 s2 f2 r2=>?_
 rw [e2,bind_ok] at q
 cases hr:h x y with
 | ok d =>
  rw [hr] at q
  exact ⟨Hs2,x,y,f2.st.sub,r1.step s2,r2,d,hr,fun w H3 Hs3 s3 r3=>q w H3 Hs3 (s1.trans (s2.trans s3)) r3⟩
 | ex c n=>exact (hx x y c n hr).elim
 | no=>rw [hr] at q;exact q.elim
theorem c7  (ho:xQ c.X (gG op) h) (ha:JB c a ga) (hb:JB c b gb):JE c (.BinOp a op b pos) (g2 ga gb h):=.of fun ρ=>tm (S4 ho.1 (ha ρ) (hb ρ)) fun σ H Q q=>two ho.2 q
theorem jR  (ho:xQ c.X (bO op) h) (ha:JB c a ga) (hb:JB c b gb) (hm:h_ op b=false:=by first | exact MN _ | rfl):JE c (.Compare a [op] [b] pos) (g2 ga gb h):=.of fun ρ=>tm (QD ho.1 (ha ρ) (hb ρ) hm) fun σ H Q q=>two ho.2 q
def fR (g:aB->R D):aB->R Bool:=fun ρ=>(g ρ).bind fun d=>match d with
 | .bool b=>.ok b
 | _=>.no
theorem W5       (q:KS K cls E ρ (fR g ρ) σ H Q):TR K cls E ρ (g ρ) σ H fun x H'=>∃ k,x=.bl k/\Q k H':=by
 obtain ⟨H0,Hs0,la,Hs,f,q⟩:=q
 refine AG f q fun d v H1 Hs1 e1 s1 f1 r1=>?_
 unfold fR at q
 rw [e1,bind_ok] at q
 cases r1 with
 | bool b=>exact ⟨b,rfl,q H1 Hs1 s1⟩
 | _=>exact q.elim
theorem dE  (ho:xQ c.X (bO op) h) (ha:JB c a ga) (hb:JB c b gb) (hm:h_ op b=false:=by first | exact MN _ | rfl):JT c (.Compare a [op] [b] pos) (fR (g2 ga gb h)):=.of fun ρ=>W4 (QE ho.1 (ha ρ) (hb ρ) hm) fun σ H Q q=>two ho.2 (W5 q)
theorem eU (h:JE c e g) (he:∀ whole,vZ e c.X.env whole=(do let v <- whole;xi e.pos;holding [v] (truthy v)):=by intro _;rfl):JT c e (fR g):=.of fun ρ=>W4 (TC (h ρ) he) fun σ H Q q=>W5 q
def kg (g:aB->R Bool):aB->R Bool:=fun ρ=>(g ρ).bind fun b=>.ok (!b)
def CS (g h:aB->R Bool):aB->R Bool:=fun ρ=>(g ρ).bind fun b=>if b then h ρ else .ok false
def KW (g h:aB->R Bool):aB->R Bool:=fun ρ=>(g ρ).bind fun b=>if b then .ok true else h ρ
variable {gt gu:aB->R Bool}{c6:List aZ}
theorem fY (h:JT c e gt):JT c (.UnaryOp .Not e pos) (kg gt):=.of fun ρ=>W4 (TH (h ρ)) fun σ H Q q=>by
 obtain ⟨H0,Hs0,la,Hs,f,q⟩:=q
 refine KU f q fun d H1 Hs1 e1 s1 f1=>?_
 unfold kg at q
 rw [e1,bind_ok] at q
 exact q H1 Hs1 s1
theorem yj (h:JT c a gt):JW c (.BoolOp .And [a] pos) gt:=.of fun ρ=>Qy (h ρ)
theorem nX (h:JT c a gt):JW c (.BoolOp .Or [a] pos) gt:=.of fun ρ=>TD (h ρ)
theorem CT (h:JT c a gt) (h2:JW c (.BoolOp .And (b::c6) pos) gu):JW c (.BoolOp .And (a::b::c6) pos) (CS gt gu):=.of fun ρ=>YS (TF (h ρ) (h2 ρ)) fun σ H Q q=>by
 obtain ⟨H0,Hs0,la,Hs,f,q⟩:=q
 refine KU f q fun d H1 Hs1 e1 s1 f1=>?_
 unfold CS at q
 rw [e1,bind_ok] at q
 cases d with
 | true=>exact CA ⟨H0,Hs0,la,Hs1,f1,q.on s1 fun b k H2 Hs2 s2=>k H2 Hs2 (s1.trans s2)⟩
 | false=>exact Cz (q H1 Hs1 s1)
theorem tq (h:JT c a gt) (h2:JW c (.BoolOp .Or (b::c6) pos) gu):JW c (.BoolOp .Or (a::b::c6) pos) (KW gt gu):=.of fun ρ=>YS (Vq (h ρ) (h2 ρ)) fun σ H Q q=>by
 obtain ⟨H0,Hs0,la,Hs,f,q⟩:=q
 refine KU f q fun d H1 Hs1 e1 s1 f1=>?_
 unfold KW at q
 rw [e1,bind_ok] at q
 cases d with
 | false=>exact Cz ⟨H0,Hs0,la,Hs1,f1,q.on s1 fun b k H2 Hs2 s2=>k H2 Hs2 (s1.trans s2)⟩
 | true=>exact CA (q H1 Hs1 s1)
theorem JW.t (h:JW c e gt):JT c e gt:=.of fun ρ=>(h ρ).pt
def Bt (g:aB->R D):aB->R D:=fun ρ=>(fR g ρ).bind fun b=>.ok (.bool (!b))
theorem G_ (h:JE c e g):JE c (.UnaryOp .Not e pos) (Bt g):=.of fun ρ=>tm (TL (h ρ)) fun σ H Q q=>by
 refine W5 ?_
 obtain ⟨H0,Hs0,la,Hs,f,q⟩:=q
 refine KU f q fun d H1 Hs1 e1 s1 f1=>?_
 unfold Bt at q
 rw [e1,bind_ok] at q
 exact q _ H1 Hs1 s1 (.bool _)
def qo (g h:aB->R D):aB->R D:=fun ρ=>(fR g ρ).bind fun b=>if b then h ρ else .ok (.bool false)
theorem u7 (h:JE c a g):JE c (.BoolOp op [a] pos) g:=.of fun ρ=>TJ (h ρ)
theorem pp (h:JE c a ga) (h2:JE c (.BoolOp .And (b::c6) pos) gb):JE c (.BoolOp .And (a::b::c6) pos) (qo ga gb):=.of fun ρ=>tm (TK (h ρ) (h2 ρ)) fun σ H Q q=>by
 refine W5 ?_
 obtain ⟨H0,Hs0,la,Hs,f,q⟩:=q
 refine KU f q fun d H1 Hs1 e1 s1 f1=>?_
 unfold qo at q
 rw [e1,bind_ok] at q
 cases d with
 | true=>exact CA ⟨H0,Hs0,la,Hs1,f1,q.on s1 fun b k v H2 Hs2 s2 r2=>k v H2 Hs2 (s1.trans s2) r2⟩
 | false=>exact Cz (q _ H1 Hs1 s1 (.bool _))
def W6 (t:aB->R Bool) (g h:aB->R D):aB->R D:=fun ρ=>(t ρ).bind fun b=>if b then g ρ else h ρ
theorem Su (ht:JT c t gt) (ha:JE c a ga) (hb:JE c b gb):JE c (.IfExp t a b pos) (W6 gt ga gb):=.of fun ρ=>tm (MF (ht ρ) (ha ρ) (hb ρ)) fun σ H Q q=>by
 obtain ⟨H0,Hs0,la,Hs,f,q⟩:=q
 refine KU f q fun d H1 Hs1 e1 s1 f1=>?_
 unfold W6 at q
 rw [e1,bind_ok] at q
 cases d with
 | true=>exact CA ⟨H0,Hs0,la,Hs1,f1,q.on s1 fun b k v H2 Hs2 s2 r2=>k v H2 Hs2 (s1.trans s2) r2⟩
 | false=>exact Cz ⟨H0,Hs0,la,Hs1,f1,q.on s1 fun b k v H2 Hs2 s2 r2=>k v H2 Hs2 (s1.trans s2) r2⟩
def qW (ga gb gc:aB->R D) (h h':D->D->R D):aB->R D:=fun ρ=>(ga ρ).bind fun x=>(gb ρ).bind fun y=>(h x y).bind fun z=>match z with
 | .bool true=>(gc ρ).bind fun w=>h' y w
 | .bool false=>.ok (.bool false)
 | _=>.no
variable {es:List aZ}{gs:aB->R (List D)}
def ag (g:aB->R D) (gs:aB->R (List D)):aB->R (List D):=fun ρ=>(g ρ).bind fun d=>(gs ρ).bind fun ds=>.ok (d::ds)
def aL:aB->R (List D):=fun _=>.ok []
theorem aF:IK c [] aL:=.of fun ρ=>Xu kq fun σ H Q h_3=>by obtain ⟨H0,Hs0,la,Hs,f,q⟩:=h_3;exact q [] H Hs (.refl f.st.sub) .nil
theorem b_:Sr c [] aL:=.of fun ρ=>Xu kq fun σ H Q h_4=>by obtain ⟨H0,Hs0,la,Hs,f,q⟩:=h_4;exact q [] H Hs (.refl f.st.sub) .nil
theorem ae (h:JE c e g) (hr:IK c es gs) (hs:aO (e::es) c.X.env=(false,eE e c.X.env)::aO es c.X.env:=by rfl):IK c (e::es) (ag g gs):=.of fun ρ=>Xu (iR (h ρ) (hr ρ) hs) fun σ H Q h_5=>by
 obtain ⟨H0,Hs0,la,Hs,f,q⟩:=h_5
 refine AG f q fun d v H1 Hs1 e1 s1 f1 r1=>?_
 unfold ag at q
 rw [e1,bind_ok] at q
 refine GZ f1 (q.on s1 (q':=fun _=>True) fun _ _=>trivial) fun ds vs H2 Hs2 e2 s2 f2 r2=>?_
 rw [e2,bind_ok] at q
 exact q _ H2 Hs2 (s1.trans s2) (.cons (r1.same s2.sh) r2)
theorem bz (h:JB c e g) (hr:Sr c es gs) (hs:aO (e::es) c.X.env=(false,eE e c.X.env)::aO es c.X.env:=by rfl):Sr c (e::es) (ag g gs):=.of fun ρ=>Xu (iR (h ρ) (hr ρ) hs) fun σ H Q h_6=>by
 obtain ⟨H0,Hs0,la,Hs,f,q⟩:=h_6
 refine one f q fun d v H1 Hs1 e1 s1 f1 r1=>?_
 unfold ag at q
 rw [e1,bind_ok] at q
 refine Nt f1 (q.on s1 (q':=fun _=>True) fun _ _=>trivial) fun ds vs H2 Hs2 e2 s2 f2 r2=>?_
 rw [e2,bind_ok] at q
 exact q _ H2 Hs2 (s1.trans s2) (.cons (r1.step s2) r2)
def ft (gs:aB->R (List D)) (k:List D->D):aB->R D:=fun ρ=>(gs ρ).bind fun ds=>if ds.length<=1000 then .ok (k ds) else .no
theorem nY {x1} (h:IK c es gs):JE c (.Tuple es x1 pos) (ft gs .tuple):=.of fun ρ=>tm (U8 (h ρ)) fun σ H Q h_7=>by
 obtain ⟨H0,Hs0,la,Hs,f,q⟩:=h_7
 refine GZ f q fun ds vs H1 Hs1 e1 s1 f1 r1=>?_
 unfold ft at q
 rw [e1,bind_ok] at q
 by_cases hl:ds.length<=1000
 ·rw [if_pos hl] at q
  refine ⟨ca (dW (by rw [r1.length];exact hl)),fun p hp=>q _ _ _ (s1.trans (.new f1.st.sub hp)) (.tuple bg (r1.same (cK.new f1.st.sub hp).sh))⟩
 ·rw [if_neg hl] at q;exact q.elim
theorem kr (h:IK c es gs):JE c (.List es pos) (ft gs .list):=.of fun ρ=>tm (tY (h ρ)) fun σ H Q h_8=>by
 obtain ⟨H0,Hs0,la,Hs,f,q⟩:=h_8
 refine GZ f q fun ds vs H1 Hs1 e1 s1 f1 r1=>?_
 unfold ft at q
 rw [e1,bind_ok] at q
 by_cases hl:ds.length<=1000
 ·rw [if_pos hl] at q
  refine ⟨ca (dW (by rw [r1.length];exact hl)),fun p hp=>q _ _ _ (s1.trans (.new f1.st.sub hp)) (.list (.of bg) (r1.same (cK.new f1.st.sub hp).sh))⟩
 ·rw [if_neg hl] at q;exact q.elim
end
end
end J
namespace J
open PySem PySem.Spec PyProof.Rows L2
section
section
variable {X:Cx}
def dZ:D->D->R D
 | .int i,.int j=>.ok (.int (i + j))
 | .str x,.str y=>if x.length + y.length<=1000 then .ok (.str (x++y)) else .no
 | .tuple xs,.tuple ys=>if xs.length + ys.length<=1000 then .ok (.tuple (xs++ys)) else .no
 | .list xs,.list ys=>if xs.length + ys.length<=1000 then .ok (.list (xs++ys)) else .no
 | _,_=>.no
inductive Nu (K:a8) (x:V) (y:V) (H:Hp) (Q:VK):Prop
 | mk (l b xs zs:_) (h0:x=.ref l) (h1:y=.ref b) (h2:ph K H l xs) (h3:ph K H b zs) (h4:xs.length + zs.length<=sizeLine) (h5:∀ p,H p=none->Q (.ref p) (upd H p (.lst (xs++zs)))):Nu K x y H Q
def W7 (K:a8):R2:=Nu K
theorem R1:qD X (gG .Add) (W7 X.K):=by
 intro pins s σ H x y v u Q I rx ry h
 obtain ⟨l,b,xs,zs,rfl,rfl,h1,h2,hz,q⟩:=h
 cases rx;cases ry
 obtain ⟨its,r,⟨o,n,e,c1,c2,c3⟩,z⟩:=I.list h1
 obtain ⟨its2,r2,⟨o2,n2,e2,d1,d2,d3⟩,z2⟩:=I.list h2
 obtain ⟨k1,k2,k3,k4⟩:=o
 obtain ⟨m1,m2,m3,m4⟩:=o2
 simp only at c1 c2 c3 d1 d2 d3
 subst c1 c2 c3 d1 d2 d3
 refine Ak ⟨_,e,rfl⟩ ⟨_,e2,rfl⟩ noFill_list_add seq_list_add PySem.F.slot_list_add PySem.F.entry_list_add (PySem.F.args_list_add_2 _ _) (PyProof.Rows.list_addW l b _ _ n n2 _ _ k4 m4 (by rw [aS,aS,<- r.length,<- r2.length];exact hz)) ⟨e,e2,?_⟩
 have ea:its.toArray++its2.toArray=(its++its2).toArray:=by simp
 rw [ea]
 exact ⟨.ref _,_,I.lnew (t':=s.toks) (r.append r2) (by rw [aM];omega),rfl,q _ I.fresh⟩
inductive Nv (K:a8) (x:V) (y:V) (H:Hp) (Q:VK):Prop
 | mk (a b ys:_) (h0:x=.ref a) (h1:y=.ref b) (h2:l7 K H a []) (h3:l7 K H b ys) (h4:Q (.ref b) H):Nv K x y H Q
def W8 (K:a8):R2:=Nv K
theorem R4:qD X (gG .Add) (W8 X.K):=by
 intro pins s σ H x y v u Q I rx ry h
 obtain ⟨a,b,ys,rfl,rfl,h1,h2,q⟩:=h
 cases rx;cases ry
 obtain ⟨its,r,⟨⟨k1,k2,k3,k4⟩,e,c1,n,c3⟩,z⟩:=I.tuple h1
 obtain ⟨its2,r2,⟨⟨m1,m2,m3,m4⟩,e2,d1,n2,d3⟩,z2⟩:=I.tuple h2
 simp only at c1 c3 d1 d3
 subst c1 c3 d1 d3
 cases r
 exact Ak ⟨_,e,rfl⟩ ⟨_,e2,rfl⟩ Cd Kb pc oB (nO _ _)
  (PyProof.Rows.tuple_addW0 a b _ _ n n2 _ _ k4 m4 rfl) ⟨e,e2,⟨.ref b,H,I,rfl,q⟩⟩
theorem cS:xQ X (gG .Add) dZ:=by
 refine ⟨fun pins s σ H x y v u Q I rv ru ⟨Hs,dx,dy,sub,rx,ry,d,hd,q⟩=>?_,fun x y c n=>?_⟩
 ·unfold dZ at hd
  split at hd
  ·cases hd
   exact U0 pins s σ H x y v u Q I rv ru ⟨_,_,rx.int,ry.int,q _ H Hs (.refl sub) (.int _)⟩
  ·split at hd
   ·rename_i hz
    cases hd
    exact GL pins s σ H x y v u Q I rv ru ⟨_,_,rx.str,ry.str,ca (dW hz),q _ H Hs (.refl sub) (.str _)⟩
   ·cases hd
  ·split at hd
   ·rename_i xs ys hz
    cases hd
    obtain ⟨a,vs,rfl,qa,ra,_⟩:=rx.tuple sub
    obtain ⟨b,ws,rfl,qb,rb,_⟩:=ry.tuple sub
    have hz':vs.length + ws.length<=sizeLine:=by rw [ra.length,rb.length];exact ca (dW hz)
    have big:∀ p,H p=none->Q (.ref p) (upd H p (.tup (vs++ws))):=fun p hp=>q _ _ _ (.new sub hp) (.tuple bg ((ra.append rb).same (cK.new sub hp).sh))
    cases vs with
    | nil =>
     cases ra
     refine R4 pins s σ H _ _ v u Q I rv ru ⟨a,b,ws,rfl,rfl,qa,qb,?_⟩
     rcases ry with ry | ⟨_,_,_,_,_,ow⟩
     ·exact q _ H Hs (.refl sub) (by simpa using ry)
     ·cases ow
    | cons v0 vr =>
     refine QM pins s σ H _ _ v u Q I rv ru ⟨a,b,_,ws,rfl,rfl,qa,qb,by simp,hz',fun e=>?_,fun _=>big⟩
     subst e
     cases rb
     rcases rx with rx | ⟨_,_,_,_,_,ow⟩
     ·exact q _ H Hs (.refl sub) (by simpa using rx)
     ·cases ow
   ·cases hd
  ·split at hd
   ·rename_i xs ys hz
    cases hd
    obtain ⟨a,vs,rfl,qa,ra⟩:=rx.list sub
    obtain ⟨b,ws,rfl,qb,rb⟩:=ry.list sub
    have hz':vs.length + ws.length<=sizeLine:=by rw [ra.length,rb.length];exact ca (dW hz)
    exact R1 pins s σ H _ _ v u Q I rv ru ⟨a,b,vs,ws,rfl,rfl,qa,qb,hz',fun p hp=>q _ _ _ (.new sub hp) (.list (.of bg) ((ra.append rb).same (cK.new sub hp).sh))⟩
   ·cases hd
  ·cases hd
 ·unfold dZ
  split<;>(try split)<;>exact fun h=>by cases h
def H9 (C:Int->Int->Bool) (k:Int->Int->D):D->D->R D
 | .int i,.int j=>if C i j then .ok (k i j) else .no
 | _,_=>.no
theorem Ha {f:aa->aa->Sem aa}{C:Int->Int->Bool}{P:Int->Int->Prop}{k:Int->Int->D}{kv:Int->Int->V} (h:qD X f (rI P kv)) (hC:∀ i j,C i j=true->P i j) (hk:∀ Hs i j,RD X.K Hs (kv i j) (k i j)):xQ X f (H9 C k):=by
 refine ⟨fun pins s σ H x y v u Q I rv ru ⟨Hs,dx,dy,sub,rx,ry,d,hd,q⟩=>?_,fun x y c n=>?_⟩
 ·unfold H9 at hd
  split at hd
  ·split at hd
   ·rename_i hc
    cases hd
    exact h pins s σ H x y v u Q I rv ru ⟨_,_,rx.int,ry.int,hC _ _ hc,q _ H Hs (.refl sub) (hk _ _ _)⟩
   ·cases hd
  ·cases hd
 ·unfold H9
  split<;>(try split)<;>exact fun h=>by cases h
def Bu (i j:Int):Bool:=(decide (-(2 ^ 64)<i) && decide (i<2 ^ 64)) || (decide (-(2 ^ 64)<j) && decide (j<2 ^ 64))
def xR:=H9 Bu fun i j=>.int (i * j)
def KY:=H9 (fun _ j=>decide (0<j)) fun i j=>.int (i % j)
def Nw:=H9 (fun _ j=>decide (0<j) && decide (j<1073741824)) fun i j=>.int (i / j)
theorem qX:xQ X (gG .Mult) xR:=Ha U1 (fun i j h=>by
 unfold Bu at h
 simp only [jJ,aR,decide_eq_true_eq] at h
 exact h) fun _ _ _=>.int _
theorem CU:xQ X (gG .Mod) KY:=Ha U2 (fun i j h=>of_decide_eq_true h) fun _ _ _=>.int _
theorem R5:xQ X (gG .FloorDiv) Nw:=Ha QB (fun i j h=>by
 simp only [aR,decide_eq_true_eq] at h
 exact h) fun _ _ _=>.int _
def nZ (neg:Bool) (x y:D):R D:=if x.canLay0 && y.canLay0 && decide (min x.depth y.depth<=60) then .ok (.bool (if neg then !bn x y else bn x y)) else .no
mutual
theorem CV:∀ d:D,d.canLay0=true->qT d=true
 | .none,_=>rfl
 | .bool _,_=>rfl
 | .int _,_=>rfl
 | .str _,_=>rfl
 | .list xs,h=>by
  simp only [iN] at h
  simp only [qT]
  exact lays_noD xs h
 | .tuple xs,h=>by
  simp only [iN] at h
  simp only [qT]
  exact lays_noD xs h
 | .dict _,h=>by simp [iN] at h
theorem lays_noD:∀ d:List D,cF d=true->noDs d=true
 | [],_=>rfl
 | x::r,h=>by
  simp only [cF,aR] at h
  simp only [noDs,aR]
  exact ⟨CV x h.1,lays_noD r h.2⟩
end
theorem Nx  (h:qD X f (Um X.K neg)):xQ X f (nZ neg):=by
 refine ⟨fun pins s σ H x y v u Q I rv ru ⟨Hs,dx,dy,sub,rx,ry,d,hd,q⟩=>?_,fun x y c n=>?_⟩
 ·unfold nZ at hd
  split at hd
  ·rename_i hc
   simp only [aR,decide_eq_true_eq] at hc
   cases hd
   exact h pins s σ H x y v u Q I rv ru ⟨dx,dy,(rx.full sub).rep (CV _ hc.1.1),(ry.full sub).rep (CV _ hc.1.2),hc.1.1,hc.1.2,hc.2,q _ H Hs (.refl sub) (.bool _)⟩
  ·cases hd
 ·unfold nZ
  split<;>exact fun h=>by cases h
theorem qp (hu:X.A.units + 64<gT):xQ X (bO .Eq) (nZ false):=Nx (Uo hu)
theorem yT (hu:X.A.units + 64<gT):xQ X (bO .NotEq) (nZ true):=Nx (Uq hu)
def KZ (k:Int->Int->Bool) (t:Str->Str->Bool):D->D->R D
 | .int i,.int j=>.ok (.bool (k i j))
 | .str x,.str y=>.ok (.bool (t x y))
 | _,_=>.no
theorem Ny   (h1:qD X f (TX fun i j=>.bl (k i j))) (h2:qD X f (fun x y H Q=>∃ i j,x=.str i/\y=.str j/\Q (.bl (t i j)) H)):xQ X f (KZ k t):=by
 refine ⟨fun pins s σ H x y v u Q I rv ru ⟨Hs,dx,dy,sub,rx,ry,d,hd,q⟩=>?_,fun x y c n=>?_⟩
 ·unfold KZ at hd
  split at hd
  ·cases hd
   exact h1 pins s σ H x y v u Q I rv ru ⟨_,_,rx.int,ry.int,q _ H Hs (.refl sub) (.bool _)⟩
  ·cases hd
   exact h2 pins s σ H x y v u Q I rv ru ⟨_,_,rx.str,ry.str,q _ H Hs (.refl sub) (.bool _)⟩
  ·cases hd
 ·unfold KZ
  split<;>exact fun h=>by cases h
def AH:=KZ (fun i j=>decide (i<j)) qk
def Sv:=KZ (fun i j=>decide (i<=j)) fun x y=>!qk y x
def Sw:D->D->R D
 | .int i,.int j=>.ok (.bool (decide (j<i)))
 | _,_=>.no
theorem yU:xQ X (bO .Lt) AH:=Ny VC Kx
theorem Bv:xQ X (bO .LtE) Sv:=Ny VD KO
theorem IL:xQ X (bO .Gt) Sw:=by
 refine ⟨fun pins s σ H x y v u Q I rv ru ⟨Hs,dx,dy,sub,rx,ry,d,hd,q⟩=>?_,fun x y c n=>?_⟩
 ·unfold Sw at hd
  split at hd
  ·cases hd
   exact VE pins s σ H x y v u Q I rv ru ⟨_,_,rx.int,ry.int,q _ H Hs (.refl sub) (.bool _)⟩
  ·cases hd
 ·unfold Sw
  split<;>exact fun h=>by cases h
def Hb:D->Bool
 | .none=>true
 | _=>false
def Bw (neg:Bool):D->D->R D
 | x,.none=>.ok (.bool (if neg then !Hb x else Hb x))
 | _,_=>.no
theorem IM {K:a8}{H Hs:Hp}{v:V}{d:D} (h:RB K H Hs v d):decide (v=.non)=Hb d:=by
 rcases h with h | ⟨a,o,rfl,_,_,h⟩
 ·cases h<;>rfl
 ·cases h<;>rfl
theorem IN:xQ X (bO .Is) (Bw false):=by
 refine ⟨fun pins s σ H x y v u Q I rv ru ⟨Hs,dx,dy,sub,rx,ry,d,hd,q⟩=>?_,fun x y c n=>?_⟩
 ·unfold Bw at hd
  split at hd
  ·cases hd
   exact U4 pins s σ H x y v u Q I rv ru ⟨ry.non,by rw [IM rx];exact q _ H Hs (.refl sub) (.bool _)⟩
  ·cases hd
 ·unfold Bw
  split<;>exact fun h=>by cases h
theorem Ep:xQ X (bO .IsNot) (Bw true):=by
 refine ⟨fun pins s σ H x y v u Q I rv ru ⟨Hs,dx,dy,sub,rx,ry,d,hd,q⟩=>?_,fun x y c n=>?_⟩
 ·unfold Bw at hd
  split at hd
  ·cases hd
   exact QC pins s σ H x y v u Q I rv ru ⟨ry.non,by rw [IM rx];exact q _ H Hs (.refl sub) (.bool _)⟩
  ·cases hd
 ·unfold Bw
  split<;>exact fun h=>by cases h
def lN:D->Bool
 | .none=>true
 | .bool _=>true
 | .int _=>true
 | .str _=>true
 | _=>false
def Es (neg:Bool):D->D->R D
 | x,.list ys=>if lN x && ys.all lN then .ok (.bool (if neg then !(ys.any fun y=>bn y x) else ys.any fun y=>bn y x)) else .no
 | x,.tuple ys=>if lN x && ys.all lN then .ok (.bool (if neg then !(ys.any fun y=>bn y x) else ys.any fun y=>bn y x)) else .no
 | _,_=>.no
theorem IP {K:a8}{H:Hp}{v:V}{d:D} (h:RD K H v d) (f:lN d=true):qP v=true:=by
 cases h<;>first | rfl | cases f
theorem Et {K:a8}{H Hs:Hp}{v:V}{d:D} (h:RB K H Hs v d) (f:lN d=true):qP v=true:=by
 rcases h with h | ⟨a,o,rfl,_,_,h⟩
 ·exact IP h f
 ·cases h<;>cases f
theorem Eu {K:a8}{H:Hp}{vs:List V}:∀ {ds:List D},RDs K H vs ds->ds.all lN=true->vs.all qP=true:=by
 induction vs with
 | nil=>intro ds _ _;rfl
 | cons x r ih =>
  intro ds h f
  cases h with
  | cons h t =>
   rw [uT,aR] at f ⊢
   exact ⟨IP h f.1,ih t f.2⟩
theorem Ur {K:a8}{H H2 Hs:Hp}{v u:V}{d e:D} (h:RD K H v d) (h2:RB K H2 Hs u e) (f:lN d=true) (f2:lN e=true):QP v u=bn d e:=by
 have h2':RD K Hs u e:=by
  rcases h2 with h2 | ⟨a,o,rfl,_,_,h2⟩
  ·exact h2
  ·cases h2<;>cases f2
 cases h with
 | list _ _=>cases f
 | tuple _ _=>cases f
 | dictK _ _=>cases f
 | dictT _ _ _=>cases f
 | dictF _ _ _=>cases f
 | none=>cases h2'<;>first | rfl | cases f2
 | bool b=>cases h2'<;>first | rfl | cases f2
 | int i=>cases h2'<;>first | rfl | cases f2
 | str x=>cases h2'<;>first | rfl | cases f2
theorem Hc {K:a8}{H H2 Hs:Hp}{u:V}{e:D} (h2:RB K H2 Hs u e) (f2:lN e=true):∀ {vs:List V}{ds:List D},RDs K H vs ds->ds.all lN=true->Xm u vs=ds.any fun y=>bn y e
 | _,_,.nil,_=>rfl
 | _,_,.cons h t,f=>by
  rw [uT,aR] at f
  have:=Hc h2 f2 t f.2
  unfold Xm at this ⊢
  rw [dY,dY,this,Ur h h2 f.1 f2]
theorem Nz  (h:qD X f (Y6 X.K neg)):xQ X f (Es neg):=by
 refine ⟨fun pins s σ H x y v u Q I rv ru ⟨Hs,dx,dy,sub,rx,ry,d,hd,q⟩=>?_,fun x y c n=>?_⟩
 ·unfold Es at hd
  split at hd
  ·split at hd
   ·rename_i hc
    simp only [aR] at hc
    cases hd
    obtain ⟨b,ws,rfl,qb,rb⟩:=ry.list sub
    refine h pins s σ H _ _ v u Q I rv ru ⟨b,ws,rfl,.inl qb,Et rx hc.1,Eu rb hc.2,?_⟩
    rw [Hc rx hc.1 rb hc.2]
    exact q _ H Hs (.refl sub) (.bool _)
   ·cases hd
  ·split at hd
   ·rename_i hc
    simp only [aR] at hc
    cases hd
    obtain ⟨b,ws,rfl,qb,rb,_⟩:=ry.tuple sub
    refine h pins s σ H _ _ v u Q I rv ru ⟨b,ws,rfl,.inr qb,Et rx hc.1,Eu rb hc.2,?_⟩
    rw [Hc rx hc.1 rb hc.2]
    exact q _ H Hs (.refl sub) (.bool _)
   ·cases hd
  ·cases hd
 ·unfold Es
  split<;>(try split)<;>exact fun h=>by cases h
theorem Ev:xQ X (bO .In) (Es false):=Nz KB
theorem yV:xQ X (bO .NotIn) (Es true):=Nz Cv
end
end
end J
namespace J
open PySem L2
section
section
variable {c:C}{e a b:aZ}{g ga gb:aB->R D}{pos:Pos}
def Ew:D->D->R D
 | .list xs,.int i=>match DR xs i with
  | some d=>.ok d
  | none=>.no
 | .tuple xs,.int i=>match DR xs i with
  | some d=>.ok d
  | none=>.no
 | .str x,.int i=>if x.length<=1000 then (match DR x.cps.toList i with
  | some k=>.ok (.str ⟨#[k]⟩)
  | none=>.no) else .no
 | _,_=>.no
theorem IQ    (h:RDs K H vs ds)  (e:DR ds i=some d):∃ v,DR vs i=some v/\RD K H v d:=by
 unfold DR at e ⊢
 rw [h.length]
 cases hx:S8 ds.length i with
 | none=>rw [hx] at e;cases e
 | some j =>
  rw [hx] at e
  exact h.get' e
theorem Yi:VM X (rD X.K Ew):=by
 intro va sl pins s σ H x y v u Q I rv ru h
 obtain ⟨Hs,dx,dy,sub,rx,ry,d,hd,q⟩:=h
 unfold Ew at hd
 split at hd
 ·split at hd
  ·rename_i d' he
   cases hd
   obtain ⟨p,vs,rfl,qa,ra⟩:=rx.list sub
   obtain ⟨w,hw,rw'⟩:=IQ ra he
   exact rO va sl pins s σ H _ _ v u Q I rv ru ⟨p,vs,_,w,rfl,ry.int,qa,hw,q _ H Hs (.refl sub) rw'⟩
  ·cases hd
 ·split at hd
  ·rename_i d' he
   cases hd
   obtain ⟨p,vs,rfl,qa,ra,_⟩:=rx.tuple sub
   obtain ⟨w,hw,rw'⟩:=IQ ra he
   exact Uc va sl pins s σ H _ _ v u Q I rv ru ⟨p,vs,_,w,rfl,ry.int,qa,hw,q _ H Hs (.refl sub) rw'⟩
  ·cases hd
 ·split at hd
  ·rename_i hz
   split at hd
   ·rename_i k he
    cases hd
    exact Ud va sl pins s σ H _ _ v u Q I rv ru ⟨_,_,k,rx.str,ry.int,ca (dW hz),he,q _ H Hs (.refl sub) (.str _)⟩
   ·cases hd
  ·cases hd
 ·cases hd
theorem Us (x y:D) (c:Str) (n:Option D):Ew x y≠.ex c n:=by
 unfold Ew
 split<;>(try split)<;>(try split)<;>exact fun h=>by cases h
theorem W9 (ha:JB c a ga) (hb:JB c b gb) (hs:u_ b:=by exact fun _ _=>rfl):JE c (.Subscript a b pos) (g2 ga gb Ew):=.of fun ρ=>tm (S9 Yi (ha ρ) (hb ρ) hs) fun σ H Q q=>two Us q
def AI (ds:List D) (lo hi:Option Int):List D:=(ds.drop (HT.j6 ds.length 0 lo)).take (HT.j6 ds.length ds.length hi - HT.j6 ds.length 0 lo)
theorem IR    (h:RDs K H vs ds) (lo hi:Option Int):RDs K H (E2 vs lo hi) (AI ds lo hi):=by
 unfold E2 AI
 rw [h.length]
 exact (h.drop _).take _
def IS:D->Option Int->Option Int->R D
 | .list xs,lo,hi=>.ok (.list (AI xs lo hi))
 | .tuple xs,lo,hi=>.ok (.tuple (AI xs lo hi))
 | _,_,_=>.no
inductive Sx (K:a8) (x:V) (lo:Option Int) (hi:Option Int) (H:Hp) (Q:VK):Prop
 | mk (Hs dx:_) (h0:dD Hs H) (h1:RB K H Hs x dx) (h2:∃ d,IS dx lo hi=.ok d/\∀ v H' Hs',cK H Hs H' Hs'->RD K Hs' v d->Q v H'):Sx K x lo hi H Q
def Yj (K:a8):V->Option Int->Option Int->Hp->VK->Prop:=Sx K
theorem Yk {X:Cx}:VJ X (Yj X.K):=by
 intro pins s σ H x v vl vu lo hi sl Q I rx hs pl pu h
 obtain ⟨Hs,dx,sub,rb,d,hd,q⟩:=h
 unfold IS at hd
 split at hd
 ·cases hd
  obtain ⟨p,vs,rfl,qa,ra⟩:=rb.list sub
  exact QO pins s σ H _ v vl vu lo hi sl Q I rx hs pl pu ⟨p,vs,rfl,qa,fun l hl=>q _ _ _ (.new sub hl) (.list (.of bg) ((IR ra lo hi).same (cK.new sub hl).sh))⟩
 ·cases hd
  obtain ⟨p,vs,rfl,qa,ra,_⟩:=rb.tuple sub
  by_cases hw:HT.j6 vs.length 0 lo=0/\HT.j6 vs.length vs.length hi=vs.length
  ·refine Q_ pins s σ H _ v vl vu lo hi sl Q I rx hs pl pu ⟨p,vs,rfl,qa,hw,?_⟩
   rcases rb with rb | ⟨_,_,_,_,_,ow⟩
   ·refine q _ H Hs (.refl sub) ?_
    unfold AI
    rw [<- ra.length,hw.1,hw.2,ra.length]
    simpa using rb
   ·cases ow
  ·exact Ub pins s σ H _ v vl vu lo hi sl Q I rx hs pl pu ⟨p,vs,rfl,qa,hw,fun l hl=>q _ _ _ (.new sub hl) (.tuple bg ((IR ra lo hi).same (cK.new sub hl).sh))⟩
 ·cases hd
inductive Wa (K:a8) (cls:Str->ak) (E:XK) (ρ:aB) (r:R (Option Int)) (σ:St) (H:Hp) (Q:Option Int->Hp->Prop):Prop
 | mk (H0 Hs0:Hp) (la:Nat->Option ak) (Hs:Hp) (f:Fr K H0 Hs0 la ρ σ H Hs) (q:Fin K cls E H Hs r fun d=>∀ H' Hs',cK H Hs H' Hs'->Q d H'):Wa K cls E ρ r σ H Q
def Yl (K:a8) (cls:Str->ak) (E:XK) (ρ:aB) (r:R (Option Int)):TO:=Wa K cls E ρ r
structure JO (c:C) (e:Option aZ) (g:aB->R (Option Int)):Prop where of ::
 run:∀ ρ,PO c.X e (Yl c.X.K c.cls c.E ρ (g ρ))
instance {c:C}{e:Option aZ}{g:aB->R (Option Int)}:CoeFun (JO c e g) (fun _=>∀ ρ,PO c.X e (Yl c.X.K c.cls c.E ρ (g ρ))):=⟨JO.run⟩
theorem YU {X:Cx}{e:Option aZ}{t t':TO} (h:PO X e t) (m:∀ σ H Q,t' σ H Q->t σ H Q):PO X e t':=fun pins s σ H Q I q=>h pins s σ H Q I (m σ H Q q)
def Vj:aB->R (Option Int):=fun _=>.ok none
def R6 (g:aB->R D):aB->R (Option Int):=fun ρ=>(g ρ).bind fun d=>match d with
 | .int i=>.ok (some i)
 | _=>.no
theorem yk:JO c none Vj:=.of fun ρ=>YU QK fun σ H Q h_0=>by obtain ⟨H0,Hs0,la,Hs,f,q⟩:=h_0;exact q H Hs (.refl f.st.sub)
theorem rV (h:JE c e g):JO c (some e) (R6 g):=.of fun ρ=>YU (QL (h ρ)) fun σ H Q h_1=>by
 obtain ⟨H0,Hs0,la,Hs,f,q⟩:=h_1
 refine AG f q fun d v H1 Hs1 e1 s1 f1 r1=>?_
 unfold R6 at q
 rw [e1,bind_ok] at q
 cases r1 with
 | int i=>exact ⟨i,rfl,q H1 Hs1 s1⟩
 | _=>exact q.elim
theorem Wb {K:a8}{cls:Str->ak}{E:XK}{ρ:aB}{r:R (Option Int)}{β:Type}{k:Option Int->R β}{σ:St}{H:Hp}{H0 Hs0 Hs:Hp}{la:Nat->Option ak}{Q:Option Int->Hp->Prop}{q:β->Prop} (f:Fr K H0 Hs0 la ρ σ H Hs)
  (h:Fin K cls E H Hs (r.bind k) q) (m:∀ d H' Hs',r=.ok d->cK H Hs H' Hs'->Fr K H0 Hs0 la ρ σ H' Hs'->Q d H'):Yl K cls E ρ r σ H Q:=by
 refine ⟨H0,Hs0,la,Hs,f,?_⟩
 cases r with
 | ok d=>exact fun H' Hs' s=>m d H' Hs' rfl s (f.step s)
 | ex c n=>exact h
 | no=>exact h
def Sy (g:aB->R D) (gl gh:aB->R (Option Int)):aB->R D:=fun ρ=>(g ρ).bind fun x=>(gl ρ).bind fun l=>(gh ρ).bind fun h=>IS x l h
theorem qY {lo hi:Option aZ}{gl gh:aB->R (Option Int)}{p2:Pos} (he:JB c e g) (hl:JO c lo gl) (hh:JO c hi gh):JE c (.Subscript e (.Slice lo hi none p2) pos) (Sy g gl gh):=.of fun ρ=>tm (MT Yk (he ρ) (hl ρ) (hh ρ)) fun σ H Q h_2=>by
 obtain ⟨H0,Hs0,la,Hs,f,q⟩:=h_2
 refine one f q fun d v H1 Hs1 e1 s1 f1 r1=>?_
 unfold Sy at q
 rw [e1,bind_ok] at q
 refine Wb f1 (q.on s1 (q':=fun _=>True) fun _ _=>trivial) fun l H2 Hs2 e2 s2 f2=>?_
 rw [e2,bind_ok] at q
 refine Wb f2 (q.on (s1.trans s2) (q':=fun _=>True) fun _ _=>trivial) fun h H3 Hs3 e3 s3 f3=>?_
 rw [e3,bind_ok] at q
 cases hr:IS d l h with
 | ok z=>rw [hr] at q;exact ⟨Hs3,d,f3.st.sub,(r1.step s2).step s3,z,hr,fun w H4 Hs4 s4 r4=>q w H4 Hs4 (s1.trans (s2.trans (s3.trans s4))) r4⟩
 | ex c n=>unfold IS at hr;split at hr<;>cases hr
 | no=>rw [hr] at q;exact q.elim
inductive YV (K:a8) (h:List D->R D) (xs:List V) (H:Hp) (Q:VK):Prop
 | mk (Hs ds:_) (h0:dD Hs H) (h1:Sq K H Hs xs ds) (h2:∃ d,h ds=.ok d/\∀ v H' Hs',cK H Hs H' Hs'->RD K Hs' v d->Q v H'):YV K h xs H Q
def rC (K:a8) (h:List D->R D):List V->Hp->VK->Prop:=YV K h
def K_ (X:Cx) (f:aa) (h:List D->R D):Prop:=jz X f (rC X.K h)/\∀ x c n,h x≠.ex c n
def cb (gs:aB->R (List D)) (h:List D->R D):aB->R D:=fun ρ=>(gs ρ).bind h
theorem Sz {K:a8}{cls:Str->ak}{E:XK}{h:List D->R D}{gs:aB->R (List D)}{ρ:aB}{σ:St}{H:Hp}{Q:VK} (hx:∀ x c n,h x≠.ex c n) (q:TR K cls E ρ (cb gs h ρ) σ H Q):VH (rC K h) (Xt K cls E ρ (gs ρ)) σ H Q:=by
 obtain ⟨H0,Hs0,la,Hs,f,q⟩:=q
 refine Nt f q fun ds vs H1 Hs1 e1 s1 f1 r1=>?_
 unfold cb at q
 rw [e1,bind_ok] at q
 cases hr:h ds with
 | ok d =>
  rw [hr] at q
  exact ⟨Hs1,ds,f1.st.sub,r1,d,hr,fun w H3 Hs3 s3 r3=>q w H3 Hs3 (s1.trans s3) r3⟩
 | ex c n=>exact (hx ds c n hr).elim
 | no=>rw [hr] at q;exact q.elim
variable {es:List aZ}{gs:aB->R (List D)}{x:Str}{p:Pos}{id T:String}{h:List D->R D}
theorem bY (hc:K_ c.X (.builtin id) h) (hg:Gl c.X x) (hm:c.X.mg x=none) (hv:iF x=some (.builtin id)) (ha:Sr c (e::es) gs) (hn:x≠"__name__":=by decide) (hdb:(x == ("__debug__" : Str))=false:=by decide)
  (he:aO (e::es) c.X.env=(false,eE e c.X.env)::aO es c.X.env:=by rfl) (hpl:(jn pos (aO es c.X.env)).any (·.1)=false:=by rfl):JE c (.Call (.Name x p) (e::es) [] pos) (cb gs h):=.of fun ρ=>tm (uY hc.1 hg hm hv (ha ρ) hn hdb he hpl) fun σ H Q q=>Sz hc.2 q
theorem fu (hc:K_ c.X (.type T) h) (hg:Gl c.X x) (hm:c.X.mg x=none) (hv:iF x=some (.type T)) (ha:Sr c (e::es) gs) (hn:x≠"__name__":=by decide) (hdb:(x == ("__debug__" : Str))=false:=by decide)
  (he:aO (e::es) c.X.env=(false,eE e c.X.env)::aO es c.X.env:=by rfl) (hpl:(jn pos (aO es c.X.env)).any (·.1)=false:=by rfl):JE c (.Call (.Name x p) (e::es) [] pos) (cb gs h):=.of fun ρ=>tm (Bh hc.1 hg hm hv (ha ρ) hn hdb he hpl) fun σ H Q q=>Sz hc.2 q
end
end
section
section
variable {X:Cx}
theorem Sq.one    (h:Sq K H Hs xs [d]):∃ x,xs=[x]/\RB K H Hs x d:=by
 cases h with | cons a t=>cases t;exact ⟨_,rfl,a⟩
def iy (h:D->R D):List D->R D
 | [d]=>h d
 | _=>.no
theorem qZ  (hx:∀ d c n,h d≠.ex c n)
  (hr:∀ pins s σ H x u Q Hs d d',bX X pins σ H s->dq x u->dD Hs H->RB X.K H Hs x d->h d=.ok d'->(∀ v H' Hs',cK H Hs H' Hs'->RD X.K Hs' v d'->Q v H')->au (ax X.prog X.w) X.A (call f [u]) (EP X pins σ Q) X.xe s):K_ X f (iy h):=by
 refine ⟨fun pins s σ H xs us Q I r ⟨Hs,ds,sub,rb,d,hd,q⟩=>?_,fun x c n=>?_⟩
 ·unfold iy at hd
  split at hd
  ·obtain ⟨x,rfl,rx⟩:=rb.one
   obtain ⟨u,rfl,ru⟩:=l8 r
   exact hr pins s σ H x u Q Hs _ _ I ru sub rx hd q
  ·cases hd
 ·unfold iy
  split
  ·exact hx _ _ _
  ·exact fun h=>by cases h
def jg:D->R D
 | .list xs=>.ok (.int xs.length)
 | .tuple xs=>.ok (.int xs.length)
 | .str x=>if x.length<=1000 then .ok (.int x.length) else .no
 | _=>.no
theorem RDk.length   : ∀ {ds:List (D×D)},RDk K H vs ds->vs.length=ds.length:=by
 induction vs with
 | nil=>intro ds h;cases h;rfl
 | cons x r ih=>intro ds h;cases h with | cons a b=>exact congrArg (· + 1) (ih b)
theorem RDt.length  : ∀ {vs:List (List fQ×V)}{ds:List (D×D)},RDt K H vs ds->vs.length=ds.length
 | _,_,.nil=>rfl
 | _,_,.cons _ t=>by simp [RDt.length t]
theorem RB.dict    (sub:dD Hs H) (h:RB K H Hs v (.dict ds)):∃ a,v=.ref a/\((∃ kvs,H a=some (.dK kvs)/\RDk K Hs kvs ds)\/(∃ kvs,H a=some (.dT kvs)/\kvs≠[]/\RDt K Hs kvs ds)\/∃ o kvs es,ds=(.none,.none)::es/\H a=some (.frz o (.dT kvs))/\kvs≠[]/\RDt K Hs kvs es):=by
 rcases h with h | ⟨a,o,rfl,h2,h3,h4⟩
 ·cases h with
  | dictK q r=>exact ⟨_,rfl,.inl ⟨_,sub _ _ q,r⟩⟩
  | dictT q n r=>exact ⟨_,rfl,.inr (.inl ⟨_,sub _ _ q,n,r⟩)⟩
  | dictF q n r=>exact ⟨_,rfl,.inr (.inr ⟨_,_,_,rfl,sub _ _ q,n,r⟩)⟩
 ·cases h4 with
  | dK r=>exact ⟨a,rfl,.inl ⟨_,h2,r⟩⟩
  | dT n r=>exact ⟨a,rfl,.inr (.inl ⟨_,h2,n,r⟩)⟩
  | dF n r=>exact ⟨a,rfl,.inr (.inr ⟨_,_,_,rfl,h2,n,r⟩)⟩
theorem gK:K_ X (.builtin "len") (iy jg):=by
 refine qZ (fun d c n=>?_) fun pins s σ H x u Q Hs d d' I ru sub rx hd q=>?_
 ·unfold jg
  split<;>(try split)<;>exact fun h=>by cases h
 ·unfold jg at hd
  split at hd
  ·cases hd
   obtain ⟨a,vs,rfl,qa,ra⟩:=rx.list sub
   refine v6 pins s σ H _ _ Q I (.cons ru .nil) ⟨a,vs,rfl,.inl qa,?_⟩
   rw [ra.length]
   exact q _ H Hs (.refl sub) (.int _)
  ·cases hd
   obtain ⟨a,vs,rfl,qa,ra,_⟩:=rx.tuple sub
   refine v6 pins s σ H _ _ Q I (.cons ru .nil) ⟨a,vs,rfl,.inr qa,?_⟩
   rw [ra.length]
   exact q _ H Hs (.refl sub) (.int _)
  ·split at hd
   ·rename_i hz
    cases hd
    exact Cy pins s σ H _ _ Q I (.cons ru .nil) ⟨_,by rw [rx.str],ca (dW hz),q _ H Hs (.refl sub) (.int _)⟩
   ·cases hd
  ·cases hd
def CW (T:String) (d:D):Bool:=match T,d with
 | "str",.str _=>true
 | "int",.int _=>true
 | "int",.bool _=>true
 | "bool",.bool _=>true
 | "list",.list _=>true
 | "tuple",.tuple _=>true
 | _,_=>false
def wA (g:aB->R D) (T:String):aB->R D:=fun ρ=>(g ρ).bind fun d=>if qT d then .ok (.bool (CW T d)) else .no
theorem R7  (T:String) (hT:T="str"\/T="int"\/T="bool"\/T="list"\/T="tuple") (h:qT d=true):qG K (.type (Yg d)) (.type T)=some (CW T d):=by
 rcases hT with rfl | rfl | rfl | rfl | rfl<;>cases d<;>first | rfl | simp [qT] at h
theorem n_      (h:JB c e g) (hgi:Gl c.X "isinstance") (hi:c.X.mg "isinstance"=none) (hgT:Gl c.X T) (hT:c.X.mg T=none) (hv:iF T=some (.type Ts))
  (hTs:Ts="str"\/Ts="int"\/Ts="bool"\/Ts="list"\/Ts="tuple")
  (hn:T≠"__name__":=by decide) (hdb:(T == ("__debug__" : Str))=false:=by decide)
  (he:aO [e,.Name T p2] c.X.env=(false,eE e c.X.env)::aO [.Name T p2] c.X.env:=by rfl) (hpl:(jn pos (aO [.Name T p2] c.X.env)).any (·.1)=false:=by rfl) :
  JE c (.Call (.Name "isinstance" p) [e,.Name T p2] [] pos) (wA g Ts):=.of fun ρ=>by
 refine tm (uY Np hgi hi PyProof.Rows.boot_isinstance (iR (h ρ) (iR (Qx hgT hT hv (v:=.ty Ts) rfl hn hdb) kq) he) (by decide) (by decide) he hpl) fun σ H Q h_0=>?_
 obtain ⟨H0,Hs0,la,Hs,f,q⟩:=h_0
 refine one f q fun d v H1 Hs1 e1 s1 f1 r1=>?_
 unfold wA at q
 rw [e1,bind_ok] at q
 by_cases hd:qT d=true
 ·rw [if_pos hd] at q
  exact ⟨v,d,Ts,_,rfl,(r1.full f1.st.sub).rep hd,R7 Ts hTs hd,q _ H1 Hs1 s1 (.bool _)⟩
 ·rw [if_neg hd] at q;exact q.elim
def nr:List D->Option (List Bool)
 | []=>some []
 | .bool b::r=>(nr r).map (b::·)
 | _::_=>none
theorem CY:∀ {bs:List Bool},nr ds=some bs->ds=bs.map c9:=by
 induction ds with
 | nil=>intro bs h;cases h;rfl
 | cons d r ih =>
  intro bs h
  cases d with
  | bool b =>
   have h:(nr r).map (b::·)=some bs:=h
   cases hr:nr r with
   | none=>rw [hr] at h;cases h
   | some z=>rw [hr] at h;cases h;rw [ih hr];rfl
  | _=>cases h
def gX (k:List Bool->Bool):D->R D
 | .list ds=>match nr ds with
  | some bs=>.ok (.bool (k bs))
  | none=>.no
 | _=>.no
theorem Ex {id:String}{k:List Bool->Bool} (h:jz X (.builtin id) (fun xs H Q=>∃ p,∃ bs:List Bool,xs=[.ref p]/\ph X.K H p (bs.map V.bl)/\Q (.bl (k bs)) H)):K_ X (.builtin id) (iy (gX k)):=by
 refine qZ (fun d c n=>?_) fun pins s σ H x u Q Hs d d' I ru sub rx hd q=>?_
 ·unfold gX
  split<;>(try split)<;>exact fun h=>by cases h
 ·unfold gX at hd
  split at hd
  ·split at hd
   ·rename_i bs hb
    cases hd
    obtain ⟨a,vs,rfl,qa,ra⟩:=rx.list sub
    rw [CY hb] at ra
    rw [AE ra] at qa
    exact h pins s σ H _ _ Q I (.cons ru .nil) ⟨a,bs,rfl,qa,q _ H Hs (.refl sub) (.bool _)⟩
   ·cases hd
  ·cases hd
theorem pq (hc:X.calm=true):K_ X (.builtin "all") (iy (gX fun bs=>bs.all id)):=Ex (yO hc)
theorem Hd (hc:X.calm=true):K_ X (.builtin "any") (iy (gX fun bs=>bs.any id)):=Ex (yP hc)
def o0 (x:Str):List D:=x.cps.toList.map fun c=>aU ⟨#[c]⟩
theorem L0  (x:Str):RDs K H (yS x) (o0 x):=by
 unfold yS o0
 induction x.cps.toList with
 | nil=>exact .nil
 | cons a r ih=>exact .cons (.str _) ih
def io:D->R D
 | .list xs=>.ok (.tuple xs)
 | .tuple xs=>.ok (.tuple xs)
 | .str x=>if x.cps.size<=1000 then .ok (.tuple (o0 x)) else .no
 | _=>.no
theorem jh (hc:X.calm=true):K_ X (.type "tuple") (iy io):=by
 refine qZ (fun d c n=>?_) fun pins s σ H x u Q Hs d d' I ru sub rx hd q=>?_
 ·unfold io
  split<;>(try split)<;>exact fun h=>by cases h
 ·unfold io at hd
  split at hd
  ·cases hd
   obtain ⟨a,vs,rfl,qa,ra⟩:=rx.list sub
   exact tf pins s σ H _ _ Q I (.cons ru .nil) ⟨a,vs,rfl,.inl ⟨qa,fun l hl=>q _ _ _ (.new sub hl) (.tuple bg (ra.same (cK.new sub hl).sh))⟩⟩
  ·cases hd
   obtain ⟨a,vs,rfl,qa,ra,_⟩:=rx.tuple sub
   refine tf pins s σ H _ _ Q I (.cons ru .nil) ⟨a,vs,rfl,.inr ⟨qa,?_⟩⟩
   rcases rx with rx | ⟨_,_,_,_,_,ow⟩
   ·exact q _ H Hs (.refl sub) rx
   ·cases ow
  ·split at hd
   ·rename_i hz
    cases hd
    exact xP hc pins s σ H _ _ Q I (.cons ru .nil) ⟨_,by rw [rx.str],ca (dW hz),fun l hl=>q _ _ _ (.new sub hl) (.tuple bg (L0 _))⟩
   ·cases hd
  ·cases hd
def Bx:D->R D
 | .list xs=>.ok (.list xs)
 | .tuple xs=>.ok (.list xs)
 | _=>.no
theorem R8:K_ X (.type "list") (iy Bx):=by
 refine qZ (fun d c n=>?_) fun pins s σ H x u Q Hs d d' I ru sub rx hd q=>?_
 ·unfold Bx
  split<;>exact fun h=>by cases h
 ·unfold Bx at hd
  split at hd
  ·cases hd
   obtain ⟨a,vs,rfl,qa,ra⟩:=rx.list sub
   exact v7 pins s σ H _ _ Q I (.cons ru .nil) ⟨a,vs,rfl,.inl qa,fun l hl=>q _ _ _ (.new sub hl) (.list (.of bg) (ra.same (cK.new sub hl).sh))⟩
  ·cases hd
   obtain ⟨a,vs,rfl,qa,ra,_⟩:=rx.tuple sub
   exact v7 pins s σ H _ _ Q I (.cons ru .nil) ⟨a,vs,rfl,.inr qa,fun l hl=>q _ _ _ (.new sub hl) (.list (.of bg) (ra.same (cK.new sub hl).sh))⟩
  ·cases hd
def eV:List D->Option (List Str)
 | []=>some []
 | .str b::r=>(eV r).map (b::·)
 | _::_=>none
theorem nu:∀ {bs:List Str},eV ds=some bs->ds=bs.map aU:=by
 induction ds with
 | nil=>intro bs h;cases h;rfl
 | cons d r ih =>
  intro bs h
  cases d with
  | str b =>
   have h:(eV r).map (b::·)=some bs:=h
   cases hr:eV r with
   | none=>rw [hr] at h;cases h
   | some z=>rw [hr] at h;cases h;rw [ih hr];rfl
  | _=>cases h
@[simp] theorem strsOf_map:∀ bs:List Str,eV (bs.map aU)=some bs
 | []=>rfl
 | b::r=>by show (eV (r.map aU)).map (b::·)=_;rw [strsOf_map r];rfl
def rW:D->R D
 | .list ds=>match eV ds with
  | some ss=>if ss.length<64 then .ok (.list ((jP ss).map .str)) else .no
  | none=>.no
 | _=>.no
theorem L3:K_ X (.builtin "sorted") (iy rW):=by
 refine qZ (fun d c n=>?_) fun pins s σ H x u Q Hs d d' I ru sub rx hd q=>?_
 ·unfold rW
  split<;>(try split)<;>(try split)<;>exact fun h=>by cases h
 ·unfold rW at hd
  split at hd
  ·split at hd
   ·split at hd
    ·rename_i ss hs hz
     cases hd
     obtain ⟨a,vs,rfl,qa,ra⟩:=rx.list sub
     rw [nu hs] at ra
     rw [lR ra] at qa
     exact wz pins s σ H _ _ Q I (.cons ru .nil) ⟨a,ss,rfl,qa,hz,fun l hl=>q _ _ _ (.new sub hl) (.list (.of bg) (vh _))⟩
    ·cases hd
   ·cases hd
  ·cases hd
end
end
section
inductive Wc (K:a8) (cls:Str->ak) (n:Nat) (F:List D->R D) (vs:List V) (H:Hp) (Q:VK) (E:XK):Prop
 | mk (Hs ds:_) (h0:dD Hs H) (h1:ds.length=n) (h2:RDs K Hs vs ds) (h3:Fin K cls E H Hs (F ds) fun d=>∀ v H' Hs',cK H Hs H' Hs'->RD K Hs' v d->Q v H'):Wc K cls n F vs H Q E
def SA (K:a8) (cls:Str->ak) (n:Nat) (F:List D->R D):Sp:=Wc K cls n F
structure Fn (P:aK) (w:bc) (K:a8) (mg:Str->Option aa) (base:bF) (cls:Str->ak) (x:Str) (k n:Nat) (F:List D->R D):Prop where
 ex:∃ f fd ps,sQ P w K mg base (qm P w) k f fd ps (SA K cls n F)/\mg x=some (.ref f)/\fA K (.ref f)=true/\lM K fd ps []
section
variable {c:C}{e a b:aZ}{g ga gb:aB->R D}{pos:Pos}{es:List aZ}{gs:aB->R (List D)}{x:Str}{p:Pos}
def eR (n:Nat) (F:List D->R D) (gs:aB->R (List D)):aB->R D:=fun ρ=>(gs ρ).bind fun ds=>if ds.length=n then F ds else .no
theorem R9  (G:Fn c.X.prog c.X.w c.X.K c.X.mg c.X.base c.cls x k n F) (hr:lG k c.X.A) (hg:Gl c.X x) (hx:tZ (qm c.X.prog c.X.w) c.X c.E) (ha:IK c (e::es) gs)
  (hdb:(x == ("__debug__" : Str))=false:=by decide) (he:aO (e::es) c.X.env=(false,eE e c.X.env)::aO es c.X.env:=by rfl) (hpl:(jn pos (aO es c.X.env)).any (·.1)=false:=by rfl) :
  JE c (.Call (.Name x p) (e::es) [] pos) (eR n F gs):=.of fun ρ=>by
 obtain ⟨f,fd,ps,hf,hm,hk,hb⟩:=G.ex
 refine tm (QH (E:=c.E) hf hr hg hm hk hb .nil hx (ha ρ) hdb he hpl) fun σ H Q h_0=>?_
 obtain ⟨H0,Hs0,la,Hs,fr,q⟩:=h_0
 refine GZ fr q fun ds vs H1 Hs1 e1 s1 f1 r1=>?_
 unfold eR at q
 rw [e1,bind_ok] at q
 by_cases hn:ds.length=n
 ·rw [if_pos hn] at q
  show SA _ _ _ _ (vs++[]) _ _ _
  rw [cO]
  exact ⟨Hs1,ds,f1.st.sub,hn,r1,q.on s1 fun d k v H2 Hs2 s2 r2=>k v H2 Hs2 (s1.trans s2) r2⟩
 ·rw [if_neg hn] at q;exact q.elim
end
inductive Fl where
 | nx (ρ:aB)
 | rt (d:D)
 | bk (ρ:aB)
 | ct (ρ:aB)
def oG (K:a8) (cls:Str->ak) (E:XK) (H0 Hs0:Hp) (la:Nat->Option ak) (D:Cm) (r:R Fl):Prop:=match r with
 | .ok (.nx ρ')=>∀ σ' H' Hs',Fr K H0 Hs0 la ρ' σ' H' Hs'->D.nx σ' H'
 | .ok (.bk ρ')=>∀ σ' H' Hs',Fr K H0 Hs0 la ρ' σ' H' Hs'->D.bk σ' H'
 | .ok (.ct ρ')=>∀ σ' H' Hs',Fr K H0 Hs0 la ρ' σ' H' Hs'->D.ct σ' H'
 | .ok (.rt d)=>∀ v H' Hs',cK H0 Hs0 H' Hs'->RD K Hs' v d->D.rt v H'
 | .ex c n=>∀ H' Hs',cK H0 Hs0 H' Hs'->XW K cls E c n H' Hs'
 | .no=>False
inductive YW (K:a8) (cls:Str->ak) (E:XK) (ρ:aB) (r:R Fl) (D:Cm) (σ:St) (H:Hp):Prop
 | mk (H0 Hs0:Hp) (la:Nat->Option ak) (Hs:Hp) (f:Fr K H0 Hs0 la ρ σ H Hs) (q:oG K cls E H0 Hs0 la D r):YW K cls E ρ r D σ H
def SR (K:a8) (cls:Str->ak) (E:XK) (ρ:aB) (r:R Fl):TS:=YW K cls E ρ r
structure JS (c:C) (s:c_) (g:aB->R Fl):Prop where of ::
 run:∀ ρ,PS c.X s (SR c.X.K c.cls c.E ρ (g ρ))
instance {c:C}{s:c_}{g:aB->R Fl}:CoeFun (JS c s g) (fun _=>∀ ρ,PS c.X s (SR c.X.K c.cls c.E ρ (g ρ))):=⟨JS.run⟩
structure IT (c:C) (s:List c_) (g:aB->R Fl):Prop where of ::
 run:∀ ρ,IA c.X s (SR c.X.K c.cls c.E ρ (g ρ))
instance {c:C}{s:List c_}{g:aB->R Fl}:CoeFun (IT c s g) (fun _=>∀ ρ,IA c.X s (SR c.X.K c.cls c.E ρ (g ρ))):=⟨IT.run⟩
theorem Fr.set     (f:Fr K H0 Hs0 la ρ σ H Hs) (i:Nat)  (r:RD K Hs v d):Fr K H0 Hs0 la (ρ.set i (.shr d)) (σ.set i (some v)) H Hs:=by
 have hl:=f.len
 have nx:∀ {j:Nat}{s:Sl},(∀ d,s≠.shr d)->(ρ.set i (.shr d))[j]?=some s->ρ[j]?=some s/\i≠j:=fun {j s} hs e=>by
  by_cases hj:i=j
  ·subst hj
   by_cases hi:i<ρ.length
   ·rw [aG hi] at e;exact absurd (bM e).symm (hs d)
   ·rw [cB (by simpa using hi)] at e;cases e
  ·rw [al hj] at e;exact ⟨e,hj⟩
 refine ⟨f.st,by simp [hl],fun j e h=>?_,fun j e h=>?_,fun j e h=>?_,fun j k d1 d2 a h1 h2 h3 h4=>?_,f.lh,fun j e h=>?_,fun j k d1 d2 h1 h2=>?_⟩
 ·by_cases hj:i=j
  ·subst hj
   by_cases hi:i<ρ.length
   ·rw [aG hi] at h
    cases h
    exact ⟨v,aG (by omega),r⟩
   ·rw [cB (by simpa using hi)] at h;cases h
  ·rw [al hj] at h ⊢
   exact f.sh j e h
 ·obtain ⟨h,hj⟩:=nx (fun _ z=>by cases z) h
  rw [al hj]
  exact f.ow j e h
 ·obtain ⟨h,hj⟩:=nx (fun _ z=>by cases z) h
  rw [al hj]
  exact f.lk j e h
 ·obtain ⟨h1,n1⟩:=nx (fun _ z=>by cases z) h1
  obtain ⟨h2,n2⟩:=nx (fun _ z=>by cases z) h2
  rw [al n1] at h3
  rw [al n2] at h4
  exact f.dj j k d1 d2 a h1 h2 h3 h4
 ·obtain ⟨h,hj⟩:=nx (fun _ z=>by cases z) h
  obtain ⟨a,as,O⟩:=f.o2 j e h
  refine ⟨a,as,by rw [al hj];exact O.at_,O.ob,O.nd,O.out,fun b hb k e' hk=>?_,O.inn⟩
  obtain ⟨hk,nk⟩:=nx (fun _ z=>by cases z) hk
  rw [al nk]
  exact O.dj b hb k e' hk
 ·exact f.u2 j k d1 d2 (nx (fun _ z=>by cases z) h1).1 (nx (fun _ z=>by cases z) h2).1
theorem Fr.setO     (f:Fr K H0 Hs0 la ρ σ H Hs) (i:Nat)   (n:H a=none) (r:n5 K Hs o d):Fr K H0 Hs0 la (ρ.set i (.own d)) (σ.set i (some (.ref a))) (upd H a o) Hs:=by
 have f':=f.step (cK.mine (o:=o) f.st.sub n)
 have hl:=f.len
 have n0:H0 a=none:=f.st.all.free n
 have ns:Hs a=none:=f.st.sub.free n
 have nx:∀ {j:Nat}{s:Sl},(∀ d,s≠.own d)->(ρ.set i (.own d))[j]?=some s->ρ[j]?=some s/\i≠j:=fun {j s} hs e=>by
  by_cases hj:i=j
  ·subst hj
   by_cases hi:i<ρ.length
   ·rw [aG hi] at e;exact absurd (bM e).symm (hs d)
   ·rw [cB (by simpa using hi)] at e;cases e
  ·rw [al hj] at e;exact ⟨e,hj⟩
 have ne:∀ j e,ρ[j]?=some (Sl.own e)->σ[j]?≠some (some (V.ref a)):=fun j e h z=>by
  obtain ⟨b,o',h1,h2,_⟩:=f.ow j e h
  rw [z] at h1
  cases h1
  rw [n] at h2;cases h2
 refine ⟨f'.st,by simp [hl],fun j e h=>?_,fun j e h=>?_,fun j e h=>?_,fun j k d1 d2 b h1 h2 h3 h4=>?_,f.lh,fun j e h=>?_,fun j k d1 d2 h1 h2=>?_⟩
 ·obtain ⟨h,hj⟩:=nx (fun _ z=>by cases z) h
  rw [al hj]
  exact f'.sh j e h
 ·by_cases hj:i=j
  ·subst hj
   by_cases hi:i<ρ.length
   ·rw [aG hi] at h
    cases h
    exact ⟨a,o,aG (by omega),bg,ns,n0,r⟩
   ·rw [cB (by simpa using hi)] at h;cases h
  ·rw [al hj] at h ⊢
   exact f'.ow j e h
 ·obtain ⟨h,hj⟩:=nx (fun _ z=>by cases z) h
  rw [al hj]
  exact f'.lk j e h
 ·by_cases hj:i=j
  ·by_cases hk:i=k
   ·exact hj.symm.trans hk
   ·rw [al hk] at h2 h4
    subst hj
    by_cases hi:i<ρ.length
    ·rw [aG (by omega)] at h3
     cases h3
     exact (ne k d2 h2 h4).elim
    ·rw [cB (by simpa using hi)] at h1;cases h1
  ·rw [al hj] at h1 h3
   by_cases hk:i=k
   ·subst hk
    by_cases hi:i<ρ.length
    ·rw [aG (by omega)] at h4
     cases h4
     exact (ne j d1 h1 h3).elim
    ·rw [cB (by simpa using hi)] at h2;cases h2
   ·rw [al hk] at h2 h4
    exact f.dj j k d1 d2 b h1 h2 h3 h4
 ·obtain ⟨h,hj⟩:=nx (fun _ z=>by cases z) h
  obtain ⟨b,as,O⟩:=f.o2 j e h
  have nb:∀ c∈b::as,c≠a:=fun c hc z=>by
   subst z
   rcases List.mem_cons.mp hc with z | z
   ·have:=O.ob;rw [<- z,n] at this;cases this
   ·obtain ⟨o,ho,_⟩:=O.inn.there z;rw [n] at ho;cases ho
  refine ⟨b,as,by rw [al hj];exact O.at_,by rw [bi (nb b am)];exact O.ob,O.nd,O.out,fun c hc k e' hk=>?_,O.inn.upd fun z=>nb a (ah _ z) rfl⟩
  by_cases nk:i=k
  ·subst nk
   intro z
   by_cases hi:i<ρ.length
   ·rw [aG (by omega)] at z
    cases z
    exact nb _ hc rfl
   ·rw [cB (by simp;omega)] at hk;cases hk
  ·rw [al nk] at hk ⊢
   exact O.dj c hc k e' hk
 ·exact f.u2 j k d1 d2 (nx (fun _ z=>by cases z) h1).1 (nx (fun _ z=>by cases z) h2).1
theorem Fr.write     (f:Fr K H0 Hs0 la ρ σ H Hs) (i:Nat)   (hi:ρ[i]?=some (Sl.own d)) (hs:σ[i]?=some (some (V.ref a))) (r:n5 K Hs o d'):Fr K H0 Hs0 la (ρ.set i (.own d')) σ (upd H a o) Hs:=by
 obtain ⟨a',o',h1,h2,h3,h4,h5⟩:=f.ow i d hi
 rw [hs] at h1
 cases h1
 have hl:=f.len
 have hil:i<ρ.length:=(List.getElem?_eq_some_iff.mp hi).1
 have nx:∀ {j:Nat}{s:Sl},(∀ d,s≠.own d)->(ρ.set i (.own d'))[j]?=some s->ρ[j]?=some s/\i≠j:=fun {j s} hs e=>by
  by_cases hj:i=j
  ·subst hj
   rw [aG hil] at e;exact absurd (bM e).symm (hs d')
  ·rw [al hj] at e;exact ⟨e,hj⟩
 refine ⟨⟨fun b u e=>?_,f.st.sh,fun b u e=>?_,f.st.out⟩,by simp [hl],fun j e h=>?_,fun j e h=>?_,fun j e h=>?_,fun j k d1 d2 b h1 h2 h3 h4=>?_,f.lh,fun j e h=>?_,fun j k d1 d2 h1 h2=>?_⟩
 ·rw [bi (bZ e h4)];exact f.st.all b u e
 ·rw [bi (bZ e h3)];exact f.st.sub b u e
 ·obtain ⟨h,hj⟩:=nx (fun _ z=>by cases z) h
  exact f.sh j e h
 ·by_cases hj:i=j
  ·subst hj
   rw [aG hil] at h
   cases h
   exact ⟨a,o,hs,bg,h3,h4,r⟩
  ·rw [al hj] at h
   obtain ⟨b,u,k1,k2,k3,k4,k5⟩:=f.ow j e h
   refine ⟨b,u,k1,?_,k3,k4,k5⟩
   rw [bi (fun z=>hj ?_)]
   ·exact k2
   ·subst z
    exact f.dj i j d e b hi h hs k1
 ·obtain ⟨h,hj⟩:=nx (fun _ z=>by cases z) h
  obtain ⟨b,u,k1,k2,k3,k4,k5,k6⟩:=f.lk j e h
  refine ⟨b,u,k1,k2,?_,k4,k5,k6⟩
  rw [bi (bZ k5 h4)]
  exact k3
 ·have own:∀ {j:Nat}{e:D},(ρ.set i (.own d'))[j]?=some (Sl.own e)->∃ e',ρ[j]?=some (Sl.own e'):=fun {j e} h=>by
   by_cases hj:i=j
   ·subst hj;exact ⟨d,hi⟩
   ·rw [al hj] at h;exact ⟨e,h⟩
  obtain ⟨e1,h1⟩:=own h1
  obtain ⟨e2,h2⟩:=own h2
  exact f.dj j k e1 e2 b h1 h2 h3 h4
 ·obtain ⟨h,hj⟩:=nx (fun _ z=>by cases z) h
  obtain ⟨b,as,O⟩:=f.o2 j e h
  have nb:∀ c∈b::as,c≠a:=fun c hc z=>by
   subst z
   exact O.dj c hc i d hi hs
  refine ⟨b,as,O.at_,by rw [bi (nb b am)];exact O.ob,O.nd,O.out,fun c hc k e' hk=>?_,O.inn.upd fun z=>nb a (ah _ z) rfl⟩
  by_cases nk:i=k
  ·subst nk
   exact O.dj c hc i d hi
  ·rw [al nk] at hk
   exact O.dj c hc k e' hk
 ·exact f.u2 j k d1 d2 (nx (fun _ z=>by cases z) h1).1 (nx (fun _ z=>by cases z) h2).1
def fE (ρ:aB):aB:=ρ.map fun s=>match s with
 | .own d=>.shr d
 | .ow2 dss=>.shr (.list (dss.map .list))
 | s=>s
open Classical in
theorem Fr.share     (f:Fr K H0 Hs0 la ρ σ H Hs):∃ Hs',Fr K H0 Hs0 la (fE ρ) σ H Hs'/\cK H Hs H Hs'\/Fr K H0 Hs0 la (fE ρ) σ H Hs':=by
 let P:ak->Prop:=fun b=>(∃ (i:Nat) (d:D),ρ[i]?=some (Sl.own d)/\σ[i]?=some (some (V.ref b)))\/∃ (i:Nat) (dss:List (List D)) (a:ak) (as:List ak),ρ[i]?=some (Sl.ow2 dss)/\O2 K H0 H Hs ρ σ i dss a as/\b∈a::as
 let Hs':Hp:=fun b=>if P b then H b else Hs b
 have pos:∀ b,P b->Hs' b=H b:=fun b h=>if_pos h
 have neg:∀ b,¬ P b->Hs' b=Hs b:=fun b h=>if_neg h
 have up:dD Hs Hs':=fun b o e=>by
  by_cases h:P b
  ·rw [pos b h];exact f.st.sub b o e
  ·rw [neg b h];exact e
 have none0:∀ b o,H0 b=some o->¬ P b:=fun b o e hP=>by
  rcases hP with ⟨i,d,h1,h2⟩ | ⟨i,dss,a,as,h1,O,hb⟩
  ·obtain ⟨a,o',k1,_,_,k4,_⟩:=f.ow i d h1
   rw [h2] at k1;cases k1
   rw [e] at k4;cases k4
  ·have:=(O.out b hb).2
   rw [e] at this;cases this
 have un:∀ {j:Nat}{s:Sl},(fE ρ)[j]?=some s->(∃ d,s=.shr d/\ρ[j]?=some (Sl.own d))\/(∃ dss:List (List D),s=.shr (.list (dss.map .list))/\ρ[j]?=some (Sl.ow2 dss))\/((∀ d,s≠.own d)/\(∀ d,s≠.ow2 d)/\ρ[j]?=some s):=fun {j s} e=>by
  unfold fE at e
  rw [aT] at e
  cases h:ρ[j]? with
  | none=>rw [h] at e;cases e
  | some t =>
   rw [h] at e
   cases t with
   | own d=>cases e;exact .inl ⟨d,rfl,rfl⟩
   | no=>cases e;exact .inr (.inr ⟨fun _ z=>(by cases z),fun _ z=>(by cases z),rfl⟩)
   | shr d=>cases e;exact .inr (.inr ⟨fun _ z=>(by cases z),fun _ z=>(by cases z),rfl⟩)
   | lck d=>cases e;exact .inr (.inr ⟨fun _ z=>(by cases z),fun _ z=>(by cases z),rfl⟩)
   | ow2 d=>cases e;exact .inr (.inl ⟨d,rfl,rfl⟩)
 refine ⟨Hs',.inr ⟨⟨f.st.all,f.st.sh.trans up,fun b o e=>?_,fun a o e t z=>?_⟩,by simp [fE,f.len],fun j d h=>?_,fun j d h=>?_,fun j d h=>?_,fun j k d1 d2 a h1 h2 _ _=>?_,f.lh,fun j d h=>?_,fun j k d1 d2 h1 h2=>?_⟩⟩
 ·by_cases h:P b
  ·rw [pos b h] at e;exact e
  ·rw [neg b h] at e;exact f.st.sub b o e
 ·rw [neg a (none0 a o e)];exact f.st.out a o e t z
 ·rcases un h with ⟨d',e,h'⟩ | ⟨dss,e,h'⟩ | ⟨_,_,h'⟩
  ·cases e
   obtain ⟨a,o,k1,k2,k3,k4,k5⟩:=f.ow j d h'
   refine ⟨_,k1,?_⟩
   have hp:Hs' a=some o:=by rw [pos a (.inl ⟨j,d,h',k1⟩)];exact k2
   have e:dD (upd Hs a o) Hs':=fun b u q=>by
    by_cases hb:b=a
    ·subst hb;rw [bg] at q;cases q;exact hp
    ·rw [bi hb] at q;exact up b u q
   exact (k5.share k3).same e
  ·cases e
   obtain ⟨a,as,O⟩:=f.o2 j dss h'
   refine ⟨_,O.at_,?_⟩
   have hp:∀ b∈a::as,∀ o,H b=some o->Hs' b=some o:=fun b hb o ho=>by rw [pos b (.inr ⟨j,dss,a,as,h',O,hb⟩)];exact ho
   refine .list (.of (hp a am _ O.ob)) ?_
   have go:∀ {as':List ak}{dss':List (List D)},(∀ b∈as',b∈a::as)->Br K H Hs as' dss'->RDs K Hs' (as'.map V.ref) (dss'.map .list):=fun {as' dss'} hs hi=>by
    induction hi with
    | nil=>exact .nil
    | cons h1 h2 _ ih=>exact .cons (.list (.of (hp _ (hs _ am) _ h1)) (h2.same up)) (ih fun b hb=>hs b (ah _ hb))
   exact go (fun b hb=>ah _ hb) O.inn
  ·obtain ⟨v,k1,k2⟩:=f.sh j d h'
   exact ⟨v,k1,k2.same up⟩
 ·rcases un h with ⟨d',e,h'⟩ | ⟨d',e,h'⟩ | ⟨n,_,h'⟩
  ·cases e
  ·cases e
  ·exact (n d rfl).elim
 ·rcases un h with ⟨d',e,h'⟩ | ⟨d',e,h'⟩ | ⟨_,_,h'⟩
  ·cases e
  ·cases e
  ·obtain ⟨a,o,k1,k2,k3,k4,k5,k6⟩:=f.lk j d h'
   exact ⟨a,o,k1,k2,k3,by rw [neg a (none0 a o k5)];exact k4,k5,k6.same up⟩
 ·rcases un h1 with ⟨d',e,h'⟩ | ⟨d',e,h'⟩ | ⟨n,_,h'⟩
  ·cases e
  ·cases e
  ·exact (n d1 rfl).elim
 ·rcases un h with ⟨d',e,h'⟩ | ⟨d',e,h'⟩ | ⟨_,n,h'⟩
  ·cases e
  ·cases e
  ·exact (n d rfl).elim
 ·rcases un h1 with ⟨d',e,h'⟩ | ⟨d',e,h'⟩ | ⟨_,n,h'⟩
  ·cases e
  ·cases e
  ·exact (n d1 rfl).elim
theorem Fr.shared     (f:Fr K H0 Hs0 la ρ σ H Hs):∃ Hs',Fr K H0 Hs0 la (fE ρ) σ H Hs':=by
 obtain ⟨Hs',h | h⟩:=f.share
 ·exact ⟨Hs',h.1⟩
 ·exact ⟨Hs',h⟩
section
variable {c:C}{e a b:aZ}{g ga gb:aB->R D}{pos:Pos}{x:Str}{st:c_}{c6:List c_}{gs gr:aB->R Fl}
def aY (g h:aB->R Fl):aB->R Fl:=fun ρ=>(g ρ).bind fun fl=>match fl with
 | .nx ρ'=>h ρ'
 | fl=>.ok fl
theorem cE:IT c [] (fun ρ=>.ok (.nx ρ)):=.of fun ρ=>Yh Qz fun D σ H h_1=>by obtain ⟨H0,Hs0,la,Hs,f,q⟩:=h_1;exact q σ H Hs f
theorem aJ (h:JS c st gs):IT c [st] gs:=.of fun ρ=>QA (h ρ)
theorem aA (h:JS c st gs) (hr:IT c c6 gr):IT c (st::c6) (aY gs gr):=.of fun ρ pins s σ H D I h_2=>by
 obtain ⟨H0,Hs0,la,Hs,f,q⟩:=h_2
 unfold aY at q
 cases hg:gs ρ with
 | no=>rw [hg] at q;exact q.elim
 | ex x n =>
  rw [hg] at q
  refine qM (h ρ) (rL (X:=c.X) (sts:=c6)) pins s σ H D I ⟨H0,Hs0,la,Hs,f,?_⟩
  rw [hg]
  exact q
 | ok fl =>
  rw [hg,bind_ok] at q
  cases fl with
  | nx ρ' =>
   refine qM (h ρ) (hr ρ') pins s σ H D I ⟨H0,Hs0,la,Hs,f,?_⟩
   rw [hg]
   exact fun σ' H' Hs' f'=>⟨H0,Hs0,la,Hs',f',q⟩
  | rt d =>
   refine qM (h ρ) (rL (X:=c.X) (sts:=c6)) pins s σ H D I ⟨H0,Hs0,la,Hs,f,?_⟩
   rw [hg]
   exact q
  | bk ρ' =>
   refine qM (h ρ) (rL (X:=c.X) (sts:=c6)) pins s σ H D I ⟨H0,Hs0,la,Hs,f,?_⟩
   rw [hg]
   exact q
  | ct ρ' =>
   refine qM (h ρ) (rL (X:=c.X) (sts:=c6)) pins s σ H D I ⟨H0,Hs0,la,Hs,f,?_⟩
   rw [hg]
   exact q
theorem sE            (f:Fr K H0 Hs0 la ρ σ H Hs)
  (h:oG K cls E H0 Hs0 la D' (r.bind k)) (m:∀ d v H' Hs',r=.ok d->cK H Hs H' Hs'->Fr K H0 Hs0 la ρ σ H' Hs'->RD K Hs' v d->Q v H'):TR K cls E ρ r σ H Q:=by
 refine ⟨H0,Hs0,la,Hs,f,?_⟩
 cases r with
 | ok d=>exact fun v H' Hs' s r=>m d v H' Hs' rfl s (f.step s) r
 | ex c n=>exact fun H' Hs' s=>h H' Hs' (f.st.trans s)
 | no=>exact h
theorem sT            (f:Fr K H0 Hs0 la ρ σ H Hs)
  (h:oG K cls E H0 Hs0 la D' (r.bind k)) (m:∀ d H' Hs',r=.ok d->cK H Hs H' Hs'->Fr K H0 Hs0 la ρ σ H' Hs'->Q d H'):KS K cls E ρ r σ H Q:=by
 refine ⟨H0,Hs0,la,Hs,f,?_⟩
 cases r with
 | ok d=>exact fun H' Hs' s=>m d H' Hs' rfl s (f.step s)
 | ex c n=>exact fun H' Hs' s=>h H' Hs' (f.st.trans s)
 | no=>exact h
def db (g:aB->R D):aB->R Fl:=fun ρ=>(g (fE ρ)).bind fun d=>.ok (.rt d)
theorem bC (h:JE c e g):JS c (.Return (some e) pos) (db g):=.of fun ρ=>AF (TM (h (fE ρ))) fun D σ H h_3=>by
 obtain ⟨H0,Hs0,la,Hs,f,q⟩:=h_3
 obtain ⟨Hs',f'⟩:=f.shared
 refine sE f' q fun d v H1 Hs1 e1 s1 f1 r1=>?_
 unfold db at q
 rw [e1,bind_ok] at q
 exact q v H1 Hs1 f1.st r1
def eY (t:aB->R Bool) (g h:aB->R Fl):aB->R Fl:=fun ρ=>(t ρ).bind fun b=>if b then g ρ else h ρ
theorem eZ    (ht:JT c t gt) (hA:IT c A gA) (hB:IT c B gB):JS c (.If t A B pos) (eY gt gA gB):=.of fun ρ=>AF (Vv (ht ρ) (hA ρ) (hB ρ)) fun D σ H h_5=>by
 obtain ⟨H0,Hs0,la,Hs,f,q⟩:=h_5
 refine sT f q fun d H1 Hs1 e1 s1 f1=>?_
 unfold eY at q
 rw [e1,bind_ok] at q
 cases d with
 | true=>exact CA ⟨H0,Hs0,la,Hs1,f1,q⟩
 | false=>exact Cz ⟨H0,Hs0,la,Hs1,f1,q⟩
def gY (i:Nat) (g:aB->R D):aB->R Fl:=fun ρ=>(g ρ).bind fun d=>.ok (.nx (ρ.set i (.shr d)))
theorem ef (i:Nat) (h:JE c e g) (hN:c.X.N.Nodup) (hi:c.X.N[i]?=some x:=by rfl) (hx:S0 c.X.env.scope x:=by first | exact j9 rfl | exact fK rfl) (hs:ij e (some (.Name x pos')) pos.line c.X.env=pure false:=by rfl)
  (hf:c.X.fn x=true\/c.X.env.scope.names.lookup x=some .local:=by first | exact .inl rfl | exact .inr rfl | assumption):JS c (.Assign [.Name x pos'] e pos) (gY i g):=.of fun ρ=>AF (GG hN hi hx (h ρ) hs hf) fun D σ H h_6=>by
 obtain ⟨H0,Hs0,la,Hs,f,q⟩:=h_6
 refine sE f q fun d v H1 Hs1 e1 s1 f1 r1=>?_
 unfold gY at q
 rw [e1,bind_ok] at q
 exact q _ H1 Hs1 (f1.set i r1)
def tw (g:aB->R D):aB->R Fl:=fun ρ=>(g ρ).bind fun _=>.ok (.nx ρ)
theorem pv (h:JE c e g) (hs:ij e none pos.line c.X.env=pure false:=by rfl):JS c (.Expr e pos) (tw g):=.of fun ρ=>AF (Cq (h ρ) hs) fun D σ H h_7=>by
 obtain ⟨H0,Hs0,la,Hs,f,q⟩:=h_7
 refine sE f q fun d v H1 Hs1 e1 s1 f1 r1=>?_
 unfold tw at q
 rw [e1,bind_ok] at q
 exact q _ H1 Hs1 f1
def YX (K:a8) (H0 Hs0:Hp) (la:Nat->Option ak) (H Hs:Hp) (Q:St->Hp->Prop) (r:R aB):Prop:=match r with
 | .ok ρ'=>∀ σ',Fr K H0 Hs0 la ρ' σ' H Hs->Q σ' H
 | _=>False
inductive Wd (K:a8) (ρ:aB) (d:D) (r:R aB) (v:V) (σ:St) (H:Hp) (Q:St->Hp->Prop):Prop
 | mk (H0 Hs0:Hp) (la:Nat->Option ak) (Hs:Hp) (f:Fr K H0 Hs0 la ρ σ H Hs) (rd:RD K Hs v d) (q:YX K H0 Hs0 la H Hs Q r):Wd K ρ d r v σ H Q
def Ut (K:a8) (ρ:aB) (d:D) (r:R aB):TG:=Wd K ρ d r
inductive SB (K:a8) (ρ:aB) (ds:List D) (r:R aB) (vs:List V) (σ:St) (H:Hp) (Q:St->Hp->Prop):Prop
 | mk (H0 Hs0:Hp) (la:Nat->Option ak) (Hs:Hp) (f:Fr K H0 Hs0 la ρ σ H Hs) (rd:RDs K Hs vs ds) (q:YX K H0 Hs0 la H Hs Q r):SB K ρ ds r vs σ H Q
def We (K:a8) (ρ:aB) (ds:List D) (r:R aB):MG:=SB K ρ ds r
structure JG (c:C) (t:aZ) (k:D->aB->R aB):Prop where of ::
 run:∀ ρ d,PG c.X t (Ut c.X.K ρ d (k d ρ))
instance {c:C}{t:aZ}{k:D->aB->R aB}:CoeFun (JG c t k) (fun _=>∀ ρ d,PG c.X t (Ut c.X.K ρ d (k d ρ))):=⟨JG.run⟩
structure Vk (c:C) (t:List aZ) (k:List D->aB->R aB):Prop where of ::
 run:∀ ρ d,S2 c.X t (We c.X.K ρ d (k d ρ))
instance {c:C}{t:List aZ}{k:List D->aB->R aB}:CoeFun (Vk c t k) (fun _=>∀ ρ d,S2 c.X t (We c.X.K ρ d (k d ρ))):=⟨Vk.run⟩
theorem YY   (h:PG X e t) (m:∀ v σ H Q,t' v σ H Q->t v σ H Q):PG X e t':=fun pins s σ H v u Q I r q=>h pins s σ H v u Q I r (m v σ H Q q)
theorem Ym {X:Cx}{e:List aZ}{t t':MG} (h:S2 X e t) (m:∀ v σ H Q,t' v σ H Q->t v σ H Q):S2 X e t':=fun pins s σ H v u Q I r q=>h pins s σ H v u Q I r (m v σ H Q q)
def c8 (i:Nat):D->aB->R aB:=fun d ρ=>.ok (ρ.set i (.shr d))
theorem de (i:Nat) (hN:c.X.N.Nodup) (hi:c.X.N[i]?=some x:=by rfl) (hx:S0 c.X.env.scope x:=by first | exact j9 rfl | exact fK rfl) (hf:c.X.fn x=true\/c.X.env.scope.names.lookup x=some .local:=by first | exact .inl rfl | exact .inr rfl | assumption) :
  JG c (.Name x pos) (c8 i):=.of fun ρ d=>YY (cW hN hi hx hf) fun v σ H Q h_11=>by obtain ⟨H0,Hs0,la,Hs,f,r,q⟩:=h_11;exact q _ (f.set i r)
variable {kt:D->aB->R aB}{kts:List D->aB->R aB}{t:aZ}{ts:List aZ}
def pz:List D->aB->R aB:=fun ds ρ=>match ds with
 | []=>.ok ρ
 | _=>.no
def da (k:D->aB->R aB) (ks:List D->aB->R aB):List D->aB->R aB:=fun ds ρ=>match ds with
 | d::r=>(k d ρ).bind fun ρ'=>ks r ρ'
 | _=>.no
theorem ny:Vk c [] pz:=.of fun ρ ds=>Ym Cr fun vs σ H Q h_12=>by
 obtain ⟨H0,Hs0,la,Hs,f,r,q⟩:=h_12
 cases r with
 | nil=>exact ⟨rfl,q σ f⟩
 | cons _ _=>exact q.elim
theorem dG (h:JG c t kt) (hr:Vk c ts kts) (hs:(iG (t::ts) c.X.env).map (·.2)=qF t c.X.env::(iG ts c.X.env).map (·.2):=by rfl):Vk c (t::ts) (da kt kts):=.of fun ρ ds pins s σ H vs us Q I rv h_13=>by
 obtain ⟨H0,Hs0,la,Hs,f,r,q⟩:=h_13
 cases r with
 | nil=>exact q.elim
 | @cons v vr d dr r1 r2 =>
  unfold da at q
  cases hk:kt d ρ with
  | ok ρ' =>
   simp only [hk,bind_ok] at q
   refine qN (h ρ d) (hr ρ' dr) hs pins s σ H _ us Q I rv ⟨v,vr,rfl,H0,Hs0,la,Hs,f,r1,?_⟩
   rw [hk]
   exact fun σ' f'=>⟨H0,Hs0,la,Hs,f',r2,q⟩
  | ex x n=>simp only [hk,bind_ex] at q;exact q.elim
  | no=>simp only [hk,bind_no] at q;exact q.elim
def o6 (n:Nat) (ks:List D->aB->R aB):D->aB->R aB:=fun d ρ=>match d with
 | .tuple ds=>if ds.length=n then ks ds ρ else .no
 | _=>.no
theorem q_ (hc:c.X.calm=true) (h:Vk c ts kts) (hn:(iG ts c.X.env).length=n:=by rfl) (hst:(iG ts c.X.env).findIdx? (·.1)=none:=by rfl):JG c (.Tuple ts k pos) (o6 n kts):=.of fun ρ d=>by
 cases d with
 | tuple ds =>
  refine YY (GF hc (h ρ ds) hn hst) fun v σ H Q h_14=>?_
  obtain ⟨H0,Hs0,la,Hs,f,r,q⟩:=h_14
  cases r with
  | @tuple p xs _ hq rs =>
   unfold o6 at q
   by_cases hl:ds.length=n
   ·simp only [if_pos hl] at q
    exact ⟨p,xs,rfl,(l7.of (f.st.sub _ _ hq)),by rw [rs.length];exact hl,H0,Hs0,la,Hs,f,rs,q⟩
   ·simp only [if_neg hl] at q;exact q.elim
 | _=>exact fun pins s σ H v u Q I rv h_15=>by obtain ⟨H0,Hs0,la,Hs,f,r,q⟩:=h_15;exact q.elim
def AJ (g:aB->R D) (k:D->aB->R aB):aB->R Fl:=fun ρ=>(g ρ).bind fun d=>match k d ρ with
 | .ok ρ'=>.ok (.nx ρ')
 | _=>.no
theorem yW (h:JE c e g) (hg:JG c t kt) (hs:x_ [t] e pos.line c.X.env=pure false:=by rfl) (hw:y0 [t] e c.X.env=pure none:=by rfl) (h1:(iG [t] c.X.env).map (·.2)=[qF t c.X.env]:=by rfl) :
  JS c (.Assign [t] e pos) (AJ g kt):=.of fun ρ=>by
 cases hr:g ρ with
 | ok d =>
  refine AF (MI (h ρ) (hg ρ d) hs hw h1) fun D σ H h_16=>?_
  obtain ⟨H0,Hs0,la,Hs,f,q⟩:=h_16
  refine sE (k:=fun d=>match kt d ρ with | .ok ρ'=>.ok (.nx ρ') | _=>.no) f q fun d' v H1 Hs1 e1 s1 f1 r1=>?_
  rw [hr] at e1
  cases e1
  unfold AJ at q
  rw [hr,bind_ok] at q
  refine ⟨H0,Hs0,la,Hs1,f1,r1,?_⟩
  cases hk:kt d ρ with
  | ok ρ'=>rw [hk] at q;exact fun σ' f'=>q σ' H1 Hs1 f'
  | ex x n=>rw [hk] at q;exact q.elim
  | no=>rw [hk] at q;exact q.elim
 | ex x n =>
  refine AF (MI (h ρ) (hg ρ .none) hs hw h1) fun D σ H h_17=>?_
  obtain ⟨H0,Hs0,la,Hs,f,q⟩:=h_17
  refine sE (k:=fun _=>.no) (D':=D) f (by unfold AJ at q;rw [hr] at q ⊢;exact q) fun d' v H1 Hs1 e1 s1 f1 r1=>?_
  rw [hr] at e1;cases e1
 | no =>
  refine fun pins s σ H D I h_18=>?_
  obtain ⟨H0,Hs0,la,Hs,f,q⟩:=h_18
  unfold AJ at q
  rw [hr] at q
  exact q.elim
end
end
section
def Q0 (K:a8) (J:It) (ds:List D) (Hn Hs:Hp):Prop:=∀ H2 Hs2,dD Hn H2->dD Hs Hs2->dD Hs2 H2 ->
 (∀ i,i<ds.length->J.go i H2)/\(∀ i,ds.length<=i->J.stop i H2)/\∀ i x H3,i<ds.length->J.yld i H2 x H3->∃ d Hs3,ds[i]?=some d/\cK H2 Hs2 H3 Hs3/\RD K Hs3 x d
theorem CZ     (h:ph K Hn a vs) (r:RDs K Hs vs ds):Q0 K (XO K a) ds Hn Hs:=fun H2 Hs2 e1 e2 e3=>by
 have q:=e1.seq h
 refine ⟨fun i hi=>?_,fun i hi=>⟨vs,q,by rw [r.length];exact hi⟩,fun i x H3 hi y=>?_⟩
 ·have hi':i<vs.length:=by rw [r.length];exact hi
  exact ⟨vs,vs[i],q,aV hi'⟩
 ·obtain ⟨rfl,y⟩:=y
  obtain ⟨d,k1,k2⟩:=r.get (y vs q)
  exact ⟨d,Hs2,k1,.refl e3,k2.same e2⟩
theorem NA     (h:l7 K Hn a vs) (r:RDs K Hs vs ds):Q0 K (XQ K a) ds Hn Hs:=fun H2 Hs2 e1 e2 e3=>by
 have q:=e1.tup h
 refine ⟨fun i hi=>?_,fun i hi=>⟨vs,q,by rw [r.length];exact hi⟩,fun i x H3 hi y=>?_⟩
 ·have hi':i<vs.length:=by rw [r.length];exact hi
  exact ⟨vs,vs[i],q,aV hi'⟩
 ·obtain ⟨rfl,y⟩:=y
  obtain ⟨d,k1,k2⟩:=r.get (y vs q)
  exact ⟨d,Hs2,k1,.refl e3,k2.same e2⟩
theorem NB  (x:Str):Q0 K (VT x) (o0 x) Hn Hs:=fun H2 Hs2 e1 e2 e3=>by
 have hl:(o0 x).length=x.cps.size:=by simp [o0]
 refine ⟨fun i hi=>by rw [hl] at hi;exact hi,fun i hi=>by rw [hl] at hi;exact hi,fun i v H3 hi y=>?_⟩
 obtain ⟨rfl,c,k1,rfl⟩:=y
 refine ⟨.str ⟨#[c]⟩,Hs2,?_,.refl e3,.str _⟩
 unfold o0
 rw [aT,aQ,k1]
 rfl
def r6 (lo:Int) (n:Nat):List D:=(bH n).map fun (k:Nat)=>cD (lo + k)
theorem NC  (lo:Int) (n:Nat):Q0 K (Xl lo n) (r6 lo n) Hn Hs:=fun H2 Hs2 e1 e2 e3=>by
 have hl:(r6 lo n).length=n:=by simp [r6]
 refine ⟨fun i hi=>by rw [hl] at hi;exact hi,fun i hi=>by rw [hl] at hi;exact hi,fun i v H3 hi y=>?_⟩
 obtain ⟨rfl,rfl⟩:=y
 refine ⟨.int (lo + i),Hs2,?_,.refl e3,.int _⟩
 rw [hl] at hi
 unfold r6
 rw [aT,Kj hi]
 rfl
def qq (n:Nat):List D->List D
 | []=>[]
 | d::r=>.tuple [.int n,d]::qq (n + 1) r
theorem By:∀ (ds:List D) (n i:Nat),(qq n ds)[i]?=(ds[i]?).map fun d=>fh [.int ((n + i:Nat):Int),d]
 | [],_,_=>by simp [qq]
 | d::r,n,0=>by simp [qq]
 | d::r,n,i + 1=>by
  simp only [qq,jO]
  rw [By r (n + 1) i,show n + 1 + i=n + (i + 1) by omega]
theorem Bz:∀ (ds:List D) (n:Nat),(qq n ds).length=ds.length
 | [],_=>rfl
 | d::r,n=>by simp [qq,Bz r]
theorem Ra     (h:l7 K Hn a vs) (r:RDs K Hs vs ds):Q0 K (Yb K a) (qq 0 ds) Hn Hs:=fun H2 Hs2 e1 e2 e3=>by
 have q:=e1.tup h
 have hl:=Bz ds 0
 refine ⟨fun i hi=>?_,fun i hi=>⟨vs,q,by rw [r.length];omega⟩,fun i x H3 hi y=>?_⟩
 ·have hi':i<vs.length:=by rw [r.length];omega
  exact ⟨vs,vs[i],q,aV hi'⟩
 ·obtain ⟨p,hp,rfl,y⟩:=y
  obtain ⟨x,k0,rfl⟩:=y vs q
  obtain ⟨d,k1,k2⟩:=r.get k0
  have st:=cK.new (o:=.tup [.int i,x]) e3 hp
  refine ⟨.tuple [.int i,d],_,?_,st,.tuple bg (.cons (.int _) (.cons ((k2.same e2).same st.sh) .nil))⟩
  rw [By,k1]
  simp
def xS:List D->List D->List D
 | x::xs,y::ys=>.tuple [x,y]::xS xs ys
 | _,_=>[]
theorem Ey:∀ (xs ys:List D) (i:Nat) (x y:D),xs[i]?=some x->ys[i]?=some y->(xS xs ys)[i]?=some (.tuple [x,y])
 | x::xs,y::ys,0,_,_,h1,h2=>by simp at h1 h2;subst h1 h2;rfl
 | _::xs,_::ys,i + 1,x,y,h1,h2=>by
  simp only [jO] at h1 h2
  simp only [xS,jO]
  exact Ey xs ys i x y h1 h2
 | [],_,_,_,_,h1,_=>by simp at h1
 | _::_,[],_,_,_,_,h2=>by simp at h2
theorem Ez:∀ (xs ys:List D),(xS xs ys).length=min xs.length ys.length
 | x::xs,y::ys=>by simp [xS,Ez xs ys]
 | [],_=>by simp [xS]
 | _::_,[]=>by simp [xS]
theorem Uu     (h:l7 K Hn a vs) (r:RDs K Hs vs ds) (h':l7 K Hn b ws) (r':RDs K Hs ws es):Q0 K (Yc K a b) (xS ds es) Hn Hs:=fun H2 Hs2 e1 e2 e3=>by
 have q:=e1.tup h
 have q':=e1.tup h'
 have hl:=Ez ds es
 refine ⟨fun i hi=>?_,fun i hi=>⟨vs,ws,q,q',by rw [r.length,r'.length];omega⟩,fun i x H3 hi y=>?_⟩
 ·have h1:i<vs.length:=by rw [r.length];omega
  have h2:i<ws.length:=by rw [r'.length];omega
  exact ⟨vs,ws,vs[i],ws[i],q,q',aV h1,aV h2⟩
 ·obtain ⟨p,hp,rfl,y⟩:=y
  obtain ⟨x,z,k0,k0',rfl⟩:=y vs ws q q'
  obtain ⟨d,k1,k2⟩:=r.get k0
  obtain ⟨d',k1',k2'⟩:=r'.get k0'
  have st:=cK.new (o:=.tup [x,z]) e3 hp
  exact ⟨.tuple [d,d'],_,Ey ds es i d d' k1 k1',st,.tuple bg (.cons ((k2.same e2).same st.sh) (.cons ((k2'.same e2).same st.sh) .nil))⟩
inductive Wf (K:a8) (cls:Str->ak) (E:XK) (ρ:aB) (r:R (List D)) (σ:St) (H:Hp) (Q:It->Hp->Prop):Prop
 | mk (H0 Hs0:Hp) (la:Nat->Option ak) (Hs:Hp) (f:Fr K H0 Hs0 la ρ σ H Hs) (q:Fin K cls E H Hs r fun ds=>∀ J H' Hs' Hn,cK H Hs H' Hs'->dD Hn H'->Q0 K J ds Hn Hs'->Q J H'):Wf K cls E ρ r σ H Q
def Xv (K:a8) (cls:Str->ak) (E:XK) (ρ:aB) (r:R (List D)):TI:=Wf K cls E ρ r
inductive Wg (K:a8) (cls:Str->ak) (E:XK) (ρ:aB) (r:R (List D)) (σ:St) (H:Hp) (Q:It->Hp->Prop):Prop
 | mk (H0 Hs0:Hp) (la:Nat->Option ak) (Hs:Hp) (f:Fr K H0 Hs0 la ρ σ H Hs) (q:Fin K cls E H Hs r fun ds=>∀ J H' Hs',cK H Hs H' Hs'->Q0 K J ds Hs' Hs'->Q J H'):Wg K cls E ρ r σ H Q
def YZ (K:a8) (cls:Str->ak) (E:XK) (ρ:aB) (r:R (List D)):TI:=Wg K cls E ρ r
structure JI (c:C) (tg it:aZ) (g:aB->R (List D)):Prop where of ::
 run:∀ ρ,PI c.X tg it (Xv c.X.K c.cls c.E ρ (g ρ))
instance {c:C}{tg it:aZ}{g:aB->R (List D)}:CoeFun (JI c tg it g) (fun _=>∀ ρ,PI c.X tg it (Xv c.X.K c.cls c.E ρ (g ρ))):=⟨JI.run⟩
structure ND (c:C) (tg it:aZ) (g:aB->R (List D)):Prop where of ::
 run:∀ ρ,PI c.X tg it (YZ c.X.K c.cls c.E ρ (g ρ))
instance {c:C}{tg it:aZ}{g:aB->R (List D)}:CoeFun (ND c tg it g) (fun _=>∀ ρ,PI c.X tg it (YZ c.X.K c.cls c.E ρ (g ρ))):=⟨ND.run⟩
theorem L4   (h:PI X tg e t) (m:∀ σ H Q,t' σ H Q->t σ H Q):PI X tg e t':=fun pins s σ H Q I q=>h pins s σ H Q I (m σ H Q q)
section
variable {c:C}{e a b l tg:aZ}{g ga gb:aB->R D}{pos p:Pos}{gs:aB->R (List D)}
def yX:D->R (List D)
 | .list ds=>.ok ds
 | .tuple ds=>.ok ds
 | .str x=>.ok (o0 x)
 | _=>.no
def lO (g:aB->R D):aB->R (List D):=fun ρ=>(g ρ).bind yX
theorem fZ (h:JB c l g):JI c tg l (lO g):=.of fun ρ=>by
 cases hr:g ρ with
 | no=>exact fun pins s σ H Q I h_0=>by obtain ⟨H0,Hs0,la,Hs,f,q⟩:=h_0;exact by unfold lO at q;rw [hr] at q;exact q.elim
 | ex x n =>
  refine L4 (uX (h ρ)) fun σ H Q h_1=>?_
  obtain ⟨H0,Hs0,la,Hs,f,q⟩:=h_1
  refine one f q fun d v H1 Hs1 e1 s1 f1 r1=>?_
  rw [hr] at e1;cases e1
 | ok d =>
  cases d with
  | list ds =>
   refine L4 (uX (h ρ)) fun σ H Q h_2=>?_
   obtain ⟨H0,Hs0,la,Hs,f,q⟩:=h_2
   refine one f q fun d v H1 Hs1 e1 s1 f1 r1=>?_
   rw [hr] at e1;cases e1
   unfold lO at q
   rw [hr,bind_ok] at q
   obtain ⟨a,vs,rfl,qa,ra⟩:=r1.list f1.st.sub
   exact ⟨a,rfl,⟨vs,qa⟩,q _ H1 Hs1 H1 s1 (.refl _) (CZ qa ra)⟩
  | tuple ds =>
   refine L4 (MK (h ρ)) fun σ H Q h_3=>?_
   obtain ⟨H0,Hs0,la,Hs,f,q⟩:=h_3
   refine one f q fun d v H1 Hs1 e1 s1 f1 r1=>?_
   rw [hr] at e1;cases e1
   unfold lO at q
   rw [hr,bind_ok] at q
   obtain ⟨a,vs,rfl,qa,ra,_⟩:=r1.tuple f1.st.sub
   exact ⟨a,rfl,⟨vs,qa⟩,q _ H1 Hs1 H1 s1 (.refl _) (NA qa ra)⟩
  | str x =>
   refine L4 (Nh (h ρ)) fun σ H Q h_4=>?_
   obtain ⟨H0,Hs0,la,Hs,f,q⟩:=h_4
   refine one f q fun d v H1 Hs1 e1 s1 f1 r1=>?_
   rw [hr] at e1;cases e1
   unfold lO at q
   rw [hr,bind_ok] at q
   exact ⟨x,r1.str,q _ H1 Hs1 H1 s1 (.refl _) (NB x)⟩
  | none=>exact fun pins s σ H Q I h_5=>by obtain ⟨H0,Hs0,la,Hs,f,q⟩:=h_5;exact by unfold lO at q;rw [hr] at q;exact q.elim
  | bool _=>exact fun pins s σ H Q I h_6=>by obtain ⟨H0,Hs0,la,Hs,f,q⟩:=h_6;exact by unfold lO at q;rw [hr] at q;exact q.elim
  | int _=>exact fun pins s σ H Q I h_7=>by obtain ⟨H0,Hs0,la,Hs,f,q⟩:=h_7;exact by unfold lO at q;rw [hr] at q;exact q.elim
  | dict _=>exact fun pins s σ H Q I h_8=>by obtain ⟨H0,Hs0,la,Hs,f,q⟩:=h_8;exact by unfold lO at q;rw [hr] at q;exact q.elim
theorem ym (h:JE c l g):ND c tg l (lO g):=.of fun ρ=>by
 cases hr:g ρ with
 | no=>exact fun pins s σ H Q I h_9=>by obtain ⟨H0,Hs0,la,Hs,f,q⟩:=h_9;exact by unfold lO at q;rw [hr] at q;exact q.elim
 | ex x n =>
  refine L4 (uX (h ρ)) fun σ H Q h_10=>?_
  obtain ⟨H0,Hs0,la,Hs,f,q⟩:=h_10
  refine AG f q fun d v H1 Hs1 e1 s1 f1 r1=>?_
  rw [hr] at e1;cases e1
 | ok d =>
  cases d with
  | list ds =>
   refine L4 (uX (h ρ)) fun σ H Q h_11=>?_
   obtain ⟨H0,Hs0,la,Hs,f,q⟩:=h_11
   refine AG f q fun d v H1 Hs1 e1 s1 f1 r1=>?_
   rw [hr] at e1;cases e1
   unfold lO at q
   rw [hr,bind_ok] at q
   cases r1 with
   | list qa ra=>exact ⟨_,rfl,⟨_,f1.st.sub.seq qa⟩,q _ H1 Hs1 s1 (CZ qa ra)⟩
  | tuple ds =>
   refine L4 (MK (h ρ)) fun σ H Q h_12=>?_
   obtain ⟨H0,Hs0,la,Hs,f,q⟩:=h_12
   refine AG f q fun d v H1 Hs1 e1 s1 f1 r1=>?_
   rw [hr] at e1;cases e1
   unfold lO at q
   rw [hr,bind_ok] at q
   cases r1 with
   | tuple qa ra=>exact ⟨_,rfl,⟨_,(l7.of (f1.st.sub _ _ qa))⟩,q _ H1 Hs1 s1 (NA (.of qa) ra)⟩
  | str x =>
   refine L4 (Nh (h ρ)) fun σ H Q h_13=>?_
   obtain ⟨H0,Hs0,la,Hs,f,q⟩:=h_13
   refine AG f q fun d v H1 Hs1 e1 s1 f1 r1=>?_
   rw [hr] at e1;cases e1
   unfold lO at q
   rw [hr,bind_ok] at q
   cases r1 with
   | str _=>exact ⟨x,rfl,q _ H1 Hs1 s1 (NB x)⟩
  | none=>exact fun pins s σ H Q I h_14=>by obtain ⟨H0,Hs0,la,Hs,f,q⟩:=h_14;exact by unfold lO at q;rw [hr] at q;exact q.elim
  | bool _=>exact fun pins s σ H Q I h_15=>by obtain ⟨H0,Hs0,la,Hs,f,q⟩:=h_15;exact by unfold lO at q;rw [hr] at q;exact q.elim
  | int _=>exact fun pins s σ H Q I h_16=>by obtain ⟨H0,Hs0,la,Hs,f,q⟩:=h_16;exact by unfold lO at q;rw [hr] at q;exact q.elim
  | dict _=>exact fun pins s σ H Q I h_17=>by obtain ⟨H0,Hs0,la,Hs,f,q⟩:=h_17;exact by unfold lO at q;rw [hr] at q;exact q.elim
theorem ND.i (h:ND c tg l gs):JI c tg l gs:=.of fun ρ=>L4 (h ρ) fun σ H Q ⟨H0,Hs0,la,Hs,f,q⟩=>⟨H0,Hs0,la,Hs,f,by
 cases hr:gs ρ with
 | ok ds=>rw [hr] at q;exact fun J H' Hs' s i=>q J H' Hs' Hs' s s.sub i
 | ex x n=>rw [hr] at q;exact q
 | no=>rw [hr] at q;exact q⟩
def He:List D->R (List D)
 | [.int j]=>if -(2 ^ 62)<=j/\j<2 ^ 62 then .ok (r6 0 j.toNat) else .no
 | _=>.no
def BA (gs:aB->R (List D)):aB->R (List D):=fun ρ=>(gs ρ).bind He
theorem u9 (hg:Gl c.X "range") (hm:c.X.mg "range"=none) (ha:Sr c [a] gs) (hs:aO [a] c.X.env=[(false,eE a c.X.env)]:=by rfl):ND c tg (.Call (.Name "range" p) [a] [] pos) (BA gs):=.of fun ρ=>L4 (Kv hg hm (ha ρ) hs) fun σ H Q h_18=>by
 obtain ⟨H0,Hs0,la,Hs,f,q⟩:=h_18
 refine Nt f q fun ds vs H1 Hs1 e1 s1 f1 r1=>?_
 unfold BA at q
 rw [e1,bind_ok] at q
 unfold He at q
 split at q
 ·rename_i j
  by_cases hj:-(2 ^ 62)<=j/\j<2 ^ 62
  ·rw [if_pos hj] at q
   obtain ⟨x,rfl,rx⟩:=r1.one
   exact ⟨j,by rw [rx.int],hj.1,hj.2,q _ H1 Hs1 s1 (NC 0 _)⟩
  ·rw [if_neg hj] at q;exact q.elim
 ·exact q.elim
def Xw:List D->R (List D)
 | [.tuple ds]=>.ok (qq 0 ds)
 | _=>.no
def Hf (gs:aB->R (List D)):aB->R (List D):=fun ρ=>(gs ρ).bind Xw
theorem RDs.one    (h:RDs K H xs [d]):∃ x,xs=[x]/\RD K H x d:=by
 cases h with | cons a t=>cases t;exact ⟨_,rfl,a⟩
theorem RDs.two {K:a8}{H:Hp}{xs:List V}{d e:D} (h:RDs K H xs [d,e]):∃ x y,xs=[x,y]/\RD K H x d/\RD K H y e:=by
 cases h with | cons a t=>cases t with | cons b t=>cases t;exact ⟨_,_,rfl,a,b⟩
theorem yY {x1} (hg:Gl c.X "enumerate") (hm:c.X.mg "enumerate"=none) (ha:IK c [a] gs) (hs:aO [a] c.X.env=[(false,eE a c.X.env)]:=by rfl):ND c (.Tuple elts x1 tpos) (.Call (.Name "enumerate" p) [a] [] pos) (Hf gs):=.of fun ρ=>L4 (QY hg hm (ha ρ) hs) fun σ H Q h_20=>by
 obtain ⟨H0,Hs0,la,Hs,f,q⟩:=h_20
 refine GZ f q fun ds vs H1 Hs1 e1 s1 f1 r1=>?_
 unfold Hf at q
 rw [e1,bind_ok] at q
 unfold Xw at q
 split at q
 ·obtain ⟨x,rfl,rx⟩:=r1.one
  cases rx with
  | tuple qa ra=>exact ⟨_,_,rfl,(l7.of (f1.st.sub _ _ qa)),q _ H1 Hs1 s1 (Ra (.of qa) ra)⟩
 ·exact q.elim
def zp:List D->R (List D)
 | [.tuple ds,.tuple es]=>.ok (xS ds es)
 | _=>.no
def Rb (gs:aB->R (List D)):aB->R (List D):=fun ρ=>(gs ρ).bind zp
theorem Rc {x1} (hg:Gl c.X "zip") (hm:c.X.mg "zip"=none) (ha:IK c [a,b] gs) (hs:aO [a,b] c.X.env=[(false,eE a c.X.env),(false,eE b c.X.env)]:=by rfl) (hs2:aO [b] c.X.env=[(false,eE b c.X.env)]:=by rfl) :
  ND c (.Tuple elts x1 tpos) (.Call (.Name "zip" p) [a,b] [] pos) (Rb gs):=.of fun ρ=>L4 (Ul hg hm (ha ρ) hs hs2) fun σ H Q h_21=>by
 obtain ⟨H0,Hs0,la,Hs,f,q⟩:=h_21
 refine GZ f q fun ds vs H1 Hs1 e1 s1 f1 r1=>?_
 unfold Rb at q
 rw [e1,bind_ok] at q
 unfold zp at q
 split at q
 ·obtain ⟨x,y,rfl,rx,ry⟩:=r1.two
  cases rx with
  | tuple qa ra =>
   cases ry with
   | tuple qb rb=>exact ⟨_,_,_,_,rfl,(l7.of (f1.st.sub _ _ qa)),(l7.of (f1.st.sub _ _ qb)),q _ H1 Hs1 s1 (Uu (.of qa) ra (.of qb) rb)⟩
 ·exact q.elim
end
end
section
inductive Y_ (K:a8) (cls:Str->ak) (E:XK) (ρ:aB) (r:R D) (σ:St) (H:Hp) (Q:VK):Prop
 | mk (H0 Hs0:Hp) (la:Nat->Option ak) (Hs:Hp) (f:Fr K H0 Hs0 la ρ σ H Hs) (q:Fin K cls E H Hs r fun d=>∀ a o H' Hs',cK H Hs H' Hs'->H' a=none->n5 K Hs' o d->Q (.ref a) (upd H' a o)):Y_ K cls E ρ r σ H Q
def TN (K:a8) (cls:Str->ak) (E:XK) (ρ:aB) (r:R D):TE:=Y_ K cls E ρ r
structure JN (c:C) (e:aZ) (g:aB->R D):Prop where of ::
 run:∀ ρ,PE c.X e (TN c.X.K c.cls c.E ρ (g ρ))
instance {c:C}{e:aZ}{g:aB->R D}:CoeFun (JN c e g) (fun _=>∀ ρ,PE c.X e (TN c.X.K c.cls c.E ρ (g ρ))):=⟨JN.run⟩
section
variable {c:C}{e a b l tg:aZ}{g ga gb:aB->R D}{pos p:Pos}{gs:aB->R (List D)}{es:List aZ}{x:Str}
theorem Yn        (q:TR K cls E ρ r σ H Q):TN K cls E ρ r σ H Q:=by
 obtain ⟨H0,Hs0,la,Hs,f,q⟩:=q
 refine ⟨H0,Hs0,la,Hs,f,?_⟩
 cases r with
 | ok d=>exact fun a o H' Hs' s n r=>q _ _ _ (s.trans (.new s.sub n)) (r.share (s.sub.free n))
 | ex x n=>exact q
 | no=>exact q
theorem JN.je (h:JN c e g):JE c e g:=.of fun ρ=>tm (h ρ) fun σ H Q q=>Yn q
theorem wB (h:IK c es gs):JN c (.List es pos) (ft gs .list):=.of fun ρ=>tm (tY (h ρ)) fun σ H Q h_0=>by
 obtain ⟨H0,Hs0,la,Hs,f,q⟩:=h_0
 refine GZ f q fun ds vs H1 Hs1 e1 s1 f1 r1=>?_
 unfold ft at q
 rw [e1,bind_ok] at q
 by_cases hl:ds.length<=1000
 ·rw [if_pos hl] at q
  exact ⟨ca (dW (by rw [r1.length];exact hl)),fun p hp=>q p _ H1 Hs1 s1 hp (.lst r1)⟩
 ·rw [if_neg hl] at q;exact q.elim
theorem IU:JN c (.Dict [] [] pos) (fun _=>.ok (.dict [])):=.of fun ρ=>tm N0 fun σ H Q h_1=>by obtain ⟨H0,Hs0,la,Hs,f,q⟩:=h_1;exact fun p hp=>q p _ H Hs (.refl f.st.sub) hp (.dK .nil)
def gZ (i:Nat) (g:aB->R D):aB->R Fl:=fun ρ=>(g ρ).bind fun d=>.ok (.nx (ρ.set i (.own d)))
theorem sN            (f:Fr K H0 Hs0 la ρ σ H Hs)
  (h:oG K cls E H0 Hs0 la D' (r.bind k)) (m:∀ d a o H' Hs',r=.ok d->Fr K H0 Hs0 la ρ σ H' Hs'->H' a=none->n5 K Hs' o d->Q (.ref a) (upd H' a o)):TN K cls E ρ r σ H Q:=by
 refine ⟨H0,Hs0,la,Hs,f,?_⟩
 cases r with
 | ok d=>exact fun a o H' Hs' s n r=>m d a o H' Hs' rfl (f.step s) n r
 | ex c n=>exact fun H' Hs' s=>h H' Hs' (f.st.trans s)
 | no=>exact h
theorem jS (i:Nat) (h:JN c e g) (hN:c.X.N.Nodup) (hi:c.X.N[i]?=some x:=by rfl) (hx:S0 c.X.env.scope x:=by first | exact j9 rfl | exact fK rfl) (hs:ij e (some (.Name x pos')) pos.line c.X.env=pure false:=by rfl)
  (hf:c.X.fn x=true\/c.X.env.scope.names.lookup x=some .local:=by first | exact .inl rfl | exact .inr rfl | assumption):JS c (.Assign [.Name x pos'] e pos) (gZ i g):=.of fun ρ=>AF (GG hN hi hx (h ρ) hs hf) fun D σ H h_2=>by
 obtain ⟨H0,Hs0,la,Hs,f,q⟩:=h_2
 refine sN f q fun d a o H1 Hs1 e1 f1 n1 r1=>?_
 unfold gZ at q
 rw [e1,bind_ok] at q
 exact q _ _ Hs1 (f1.setO i n1 r1)
def L5 {α:Type}:R α->R α
 | .ex _ _=>.no
 | r=>r
theorem IV {α:Type}{r:R α}{a:α} (h:L5 r=.ok a):r=.ok a:=by
 cases r<;>first | exact h | cases h
def g_ (f:D->R (Option D)):List D->R (List D)
 | []=>.ok []
 | d::r=>(f d).bind fun o=>(g_ f r).bind fun ys=>.ok (match o with
  | some y=>y::ys
  | none=>ys)
theorem yZ   (h:g_ f (d::r)=.ok ys):∃ o zs,f d=.ok o/\g_ f r=.ok zs/\ys=o.toList++zs:=by
 unfold g_ at h
 cases hf:f d with
 | ok o =>
  rw [hf,bind_ok] at h
  cases hm:g_ f r with
  | ok zs =>
   rw [hm,bind_ok] at h
   cases h
   cases o<;>exact ⟨_,zs,rfl,rfl,rfl⟩
  | ex x n=>rw [hm] at h;cases h
  | no=>rw [hm] at h;cases h
 | ex x n=>rw [hf] at h;cases h
 | no=>rw [hf] at h;cases h
def Re:Sl->Sl
 | .own d=>.lck d
 | .ow2 _=>.no
 | s=>s
def oH (nt:Nat) (ix:List Nat) (ρ:aB):aB:=sW nt Sl.no++ix.map fun i=>Re ((ρ[i]?).getD .no)
def Wh (nt:Nat):D->aB->R aB:=match nt with
 | 1=>c8 0
 | 2=>o6 2 (da (c8 0) (da (c8 1) pz))
 | _=>fun _ _=>.no
def iw (nt:Nat) (ρ:aB) (gt:aB->R Bool) (ge:aB->R D):D->R (Option D):=fun d=>L5 ((Wh nt d ρ).bind fun ρ'=>(gt ρ').bind fun b=>if b then (ge ρ').bind fun y=>.ok (some y) else .ok none)
def fS (nt:Nat) (ix:List Nat) (gi:aB->R (List D)) (gt:aB->R Bool) (ge:aB->R D):aB->R D:=fun ρ=>(gi ρ).bind fun ds=>if ds.length<=1000 then (g_ (iw nt (oH nt ix ρ) gt ge) ds).bind fun ys=>.ok (.list ys) else .no
structure Wi (c:C) (ifs:List aZ) (g:aB->R Bool):Prop where of ::
 run:∀ ρ,PZ c.X ifs (KS c.X.K c.cls c.E ρ (g ρ))
instance {c:C}{ifs:List aZ}{g:aB->R Bool}:CoeFun (Wi c ifs g) (fun _=>∀ ρ,PZ c.X ifs (KS c.X.K c.cls c.E ρ (g ρ))):=⟨Wi.run⟩
theorem gq:Wi c [] (fun _=>.ok true):=.of fun ρ pins s σ H Q I h_3=>by obtain ⟨H0,Hs0,la,Hs,f,q⟩:=h_3;exact QU pins s σ H Q I (q H Hs (.refl f.st.sub))
theorem lS (h:JT c e gt):Wi c [e] gt:=.of fun ρ=>QV (h ρ)
def L6 (K:a8) (nt:Nat):TG:=match nt with
 | 1=>xn 0
 | _=>TU K 2 (L2.ag (xn 0) (L2.ag (xn 1) L2.aL))
theorem C_ {K:a8}{nt:Nat} (h:nt=1\/nt=2):Sk nt (L6 K nt):=by
 rcases h with rfl | rfl
 ·exact N5 (by decide)
 ·exact QW (by decide) (by decide)
theorem EA {K:a8}{nt:Nat}{H0 Hs0 H Hs:Hp}{la:Nat->Option ak}{ρ ρ':aB}{σ:St}{v:V}{d:D}{Q:St->Hp->Prop} (hnt:nt=1\/nt=2) (f:Fr K H0 Hs0 la ρ σ H Hs) (r:RD K Hs v d) (hb:Wh nt d ρ=.ok ρ')
  (q:∀ σ',Fr K H0 Hs0 la ρ' σ' H Hs->Q σ' H):L6 K nt v σ H Q:=by
 rcases hnt with rfl | rfl
 ·cases hb
  exact q _ (f.set 0 r)
 ·unfold Wh o6 at hb
  simp only at hb
  cases r with
  | @tuple p xs ds hq rs =>
   simp only at hb
   split at hb
   ·rename_i hl
    cases rs with
    | nil=>cases hl
    | cons r1 rs =>
     cases rs with
     | nil=>cases hl
     | cons r2 rs =>
      cases rs with
      | nil =>
       cases hb
       exact ⟨p,_,rfl,(l7.of (f.st.sub _ _ hq)),rfl,_,_,rfl,_,_,rfl,rfl,q _ ((f.set 0 r1).set 1 r2)⟩
      | cons _ _=>simp at hl
   ·cases hb
  | none=>cases hb
  | bool _=>cases hb
  | int _=>cases hb
  | str _=>cases hb
  | list _ _=>cases hb
  | dictK _ _=>cases hb
  | dictT _ _ _=>cases hb
  | dictF _ _ _=>cases hb
theorem Fr.block     (f:Fr K H0 Hs0 la ρ σ H Hs) (nt:Nat) (ix:List Nat):∃ la',Fr K H Hs la' (oH nt ix ρ) (L2.jL nt ix σ) H Hs:=by
 have lk:∀ (j:Nat) (d:D),(oH nt ix ρ)[j]?=some (Sl.lck d)->∃ a o,(L2.jL nt ix σ)[j]?=some (some (V.ref a))/\H a=some o/\Hs a=none/\n5 K Hs o d:=fun j d h=>by
  unfold oH at h
  by_cases hj:j<nt
  ·rw [bf (by simpa using hj),ck,if_pos hj] at h;cases h
  ·have hj:nt<=j:=by omega
   rw [bh (by simpa using hj),cZ,aT] at h
   cases hi:ix[j - nt]? with
   | none=>rw [hi] at h;cases h
   | some i =>
    rw [hi] at h
    have at_:∀ v,σ[i]?=some (some v)->(L2.jL nt ix σ)[j]?=some (some v):=fun v k1=>by
     unfold L2.jL
     rw [bh (by simpa using hj),cZ,aT,hi]
     simp [k1]
    cases hr:ρ[i]? with
    | none=>simp only [cL,hr,hU,Re] at h;cases h
    | some s =>
     simp only [cL,hr,kO] at h
     cases s with
     | own d' =>
      cases h
      obtain ⟨a,o,k1,k2,k3,k4,k5⟩:=f.ow i d hr
      exact ⟨a,o,at_ _ k1,k2,k3,k5⟩
     | lck d' =>
      cases h
      obtain ⟨a,o,k1,k2,k3,k4,k5,k6⟩:=f.lk i d hr
      exact ⟨a,o,at_ _ k1,k3,k4,k6⟩
     | no=>cases h
     | shr _=>cases h
     | ow2 _=>cases h
 have no2:∀ (j:Nat) (d:List (List D)),¬ (oH nt ix ρ)[j]?=some (Sl.ow2 d):=fun j d h=>by
  unfold oH at h
  by_cases hj:j<nt
  ·rw [bf (by simpa using hj),ck,if_pos hj] at h;cases h
  ·have hj:nt<=j:=by omega
   rw [bh (by simpa using hj),cZ,aT] at h
   cases hi:ix[j - nt]? with
   | none=>rw [hi] at h;cases h
   | some i =>
    rw [hi] at h
    cases hr:ρ[i]? with
    | none=>simp only [cL,hr,hU,Re] at h;cases h
    | some s =>
     simp only [cL,hr,kO] at h
     cases s<;>cases h
 refine ⟨fun j=>match (oH nt ix ρ)[j]?,(L2.jL nt ix σ)[j]? with
  | some (Sl.lck _),some (some (V.ref a))=>some a
  | _,_=>none,.refl f.st.sub,by simp [oH,L2.jL],fun j d h=>?_,fun j d h=>?_,fun j d h=>?_,fun j k d1 d2 a h1 h2 _ _=>?_,fun j a h=>?_,fun j d h=>(no2 j d h).elim,fun j k d1 d2 h1 _=>(no2 j d1 h1).elim⟩
 case refine_3 =>
  obtain ⟨a,o,k1,k2,k3,k4⟩:=lk j d h
  exact ⟨a,o,k1,by rw [h,k1],k2,k3,k2,k4⟩
 case refine_5 =>
  split at h
  ·rename_i d a' h1 h2
   cases h
   obtain ⟨a',o,k1,k2,_⟩:=lk j d h1
   rw [h2] at k1
   cases k1
   exact ⟨o,k2⟩
  ·cases h
 all_goals
  unfold oH at *
 ·have h:=h
  by_cases hj:j<nt
  ·rw [bf (by simpa using hj),ck,if_pos hj] at h;cases h
  ·have hj:nt<=j:=by omega
   rw [bh (by simpa using hj),cZ,aT] at h
   cases hi:ix[j - nt]? with
   | none=>rw [hi] at h;cases h
   | some i =>
    rw [hi] at h
    cases hr:ρ[i]? with
    | none=>simp only [cL,hr,hU,Re] at h;cases h
    | some s =>
     simp only [cL,hr,kO] at h
     cases s with
     | shr d' =>
      cases h
      obtain ⟨v,k1,k2⟩:=f.sh i d hr
      refine ⟨v,?_,k2⟩
      unfold L2.jL
      rw [bh (by simpa using hj),cZ,aT,hi]
      simp [k1]
     | no=>cases h
     | own _=>cases h
     | lck _=>cases h
     | ow2 _=>cases h
 ·have h:=h
  by_cases hj:j<nt
  ·rw [bf (by simpa using hj),ck,if_pos hj] at h;cases h
  ·have hj:nt<=j:=by omega
   rw [bh (by simpa using hj),cZ,aT] at h
   cases hi:ix[j - nt]? with
   | none=>rw [hi] at h;cases h
   | some i =>
    rw [hi] at h
    cases hr:ρ[i]? with
    | none=>simp only [cL,hr,hU,Re] at h;cases h
    | some s =>
     simp only [cL,hr,kO] at h
     cases s<;>cases h
 ·have h1:=h1
  by_cases hj:j<nt
  ·rw [bf (by simpa using hj),ck,if_pos hj] at h1;cases h1
  ·have hj:nt<=j:=by omega
   rw [bh (by simpa using hj),cZ,aT] at h1
   cases hi:ix[j - nt]? with
   | none=>rw [hi] at h1;cases h1
   | some i =>
    rw [hi] at h1
    cases hr:ρ[i]? with
    | none=>simp only [cL,hr,hU,Re] at h1;cases h1
    | some s =>
     simp only [cL,hr,kO] at h1
     cases s<;>cases h1
theorem y_ (h:∀ d c n,f d≠.ex c n):∀ (ds:List D) (c:Str) (n:Option D),g_ f ds≠.ex c n
 | [],c,n=>fun e=>by cases e
 | d::r,c,n=>fun e=>by
  unfold g_ at e
  cases hf:f d with
  | ok o =>
   rw [hf,bind_ok] at e
   cases hm:g_ f r with
   | ok zs=>rw [hm,bind_ok] at e;cases e
   | ex x k=>exact y_ h r x k hm
   | no=>rw [hm] at e;cases e
  | ex x k=>exact h d x k hf
  | no=>rw [hf] at e;cases e
theorem EB (nt:Nat) (ρ:aB) (gt:aB->R Bool) (ge:aB->R D) (d:D) (c:Str) (n:Option D):iw nt ρ gt ge d≠.ex c n:=by
 unfold iw L5
 split<;>first | exact fun e=>by cases e | skip
 rename_i h
 exact fun e=>h c n e
inductive Z0 (K:a8) (f:D->R (Option D)) (ds ys:List D) (H1 Hs1:Hp) (i m:Nat) (acc:List V) (H':Hp):Prop
 | mk (done c6 zs ya Hs':_) (h0:ds=done++c6) (h1:done.length=i) (h2:c6.length=m) (h3:cK H1 Hs1 H' Hs') (h4:RDs K Hs' acc ya) (h5:ya.length<=i) (h6:g_ f c6=.ok zs) (h7:ys=ya++zs):Z0 K f ds ys H1 Hs1 i m acc H'
theorem IW {K:a8}{cls:Str->ak}{E:XK}{nt:Nat}{ix:List Nat}{gi:aB->R (List D)}{gt:aB->R Bool}{ge:aB->R D}{ρ:aB}{σ:St}{H:Hp}{Q:VK} (hnt:nt=1\/nt=2)
  (q:TN K cls E ρ (fS nt ix gi gt ge ρ) σ H Q) :
  N1 nt ix (Xv K cls E ρ (gi ρ)) (L6 K nt) (fun σ H Q=>∃ ρ',KS K cls E0 ρ' (gt ρ') σ H Q) (fun σ H Q=>∃ ρ',TR K cls E0 ρ' (ge ρ') σ H Q) σ H Q:=by
 obtain ⟨H0,Hs0,la,Hs,f,q⟩:=q
 refine ⟨H0,Hs0,la,Hs,f,?_⟩
 unfold fS at q
 cases hi:gi ρ with
 | no=>rw [hi] at q;exact q
 | ex x n=>rw [hi] at q;exact q
 | ok ds =>
  rw [hi,bind_ok] at q
  intro J H1 Hs1 Hn s1 sn it
  by_cases hl:ds.length<=1000
  ·rw [if_pos hl] at q
   cases hm:g_ (iw nt (oH nt ix ρ) gt ge) ds with
   | no=>rw [hm] at q;exact q.elim
   | ex x n=>exact (y_ (EB _ _ _ _) _ _ _ hm).elim
   | ok ys =>
    rw [hm,bind_ok] at q
    obtain ⟨lb,fb⟩:=(f.step s1).block nt ix
    refine ⟨Z0 K (iw nt (oH nt ix ρ) gt ge) ds ys H1 Hs1,
     ⟨ds.length,[],ds,ys,[],Hs1,rfl,rfl,rfl,.refl s1.sub,.nil,cC _,hm,rfl⟩,?_⟩
    rintro i m acc H' ⟨done,c6,zs,ya,Hs',hds,hdl,hrl,st,ra,yl,hz,hy⟩
    obtain ⟨igo,istop,iyld⟩:=it H' Hs' (sn.trans st.all) st.sh st.sub
    cases c6 with
    | nil =>
     left
     cases hz
     rw [cO] at hds hy
     subst hy hds
     exact ⟨istop i (by omega),fun p hp=>q p _ H' Hs' (s1.trans st) hp (.lst ra)⟩
    | cons d c6 =>
     right
     have hil:i<ds.length:=by rw [hds,aM,aW];omega
     refine ⟨igo i hil,dW (by rw [ra.length];omega),fun x H2 hyl=>?_⟩
     obtain ⟨d',Hs2,hd,s2,r2⟩:=iyld i x H2 hil hyl
     have hdd:d'=d:=by
      rw [hds,bh (by omega)] at hd
      simp [hdl] at hd
      exact hd.symm
     subst hdd
     obtain ⟨o,zs',hf,hz',rfl⟩:=yZ hz
     have hf:=IV hf
     cases hb:Wh nt d' (oH nt ix ρ) with
     | no=>rw [hb] at hf;cases hf
     | ex x n=>rw [hb] at hf;cases hf
     | ok ρ' =>
      rw [hb,bind_ok] at hf
      refine EA hnt ((fb.step st).step s2) r2 hb fun σ2 f2=>⟨ρ',?_⟩
      refine ⟨_,_,_,Hs2,f2,?_⟩
      cases ht:gt ρ' with
      | no=>rw [ht] at hf;cases hf
      | ex x n=>rw [ht] at hf;cases hf
      | ok b =>
       rw [ht,bind_ok] at hf
       intro H3 Hs3 s3
       cases b with
       | false =>
        rw [if_neg bq] at hf
        cases hf
        refine Cz ⟨c6.length,by rw [<- hrl];simp,done++[d'],c6,zs',ya,Hs3,by rw [hds];simp,by simp [hdl],rfl,(st.trans s2).trans s3,ra.same (s2.trans s3).sh,by omega,hz',by simpa using hy⟩
       | true =>
        rw [if_pos rfl] at hf
        refine CA ⟨ρ',_,_,_,Hs3,f2.step s3,?_⟩
        cases he:ge ρ' with
        | no=>rw [he] at hf;cases hf
        | ex x n=>rw [he] at hf;cases hf
        | ok y =>
         rw [he,bind_ok] at hf
         cases hf
         intro v H4 Hs4 s4 r4
         exact ⟨c6.length,by rw [<- hrl];simp,done++[d'],c6,zs',ya++[y],Hs4,by rw [hds];simp,by simp [hdl],rfl,((st.trans s2).trans s3).trans s4,(ra.same ((s2.trans s3).trans s4).sh).append (.cons r4 .nil),by simp;omega,hz',by rw [hy];simp⟩
  ·rw [if_neg hl] at q;exact q.elim
def C.comp (c:C) (N':List Str) (scope:gE) (cl:List (Str×ak)) (A:ak) (s₀:af) (H₀:Hp) (ex:List ak) (pn:List (ak×Obj)):C:=⟨cR c.X N' scope cl A s₀ H₀ ex pn,c.cls,E0⟩
variable {elt iter:aZ}{ifs:List aZ}{scope:gE}{N':List Str}{nt:Nat}{ix:List Nat}{gi:aB->R (List D)}{gt:aB->R Bool}{ge:aB->R D}
def vi (c:C) (N':List Str) (scope:gE) (nt:Nat) (tg:aZ) (ifs:List aZ) (elt:aZ) (gt:aB->R Bool) (ge:aB->R D):Prop :=
 ∀ cl A s₀ H₀ ex pn,PG (c.comp N' scope cl A s₀ H₀ ex pn).X tg (L6 c.X.K nt)/\Wi (c.comp N' scope cl A s₀ H₀ ex pn) ifs gt/\JE (c.comp N' scope cl A s₀ H₀ ex pn) elt ge
theorem vi.at (h:vi c N' scope nt tg ifs elt gt ge):∀ cl A s₀ H₀ ex pn,PG (cR c.X N' scope cl A s₀ H₀ ex pn) tg (L6 c.X.K nt)/\PZ (cR c.X N' scope cl A s₀ H₀ ex pn) ifs (fun σ H Q=>∃ ρ',KS c.X.K c.cls E0 ρ' (gt ρ') σ H Q) /\
  PE (cR c.X N' scope cl A s₀ H₀ ex pn) elt (fun σ H Q=>∃ ρ',TR c.X.K c.cls E0 ρ' (ge ρ') σ H Q):=fun cl A s₀ H₀ ex pn=>by
 obtain ⟨h1,h2,h3⟩:=h cl A s₀ H₀ ex pn
 exact ⟨h1,fun pins s σ H Q I h_4=>by obtain ⟨ρ',q⟩:=h_4;exact h2 ρ' pins s σ H Q I q,fun pins s σ H Q I h_5=>by obtain ⟨ρ',q⟩:=h_5;exact h3 ρ' pins s σ H Q I q⟩
theorem fg (nt:Nat) (hnt:nt=1\/nt=2) (hc:c.X.calm=true) (S:nV c.X scope N' nt ix) (hi:JI c tg iter gi) (hb:vi c N' scope nt tg ifs elt gt ge) (hs:∀ x,eu iter c.X.env x=pure x:=by intro _;rfl) :
  JN c (.ListComp elt [⟨tg,iter,ifs,0⟩] scope pos) (fS nt ix gi gt ge):=.of fun ρ=>tm (Ec hc S (C_ hnt) (hi ρ) hb.at hs) fun σ H Q q=>IW hnt q
theorem ku (i:Nat) {spos py:Pos} (nt:Nat) (hnt:nt=1\/nt=2) (hN:c.X.N.Nodup) (hc:c.X.calm=true) (S:nV c.X scope N' nt ix) (hi:JI c tg iter gi) (hb:vi c N' scope nt tg ifs elt gt ge)
  (hiN:c.X.N[i]?=some x:=by rfl) (hy:c.X.env.scope.names.lookup x=some .local:=by rfl)
  (hsw:ij (.ListComp elt [⟨tg,iter,ifs,0⟩] scope pos) (some (.Name x py)) spos.line c.X.env=pure true:=by rfl)
  (hs:∀ x,eu iter c.X.env x=pure x:=by intro _;rfl):JS c (.Assign [.Name x py] (.ListComp elt [⟨tg,iter,ifs,0⟩] scope pos) spos) (gZ i (fS nt ix gi gt ge)):=.of fun ρ=>AF (GR hN hiN hy hc S (C_ hnt) (hi ρ) hb.at hsw hs) fun D σ H h_6=>by
 obtain ⟨H0,Hs0,la,Hs,f,q⟩:=h_6
 refine IW (Q:=fun x H1=>D.nx (σ.set i (some x)) H1) hnt (sN f q fun d a o H1 Hs1 e1 f1 n1 r1=>?_)
 unfold gZ at q
 rw [e1,bind_ok] at q
 exact q _ _ Hs1 (f1.setO i n1 r1)
end
end
section
theorem NE   (h:PS X.nox st t):PS X st t:=fun pins s σ H D I hw =>
 bL (h pins s σ H D (I.wish _) hw) (fun _ _ q=>q.unwish) fun _ _ z=>iQ z
def C.nox (c:C):C:=⟨c.X.nox,c.cls,E0⟩
def js (k:D->aB->R aB) (b:aB->R Fl):List D->aB->R Fl
 | [],ρ=>.ok (.nx ρ)
 | d::r,ρ=>match k d ρ with
  | .ok ρ1=>match b ρ1 with
   | .ok (.nx ρ')=>js k b r ρ'
   | .ok (.ct ρ')=>js k b r ρ'
   | .ok (.bk ρ')=>.ok (.nx ρ')
   | .ok (.rt d)=>.ok (.rt d)
   | _=>.no
  | _=>.no
def D0 (i:Nat) (ρ:aB):aB:=match ρ[i]? with
 | some (Sl.own d)=>ρ.set i (.lck d)
 | _=>ρ
def z0 (i:Nat) (ρ0 ρ:aB):aB:=match ρ0[i]?,ρ[i]? with
 | some (Sl.own _),some (Sl.lck d)=>ρ.set i (.own d)
 | _,_=>ρ
def Z1 (i:Nat) (ρ0:aB):R Fl->R Fl
 | .ok (.nx ρ)=>.ok (.nx (z0 i ρ0 ρ))
 | .ok (.bk ρ)=>.no
 | .ok (.ct ρ)=>.no
 | r=>r
section
variable {K:a8}{cls:Str->ak}{E:XK}
inductive Z2 (K:a8) (cls:Str->ak) (E:XK) (H0 Hs0:Hp) (la:Nat->Option ak) (D':Cm) (kt:D->aB->R aB) (gb:aB->R Fl) (ds:List D) (i m:Nat) (σ:St) (H:Hp):Prop
 | mk (done c6 ρ Hs:_) (h0:ds=done++c6) (h1:done.length=i) (h2:c6.length=m) (h3:Fr K H0 Hs0 la ρ σ H Hs) (h4:oG K cls E H0 Hs0 la D' (js kt gb c6 ρ)):Z2 K cls E H0 Hs0 la D' kt gb ds i m σ H
theorem NF
  (it:Q0 K J ds Hn Hs0) (hn:dD Hn H0) (f:Fr K H0 Hs0 la ρ σ H Hs)
  (htg:∀ ρ d v σ H Q,Ut K ρ d (kt d ρ) v σ H Q->tg v σ H Q) (htb:∀ ρ D σ H,SR K cls E0 ρ (gb ρ) D σ H->tb D σ H)
  (q:oG K cls E H0 Hs0 la D' (js kt gb ds ρ)) :
  XS tg tb D' σ J H:=by
 refine ⟨Z2 K cls E H0 Hs0 la D' kt gb ds,⟨ds.length,[],ds,ρ,Hs,rfl,rfl,rfl,f,q⟩,?_⟩
 rintro i m σ H ⟨done,c6,ρ,Hs,hds,hdl,hrl,f,q⟩
 obtain ⟨igo,istop,iyld⟩:=it H Hs (hn.trans f.st.all) f.st.sh f.st.sub
 cases c6 with
 | nil =>
  rw [cO] at hds
  subst hds
  exact .inl ⟨istop i (by omega),q σ H Hs f⟩
 | cons d c6 =>
  have hil:i<ds.length:=by rw [hds,aM,aW];omega
  refine .inr ⟨igo i hil,fun σ' H'=>∃ ρ' Hs',Fr K H0 Hs0 la ρ' σ' H' Hs'/\oG K cls E H0 Hs0 la D' (js kt gb c6 ρ'),fun σ' H' ⟨ρ',Hs',f',q'⟩=>⟨c6.length,by rw [<- hrl];simp,done++[d],c6,ρ',Hs',by rw [hds];simp,by simp [hdl],rfl,f',q'⟩,fun x H2 hyl=>?_⟩
  obtain ⟨d',Hs2,hd,s2,r2⟩:=iyld i x H2 hil hyl
  have hdd:d'=d:=by
   rw [hds,bh (by omega)] at hd
   simp [hdl] at hd
   exact hd.symm
  subst hdd
  unfold js at q
  refine htg ρ d' x σ H2 _ ⟨H0,Hs0,la,Hs2,f.step s2,r2,?_⟩
  cases hk:kt d' ρ with
  | ex c n=>rw [hk] at q;exact q
  | no=>rw [hk] at q;exact q
  | ok ρ1 =>
   rw [hk] at q
   intro σ2 f2
   refine htb ρ1 _ σ2 H2 ⟨H0,Hs0,la,Hs2,f2,?_⟩
   cases hg:gb ρ1 with
   | no=>simp only [hg] at q;exact q.elim
   | ex c n=>simp only [hg] at q;exact q.elim
   | ok fl =>
    simp only [hg] at q
    cases fl with
    | nx ρ'=>exact fun σ' H' Hs' f'=>⟨ρ',Hs',f',q⟩
    | ct ρ'=>exact fun σ' H' Hs' f'=>⟨ρ',Hs',f',q⟩
    | bk ρ'=>exact fun σ' H' Hs' f'=>q σ' H' Hs' f'
    | rt d=>exact q
def sS (A B:Hp):Hp:=fun b=>match A b with
 | some o=>some o
 | none=>B b
theorem jT:dD A (sS A B):=fun b o e=>by unfold sS;rw [e]
theorem jA  (h:A b=none):sS A B b=B b:=by unfold sS;rw [h]
theorem EC (h1:dD A H) (h2:dD B H):dD (sS A B) H:=fun b o e=>by
 cases h:A b with
 | some u=>unfold sS at e;rw [h] at e;cases e;exact h1 b o h
 | none=>rw [jA h] at e;exact h2 b o e
theorem NG (h1:dD A H) (h2:dD B H):dD B (sS A B):=fun b o e=>by
 cases h:A b with
 | some u =>
  unfold sS
  rw [h]
  have:=h1 b u h
  rw [h2 b o e] at this
  exact this.symm
 | none=>rw [jA h];exact e
theorem Fr.into    (f:Fr K H0 Hs0 la ρ σ H Hs):Fr K (sS H0 Hs) Hs la ρ σ H Hs:=by
 have sub:=EC f.st.all f.st.sub
 refine ⟨⟨sub,.refl _,f.st.sub,fun a o e _ z=>z⟩,f.len,f.sh,fun i d h=>?_,fun i d h=>?_,f.dj,fun i a e=>let ⟨o,k⟩:=f.lh i a e;⟨o,jT _ _ k⟩,fun i d h=>?_,f.u2⟩
 ·obtain ⟨a,o,h1,h2,h3,h4,h5⟩:=f.ow i d h
  exact ⟨a,o,h1,h2,h3,by rw [jA h4];exact h3,h5⟩
 ·obtain ⟨a,o,h1,h2,h3,h4,h5,h6⟩:=f.lk i d h
  exact ⟨a,o,h1,h2,h3,h4,jT _ _ h5,h6⟩
 ·obtain ⟨a,as,O⟩:=f.o2 i d h
  exact ⟨a,as,O.at_,O.ob,O.nd,fun b hb=>⟨(O.out b hb).1,by rw [jA (O.out b hb).2];exact (O.out b hb).1⟩,O.dj,O.inn⟩
theorem cK.outof (s:cK H0 Hs0 H1 Hs1) (t:cK (sS H0 Hs1) Hs1 H' Hs'):cK H0 Hs0 H' Hs' :=
 ⟨jT.trans t.all,s.sh.trans t.sh,t.sub,fun a o e n z=>t.out a o (jT _ _ e) n (s.out a o e n z)⟩
theorem Fr.outof    (f1:Fr K H0 Hs0 la ρ1 σ1 H1 Hs1) (f:Fr K (sS H0 Hs1) Hs1 la ρ σ H' Hs'):Fr K H0 Hs0 la ρ σ H' Hs':=by
 refine ⟨f1.st.outof f.st,f.len,f.sh,fun i d h=>?_,fun i d h=>?_,f.dj,f1.lh,fun i d h=>?_,f.u2⟩
 ·obtain ⟨a,o,h1,h2,h3,h4,h5⟩:=f.ow i d h
  exact ⟨a,o,h1,h2,h3,jT.free h4,h5⟩
 ·obtain ⟨a,o,h1,h2,h3,h4,h5,h6⟩:=f.lk i d h
  obtain ⟨o',e⟩:=f1.lh i a h2
  have e':=jT (B:=Hs1) _ _ e
  rw [h5] at e'
  cases e'
  exact ⟨a,o,h1,h2,h3,h4,e,h6⟩
 ·obtain ⟨a,as,O⟩:=f.o2 i d h
  exact ⟨a,as,O.at_,O.ob,O.nd,fun b hb=>⟨(O.out b hb).1,jT.free (O.out b hb).2⟩,O.dj,O.inn⟩
end
end
section
section
variable {K:a8}{cls:Str->ak}{E:XK}
theorem oG.into      (f1:Fr K H0 Hs0 la ρ1 σ1 H1 Hs1) (q:oG K cls E H0 Hs0 la D' r):oG K cls E (sS H0 Hs1) Hs1 la D' r:=by
 cases r with
 | no=>exact q
 | ex c n=>exact fun H' Hs' s=>q H' Hs' (f1.st.outof s)
 | ok fl =>
  cases fl with
  | nx ρ=>exact fun σ' H' Hs' f=>q σ' H' Hs' (f1.outof f)
  | bk ρ=>exact fun σ' H' Hs' f=>q σ' H' Hs' (f1.outof f)
  | ct ρ=>exact fun σ' H' Hs' f=>q σ' H' Hs' (f1.outof f)
  | rt d=>exact fun v H' Hs' s r=>q v H' Hs' (f1.st.outof s) r
theorem Fr.lock    (f:Fr K H0 Hs0 la ρ σ H Hs)    (hi:ρ[i]?=some (Sl.own d)) (k1:σ[i]?=some (some (V.ref a))) (k2:H a=some o) (k3:Hs a=none) (k4:H0 a=none) (k5:n5 K Hs o d) :
  Fr K (sS H0 (upd Hs a o)) Hs (fun j=>if j=i then some a else la j) (ρ.set i (.lck d)) σ H Hs:=by
 have hil:i<ρ.length:=(List.getElem?_eq_some_iff.mp hi).1
 have sub:dD (upd Hs a o) H:=fun b u q=>by
  by_cases hb:b=a
  ·subst hb;rw [bg] at q;cases q;exact k2
  ·rw [bi hb] at q;exact f.st.sub b u q
 have nx:∀ {j:Nat}{s:Sl},(∀ d,s≠.lck d)->(ρ.set i (.lck d))[j]?=some s->ρ[j]?=some s/\i≠j:=fun {j s} hs e=>by
  by_cases hj:i=j
  ·subst hj
   rw [aG hil] at e;exact absurd (bM e).symm (hs d)
  ·rw [al hj] at e;exact ⟨e,hj⟩
 refine ⟨⟨EC f.st.all sub,.refl _,f.st.sub,fun a o e _ z=>z⟩,by simp [f.len],fun j e h=>?_,fun j e h=>?_,fun j e h=>?_,fun j k d1 d2 b h1 h2 h3 h4=>?_,fun j b h=>?_,fun j e h=>?_,fun j k d1 d2 h1 h2=>?_⟩
 ·obtain ⟨h,_⟩:=nx (fun _ z=>by cases z) h
  exact f.sh j e h
 ·obtain ⟨h,hj⟩:=nx (fun _ z=>by cases z) h
  obtain ⟨b,u,q1,q2,q3,q4,q5⟩:=f.ow j e h
  refine ⟨b,u,q1,q2,q3,?_,q5⟩
  rw [jA q4,bi (fun z=>hj ?_)]
  ·exact q3
  ·subst z
   exact f.dj i j d e b hi h k1 q1
 ·by_cases hj:i=j
  ·subst hj
   rw [aG hil] at h
   cases h
   exact ⟨a,o,k1,if_pos rfl,k2,k3,by rw [jA k4,bg],k5⟩
  ·rw [al hj] at h
   obtain ⟨b,u,q1,q2,q3,q4,q5,q6⟩:=f.lk j e h
   exact ⟨b,u,q1,by rw [if_neg (cV hj)];exact q2,q3,q4,jT _ _ q5,q6⟩
 ·obtain ⟨h1,_⟩:=nx (fun _ z=>by cases z) h1
  obtain ⟨h2,_⟩:=nx (fun _ z=>by cases z) h2
  exact f.dj j k d1 d2 b h1 h2 h3 h4
 ·by_cases hj:j=i
  ·simp only [if_pos hj] at h
   cases h
   exact ⟨o,by rw [jA k4,bg]⟩
  ·simp only [if_neg hj] at h
   obtain ⟨u,e⟩:=f.lh j b h
   exact ⟨u,jT _ _ e⟩
 ·obtain ⟨h,hj⟩:=nx (fun _ z=>by cases z) h
  obtain ⟨b,as,O⟩:=f.o2 j e h
  refine ⟨b,as,O.at_,O.ob,O.nd,fun c hc=>⟨(O.out c hc).1,?_⟩,fun c hc k e' hk=>O.dj c hc k e' (nx (fun _ z=>by cases z) hk).1,O.inn⟩
  rw [jA (O.out c hc).2,bi (fun z=>?_)]
  ·exact (O.out c hc).1
  ·subst z
   exact O.dj c hc i d hi k1
 ·exact f.u2 j k d1 d2 (nx (fun _ z=>by cases z) h1).1 (nx (fun _ z=>by cases z) h2).1
theorem cK.unlock   (s:cK H0 Hs0 H Hs) (t:cK (sS H0 (upd Hs a o)) Hs H' Hs'):cK H0 Hs0 H' Hs' :=
 ⟨jT.trans t.all,s.sh.trans t.sh,t.sub,fun b u e n z=>t.out b u (jT _ _ e) n (s.out b u e n z)⟩
theorem Fr.unlock    (f:Fr K H0 Hs0 la ρ σ H Hs)    (hi:ρ[i]?=some (Sl.own d)) (k4:H0 a=none)
  (f':Fr K (sS H0 (upd Hs a o)) Hs (fun j=>if j=i then some a else la j) ρ' σ' H' Hs'):Fr K H0 Hs0 la (z0 i ρ ρ') σ' H' Hs':=by
 have st:=f.st.unlock f'.st
 have own:∀ (j:Nat) (e:D),ρ'[j]?=some (Sl.own e)->∃ b u,σ'[j]?=some (some (V.ref b))/\H' b=some u/\Hs' b=none/\H0 b=none/\n5 K Hs' u e/\(sS H0 (upd Hs a o)) b=none:=fun j e h=>by
  obtain ⟨b,u,q1,q2,q3,q4,q5⟩:=f'.ow j e h
  exact ⟨b,u,q1,q2,q3,jT.free q4,q5,q4⟩
 have lck:∀ (j:Nat) (e:D),j≠i->ρ'[j]?=some (Sl.lck e)->∃ b u,σ'[j]?=some (some (V.ref b))/\la j=some b/\H' b=some u/\Hs' b=none/\H0 b=some u/\n5 K Hs' u e:=fun j e hj h=>by
  obtain ⟨b,u,q1,q2,q3,q4,q5,q6⟩:=f'.lk j e h
  simp only [if_neg hj] at q2
  obtain ⟨u',e'⟩:=f.lh j b q2
  have:=jT (B:=upd Hs a o) _ _ e'
  rw [q5] at this
  cases this
  exact ⟨b,u,q1,q2,q3,q4,e',q6⟩
 have two:∀ (j:Nat) (e:List (List D)),ρ'[j]?=some (Sl.ow2 e)->∃ b as,O2 K H0 H' Hs' ρ' σ' j e b as:=fun j e h=>by
  obtain ⟨b,as,O⟩:=f'.o2 j e h
  exact ⟨b,as,O.at_,O.ob,O.nd,fun c hc=>⟨(O.out c hc).1,jT.free (O.out c hc).2⟩,O.dj,O.inn⟩
 unfold z0
 cases hl:ρ'[i]? with
 | none =>
  simp only [hi]
  refine ⟨st,f'.len,f'.sh,fun j e h=>let ⟨b,u,q1,q2,q3,q4,q5,_⟩:=own j e h;⟨b,u,q1,q2,q3,q4,q5⟩,fun j e h=>lck j e (fun z=>by rw [z,hl] at h;cases h) h,f'.dj,f.lh,two,f'.u2⟩
 | some s =>
  cases s with
  | no=>simp only [hi];exact ⟨st,f'.len,f'.sh,fun j e h=>let ⟨b,u,q1,q2,q3,q4,q5,_⟩:=own j e h;⟨b,u,q1,q2,q3,q4,q5⟩,fun j e h=>lck j e (fun z=>by rw [z,hl] at h;cases h) h,f'.dj,f.lh,two,f'.u2⟩
  | shr _=>simp only [hi];exact ⟨st,f'.len,f'.sh,fun j e h=>let ⟨b,u,q1,q2,q3,q4,q5,_⟩:=own j e h;⟨b,u,q1,q2,q3,q4,q5⟩,fun j e h=>lck j e (fun z=>by rw [z,hl] at h;cases h) h,f'.dj,f.lh,two,f'.u2⟩
  | own _=>simp only [hi];exact ⟨st,f'.len,f'.sh,fun j e h=>let ⟨b,u,q1,q2,q3,q4,q5,_⟩:=own j e h;⟨b,u,q1,q2,q3,q4,q5⟩,fun j e h=>lck j e (fun z=>by rw [z,hl] at h;cases h) h,f'.dj,f.lh,two,f'.u2⟩
  | ow2 _=>simp only [hi];exact ⟨st,f'.len,f'.sh,fun j e h=>let ⟨b,u,q1,q2,q3,q4,q5,_⟩:=own j e h;⟨b,u,q1,q2,q3,q4,q5⟩,fun j e h=>lck j e (fun z=>by rw [z,hl] at h;cases h) h,f'.dj,f.lh,two,f'.u2⟩
  | lck d' =>
   simp only [hi]
   have hil:i<ρ'.length:=(List.getElem?_eq_some_iff.mp hl).1
   have nx:∀ {j:Nat}{s:Sl},(∀ d,s≠.own d)->(ρ'.set i (.own d'))[j]?=some s->ρ'[j]?=some s/\i≠j:=fun {j s} hs e=>by
    by_cases hj:i=j
    ·subst hj
     rw [aG hil] at e;exact absurd (bM e).symm (hs d')
    ·rw [al hj] at e;exact ⟨e,hj⟩
   obtain ⟨b,u,q1,q2,q3,q4,q5,q6⟩:=f'.lk i d' hl
   simp only [if_pos rfl] at q2
   cases q2
   have ne:∀ (j:Nat) (e:D),ρ'[j]?=some (Sl.own e)->σ'[j]?≠some (some (V.ref a)):=fun j e h z=>by
    obtain ⟨b,u,p1,_,_,_,_,p6⟩:=own j e h
    rw [z] at p1
    cases p1
    rw [q5] at p6;cases p6
   refine ⟨st,by simp [f'.len],fun j e h=>?_,fun j e h=>?_,fun j e h=>?_,fun j k d1 d2 c h1 h2 h3 h4=>?_,f.lh,fun j e h=>?_,fun j k d1 d2 h1 h2=>?_⟩
   ·obtain ⟨h,_⟩:=nx (fun _ z=>by cases z) h
    exact f'.sh j e h
   ·by_cases hj:i=j
    ·subst hj
     rw [aG hil] at h
     cases h
     exact ⟨a,u,q1,q3,q4,k4,q6⟩
    ·rw [al hj] at h
     obtain ⟨b,u,p1,p2,p3,p4,p5,_⟩:=own j e h
     exact ⟨b,u,p1,p2,p3,p4,p5⟩
   ·obtain ⟨h,hj⟩:=nx (fun _ z=>by cases z) h
    exact lck j e (cV hj) h
   ·by_cases hj:i=j
    ·by_cases hk:i=k
     ·exact hj.symm.trans hk
     ·rw [al hk] at h2
      subst hj
      rw [q1] at h3
      cases h3
      exact (ne k d2 h2 h4).elim
    ·rw [al hj] at h1
     by_cases hk:i=k
     ·subst hk
      rw [q1] at h4
      cases h4
      exact (ne j d1 h1 h3).elim
     ·rw [al hk] at h2
      exact f'.dj j k d1 d2 c h1 h2 h3 h4
   ·obtain ⟨h,hj⟩:=nx (fun _ z=>by cases z) h
    obtain ⟨b,as,O⟩:=two j e h
    refine ⟨b,as,O.at_,O.ob,O.nd,O.out,fun c hc k e' hk=>?_,O.inn⟩
    by_cases nk:i=k
    ·subst nk
     intro z
     rw [q1] at z
     cases z
     obtain ⟨b',as',O'⟩:=f'.o2 j e h
     have hh:=O.at_
     rw [O'.at_] at hh
     cases hh
     have hs:as'=as:=by
      have h1:=O.ob
      rw [O'.ob] at h1
      injection h1 with h1
      injection h1 with h1
      exact Mb (fun x y z=>by cases z;rfl) |>.mp h1
     subst hs
     have:=(O'.out _ hc).2
     rw [q5] at this;cases this
    ·rw [al nk] at hk
     exact O.dj c hc k e' hk
   ·exact f'.u2 j k d1 d2 (nx (fun _ z=>by cases z) h1).1 (nx (fun _ z=>by cases z) h2).1
end
section
variable {c:C}{e a b iter tg:aZ}{g ga gb:aB->R D}{pos p:Pos}{gi:aB->R (List D)}{body:List c_}{x:Str}{kt:D->aB->R aB}{gbd:aB->R Fl}
def qx (gi:aB->R (List D)) (kt:D->aB->R aB) (gb:aB->R Fl):aB->R Fl:=fun ρ=>match gi ρ with
 | .ok ds=>js kt gb ds ρ
 | _=>.no
theorem pA (hc:c.X.calm=true) (hi:ND c.nox tg iter gi) (hg:JG c.nox tg kt) (hb:IT c.nox body gbd) (hs:∀ x,eu iter c.X.env x=pure x:=by intro _;rfl):JS c (.For tg iter body [] pos) (qx gi kt gbd):=.of fun ρ=>by
 refine NE (AF (MM wk hc (hi ρ) (g:=fun v σ H Q=>∃ ρ d,Ut c.X.K ρ d (kt d ρ) v σ H Q) (tb:=fun D σ H=>∃ ρ,SR c.X.K c.cls E0 ρ (gbd ρ) D σ H) ?_ ?_ hs) fun D σ H ⟨H0,Hs0,la,Hs,f,q⟩=>?_)
 ·exact fun pins s σ H v u Q I r h_0=>by obtain ⟨ρ,d,q⟩:=h_0;exact hg ρ d pins s σ H v u Q I r q
 ·exact fun pins s σ H D I h_1=>by obtain ⟨ρ,q⟩:=h_1;exact hb ρ pins s σ H D I q
 ·refine ⟨H0,Hs0,la,Hs,f,?_⟩
  unfold qx at q
  cases hr:gi ρ with
  | no=>rw [hr] at q;exact q
  | ex x n=>rw [hr] at q;exact q.elim
  | ok ds =>
   rw [hr] at q
   intro J H1 Hs1 s1 it
   have f1:=f.step s1
   exact NF (E:=c.E) (cls:=c.cls) (kt:=kt) (gb:=gbd) (tg:=fun v σ H Q=>∃ ρ d,Ut c.X.K ρ d (kt d ρ) v σ H Q) (tb:=fun D σ H=>∃ ρ,SR c.X.K c.cls E0 ρ (gbd ρ) D σ H) it (NG f1.st.all f1.st.sub) f1.into (fun ρ d v σ H Q h=>⟨ρ,d,h⟩) (fun ρ D σ H h=>⟨ρ,h⟩) (oG.into f1 q)
def tE (i:Nat) (kt:D->aB->R aB) (gb:aB->R Fl):aB->R Fl:=fun ρ=>match ρ[i]? with
 | some (Sl.own (.list ds))=>Z1 i ρ (js kt gb ds (D0 i ρ))
 | _=>qx (lO fun ρ=>Gi ρ i) kt gb ρ
theorem z9 {kt:D->aB->R aB}{gb:aB->R Fl}:∀ (ds:List D) (ρ:aB) (fl:Fl),js kt gb ds ρ=.ok fl->(∃ ρ',fl=.nx ρ')\/∃ d,fl=.rt d
 | [],ρ,fl,h=>by cases h;exact .inl ⟨_,rfl⟩
 | d::r,ρ,fl,h=>by
  unfold js at h
  split at h
  ·split at h
   ·exact z9 r _ _ h
   ·exact z9 r _ _ h
   ·cases h;exact .inl ⟨_,rfl⟩
   ·cases h;exact .inr ⟨_,rfl⟩
   ·cases h
  ·cases h
theorem D1 {kt:D->aB->R aB}{gb:aB->R Fl}:∀ (ds:List D) (ρ:aB) (c:Str) (n:Option D),js kt gb ds ρ≠.ex c n
 | [],ρ,c,n,h=>by cases h
 | d::r,ρ,c,n,h=>by
  unfold js at h
  split at h
  ·split at h
   ·exact D1 r _ _ _ h
   ·exact D1 r _ _ _ h
   ·cases h
   ·cases h
   ·cases h
  ·cases h
theorem IX (i:Nat) (hc:c.X.calm=true) (hg:JG c.nox tg kt) (hb:IT c.nox body gbd) (hN:c.X.N[i]?=some x:=by rfl) (hv:Qv c.X.env.scope x:=by first | exact j9 rfl | exact fK (j9 rfl) | exact fK (fK rfl)) (hd:(x == ("__debug__" : Str))=false:=by decide)
  (hcd:(x == ("__classdict__" : Str))=false:=by decide) (hs:∀ y,eu (.Name x p) c.X.env y=pure y:=by intro _;rfl):JS c (.For tg (.Name x p) body [] pos) (tE i kt gbd):=.of fun ρ=>by
 by_cases ho:∃ ds,ρ[i]?=some (Sl.own (.list ds))
 ·obtain ⟨ds,ho⟩:=ho
  refine NE (AF (MM (tg:=tg) wk hc (uX (X:=c.nox.X) (tX hN hv hd hcd)) (g:=fun v σ H Q=>∃ ρ d,Ut c.X.K ρ d (kt d ρ) v σ H Q) (tb:=fun D σ H=>∃ ρ,SR c.X.K c.cls E0 ρ (gbd ρ) D σ H) ?_ ?_ hs) fun D σ H ⟨H0,Hs0,la,Hs,f,q⟩=>?_)
  ·exact fun pins s σ H v u Q I r h_2=>by obtain ⟨ρ,d,q⟩:=h_2;exact hg ρ d pins s σ H v u Q I r q
  ·exact fun pins s σ H D I h_3=>by obtain ⟨ρ,q⟩:=h_3;exact hb ρ pins s σ H D I q
  ·obtain ⟨a,o,k1,k2,k3,k4,k5⟩:=f.ow i _ ho
   cases k5 with
   | @lst vs _ r =>
    refine ⟨_,k1,a,rfl,⟨_,.of k2⟩,?_⟩
    have hn:ph c.X.K (upd Hs a (.lst vs)) a vs:=.of bg
    unfold tE at q
    simp only [ho] at q
    have fl:=f.lock ho k1 k2 k3 k4 (.lst r)
    have sub:dD (upd Hs a (.lst vs)) H:=fun b u q=>by
     by_cases hb:b=a
     ·subst hb;rw [bg] at q;cases q;exact k2
     ·rw [bi hb] at q;exact f.st.sub b u q
    refine NF (E:=c.E) (cls:=c.cls) (kt:=kt) (gb:=gbd) (ρ:=D0 i ρ) (Hs:=Hs) (la:=fun i'=>if i'=i then some a else la i') (tg:=fun v σ H Q=>∃ ρ d,Ut c.X.K ρ d (kt d ρ) v σ H Q) (tb:=fun D σ H=>∃ ρ,SR c.X.K c.cls E0 ρ (gbd ρ) D σ H) (CZ hn r) (NG f.st.all sub) ?_ (fun ρ d v σ H Q h=>⟨ρ,d,h⟩) (fun ρ D σ H h=>⟨ρ,h⟩) ?_
    ·unfold D0
     rw [ho]
     exact fl
    ·cases hr:js kt gbd ds (D0 i ρ) with
     | no=>rw [hr] at q;exact q
     | ex c n=>exact (D1 _ _ _ _ hr).elim
     | ok fl =>
      rw [hr] at q
      rcases z9 _ _ _ hr with ⟨ρ',rfl⟩ | ⟨d,rfl⟩
      ·exact fun σ' H' Hs' f'=>q σ' H' Hs' (f.unlock ho k4 f')
      ·exact fun v H' Hs' s r=>q v H' Hs' (f.st.unlock s) r
 ·have e:tE i kt gbd ρ=qx (lO fun ρ=>Gi ρ i) kt gbd ρ:=by
   unfold tE
   split
   ·rename_i ds h;exact (ho ⟨ds,h⟩).elim
   ·rfl
  rw [e]
  exact pA hc (ym (c:=c.nox) (ai (c:=c.nox) i hN hv hd hcd)) hg hb hs ρ
def j8 (t:aB->R Bool) (b:aB->R Fl):Nat->aB->R Fl
 | 0,_=>.no
 | n + 1,ρ=>match t ρ with
  | .ok true=>match b ρ with
   | .ok (.nx ρ')=>j8 t b n ρ'
   | .ok (.ct ρ')=>j8 t b n ρ'
   | .ok (.bk ρ')=>.ok (.nx ρ')
   | .ok (.rt d)=>.ok (.rt d)
   | _=>.no
  | .ok false=>.ok (.nx ρ)
  | _=>.no
theorem ED (n:Nat)  (ht:JT c.nox t gt) (hb:IT c.nox body gbd):JS c (.While t body [] pos) (j8 gt gbd n):=.of fun ρ=>by
 refine NE (AF (MJ wk (tc:=fun σ H Q=>∃ ρ,KS c.X.K c.cls E0 ρ (gt ρ) σ H Q) (tb:=fun D σ H=>∃ ρ,SR c.X.K c.cls E0 ρ (gbd ρ) D σ H) ?_ ?_) fun D σ H ⟨H0,Hs0,la,Hs,f,q⟩=>?_)
 ·exact fun pins s σ H Q I h_4=>by obtain ⟨ρ,q⟩:=h_4;exact ht ρ pins s σ H Q I q
 ·exact fun pins s σ H D I h_5=>by obtain ⟨ρ,q⟩:=h_5;exact hb ρ pins s σ H D I q
 ·refine ⟨fun m σ H=>∃ ρ Hs,Fr c.X.K H0 Hs0 la ρ σ H Hs/\oG c.X.K c.cls c.E H0 Hs0 la D (j8 gt gbd m ρ),⟨n,ρ,Hs,f,q⟩,?_⟩
  rintro m σ H ⟨ρ,Hs,f,q⟩
  cases m with
  | zero=>exact q.elim
  | succ m =>
   unfold j8 at q
   refine ⟨ρ,H0,Hs0,la,Hs,f,?_⟩
   cases hg:gt ρ with
   | no=>rw [hg] at q;exact q
   | ex x n=>rw [hg] at q;exact q.elim
   | ok b =>
    rw [hg] at q
    intro H1 Hs1 s1
    cases b with
    | false=>exact Cz (q σ H1 Hs1 (f.step s1))
    | true =>
     refine CA ⟨fun σ' H'=>∃ ρ' Hs',Fr c.X.K H0 Hs0 la ρ' σ' H' Hs'/\oG c.X.K c.cls c.E H0 Hs0 la D (j8 gt gbd m ρ'),fun σ' H' h=>⟨m,dS _,h⟩,ρ,H0,Hs0,la,Hs1,f.step s1,?_⟩
     cases hb':gbd ρ with
     | no=>simp only [hb'] at q;exact q
     | ex x n=>simp only [hb'] at q;exact q.elim
     | ok fl =>
      simp only [hb'] at q
      cases fl with
      | nx ρ'=>exact fun σ' H' Hs' f'=>⟨ρ',Hs',f',q⟩
      | ct ρ'=>exact fun σ' H' Hs' f'=>⟨ρ',Hs',f',q⟩
      | bk ρ'=>exact fun σ' H' Hs' f'=>q σ' H' Hs' f'
      | rt d=>exact q
end
end
section
section
variable {c:C}{e k:aZ}{g gk:aB->R D}{pos p apos cpos:Pos}{x:Str}
def r9 (i:Nat) (g:aB->R D):aB->R Fl:=fun ρ=>match ρ[i]? with
 | some (Sl.own (.list ds))=>(g ρ).bind fun d=>if ds.length<1000 then .ok (.nx (ρ.set i (.own (.list (ds++[d]))))) else .no
 | _=>.no
theorem oJ (i:Nat) (h:JE c e g) (hN:c.X.N[i]?=some x:=by rfl) (hv:Qv c.X.env.scope x:=by first | exact j9 rfl | exact fK (j9 rfl) | exact fK (fK rfl)) (hd:(x == ("__debug__" : Str))=false:=by decide)
  (hcd:(x == ("__classdict__" : Str))=false:=by decide)
  (hbase:Ke (.Name x p) "append" c.X.env (eE (.Name x p) c.X.env)=eE (.Name x p) c.X.env:=by rfl)
  (hfew:((jn cpos (aO [e] c.X.env)).all (fun x=>!x.1) && (backToKw cpos (Q4 [] c.X.env)).all (fun x=>x.1.isSome)
   && decide ([e].length + ([] : List Aj).length + (if ([] : List Aj).isEmpty then 0 else 1)<30))=true:=by rfl)
  (hline:(apos.endLine == cpos.line)=true:=by rfl) (hst:aO [e] c.X.env=(false,eE e c.X.env)::aO [] c.X.env:=by rfl) (hplain:(jn cpos (aO [] c.X.env)).any (·.1)=false:=by rfl)
  (hs:ij (.Call (.Attribute (.Name x p) "append" apos) [e] [] cpos) none pos.line c.X.env=pure false:=by rfl) :
  JS c (.Expr (.Call (.Attribute (.Name x p) "append" apos) [e] [] cpos) pos) (r9 i g):=.of fun ρ=>by
 refine AF (Cq (Sf Ba Ar As Bj (tX hN hv hd hcd) (iR (h ρ) kq hst) hbase hfew hline hst hplain) hs) fun D σ H h_0=>?_
 obtain ⟨H0,Hs0,la,Hs,f,q⟩:=h_0
 replace q:oG c.X.K c.cls c.E H0 Hs0 la D (r9 i g ρ):=q
 unfold r9 at q
 split at q
 ·rename_i ds ho
  obtain ⟨a,o,k1,k2,k3,k4,k5⟩:=f.ow i _ ho
  cases k5 with
  | @lst vs _ r =>
   refine ⟨_,k1,.inl ⟨rfl,_,.of k2⟩,?_⟩
   refine sE f q fun d v H1 Hs1 e1 s1 f1 r1=>?_
   rw [e1,bind_ok] at q
   by_cases hl:ds.length<1000
   ·rw [if_pos hl] at q
    have r':=r.same s1.sh
    exact ⟨a,vs,v,rfl,rfl,s1.all _ _ k2,dW (by rw [r.length];omega),q _ _ Hs1 (f1.write i ho k1 (.lst (r'.append (.cons r1 .nil))))⟩
   ·rw [if_neg hl] at q;exact q.elim
 ·exact q.elim
def tF:D->Option fQ
 | .int i=>some (.inl i)
 | .str x=>some (.inr x)
 | _=>none
theorem zc  (h:tF d=some y):d=kD y:=by
 cases d<;>cases h<;>rfl
@[simp] theorem keyOf_of (y:fQ):tF (kD y)=some y:=by cases y<;>rfl
def xT (kvs:List (D×D)) (k d:D):List (D×D):=if kvs.any (fun kv=>bn kv.1 k) then kvs.map (fun kv=>if bn kv.1 k then (kv.1,d) else kv) else kvs++[(k,d)]
theorem D2 (a b:fQ):bn (kD a) (kD b)=decide (a=b):=by
 cases a<;>cases b<;>simp [kD,bn,rH]
theorem RDk.any   (y:fQ):∀ {ds:List (D×D)},RDk K H kvs ds->(ds.any fun kv=>bn kv.1 (kD y))=kvs.any fun kv=>decide (kv.1=y):=by
 induction kvs with
 | nil=>intro ds h;cases h;rfl
 | cons x r ih=>intro ds h;cases h with | cons h t=>rw [dY,dY,ih t,D2]
theorem RDk.repl  (y:fQ)  (rv:RD K H v d):∀ {kvs:List (fQ×V)}{ds:List (D×D)},RDk K H kvs ds ->
  RDk K H (kvs.map fun kv=>if kv.1=y then (kv.1,v) else kv) (ds.map fun kv=>if bn kv.1 (kD y) then (kv.1,d) else kv)
 | _,_,.nil=>.nil
 | _,_,.cons (k:=k) h t=>by
  rw [av,av]
  have e:=D2 k y
  by_cases hk:k=y
  ·subst hk
   rw [show (if k=k then (k,v) else (k,_))=(k,v) from if_pos rfl,show (if bn (kD k) (kD k)=true then (kD k,d) else (kD k,_))=(kD k,d) from if_pos (by rw [e];simp)]
   exact .cons rv (RDk.repl k rv t)
  ·simp only [e,hk,if_neg,decide_false,bw,not_false_eq_true]
   exact .cons h (RDk.repl y rv t)
theorem RDk.snoc  (y:fQ)  (rv:RD K H v d):∀ {kvs:List (fQ×V)}{ds:List (D×D)},RDk K H kvs ds->RDk K H (kvs++[(y,v)]) (ds++[(kD y,d)])
 | _,_,.nil=>.cons rv .nil
 | _,_,.cons h t=>.cons h (RDk.snoc y rv t)
theorem RDk.put    (r:RDk K H kvs ds) (y:fQ)  (rv:RD K H v d):RDk K H (m_ kvs y v) (xT ds (kD y) d):=by
 unfold m_ xT
 rw [r.any y]
 split
 ·exact r.repl y rv
 ·exact r.snoc y rv
def ic (kvs:List (D×D)):Bool:=kvs.all fun kv=>(tF kv.1).isSome
def D3 (i:Nat) (gk g:aB->R D):aB->R Fl:=fun ρ=>match ρ[i]? with
 | some (Sl.own (.dict kvs))=>(g ρ).bind fun d=>(gk ρ).bind fun k=>match tF k with
  | some _=>if kvs.length<1000/\ic kvs=true then .ok (.nx (ρ.set i (.own (.dict (xT kvs k d))))) else .no
  | none=>.no
 | _=>.no
theorem Hg    (h:RD K H v (kD y)):v=kV y:=by
 cases y<;>cases h<;>rfl
theorem RDt.flat    (h:RDt K H kvs ds) (f:ic ds=true):kvs=[]/\ds=[]:=by
 cases h with
 | nil=>exact ⟨rfl,rfl⟩
 | cons h t=>simp [ic,tD,tF] at f
theorem IY (i:Nat) (h:JE c e g) (hk:JE c k gk) (hu:c.X.A.units + 1<gT) (hN:c.X.N[i]?=some x:=by rfl) (hv:Qv c.X.env.scope x:=by first | exact j9 rfl | exact fK (j9 rfl) | exact fK (fK rfl)) (hd:(x == ("__debug__" : Str))=false:=by decide)
  (hcd:(x == ("__classdict__" : Str))=false:=by decide) (hs:ij e (some (.Subscript (.Name x p) k apos)) pos.line c.X.env=pure false:=by rfl):JS c (.Assign [.Subscript (.Name x p) k apos] e pos) (D3 i gk g):=.of fun ρ=>by
 refine AF (IF hu (tX hN hv hd hcd) (hk ρ) (h ρ) hs) fun D σ H h_1=>?_
 obtain ⟨H0,Hs0,la,Hs,f,q⟩:=h_1
 replace q:oG c.X.K c.cls c.E H0 Hs0 la D (D3 i gk g ρ):=q
 unfold D3 at q
 split at q
 ·rename_i kvs ho
  obtain ⟨a,o,k1,k2,k3,k4,k5⟩:=f.ow i _ ho
  have main:∀ {H:Hp}{vs:List (fQ×V)},Fr c.X.K H0 Hs0 la ρ σ H Hs->H a=some (.dK vs)->RDk c.X.K Hs vs kvs->Si (Vo i) (TR c.X.K c.cls c.E ρ (gk ρ)) (TR c.X.K c.cls c.E ρ (g ρ)) D σ H:=fun {H vs} f k2 r=>by
   refine sE f q fun d v H1 Hs1 e1 s1 f1 r1=>?_
   rw [e1,bind_ok] at q
   refine ⟨_,k1,sE f1 q fun y w H2 Hs2 e2 s2 f2 r2=>?_⟩
   rw [e2,bind_ok] at q
   split at q
   ·rename_i ky hy
    obtain rfl:=zc hy
    by_cases hl:kvs.length<1000/\ic kvs=true
    ·rw [if_pos hl] at q
     have ha:=s2.all _ _ (s1.all _ _ k2)
     have r':=(r.same s1.sh).same s2.sh
     rw [Hg r2]
     exact ⟨a,_,rfl,E8.k ha (dW (by rw [r.length];omega)),q _ _ Hs2 (f2.write i ho k1 (.dK (r'.put ky (r1.same s2.sh))))⟩
    ·rw [if_neg hl] at q;exact q.elim
   ·exact q.elim
  cases k5 with
  | dK r=>exact main f k2 r
  | dT n r =>
   refine sE f q fun d v H1 Hs1 e1 s1 f1 r1=>?_
   rw [e1,bind_ok] at q
   refine ⟨_,k1,sE f1 q fun y w H2 Hs2 e2 s2 f2 r2=>?_⟩
   rw [e2,bind_ok] at q
   split at q
   ·rw [if_neg (fun z=>n (r.flat z.2).1)] at q;exact q.elim
   ·exact q.elim
  | dF n r =>
   refine sE f q fun d v H1 Hs1 e1 s1 f1 r1=>?_
   rw [e1,bind_ok] at q
   refine ⟨_,k1,sE f1 q fun y w H2 Hs2 e2 s2 f2 r2=>?_⟩
   rw [e2,bind_ok] at q
   split at q
   ·rw [if_neg (fun z=>by cases z.2)] at q;exact q.elim
   ·exact q.elim
 ·exact q.elim
def lP (kvs:List (D×D)) (k:D):Option D:=(kvs.find? fun kv=>bn kv.1 k).map (·.2)
theorem RDk.val  : ∀ {kvs:List (fQ×V)}{ds:List (D×D)},RDk K H kvs ds->∀ (y:fQ),(oF kvs y=none/\lP ds (kD y)=none)\/∃ v d,oF kvs y=some v/\lP ds (kD y)=some d/\RD K H v d
 | _,_,.nil,y=>.inl ⟨rfl,rfl⟩
 | _,_,.cons (k:=k) h t,y=>by
  unfold oF lP
  rw [bS,bS,D2]
  by_cases hk:k=y
  ·simp only [hk,decide_true,cL]
   exact .inr ⟨_,_,rfl,rfl,h⟩
  ·simp only [hk,decide_false]
   exact RDk.val t y
def bp:D->D->R D
 | .dict kvs,k=>match tF k with
  | some _=>if ic kvs=true then (match lP kvs k with
   | some d=>.ok d
   | none=>.no) else .no
  | none=>.no
 | x,k=>Ew x k
variable {a b:aZ}{ga gb:aB->R D}
theorem cp (hu:c.X.A.units + 1<gT) (ha:JB c a ga) (hb:JB c b gb) (hs:u_ b:=by exact fun _ _=>rfl):JE c (.Subscript a b pos) (g2 ga gb bp):=.of fun ρ=>by
 by_cases hx:∃ kvs,ga ρ=.ok (.dict kvs)
 ·obtain ⟨kvs,hx⟩:=hx
  refine tm (IE hu (ha ρ) (hb ρ) hs) fun σ H Q h_2=>?_
  obtain ⟨H0,Hs0,la,Hs,f,q⟩:=h_2
  refine one f q fun d v H1 Hs1 e1 s1 f1 r1=>?_
  rw [hx] at e1
  cases e1
  unfold g2 at q
  rw [hx,bind_ok] at q
  refine one f1 (q.on s1 (q':=fun _=>True) fun _ _=>trivial) fun y w H2 Hs2 e2 s2 f2 r2=>?_
  rw [e2,bind_ok] at q
  unfold bp at q
  simp only at q
  split at q
  ·rename_i ky hy
   obtain rfl:=zc hy
   by_cases hf:ic kvs=true
   ·rw [if_pos hf] at q
    obtain ⟨p,rfl,h⟩:=(r1.step s2).dict f2.st.sub
    have rk:w=kV ky:=by
     rcases r2 with r2 | ⟨_,o,rfl,_,_,ow⟩
     ·exact Hg r2
     ·cases ky<;>cases ow
    subst rk
    rcases h with ⟨vs,h1,h2⟩ | ⟨vs,h1,hn,h2⟩ | ⟨o,vs,es,rfl,h1,hn,h2⟩
    ·rcases h2.val ky with ⟨_,h3⟩ | ⟨u,d,h3,h4,h5⟩
     ·rw [h3] at q;exact q.elim
     ·rw [h4] at q
      exact ⟨p,u,rfl,by rw [<- h3];exact xN.k h1,q _ H2 Hs2 (s1.trans s2) h5⟩
    ·exact (hn (h2.flat hf).1).elim
    ·cases hf
   ·rw [if_neg hf] at q;exact q.elim
  ·exact q.elim
 ·refine tm (W9 ha hb hs ρ) fun σ H Q q=>?_
  have e:g2 ga gb bp ρ=g2 ga gb Ew ρ:=by
   unfold g2
   cases hr:ga ρ with
   | ok d =>
    cases d with
    | dict kvs=>exact (hx ⟨kvs,hr⟩).elim
    | _=>rfl
   | _=>rfl
  rw [e] at q
  exact q
def kQ:D->R D
 | .dict kvs=>if ic kvs=true then .ok (.list (kvs.map (·.1))) else .no
 | x=>Bx x
theorem EE  : ∀ {kvs:List (fQ×V)}{ds:List (D×D)},RDk K H kvs ds->RDs K H (kvs.map fun p=>kV p.1) (ds.map (·.1))
 | _,_,.nil=>.nil
 | _,_,.cons (k:=k) h t=>.cons (by cases k<;>constructor) (EE t)
theorem zd (hc:X.calm=true):K_ X (.type "list") (iy kQ):=by
 refine qZ (fun d c n=>?_) fun pins s σ H x u Q Hs d d' I ru sub rx hd q=>?_
 ·unfold kQ Bx
  split<;>(try split)<;>(try split)<;>exact fun h=>by cases h
 ·by_cases hx:∃ kvs,d=.dict kvs
  ·obtain ⟨kvs,rfl⟩:=hx
   unfold kQ at hd
   simp only at hd
   split at hd
   ·rename_i hf
    cases hd
    obtain ⟨a,rfl,⟨vs,h1,h2⟩ | ⟨vs,h1,n,h2⟩ | ⟨o,vs,es,rfl,h1,n,h2⟩⟩:=rx.dict sub
    ·exact yR hc pins s σ H _ _ Q I (.cons ru .nil) ⟨a,vs,rfl,h1,fun l hl=>q _ _ _ (.new sub hl) (.list (.of bg) ((EE h2).same (cK.new sub hl).sh))⟩
    ·exact (n (h2.flat hf).1).elim
    ·cases hf
   ·cases hd
  ·have e:kQ d=Bx d:=by
    cases d with
    | dict kvs=>exact (hx ⟨kvs,rfl⟩).elim
    | _=>rfl
   rw [e] at hd
   exact (R8 (X:=X)).1 pins s σ H [x] [u] Q I (.cons ru .nil) ⟨Hs,[d],sub,.cons rx .nil,d',hd,q⟩
end
end
section
open PyProof.Rows (envOfC)
section
variable {c:C}{e a b d:aZ}{g ga gb gc:aB->R D}{pos p cpos:Pos}{x:Str}
theorem NH        (hx:∀ x y c n,h x y≠.ex c n) (hx':∀ x y c n,h' x y≠.ex c n) (q:TR K cls E ρ (qW ga gb gc h h' ρ) σ H Q) :
  GJ (rD K h) (rD K h') (TB K cls E ρ (ga ρ)) (TB K cls E ρ (gb ρ)) (TB K cls E ρ (gc ρ)) σ H Q:=by
 obtain ⟨H0,Hs0,la,Hs,f,q⟩:=q
 refine one f q fun x v H1 Hs1 e1 s1 f1 r1=>?_
 unfold qW at q
 rw [e1,bind_ok] at q
 refine one f1 (q.on s1 (q':=fun _=>True) fun _ _=>trivial) fun y u H2 Hs2 e2 s2 f2 r2=>?_
 rw [e2,bind_ok] at q
 cases hr:h x y with
 | ex c n=>exact (hx x y c n hr).elim
 | no=>rw [hr] at q;exact q.elim
 | ok z =>
  rw [hr,bind_ok] at q
  refine ⟨Hs2,x,y,f2.st.sub,r1.step s2,r2,z,hr,fun w H3 Hs3 s3 r3=>?_⟩
  cases r3 with
  | bool k =>
   refine ⟨k,rfl,?_⟩
   have f3:=f2.step s3
   cases k with
   | false=>exact Cz (q _ H3 Hs3 (s1.trans (s2.trans s3)) (.bool _))
   | true =>
    refine CA (one f3 (q.on (s1.trans (s2.trans s3)) (q':=fun _=>True) fun _ _=>trivial) fun t u' H4 Hs4 e4 s4 f4 r4=>?_)
    simp only [e4,bind_ok] at q
    cases hr':h' y t with
    | ex c n=>exact (hx' y t c n hr').elim
    | no=>rw [hr'] at q;exact q.elim
    | ok z' =>
     rw [hr'] at q
     exact ⟨Hs4,y,t,f4.st.sub,(r2.step s3).step s4,r4,z',hr',fun w H5 Hs5 s5 r5=>q w H5 Hs5 (s1.trans (s2.trans (s3.trans (s4.trans s5)))) r5⟩
  | none=>exact q.elim
  | int _=>exact q.elim
  | str _=>exact q.elim
  | list _ _=>exact q.elim
  | tuple _ _=>exact q.elim
  | dictK _ _=>exact q.elim
  | dictT _ _ _=>exact q.elim
  | dictF _ _ _=>exact q.elim
theorem EF  (ho:xQ c.X (bO op) h) (ho':xQ c.X (bO op') h') (ha:JB c a ga) (hb:JB c b gb) (hc:JB c d gc) (hm:M2 [op,op'] [b,d]=false:=by with_unfolding_all rfl):JE c (.Compare a [op,op'] [b,d] pos) (qW ga gb gc h h') :=
 .of fun ρ=>tm (MO ho.1 ho'.1 (ha ρ) (hb ρ) (hc ρ) hm) fun σ H Q q=>NH ho.2 ho'.2 q
theorem NI  (ho:xQ c.X (bO op) h) (ho':xQ c.X (bO op') h') (ha:JB c a ga) (hb:JB c b gb) (hc:JB c d gc) (hm:M2 [op,op'] [b,d]=false:=by with_unfolding_all rfl):JT c (.Compare a [op,op'] [b,d] pos) (fR (qW ga gb gc h h')) :=
 .of fun ρ=>W4 (MP ho.1 ho'.1 (ha ρ) (hb ρ) (hc ρ) hm) fun σ H Q q=>NH ho.2 ho'.2 (W5 q)
def Uv:D->R D
 | .int i=>.ok (.int (-i))
 | _=>.no
def xU (g:aB->R D):aB->R D:=fun ρ=>(g ρ).bind Uv
theorem Hh (h:JE c e g):JE c (.UnaryOp .USub e pos) (xU g):=.of fun ρ=>tm (VB U3 (h ρ)) fun σ H Q h_0=>by
 obtain ⟨H0,Hs0,la,Hs,f,q⟩:=h_0
 refine AG f q fun d v H1 Hs1 e1 s1 f1 r1=>?_
 unfold xU at q
 rw [e1,bind_ok] at q
 cases r1 with
 | int i=>exact ⟨i,rfl,q _ H1 Hs1 s1 (.int _)⟩
 | _=>exact q.elim
inductive Wj (K:a8) (w:bc) (cls:Str->ak) (E:XK) (ρ:aB) (r:R (List Str)) (σ:St) (H:Hp) (Q:VK):Prop
 | mk (H0 Hs0:Hp) (la:Nat->Option ak) (Hs:Hp) (f:Fr K H0 Hs0 la ρ σ H Hs) (q:Fin K cls E H Hs r fun ss=>∀ p H' Hs',cK H Hs H' Hs'->H' p=none->Q (.ref p) (upd H' p (lQ w p ss))):Wj K w cls E ρ r σ H Q
def Xx (K:a8) (w:bc) (cls:Str->ak) (E:XK) (ρ:aB) (r:R (List Str)):TE:=Wj K w cls E ρ r
structure Rf (c:C) (e:aZ) (g:aB->R (List Str)):Prop where of ::
 run:∀ ρ,PE c.X e (Xx c.X.K c.X.w c.cls c.E ρ (g ρ))
instance {c:C}{e:aZ}{g:aB->R (List Str)}:CoeFun (Rf c e g) (fun _=>∀ ρ,PE c.X e (Xx c.X.K c.X.w c.cls c.E ρ (g ρ))):=⟨Rf.run⟩
theorem IZ {K:a8}{w:bc}{cls:Str->ak}{E:XK}{ρ:aB}{r:R (List Str)}{β:Type}{k:List Str->R β}{σ:St}{H:Hp}{H0 Hs0 Hs:Hp}{la:Nat->Option ak}{Q:V->Hp->Prop}{q:β->Prop} (f:Fr K H0 Hs0 la ρ σ H Hs)
  (h:Fin K cls E H Hs (r.bind k) q) (m:∀ ss p H' Hs',r=.ok ss->cK H Hs H' Hs'->Fr K H0 Hs0 la ρ σ H' Hs'->H' p=none->Q (.ref p) (upd H' p (lQ w p ss))):Xx K w cls E ρ r σ H Q:=by
 refine ⟨H0,Hs0,la,Hs,f,?_⟩
 cases r with
 | ok d=>exact fun p H' Hs' s n=>m d p H' Hs' rfl s (f.step s) n
 | ex c n=>exact h
 | no=>exact h
variable {gset:aB->R (List Str)}
def ua:D->R (List Str)
 | .list ds=>match eV ds with
  | some ss=>if ss.length<60 then .ok (dn [] ss) else .no
  | none=>.no
 | .tuple ds=>match eV ds with
  | some ss=>if ss.length<60 then .ok (dn [] ss) else .no
  | none=>.no
 | _=>.no
def pB (g:aB->R D):aB->R (List Str):=fun ρ=>(g ρ).bind ua
theorem D4 (hc:c.X.calm=true) (h:JB c e g) (hg2:Gl c.X "set") (hm2:c.X.mg "set"=none) (he:aO [e] c.X.env=(false,eE e c.X.env)::aO [] c.X.env:=by rfl) :
  Rf c (.Call (.Name "set" p) [e] [] cpos) (pB g):=.of fun ρ=>by
 refine tm (Bh (Ek hc) hg2 hm2 PyProof.Rows.boot_set (iR (h ρ) kq he) (he:=he)) fun σ H Q h_1=>?_
 obtain ⟨H0,Hs0,la,Hs,f,q⟩:=h_1
 refine one f q fun d v H1 Hs1 e1 s1 f1 r1=>?_
 unfold pB at q
 rw [e1,bind_ok] at q
 unfold ua at q
 split at q
 ·split at q
  ·rename_i ss hs
   by_cases hz:ss.length<60
   ·rw [if_pos hz] at q
    obtain ⟨a,vs,rfl,qa,ra⟩:=r1.list f1.st.sub
    rw [nu hs] at ra
    rw [lR ra] at qa
    exact ⟨a,ss,rfl,.inl qa,aC (Kk hz 1) (by decide),fun p hp=>q p H1 Hs1 s1 hp⟩
   ·rw [if_neg hz] at q;exact q.elim
  ·exact q.elim
 ·split at q
  ·rename_i ss hs
   by_cases hz:ss.length<60
   ·rw [if_pos hz] at q
    obtain ⟨a,vs,rfl,qa,ra,_⟩:=r1.tuple f1.st.sub
    rw [nu hs] at ra
    rw [lR ra] at qa
    exact ⟨a,ss,rfl,.inr qa,aC (Kk hz 1) (by decide),fun p hp=>q p H1 Hs1 s1 hp⟩
   ·rw [if_neg hz] at q;exact q.elim
  ·exact q.elim
 ·exact q.elim
def lc (g:aB->R (List Str)):aB->R D:=fun ρ=>(g ρ).bind fun ss=>if ss.length<64 then .ok (.list ((jP ss).map .str)) else .no
theorem ub (hc:c.X.calm=true) (h:Rf c e gset) (hg:Gl c.X "sorted") (hm:c.X.mg "sorted"=none) (he:aO [e] c.X.env=(false,eE e c.X.env)::aO [] c.X.env:=by rfl) :
  JE c (.Call (.Name "sorted" p) [e] [] cpos) (lc gset):=.of fun ρ=>by
 refine tm (uY (xO hc) hg hm mh (iR (h ρ) kq he) (he:=he)) fun σ H Q h_2=>?_
 obtain ⟨H0,Hs0,la,Hs,f,q⟩:=h_2
 dsimp only [L2.VH,L2.MR,L2.U7]
 refine IZ (w:=c.X.w) f q fun ss p H1 Hs1 e1 s1 f1 n1=>?_
 unfold lc at q
 rw [e1,bind_ok] at q
 by_cases hz:ss.length<64
 ·rw [if_pos hz] at q
  have st1:cK H1 Hs1 (upd H1 p (lQ c.X.w p ss)) Hs1:=.mine f1.st.sub n1
  exact ⟨p,ss,rfl,bg,hz,fun l hl=>q _ _ _ (s1.trans (st1.trans (.new st1.sub hl))) (.list (.of bg) (vh _))⟩
 ·rw [if_neg hz] at q;exact q.elim
def vj (g:aB->R (List Str)):aB->R D:=fun ρ=>(g ρ).bind fun ss=>.ok (.int ss.length)
theorem L7 (h:Rf c e gset) (hg:Gl c.X "len") (hm:c.X.mg "len"=none) (he:aO [e] c.X.env=(false,eE e c.X.env)::aO [] c.X.env:=by rfl) :
  JE c (.Call (.Name "len" p) [e] [] cpos) (vj gset):=.of fun ρ=>by
 refine tm (uY AD hg hm bG (iR (h ρ) kq he) (he:=he)) fun σ H Q h_3=>?_
 obtain ⟨H0,Hs0,la,Hs,f,q⟩:=h_3
 dsimp only [L2.VH,L2.MR,L2.U7]
 refine IZ (w:=c.X.w) f q fun ss p H1 Hs1 e1 s1 f1 n1=>?_
 unfold vj at q
 rw [e1,bind_ok] at q
 have st1:cK H1 Hs1 (upd H1 p (lQ c.X.w p ss)) Hs1:=.mine f1.st.sub n1
 exact ⟨p,ss,rfl,bg,q _ _ _ (s1.trans st1) (.int _)⟩
variable {elt iter tg:aZ}{ifs:List aZ}{scope:gE}{N':List Str}{nt:Nat}{ix:List Nat}{gi:aB->R (List D)}{gt:aB->R Bool}{ge:aB->R D}
def wC (nt:Nat) (ix:List Nat) (gi:aB->R (List D)) (gt:aB->R Bool) (ge:aB->R D):aB->R (List Str):=fun ρ=>(gi ρ).bind fun ds=>if ds.length<=60 then (g_ (iw nt (oH nt ix ρ) gt ge) ds).bind fun ys=>match eV ys with
 | some ss=>.ok (dn [] ss)
 | none=>.no else .no
theorem AK  : ∀ {ss:List Str},eV (xs++ys)=some ss->∃ s1 s2,eV xs=some s1/\eV ys=some s2/\ss=s1++s2:=by
 induction xs with
 | nil=>intro ss h;exact ⟨[],ss,rfl,h,rfl⟩
 | cons d r ih =>
  intro ss h
  cases d with
  | str b =>
   have h:(eV (r++ys)).map (b::·)=some ss:=h
   cases hr:eV (r++ys) with
   | none=>rw [hr] at h;cases h
   | some z =>
    rw [hr] at h
    cases h
    obtain ⟨s1,s2,h1,h2,rfl⟩:=ih hr
    exact ⟨b::s1,s2,by show (eV r).map (b::·)=_;rw [h1];rfl,h2,rfl⟩
  | _=>cases h
theorem ze (z:Str):∀ (l acc:List Str),dn acc (l++[z])=if z∈dn acc l then dn acc l else dn acc l++[z]
 | [],acc=>rfl
 | x::l,acc=>by
  show dn _ (l++[z])=_
  rw [ze z l]
  rfl
inductive Z3 (f:D->R (Option D)) (ds:List D) (ss:List Str) (H1 Hs1:Hp) (i m:Nat) (acc:List Str) (H':Hp):Prop
 | mk (done c6 zs sa sz Hs':_) (h0:ds=done++c6) (h1:done.length=i) (h2:c6.length=m) (h3:cK H1 Hs1 H' Hs') (h4:acc=dn [] sa) (h5:sa.length<=i) (h6:g_ f c6=.ok zs) (h7:eV zs=some sz) (h8:ss=sa++sz):Z3 f ds ss H1 Hs1 i m acc H'
theorem Rg        (hnt:nt=1\/nt=2)
  (q:Xx K w cls E ρ (wC nt ix gi gt ge ρ) σ H Q) :
  Nr w nt ix (Xv K cls E ρ (gi ρ)) (L6 K nt) (fun σ H Q=>∃ ρ',KS K cls E0 ρ' (gt ρ') σ H Q) (fun σ H Q=>∃ ρ',TR K cls E0 ρ' (ge ρ') σ H Q) σ H Q:=by
 obtain ⟨H0,Hs0,la,Hs,f,q⟩:=q
 refine ⟨H0,Hs0,la,Hs,f,?_⟩
 unfold wC at q
 cases hi:gi ρ with
 | no=>rw [hi] at q;exact q
 | ex x n=>rw [hi] at q;exact q
 | ok ds =>
  rw [hi,bind_ok] at q
  intro J H1 Hs1 Hn s1 sn it
  by_cases hl:ds.length<=60
  ·rw [if_pos hl] at q
   cases hm:g_ (iw nt (oH nt ix ρ) gt ge) ds with
   | no=>rw [hm] at q;exact q.elim
   | ex x n=>exact (y_ (EB _ _ _ _) _ _ _ hm).elim
   | ok ys =>
    rw [hm,bind_ok] at q
    cases hs:eV ys with
    | none=>rw [hs] at q;exact q.elim
    | some ss =>
     rw [hs] at q
     obtain ⟨lb,fb⟩:=(f.step s1).block nt ix
     refine ⟨Z3 (iw nt (oH nt ix ρ) gt ge) ds ss H1 Hs1,
      ⟨ds.length,[],ds,ys,[],ss,Hs1,rfl,rfl,rfl,.refl s1.sub,rfl,cC _,hm,hs,rfl⟩,?_⟩
     rintro i m acc H' ⟨done,c6,zs,sa,sz,Hs',hds,hdl,hrl,st,rfl,yl,hz,hzs,hy⟩
     obtain ⟨igo,istop,iyld⟩:=it H' Hs' (sn.trans st.all) st.sh st.sub
     cases c6 with
     | nil =>
      left
      cases hz
      cases hzs
      rw [cO] at hds hy
      subst hy hds
      exact ⟨istop i (by omega),fun p hp=>q p H' Hs' (s1.trans st) hp⟩
     | cons d c6 =>
      right
      have hil:i<ds.length:=by rw [hds,aM,aW];omega
      have hol:=gn sa []
      simp at hol
      refine ⟨igo i hil,w9 (show (dn [] sa).length + 1<=61 by omega) (by decide),fun x H2 hyl=>?_⟩
      obtain ⟨d',Hs2,hd,s2,r2⟩:=iyld i x H2 hil hyl
      have hdd:d'=d:=by
       rw [hds,bh (by omega)] at hd
       simp [hdl] at hd
       exact hd.symm
      subst hdd
      obtain ⟨o,zs',hf,hz',rfl⟩:=yZ hz
      have hf:=IV hf
      obtain ⟨so,sz',hso,hsz,rfl⟩:=AK hzs
      cases hb:Wh nt d' (oH nt ix ρ) with
      | no=>rw [hb] at hf;cases hf
      | ex x n=>rw [hb] at hf;cases hf
      | ok ρ' =>
       rw [hb,bind_ok] at hf
       refine EA hnt ((fb.step st).step s2) r2 hb fun σ2 f2=>⟨ρ',?_⟩
       refine ⟨_,_,_,Hs2,f2,?_⟩
       cases ht:gt ρ' with
       | no=>rw [ht] at hf;cases hf
       | ex x n=>rw [ht] at hf;cases hf
       | ok b =>
        rw [ht,bind_ok] at hf
        intro H3 Hs3 s3
        cases b with
        | false =>
         rw [if_neg bq] at hf
         cases hf
         cases hso
         refine Cz ⟨c6.length,by rw [<- hrl];simp,done++[d'],c6,zs',sa,sz',Hs3,by rw [hds];simp,by simp [hdl],rfl,(st.trans s2).trans s3,rfl,by omega,hz',hsz,by simpa using hy⟩
        | true =>
         rw [if_pos rfl] at hf
         refine CA ⟨ρ',_,_,_,Hs3,f2.step s3,?_⟩
         cases he:ge ρ' with
         | no=>rw [he] at hf;cases hf
         | ex x n=>rw [he] at hf;cases hf
         | ok y =>
          rw [he,bind_ok] at hf
          cases hf
          intro v H4 Hs4 s4 r4
          cases r4 with
          | str z =>
           cases hso
           exact ⟨z,c6.length,rfl,by rw [<- hrl];simp,done++[d'],c6,zs',sa++[z],sz',Hs4,by rw [hds];simp,by simp [hdl],rfl,((st.trans s2).trans s3).trans s4,(ze z sa []).symm,by simp;omega,hz',hsz,by rw [hy];simp⟩
          | none=>cases hso
          | bool _=>cases hso
          | int _=>cases hso
          | list _ _=>cases hso
          | tuple _ _=>cases hso
          | dictK _ _=>cases hso
          | dictT _ _ _=>cases hso
          | dictF _ _ _=>cases hso
  ·rw [if_neg hl] at q;exact q.elim
theorem NJ (nt:Nat) (hnt:nt=1\/nt=2) (hc:c.X.calm=true) (S:nV c.X scope N' nt ix) (hi:JI c tg iter gi) (hb:vi c N' scope nt tg ifs elt gt ge) (hs:∀ x,eu iter c.X.env x=pure x:=by intro _;rfl) :
  Rf c (.SetComp elt [⟨tg,iter,ifs,0⟩] scope pos) (wC nt ix gi gt ge):=.of fun ρ=>tm (GY hc S (C_ hnt) (hi ρ) hb.at hs) fun σ H Q q=>Rg hnt q
end
def bP (n:Nat) (ds:List D):aB:=ds.map Sl.shr++sW (n - ds.length) Sl.no
def eS (n:Nat) (g:aB->R Fl):List D->R D:=fun ds=>match g (bP n ds) with
 | .ok (.nx _)=>.ok .none
 | .ok (.rt d)=>.ok d
 | .ex c m=>.ex c m
 | _=>.no
theorem zf {n:Nat}{ds:List D}{i:Nat}{s:Sl} (h:(bP n ds)[i]?=some s):(∃ d,ds[i]?=some d/\s=.shr d)\/s=.no:=by
 unfold bP at h
 by_cases hi:i<ds.length
 ·rw [bf (by simpa using hi),aT] at h
  cases hd:ds[i]? with
  | none=>rw [hd] at h;cases h
  | some z=>rw [hd] at h;cases h;exact .inl ⟨z,rfl,rfl⟩
 ·rw [bh (by simp;omega),ck] at h
  split at h<;>cases h
  exact .inr rfl
theorem L8 {N:List Str}{vs:List V}{i:Nat}{v:V} (h:vs[i]?=some v):(L2.start N vs)[i]?=some (some v):=by
 unfold L2.start
 have hi:i<vs.length:=(List.getElem?_eq_some_iff.mp h).1
 rw [bf (by simpa using hi),aT,h]
 rfl
theorem Fr.start {K : a8} {H Hs : Hp} {N : List Str} {vs : List V} {ds : List D} (sub : dD Hs H) (r : RDs K Hs vs ds) : Fr K H Hs (fun _ => none) (bP N.length ds) (L2.start N vs) H Hs := by
  have hl := r.length
  refine ⟨.refl sub, by simp [bP, L2.start, hl], fun i d h => ?_, fun i d h => ?_, fun i d h => ?_, fun i j d e a h _ _ _ => ?_, fun i a h => (nomatch h), fun i d h => ?_, fun i j d e h _ => ?_⟩
  · rcases zf h with ⟨z, hz, e⟩ | e
    · cases e
      obtain ⟨v, k1, k2⟩ := r.get' hz
      exact ⟨v, L8 k1, k2⟩
    · cases e
  all_goals (rcases zf h with ⟨z, _, e⟩ | e <;> cases e)
theorem SC             (F:KG K x qual st f fd) (S:bD N ps (az st))
  (h:∀ (cdv:aa) (A:aX) (outer:List Env) (s:af) (H:Hp) (E:XK),lG k (A.deeper (tS qual (az st) s.heap.objs.size f cdv))->IT ⟨ke (qm P w) P w K mg base N qual (az st) f cdv A outer s H E,cls,E⟩ (iu st) g) :
  sQ P w K mg base (qm P w) (k + 1) f fd ps (SA K cls ps.length (eS N.length g)):=by
 obtain ⟨oc,od,kV,doc,pm,an,cdv,ct,osl,rfl,lk,hcd⟩:=F.ex
 refine VG lk hcd S (fun vs H Q E h_4=>by obtain ⟨Hs,ds,sub,hn,r,q⟩:=h_4;exact by rw [r.length];exact hn) fun A outer s H vs Q E hr hsp=>?_
 obtain ⟨Hs,ds,sub,hn,r,q⟩:=hsp
 refine ⟨_,h cdv A outer s H E hr (bP N.length ds),H,Hs,_,Hs,Fr.start sub r,?_⟩
 unfold eS at q
 cases hg:g (bP N.length ds) with
 | no=>rw [hg] at q;exact q
 | ex c n=>rw [hg] at q;exact q
 | ok fl =>
  rw [hg] at q
  cases fl with
  | nx ρ'=>exact fun σ' H' Hs' f'=>q .non H' Hs' f'.st .none
  | rt d=>exact fun v H' Hs' s r=>q v H' Hs' s r
  | bk ρ'=>exact q.elim
  | ct ρ'=>exact q.elim
theorem Wk             (F:KG K x qual st f fd) (S:bD N ps (az st)) (hm:mg x=some (.ref f)) (hb:lM K fd ps [])
  (h:∀ (cdv:aa) (A:aX) (outer:List Env) (s:af) (H:Hp) (E:XK),lG k (A.deeper (tS qual (az st) s.heap.objs.size f cdv))->IT ⟨ke (qm P w) P w K mg base N qual (az st) f cdv A outer s H E,cls,E⟩ (iu st) g) :
  Fn P w K mg base cls x (k + 1) ps.length (eS N.length g):=⟨f,fd,ps,SC F S h,hm,F.kp,hb⟩
theorem eB:tZ (qm X.prog X.w) X E0:=fun _ _ _ _ _ _ _ h=>by
 obtain ⟨_,_,_,_,_,_,_,_,_,q⟩:=h
 exact q.elim
end
section
def clear2 (ρ:aB):aB:=ρ.map fun s=>match s with
 | .ow2 _=>.no
 | s=>s
section
variable {K:a8}
theorem Fr.clear2    (f:Fr K H0 Hs0 la ρ σ H Hs):Fr K H0 Hs0 la (clear2 ρ) σ H Hs/\∀ (j:Nat) (d:List (List D)),¬ (J.clear2 ρ)[j]?=some (Sl.ow2 d):=by
 have un:∀ {j:Nat}{s:Sl},(J.clear2 ρ)[j]?=some s->(∀ d,s≠.ow2 d)/\(ρ[j]?=some s\/s=.no):=fun {j s} e=>by
  unfold J.clear2 at e
  rw [aT] at e
  cases h:ρ[j]? with
  | none=>rw [h] at e;cases e
  | some t =>
   rw [h] at e
   cases t with
   | ow2 d=>cases e;exact ⟨fun _ z=>(by cases z),.inr rfl⟩
   | no=>cases e;exact ⟨fun _ z=>(by cases z),.inl rfl⟩
   | shr d=>cases e;exact ⟨fun _ z=>(by cases z),.inl rfl⟩
   | lck d=>cases e;exact ⟨fun _ z=>(by cases z),.inl rfl⟩
   | own d=>cases e;exact ⟨fun _ z=>(by cases z),.inl rfl⟩
 have is:∀ {j:Nat}{s:Sl},s≠.no->(J.clear2 ρ)[j]?=some s->ρ[j]?=some s:=fun {j s} n e=>(un e).2.resolve_right n
 have no2:∀ (j:Nat) (d:List (List D)),¬ (J.clear2 ρ)[j]?=some (Sl.ow2 d):=fun j d e=>(un e).1 d rfl
 exact ⟨⟨f.st,by simp [J.clear2,f.len],fun j d h=>f.sh j d (is (fun z=>by cases z) h),fun j d h=>f.ow j d (is (fun z=>by cases z) h),fun j d h=>f.lk j d (is (fun z=>by cases z) h),fun j k d e a h1 h2=>f.dj j k d e a (is (fun z=>by cases z) h1) (is (fun z=>by cases z) h2),f.lh,fun j d h=>(no2 j d h).elim,fun j k d e h _=>(no2 j d h).elim⟩,no2⟩
end
def rc:List ak->Hp->Hp
 | [],H=>H
 | a::as,H=>rc as (upd H a (.lst []))
section
variable {c:C}{e:aZ}{g gi:aB->R D}{pos p apos cpos spos:Pos}{x:Str}
theorem zg:∀ (as:List ak) (H:Hp),(∀ a∈as,H a=none)->as.Nodup->dD H (rc as H)
 | [],H,_,_=>.refl H
 | a::as,H,h,nd=>by
  obtain ⟨n1,n2⟩:=List.nodup_cons.mp nd
  refine (mC (h a am)).trans (zg as _ (fun b hb=>?_) n2)
  rw [bi (fun (z:b=a)=>n1 (z ▸ hb))]
  exact h b (ah _ hb)
theorem EG:∀ (as:List ak) (H:Hp),as.Nodup->∀ a∈as,rc as H a=some (.lst [])
 | a::as,H,nd,b,hb=>by
  obtain ⟨n1,n2⟩:=List.nodup_cons.mp nd
  show rc as (upd H a (.lst [])) b=_
  by_cases hm:b∈as
  ·exact EG as _ n2 b hm
  ·have e:b=a:=(List.mem_cons.mp hb).resolve_right hm
   subst e
   have:∀ (as:List ak) (H:Hp),b∉as->rc as H b=H b:=by
    intro as
    induction as with
    | nil=>intro H _;rfl
    | cons c as ih =>
     intro H h
     show rc as (upd H c (.lst [])) b=_
     rw [ih _ (fun z=>h (ah _ z)),bi (fun (z:b=c)=>h (by rw [z];exact am))]
   rw [this as _ hm,bg]
theorem mE:∀ (as:List ak) (H:Hp) (b:ak),rc as H b=none->H b=none/\b∉as
 | [],H,b,h=>⟨h,by simp⟩
 | a::as,H,b,h=>by
  obtain ⟨h1,h2⟩:=mE as (upd H a (.lst [])) b h
  by_cases hb:b=a
  ·subst hb;rw [bg] at h1;cases h1
  ·rw [bi hb] at h1
   exact ⟨h1,fun z=>(List.mem_cons.mp z).elim hb h2⟩
def Rh (i:Nat):aB->R Fl:=fun ρ=>.ok (.nx ((clear2 ρ).set i (.ow2 [[],[],[],[]])))
theorem Uw (i:Nat)  (hN:c.X.N.Nodup) (hi:c.X.N[i]?=some x:=by rfl) (hx:S0 c.X.env.scope x:=by first | exact j9 rfl | exact fK rfl)
  (hs:ij (.List [.List [] p1,.List [] p2,.List [] p3,.List [] p4] p) (some (.Name x pos')) spos.line c.X.env=pure false:=by rfl)
  (hf:c.X.fn x=true\/c.X.env.scope.names.lookup x=some .local:=by first | exact .inl rfl | exact .inr rfl | assumption)
  (h1:aO [.List [] p1,.List [] p2,.List [] p3,.List [] p4] c.X.env=(false,eE (.List [] p1) c.X.env)::aO [.List [] p2,.List [] p3,.List [] p4] c.X.env:=by rfl)
  (h2:aO [.List [] p2,.List [] p3,.List [] p4] c.X.env=(false,eE (.List [] p2) c.X.env)::aO [.List [] p3,.List [] p4] c.X.env:=by rfl)
  (h3:aO [.List [] p3,.List [] p4] c.X.env=(false,eE (.List [] p3) c.X.env)::aO [.List [] p4] c.X.env:=by rfl)
  (h4:aO [.List [] p4] c.X.env=(false,eE (.List [] p4) c.X.env)::aO [] c.X.env:=by rfl) :
  JS c (.Assign [.Name x pos'] (.List [.List [] p1,.List [] p2,.List [] p3,.List [] p4] p) spos) (Rh i):=.of fun ρ=>by
 refine AF (GG hN hi hx (tY (iR (tY kq) (iR (tY kq) (iR (tY kq) (iR (tY kq) kq h4) h3) h2) h1)) hs hf) fun D σ H h_0=>?_
 obtain ⟨H0,Hs0,la,Hs,f,q⟩:=h_0
 replace q:oG c.X.K c.cls c.E H0 Hs0 la D (Rh i ρ):=q
 obtain ⟨f,no2⟩:=f.clear2
 refine ⟨cC _,fun a1 n1=>⟨cC _,fun a2 n2=>⟨cC _,fun a3 n3=>⟨cC _,fun a4 n4=>⟨ca (dW (show 4<=1000 by decide)),fun a n=>?_⟩⟩⟩⟩⟩
 have N:=mE [a1,a2,a3,a4] H a n
 have N4:=mE [a1,a2,a3] H a4 n4
 have N3:=mE [a1,a2] H a3 n3
 have N2:=mE [a1] H a2 n2
 simp only [a_,bv,or_false,not_or] at N N4 N3 N2
 have nd:[a1,a2,a3,a4].Nodup:=by
  simp only [jK,a_,bv,or_false,not_or,fO,and_true,not_false_eq_true]
  exact ⟨⟨cV N2.2,cV N3.2.1,cV N4.2.1⟩,⟨cV N3.2.2,cV N4.2.2.1⟩,cV N4.2.2.2⟩
 have free:∀ b∈[a1,a2,a3,a4],H b=none:=fun b hb=>by
  simp only [a_,bv,or_false] at hb
  rcases hb with rfl | rfl | rfl | rfl
  ·exact n1
  ·exact N2.1
  ·exact N3.1
  ·exact N4.1
 have nd5:(a::[a1,a2,a3,a4]).Nodup:=List.nodup_cons.mpr ⟨by simp only [a_,bv,or_false,not_or];exact N.2,nd⟩
 have sm:dD H (rc [a1,a2,a3,a4] H):=zg _ _ free nd
 have all:dD H (upd (rc [a1,a2,a3,a4] H) a (.lst [.ref a1,.ref a2,.ref a3,.ref a4])):=sm.trans (mC n)
 have free5:∀ b∈a::[a1,a2,a3,a4],H b=none:=fun b hb=>(List.mem_cons.mp hb).elim (fun z=>z ▸ N.1) (free b)
 have st:cK H Hs (upd (rc [a1,a2,a3,a4] H) a (.lst [.ref a1,.ref a2,.ref a3,.ref a4])) Hs:=⟨all,.refl _,f.st.sub.trans all,fun _ _ _ _ z=>z⟩
 have f':=f.step st
 have hl:i<σ.length\/¬ i<σ.length:=Decidable.em _
 have nx:∀ {j:Nat}{s:Sl},(∀ d,s≠.ow2 d)->((clear2 ρ).set i (.ow2 [[],[],[],[]]))[j]?=some s->(clear2 ρ)[j]?=some s/\i≠j:=fun {j s} hs e=>by
  by_cases hj:i=j
  ·subst hj
   by_cases hi:i<(clear2 ρ).length
   ·rw [aG hi] at e;exact absurd (bM e).symm (hs _)
   ·rw [cB (by simpa using hi)] at e;cases e
  ·rw [al hj] at e;exact ⟨e,hj⟩
 refine q _ _ Hs ⟨f'.st,by simp [f'.len],fun j d h=>?_,fun j d h=>?_,fun j d h=>?_,fun j k d d' b h1 h2 h3 h4=>?_,f'.lh,fun j d h=>?_,fun j k d d' h1 h2=>?_⟩
 ·obtain ⟨h,hj⟩:=nx (fun _ z=>by cases z) h
  rw [al hj];exact f'.sh j d h
 ·obtain ⟨h,hj⟩:=nx (fun _ z=>by cases z) h
  rw [al hj];exact f'.ow j d h
 ·obtain ⟨h,hj⟩:=nx (fun _ z=>by cases z) h
  rw [al hj];exact f'.lk j d h
 ·obtain ⟨h1,hj⟩:=nx (fun _ z=>by cases z) h1
  obtain ⟨h2,hk⟩:=nx (fun _ z=>by cases z) h2
  rw [al hj] at h3
  rw [al hk] at h4
  exact f'.dj j k d d' b h1 h2 h3 h4
 ·by_cases hj:i=j
  ·subst hj
   by_cases hi:i<(clear2 ρ).length
   ·rw [aG hi] at h
    cases h
    have at4:=EG [a1,a2,a3,a4] H nd
    have ne:∀ b∈[a1,a2,a3,a4],b≠a:=fun b hb z=>(List.nodup_cons.mp nd5).1 (z ▸ hb)
    have go:∀ b∈[a1,a2,a3,a4],upd (rc [a1,a2,a3,a4] H) a (.lst [.ref a1,.ref a2,.ref a3,.ref a4]) b=some (.lst []):=fun b hb=>by rw [bi (ne b hb)];exact at4 b hb
    refine ⟨a,[a1,a2,a3,a4],aG (by rw [<- f'.len];exact hi),bg,nd5,fun b hb=>⟨f.st.sub.free (free5 b hb),f.st.all.free (free5 b hb)⟩,fun b hb k e hk=>?_,.cons (go _ (by simp)) .nil (.cons (go _ (by simp)) .nil (.cons (go _ (by simp)) .nil (.cons (go _ (by simp)) .nil .nil)))⟩
    obtain ⟨hk,nk⟩:=nx (fun _ z=>by cases z) hk
    rw [al nk]
    intro z
    obtain ⟨b',o,k1,k2,_⟩:=f.ow k e hk
    rw [z] at k1
    cases k1
    rw [free5 b hb] at k2;cases k2
   ·rw [cB (by simpa using hi)] at h;cases h
  ·rw [al hj] at h;exact (no2 j d h).elim
 ·by_cases hj:i=j
  ·by_cases hk:i=k
   ·exact hj.symm.trans hk
   ·rw [al hk] at h2;exact (no2 k d' h2).elim
  ·rw [al hj] at h1;exact (no2 j d h1).elim
theorem NK  (h:JS c st gs):JS c st (fun ρ=>gs (fE ρ)):=.of fun ρ=>AF (h (fE ρ)) fun D σ H h_1=>by
 obtain ⟨H0,Hs0,la,Hs,f,q⟩:=h_1
 obtain ⟨Hs',f'⟩:=f.shared
 exact ⟨H0,Hs0,la,Hs',f',q⟩
def shareAt (i:Nat) (ρ:aB):aB:=match ρ[i]? with
 | some (Sl.own d)=>ρ.set i (.shr d)
 | _=>ρ
theorem Fr.shareAt     (f:Fr K H0 Hs0 la ρ σ H Hs) (i:Nat):∃ Hs',Fr K H0 Hs0 la (J.shareAt i ρ) σ H Hs':=by
 unfold J.shareAt
 split
 ·rename_i d ho
  obtain ⟨a,o,k1,k2,k3,k4,k5⟩:=f.ow i d ho
  have hil:i<ρ.length:=(List.getElem?_eq_some_iff.mp ho).1
  have up:dD Hs (upd Hs a o):=mC k3
  have nx:∀ {j:Nat}{s:Sl},(∀ d,s≠.shr d)->(ρ.set i (.shr d))[j]?=some s->ρ[j]?=some s/\i≠j:=fun {j s} hs e=>by
   by_cases hj:i=j
   ·subst hj
    rw [aG hil] at e;exact absurd (bM e).symm (hs d)
   ·rw [al hj] at e;exact ⟨e,hj⟩
  have ne:∀ (j:Nat) (e:D) (b:ak),i≠j->ρ[j]?=some (Sl.own e)->σ[j]?=some (some (V.ref b))->b≠a:=fun j e b hj h hb z=>by
   subst z
   exact hj (f.dj i j d e b ho h k1 hb)
  refine ⟨upd Hs a o,⟨f.st.all,f.st.sh.trans up,fun b u e=>?_,fun b u e t z=>?_⟩,by simp [f.len],fun j e h=>?_,fun j e h=>?_,fun j e h=>?_,fun j k d1 d2 b h1 h2 h3 h4=>?_,f.lh,fun j e h=>?_,fun j k d1 d2 h1 h2=>?_⟩
  ·by_cases hb:b=a
   ·subst hb;rw [bg] at e;cases e;exact k2
   ·rw [bi hb] at e;exact f.st.sub b u e
  ·rw [bi (bZ e k4)];exact f.st.out b u e t z
  ·by_cases hj:i=j
   ·subst hj
    rw [aG hil] at h
    cases h
    exact ⟨_,k1,k5.share k3⟩
   ·rw [al hj] at h
    obtain ⟨v,q1,q2⟩:=f.sh j e h
    exact ⟨v,q1,q2.same up⟩
  ·obtain ⟨h,hj⟩:=nx (fun _ z=>by cases z) h
   obtain ⟨b,u,q1,q2,q3,q4,q5⟩:=f.ow j e h
   exact ⟨b,u,q1,q2,by rw [bi (ne j e b hj h q1)];exact q3,q4,q5.same up⟩
  ·obtain ⟨h,hj⟩:=nx (fun _ z=>by cases z) h
   obtain ⟨b,u,q1,q2,q3,q4,q5,q6⟩:=f.lk j e h
   exact ⟨b,u,q1,q2,q3,by rw [bi (bZ q5 k4)];exact q4,q5,q6.same up⟩
  ·exact f.dj j k d1 d2 b (nx (fun _ z=>by cases z) h1).1 (nx (fun _ z=>by cases z) h2).1 h3 h4
  ·obtain ⟨h,hj⟩:=nx (fun _ z=>by cases z) h
   obtain ⟨b,as,O⟩:=f.o2 j e h
   refine ⟨b,as,O.at_,O.ob,O.nd,fun c hc=>⟨?_,(O.out c hc).2⟩,fun c hc k e' hk=>O.dj c hc k e' (nx (fun _ z=>by cases z) hk).1,O.inn.step (.refl _) up⟩
   rw [bi (fun z=>O.dj c hc i d ho (by rw [z];exact k1))]
   exact (O.out c hc).1
  ·exact f.u2 j k d1 d2 (nx (fun _ z=>by cases z) h1).1 (nx (fun _ z=>by cases z) h2).1
 ·exact ⟨Hs,f⟩
theorem Hi (i:Nat)  (h:JS c st gs):JS c st (fun ρ=>gs (shareAt i ρ)):=.of fun ρ=>AF (h (shareAt i ρ)) fun D σ H h_2=>by
 obtain ⟨H0,Hs0,la,Hs,f,q⟩:=h_2
 obtain ⟨Hs',f'⟩:=f.shareAt i
 exact ⟨H0,Hs0,la,Hs',f',q⟩
theorem Br.get    (h:Br K H Hs as dss):∀ {j:Nat}{ds:List D},dss[j]?=some ds->∃ b vs,as[j]?=some b/\H b=some (.lst vs)/\RDs K Hs vs ds:=by
 induction h with
 | nil=>intro j ds e;cases e
 | cons h r t ih =>
  intro j ds e
  cases j with
  | zero=>cases e;exact ⟨_,_,rfl,h,r⟩
  | succ j=>have q:=ih (j:=j) e;exact q
theorem Br.set    (r':RDs K Hs vs' ds'):∀ {as:List ak}{dss:List (List D)}{j:Nat}{b:ak},Br K H Hs as dss->as[j]?=some b->as.Nodup->Br K (L2.upd H b (.lst vs')) Hs as (dss.set j ds')
 | _,_,_,_,.nil,h,_=>by simp at h
 | _,_,0,b,.cons h r t,e,nd=>by
  simp at e
  subst e
  exact .cons bg r' (t.upd (List.nodup_cons.mp nd).1)
 | _,_,j + 1,b,.cons (a:=a) h r t,e,nd=>by
  have e':_:=e
  simp only [jO] at e'
  obtain ⟨n1,n2⟩:=List.nodup_cons.mp nd
  have hb:b∈_:=dh e'
  exact .cons (by rw [bi (fun z=>n1 (by rw [z];exact hb))];exact h) r (Br.set r' t e' n2)
def oK (i:Nat) (gi g:aB->R D):aB->R Fl:=fun ρ=>match ρ[i]? with
 | some (Sl.ow2 dss)=>(gi ρ).bind fun k=>match k with
  | .int j=>if 0<=j then (match dss[j.toNat]? with
   | some ds=>(g ρ).bind fun d=>if ds.length<1000 then .ok (.nx (ρ.set i (.ow2 (dss.set j.toNat (ds++[d]))))) else .no
   | none=>.no) else .no
  | _=>.no
 | _=>.no
variable {ie:aZ}
theorem zh (i:Nat) (hie:JE c ie gi) (h:JE c e g) (hN:c.X.N[i]?=some x:=by rfl) (hv:Qv c.X.env.scope x:=by first | exact j9 rfl | exact fK (j9 rfl) | exact fK (fK rfl)) (hd:(x == ("__debug__" : Str))=false:=by decide)
  (hcd:(x == ("__classdict__" : Str))=false:=by decide) (hpx:u_ ie:=by exact fun _ _=>rfl)
  (hbase:Ke (.Subscript (.Name x p) ie p3) "append" c.X.env (eE (.Subscript (.Name x p) ie p3) c.X.env)=eE (.Subscript (.Name x p) ie p3) c.X.env:=by rfl)
  (hfew:((jn cpos (aO [e] c.X.env)).all (fun x=>!x.1) && (backToKw cpos (Q4 [] c.X.env)).all (fun x=>x.1.isSome)
   && decide ([e].length + ([] : List Aj).length + (if ([] : List Aj).isEmpty then 0 else 1)<30))=true:=by rfl)
  (hline:(apos.endLine == cpos.line)=true:=by rfl) (hst:aO [e] c.X.env=(false,eE e c.X.env)::aO [] c.X.env:=by rfl) (hplain:(jn cpos (aO [] c.X.env)).any (·.1)=false:=by rfl)
  (hs:ij (.Call (.Attribute (.Subscript (.Name x p) ie p3) "append" apos) [e] [] cpos) none pos.line c.X.env=pure false:=by rfl) :
  JS c (.Expr (.Call (.Attribute (.Subscript (.Name x p) ie p3) "append" apos) [e] [] cpos) pos) (oK i gi g):=.of fun ρ=>by
 refine AF (Cq (Sf Ba Ar As Bj (S9 rO (tX hN hv hd hcd) (hie ρ) hpx) (iR (h ρ) kq hst) hbase hfew hline hst hplain) hs) fun D σ H h_3=>?_
 obtain ⟨H0,Hs0,la,Hs,f,q⟩:=h_3
 replace q:oG c.X.K c.cls c.E H0 Hs0 la D (oK i gi g ρ):=q
 unfold oK at q
 split at q
 ·rename_i dss ho
  obtain ⟨a,as,O⟩:=f.o2 i dss ho
  refine ⟨_,O.at_,?_⟩
  refine sE f q fun k v H1 Hs1 e1 s1 f1 r1=>?_
  rw [e1,bind_ok] at q
  cases r1 with
  | int j =>
   simp only at q
   by_cases hj:0<=j
   ·rw [if_pos hj] at q
    split at q
    ·rename_i ds hds
     obtain ⟨b,vs,hb,hH,rv⟩:=O.inn.get hds
     have hix:DR (as.map V.ref) j=some (.ref b):=by
      have:=rN (xs:=as.map V.ref) (j:=j.toNat) (v:=V.ref b) (by rw [aT,hb];rfl)
      rwa [eg hj] at this
     refine ⟨a,_,j,_,rfl,rfl,.of (s1.all _ _ O.ob),hix,.inl ⟨rfl,_,.of (s1.all _ _ hH)⟩,?_⟩
     refine sE f1 q fun d w H2 Hs2 e2 s2 f2 r2=>?_
     rw [e2,bind_ok] at q
     by_cases hl:ds.length<1000
     ·rw [if_pos hl] at q
      have st:=s1.trans s2
      refine ⟨b,vs,w,rfl,rfl,st.all _ _ hH,dW (by rw [rv.length];omega),?_⟩
      have hil:i<ρ.length:=(List.getElem?_eq_some_iff.mp ho).1
      obtain ⟨a',as',O2'⟩:=f2.o2 i dss ho
      have ea:a'=a:=by
       have:=O2'.at_
       rw [O.at_] at this
       cases this;rfl
      subst ea
      have eas:as'=as:=by
       have h1:=O2'.ob
       rw [st.all _ _ O.ob] at h1
       injection h1 with h1
       injection h1 with h1
       exact (Mb (fun x y z=>by cases z;rfl) |>.mp h1).symm
      subst eas
      have hbm:b∈a'::as':=ah _ (dh hb)
      have nb:b≠a':=fun z=>(List.nodup_cons.mp O.nd).1 (z ▸ dh hb)
      obtain ⟨bs,b0⟩:=O2'.out b hbm
      have nx:∀ {j':Nat}{s:Sl},(∀ d,s≠.ow2 d)->(ρ.set i (.ow2 (dss.set j.toNat (ds++[d]))))[j']?=some s->ρ[j']?=some s/\i≠j':=fun {j' s} hs e=>by
       by_cases hj:i=j'
       ·subst hj
        rw [aG hil] at e;exact absurd (bM e).symm (hs _)
       ·rw [al hj] at e;exact ⟨e,hj⟩
      refine q _ _ Hs2 ⟨⟨fun c u e=>?_,f2.st.sh,fun c u e=>?_,f2.st.out⟩,by simp [f2.len],fun j' d' h=>f2.sh j' d' (nx (fun _ z=>by cases z) h).1,fun j' d' h=>?_,fun j' d' h=>?_,fun j' k' d' e' a h1 h2=>f2.dj j' k' d' e' a (nx (fun _ z=>by cases z) h1).1 (nx (fun _ z=>by cases z) h2).1,f2.lh,fun j' d' h=>?_,fun j' k' d' e' h1 h2=>?_⟩
      ·rw [bi (bZ e b0)];exact f2.st.all c u e
      ·rw [bi (bZ e bs)];exact f2.st.sub c u e
      ·obtain ⟨h,_⟩:=nx (fun _ z=>by cases z) h
       obtain ⟨c',u,k1,k2,k3,k4,k5⟩:=f2.ow j' d' h
       refine ⟨c',u,k1,?_,k3,k4,k5⟩
       rw [bi (fun z=>O2'.dj b hbm j' d' h (by rw [<- z];exact k1))]
       exact k2
      ·obtain ⟨h,_⟩:=nx (fun _ z=>by cases z) h
       obtain ⟨c',u,k1,k2,k3,k4,k5,k6⟩:=f2.lk j' d' h
       refine ⟨c',u,k1,k2,?_,k4,k5,k6⟩
       rw [bi (bZ k5 b0)]
       exact k3
      ·by_cases hj':i=j'
       ·subst hj'
        rw [aG hil] at h
        cases h
        refine ⟨a',as',O2'.at_,by rw [bi (cV nb)];exact O2'.ob,O2'.nd,O2'.out,fun c hc k e' hk=>O2'.dj c hc k e' (nx (fun _ z=>by cases z) hk).1,?_⟩
        exact Br.set ((rv.same st.sh).append (.cons r2 .nil)) O2'.inn hb (List.nodup_cons.mp O2'.nd).2
       ·rw [al hj'] at h
        exact (hj' (f2.u2 i j' _ _ ho h)).elim
      ·by_cases hj':i=j'
       ·by_cases hk':i=k'
        ·exact hj'.symm.trans hk'
        ·rw [al hk'] at h2
         exact (hk' (f2.u2 i k' _ _ ho h2)).elim
       ·rw [al hj'] at h1
        exact (hj' (f2.u2 i j' _ _ ho h1)).elim
     ·rw [if_neg hl] at q;exact q.elim
    ·exact q.elim
   ·rw [if_neg hj] at q;exact q.elim
  | none=>exact q.elim
  | bool _=>exact q.elim
  | str _=>exact q.elim
  | list _ _=>exact q.elim
  | tuple _ _=>exact q.elim
  | dictK _ _=>exact q.elim
  | dictT _ _ _=>exact q.elim
  | dictF _ _ _=>exact q.elim
 ·exact q.elim
end
end
section
open PyProof.Rows (OwnCls)
section
variable {X:Cx}
end
section
variable {c:C}{e:aZ}{g:aB->R D}{pos p apos cpos:Pos}{x:Str}
end
structure Er (mg:Str->Option aa) (base:bF) (cls:Str->ak) (x:Str):Prop where
 ex:∃ bmB newId initId Bn,OwnCls x (cls x) bmB newId mg base/\ExcBaseFacts Bn newId initId bmB
def wD (x:Str) (gs:aB->R (List D)):aB->R Fl:=fun ρ=>(gs ρ).bind fun ds=>if ds.length<=1000 then .ex x none else .no
section
variable {P:aK}{w:bc}{K:a8}{mg:Str->Option aa}{base:bF}{N:List Str}{qual:Str}{scope:gE}{f:ak}{cd:aa}{A:aX}{outer:List Env}{s:af}{H:Hp}{E:XK}{cls:Str->ak}
theorem zi {x:Str}{np cpos pos:Pos}{e0:aZ}{c6:List aZ}{gs:aB->R (List D)} (R0:Er mg base cls x)
  (hg:Gl (ke (qm P w) P w K mg base N qual scope f cd A outer s H E) x) (ha:IK ⟨ke (qm P w) P w K mg base N qual scope f cd A outer s H E,cls,E⟩ (e0::c6) gs)
  (he:aO (e0::c6) (ke (qm P w) P w K mg base N qual scope f cd A outer s H E).env=(false,eE e0 (ke (qm P w) P w K mg base N qual scope f cd A outer s H E).env)::aO c6 (ke (qm P w) P w K mg base N qual scope f cd A outer s H E).env:=by rfl)
  (hdb:(x == ("__debug__" : Str))=false:=by decide) (hpl:(jn cpos (aO c6 (ke (qm P w) P w K mg base N qual scope f cd A outer s H E).env)).any (·.1)=false:=by rfl) :
  JS ⟨ke (qm P w) P w K mg base N qual scope f cd A outer s H E,cls,E⟩ (.Raise (some (.Call (.Name x np) (e0::c6) [] cpos)) none pos) (wD x gs):=.of fun ρ=>by
 obtain ⟨bmB,newId,initId,Bn,O,FB⟩:=R0.ex
 refine AF (No O FB hg (ha ρ) he hdb hpl) fun D σ H1 h_1=>?_
 obtain ⟨H0,Hs0,la,Hs,f,q⟩:=h_1
 replace q:oG K cls E H0 Hs0 la D (wD x gs ρ):=q
 refine ⟨H0,Hs0,la,Hs,f,?_⟩
 unfold wD at q
 cases hr:gs ρ with
 | no=>rw [hr] at q;exact q
 | ex y n=>rw [hr] at q;exact fun H' Hs' s=>q H' Hs' (f.st.trans s)
 | ok ds =>
  rw [hr,bind_ok] at q
  intro vs H2 Hs2 s2 r2
  by_cases hl:ds.length<=1000
  ·rw [if_pos hl] at q
   exact ⟨ca (dW (by rw [r2.length];exact hl)),q H2 Hs2 (f.st.trans s2)⟩
  ·rw [if_neg hl] at q;exact q.elim
end
end
section
structure Bi (mg:Str->Option aa):Prop where
 len:mg "len"=none
 isinstance:mg "isinstance"=none
 all:mg "all"=none
 any:mg "any"=none
 zip:mg "zip"=none
 tuple:mg "tuple"=none
 list:mg "list"=none
 sorted:mg "sorted"=none
 set:mg "set"=none
 range:mg "range"=none
 enumerate:mg "enumerate"=none
 dict:mg "dict"=none
 sum:mg "sum"=none
 max:mg "max"=none
 min:mg "min"=none
 reversed:mg "reversed"=none
 str:mg "str"=none
 int:mg "int"=none
 bool:mg "bool"=none
end
section
def bits (j:Nat):List Bool:=[decide (0=j),decide (1=j),decide (2=j),decide (3=j),decide (4=j),decide (5=j),decide (6=j),decide (7=j),decide (8=j),decide (9=j),decide (10=j)]
section
variable {X:Cx}{cls:Str->ak}{names:List Str}{base:bF}
end
end
end J
section
namespace J
open PySem L2
section
variable {c:C}{body:List c_}{x n:Str}{np np2 np3 hpos cpos rpos pos:Pos}{gb:aB->R Fl}{names:List Str}{wh:Str->Option Nat}
end
end J
namespace L2
open PySem
end L2
end
namespace J
open PySem L2
section
open PyProof.Rows (OwnCls)
abbrev Ri:List aa:=[.type "ValueError",.type "Exception",.type "BaseException",.type "object"]
theorem Ux {K:a8}{h:bF}{mg:Str->Option aa}{x:Str}{C:ak}{bmB:List aa}{newId:String} (X:K.In h) (G:h.Ns bQ mg) (e:gj K bQ x=some (some (.ref C))) (q:At K C bmB newId=true) (m1:dB K C (.type "BaseException")=some true) :
  OwnCls x C bmB newId mg h/\∃ bm,VW h C bm/\∀ v,(v == bu C)=false->dB K C v=some true->bm.contains v=true:=by
 have hmg:=nQ X G e
 unfold At at q
 split at q
 ·rename_i dd cd sl look
  split at q
  ·rename_i C' bm k0 k1 k2 k3 n k5 hmro hslots
   simp only [aR,beq_iff_eq,Mr] at q
   obtain ⟨⟨⟨⟨⟨rfl,rfl⟩,nodel⟩,tl⟩,nsok⟩,noinit⟩:=q
   have slots:sl=#[k0,k1,k2,k3,some (.builtin n),k5]:=by
    cases sl with | mk l=>simp only at hslots;rw [hslots]
   have inMro:∀ v,dB K C' v=some true->cd.mro.contains v=true:=fun v hv=>by
    unfold dB sY at hv
    rw [look] at hv
    simp only [oY] at hv
    split at hv
    ·cases hv
    ·exact bM hv
   have c6:∀ v,(v == bu C')=false->dB K C' v=some true->bm.contains v=true:=fun v nv hv=>by
    have:=inMro v hv
    rw [hmro,Mc,nv,uU] at this
    exact this
   obtain ⟨nm,bs,mro,ns,qn,hd,sn,sub,ab,col,del⟩:=cd
   dsimp only at hmro nodel nsok noinit
   subst hmro nodel slots
   have at_:=X _ _ look
   exact ⟨⟨hmg,bm,ns,nm,qn,bs,hd,sn,sub,ab,col,dd,k0,k1,k2,k3,k5,_,at_,.of_isNs (my X nsok),eG X nsok noinit,PySem.W.tail_of_in X tl⟩,
    bm,⟨⟨nm,qn,ns,bs,hd,sn,sub,ab,col,dd,k0,k1,k2,k3,k5,n,at_⟩,c6 _ rfl m1⟩,c6⟩
  ·cases q
 ·cases q
structure TopC (K:a8) (x:Str) (C:ak):Prop where
 ns:gj K bQ x=some (some (.ref C))
 ex:At K C Ri "ValueError.__new__"=true
 mb:dB K C (.type "BaseException")=some true
theorem TopC.er {K:a8}{h:bF}{mg:Str->Option aa}{cls:Str->ak}{x:Str}{C:ak} (T:TopC K x C) (X:K.In h) (G:h.Ns bQ mg) (hc:cls x=C):Er mg h cls x:=by
 subst hc
 exact ⟨_,_,_,_,(Ux X G T.ns T.ex T.mb).1,PySem.F.excBase_ValueError⟩
inductive Wl (K:a8) (F:List D->R D) (vs:List V) (H:Hp) (Q:VK) (z_3:XK):Prop
 | mk (Hs ds d:_) (h0:dD Hs H) (h1:ds.length=1) (h2:RDs K Hs vs ds) (h3:F ds=.ok d) (h4:∀ v H' Hs',cK H Hs H' Hs'->RD K Hs' v d->Q v H'):Wl K F vs H Q z_3
def Wm (K:a8) (F:List D->R D):Sp:=Wl K F
theorem Uy   : ∀ vs H Q E,Wm K F vs H Q E->SA K cls 1 F vs H Q E:=fun vs H Q E ⟨Hs,ds,d,s,l,r,e,q⟩=>⟨Hs,ds,s,l,r,by rw [e];exact q⟩
def Wn (l:List (Str×ak)):Str->ak:=fun x=>(l.lookup x).getD 0
theorem Uz {K:a8}{F:List D->R D}{H:Hp}{a:ak}{ns:List Int} (hF:F [.list (ns.map .int)]=.ok (.bool true)) (h:ph K H a (ns.map V.int)):Wm K F [.ref a] H (fun v _=>v=.bl true) fun _ _ _=>False:=by
 have ri:∀ ns:List Int,RDs K H (ns.map V.int) (ns.map .int):=fun ns=>by
  induction ns with
  | nil=>exact .nil
  | cons x r ih=>exact .cons (.int x) ih
 refine ⟨H,[.list (ns.map .int)],.bool true,.refl H,rfl,.cons (.list h (ri ns)) .nil,hF,?_⟩
 intro v H' Hs' _ r
 cases r
 rfl
theorem UA      (h:qm P w [] H s (fun _ _ _=>False) e s'):False:=by
 obtain ⟨_,_,_,_,_,_,_,_,_,q⟩:=h
 exact q
theorem walkF {l:xE}{k:Nat}{q:aK}{loose:List Str}{XP:(Str->Option aa)->bF->Prop}{YP:bc->bF->Prop}{d:DefRec}{K:Params->a8}{x:Str}{F0:List D->R D}
  (hn:l.most=some 63) (hdf:d.params.defaults=[]) (hr:lG k xj) (hY:∀ (w:bc) (h:bF),YP w h->(K w.params).In h)
  (F:∀ (w:bc) (mg:Str->Option aa) (fa:ak) (h:bF),(K w.params).In h->h.Ns bQ mg->mg d.name=some (.ref fa) ->
   ∃ fd:eP,(∀ (s:af) (u:aa),Ai s fd ⟨[u],[]⟩ [(x,u)])/\∀ base:bF,(K w.params).In base->base.Ns bQ mg->sQ l.prog w (K w.params) mg base (qm l.prog w) k fa fd [x] (Wm (K w.params) F0))
  (hF:∀ ns:List Int,ns.length<=63->F0 [.list (ns.map .int)]=.ok (.bool true)) :
  PP q loose XP YP l.row.toRowW d [] (fun f vs=>Kf f vs) :=
 L2.QR (n:=63) (k:=k) (x:=x) (CX:=fun w=>qm l.prog w) (sp:=fun w=>Wm (K w.params) F0) hn (by decide) hdf hr hY F (fun w H a ns hl _ hS=>Uz (hF ns hl) hS) fun _ _ _ _ _ h=>UA h
def SD (i:Nat) (g:aB->R Fl):aB->R Fl:=fun ρ=>g (shareAt i ρ)
theorem Hj (i:Nat)  (h:JS c st gs):JS c st (SD i gs):=Hi i h
end
section
section
variable {s:Sl}{ρ:aB}{d x y:D}{ds:List D}
theorem zj {α β:Type} (a:α) (f:α->R β):(R.ok a).bind f=f a:=id rfl
def Rj (h:aB->R Fl):Fl->R Fl:=fun fl=>match fl with
 | .nx ρ'=>h ρ'
 | fl=>.ok fl
theorem EH (g h:aB->R Fl):aY g h (s::ρ)=(g (s::ρ)).bind (Rj h):=id rfl
theorem vk (h:aB->R Fl) (ρ:aB):Rj h (.nx ρ)=h ρ:=id rfl
theorem EI (h:aB->R Fl) (d:D):Rj h (.rt d)=.ok (.rt d):=id rfl
def Yo (g h:aB->R Fl) (ρ:aB):Bool->R Fl:=fun b=>bif b then g ρ else h ρ
theorem Wo (t:aB->R Bool) (g h:aB->R Fl):eY t g h (s::ρ)=(t (s::ρ)).bind (Yo g h (s::ρ)):=by
 show (t (s::ρ)).bind _=_
 congr 1
 funext b
 cases b<;>rfl
theorem NL (g h:aB->R Fl) (ρ:aB):Yo g h ρ false=h ρ:=id rfl
theorem NM (g h:aB->R Fl) (ρ:aB) (b:Bool):Yo g h ρ b=bif b then g ρ else h ρ:=id rfl
def Yp:D->R Fl:=fun d=>.ok (.rt d)
theorem SE (g:aB->R D):db g (s::ρ)=(g (fE (s::ρ))).bind Yp:=id rfl
theorem Wp (d:D):Yp d=.ok (.rt d):=id rfl
def zk:Sl->Sl
 | .own d=>.shr d
 | .ow2 dss=>.shr (.list (dss.map .list))
 | s=>s
theorem I_:fE (s::ρ)=zk s::fE ρ:=by cases s<;>rfl
theorem EJ:fE []=[]:=id rfl
theorem J4:zk .no=.no:=id rfl
theorem EK (d:D):zk (.shr d)=.shr d:=id rfl
theorem EL (d:D):zk (.own d)=.shr d:=id rfl
theorem EM (d:List (List D)):zk (.ow2 d)=.shr (.list (d.map .list)):=id rfl
def Wq (i:Nat) (ρ:aB):D->R Fl:=fun d=>.ok (.nx (ρ.set i (.shr d)))
theorem NN (i:Nat) (g:aB->R D):gY i g (s::ρ)=(g (s::ρ)).bind (Wq i (s::ρ)):=id rfl
theorem NO (i:Nat) (ρ:aB) (d:D):Wq i ρ d=.ok (.nx (ρ.set i (.shr d))):=id rfl
def SF (i:Nat) (ρ:aB):D->R Fl:=fun d=>.ok (.nx (ρ.set i (.own d)))
theorem NQ (i:Nat) (g:aB->R D):gZ i g (s::ρ)=(g (s::ρ)).bind (SF i (s::ρ)):=id rfl
theorem J5 (i:Nat) (ρ:aB) (d:D):SF i ρ d=.ok (.nx (ρ.set i (.own d))):=id rfl
def MY (ρ:aB):D->R Fl:=fun _=>.ok (.nx ρ)
theorem NR (g:aB->R D):tw g (s::ρ)=(g (s::ρ)).bind (J.MY (s::ρ)):=id rfl
theorem J6 (ρ:aB) (d:D):J.MY ρ d=.ok (.nx ρ):=id rfl
def Z4 (gb:aB->R D) (h:D->D->R D) (ρ:aB):D->R D:=fun x=>(gb ρ).bind (h x)
theorem Wr (ga gb:aB->R D) (h:D->D->R D):g2 ga gb h (s::ρ)=(ga (s::ρ)).bind (Z4 gb h (s::ρ)):=id rfl
theorem SG (gb:aB->R D) (h:D->D->R D) (ρ:aB) (x:D):Z4 gb h ρ x=(gb ρ).bind (h x):=id rfl
def Rk:D->R Bool:=fun d=>match d with
 | .bool b=>.ok b
 | _=>.no
theorem SH (g:aB->R D):fR g (s::ρ)=(g (s::ρ)).bind Rk:=id rfl
theorem NS (b:Bool):Rk (.bool b)=.ok b:=id rfl
def Ws:Bool->R Bool:=fun b=>.ok (!b)
theorem SJ (g:aB->R Bool):kg g (s::ρ)=(g (s::ρ)).bind Ws:=id rfl
theorem NT (b:Bool):Ws b=.ok (!b):=id rfl
def Wt (h:aB->R Bool) (ρ:aB):Bool->R Bool:=fun b=>bif b then h ρ else .ok false
def Z5 (h:aB->R Bool) (ρ:aB):Bool->R Bool:=fun b=>bif b then .ok true else h ρ
theorem SK (g h:aB->R Bool):CS g h (s::ρ)=(g (s::ρ)).bind (Wt h (s::ρ)):=by
 show (g (s::ρ)).bind _=_
 congr 1;funext b;cases b<;>rfl
theorem Wu (g h:aB->R Bool):KW g h (s::ρ)=(g (s::ρ)).bind (Z5 h (s::ρ)):=by
 show (g (s::ρ)).bind _=_
 congr 1;funext b;cases b<;>rfl
theorem NU (h:aB->R Bool) (ρ:aB) (b:Bool):Wt h ρ b=bif b then h ρ else .ok false:=id rfl
theorem SL (h:aB->R Bool) (ρ:aB) (b:Bool):Z5 h ρ b=bif b then .ok true else h ρ:=id rfl
def SM:Bool->R D:=fun b=>.ok (.bool (!b))
theorem NV (g:aB->R D):Bt g (s::ρ)=((g (s::ρ)).bind Rk).bind SM:=id rfl
theorem J7 (b:Bool):SM b=.ok (.bool (!b)):=id rfl
def SO (h:aB->R D) (ρ:aB):Bool->R D:=fun b=>bif b then h ρ else .ok (.bool false)
theorem NW (g h:aB->R D):qo g h (s::ρ)=((g (s::ρ)).bind Rk).bind (SO h (s::ρ)):=by
 show (fR g (s::ρ)).bind _=(fR g (s::ρ)).bind _
 congr 1;funext b;cases b<;>rfl
theorem J8 (h:aB->R D) (ρ:aB) (b:Bool):SO h ρ b=bif b then h ρ else .ok (.bool false):=id rfl
def Wv (g h:aB->R D) (ρ:aB):Bool->R D:=fun b=>bif b then g ρ else h ρ
theorem SQ (t:aB->R Bool) (g h:aB->R D):W6 t g h (s::ρ)=(t (s::ρ)).bind (Wv g h (s::ρ)):=by
 show (t (s::ρ)).bind _=_
 congr 1;funext b;cases b<;>rfl
theorem NX (g h:aB->R D) (ρ:aB) (b:Bool):Wv g h ρ b=bif b then g ρ else h ρ:=id rfl
def Ww (gb gc:aB->R D) (h h':D->D->R D) (ρ:aB):D->R D:=fun x=>(gb ρ).bind fun y=>(h x y).bind fun z=>match z with
 | .bool true=>(gc ρ).bind fun w=>h' y w
 | .bool false=>.ok (.bool false)
 | _=>.no
def Wx (gc:aB->R D) (h h':D->D->R D) (ρ:aB) (x:D):D->R D:=fun y=>(h x y).bind fun z=>match z with
 | .bool true=>(gc ρ).bind fun w=>h' y w
 | .bool false=>.ok (.bool false)
 | _=>.no
def Wz (gc:aB->R D) (h':D->D->R D) (ρ:aB) (y:D):D->R D:=fun z=>match z with
 | .bool true=>(gc ρ).bind (h' y)
 | .bool false=>.ok (.bool false)
 | _=>.no
theorem J9 (ga gb gc:aB->R D) (h h':D->D->R D):qW ga gb gc h h' (s::ρ)=(ga (s::ρ)).bind (Ww gb gc h h' (s::ρ)):=id rfl
theorem NY (gb gc:aB->R D) (h h':D->D->R D) (ρ:aB) (x:D):Ww gb gc h h' ρ x=(gb ρ).bind (Wx gc h h' ρ x):=id rfl
theorem N_ (gc:aB->R D) (h h':D->D->R D) (ρ:aB) (x y:D):Wx gc h h' ρ x y=(h x y).bind (Wz gc h' ρ y):=id rfl
theorem O0 (gc:aB->R D) (h':D->D->R D) (ρ:aB) (y:D) (b:Bool):Wz gc h' ρ y (.bool b)=bif b then (gc ρ).bind (h' y) else .ok (.bool false):=by cases b<;>rfl
def O1 (gs:aB->R (List D)) (ρ:aB):D->R (List D):=fun d=>(gs ρ).bind fun ds=>.ok (d::ds)
def O3 (d:D):List D->R (List D):=fun ds=>.ok (d::ds)
theorem O4 (g:aB->R D) (gs:aB->R (List D)):J.ag g gs (s::ρ)=(g (s::ρ)).bind (O1 gs (s::ρ)):=id rfl
theorem EN (gs:aB->R (List D)) (ρ:aB) (d:D):O1 gs ρ d=(gs ρ).bind (O3 d):=id rfl
theorem EO (d:D) (ds:List D):O3 d ds=.ok (d::ds):=id rfl
theorem SS (ρ:aB):J.aL ρ=.ok []:=id rfl
def SU (k:List D->D):List D->R D:=fun ds=>if ds.length<=1000 then .ok (k ds) else .no
theorem O5 (gs:aB->R (List D)) (k:List D->D):ft gs k (s::ρ)=(gs (s::ρ)).bind (SU k):=id rfl
theorem Ja (k:List D->D) (ds:List D):SU k ds=if ds.length<=1000 then .ok (k ds) else .no:=id rfl
theorem O6 (gs:aB->R (List D)) (h:List D->R D):cb gs h (s::ρ)=(gs (s::ρ)).bind h:=id rfl
def Z6 (n:Nat) (F:List D->R D):List D->R D:=fun ds=>if ds.length=n then F ds else .no
theorem WA (n:Nat) (F:List D->R D) (gs:aB->R (List D)):eR n F gs (s::ρ)=(gs (s::ρ)).bind (Z6 n F):=id rfl
theorem SW (n:Nat) (F:List D->R D) (ds:List D):Z6 n F ds=if ds.length=n then F ds else .no:=id rfl
theorem SX (h:D->R D) (d:D):iy h [d]=h d:=id rfl
theorem O7 (d:D) (ρ:aB):Gi (.shr d::ρ) 0=.ok d:=id rfl
theorem SY (s:Sl) (ρ:aB) (n:Nat):Gi (s::ρ) (n + 1)=Gi ρ n:=by simp [Gi]
theorem O8 (d:D) (ρ:aB):Gj (.shr d::ρ) 0=.ok d:=id rfl
theorem O9 (d:D) (ρ:aB):Gj (.own d::ρ) 0=.ok d:=id rfl
theorem SZ (s:Sl) (ρ:aB) (n:Nat):Gj (s::ρ) (n + 1)=Gj ρ n:=by simp [Gj]
def WB (T:String):D->R D:=fun d=>if qT d then .ok (.bool (CW T d)) else .no
theorem S_ (g:aB->R D) (T:String):wA g T (s::ρ)=(g (s::ρ)).bind (WB T):=id rfl
theorem Oa (T:String) (d:D):WB T d=if qT d then .ok (.bool (CW T d)) else .no:=id rfl
def WC (gl gh:aB->R (Option Int)) (ρ:aB):D->R D:=fun x=>(gl ρ).bind fun l=>(gh ρ).bind fun h=>IS x l h
def WD (gh:aB->R (Option Int)) (ρ:aB) (x:D):Option Int->R D:=fun l=>(gh ρ).bind fun h=>IS x l h
theorem WE (g:aB->R D) (gl gh:aB->R (Option Int)):Sy g gl gh (s::ρ)=(g (s::ρ)).bind (WC gl gh (s::ρ)):=id rfl
theorem Ob (gl gh:aB->R (Option Int)) (ρ:aB) (x:D):WC gl gh ρ x=(gl ρ).bind (WD gh ρ x):=id rfl
theorem Oc (gh:aB->R (Option Int)) (ρ:aB) (x:D) (l:Option Int):WD gh ρ x l=(gh ρ).bind (IS x l):=id rfl
theorem T1 (ρ:aB):Vj ρ=.ok none:=id rfl
def WF:D->R (Option Int):=fun d=>match d with
 | .int i=>.ok (some i)
 | _=>.no
theorem T2 (g:aB->R D):R6 g (s::ρ)=(g (s::ρ)).bind WF:=id rfl
theorem Od (i:Int):WF (.int i)=.ok (some i):=id rfl
theorem UB (g:aB->R D):lO g (s::ρ)=(g (s::ρ)).bind yX:=id rfl
theorem Oe (gs:aB->R (List D)):BA gs (s::ρ)=(gs (s::ρ)).bind He:=id rfl
theorem T3 (gs:aB->R (List D)):Hf gs (s::ρ)=(gs (s::ρ)).bind Xw:=id rfl
theorem T4 (gs:aB->R (List D)):Rb gs (s::ρ)=(gs (s::ρ)).bind zp:=id rfl
def T5 (nt:Nat) (ix:List Nat) (gt:aB->R Bool) (ge:aB->R D) (ρ:aB):List D->R D:=fun ds=>if ds.length<=1000 then (g_ (iw nt (oH nt ix ρ) gt ge) ds).bind fun ys=>.ok (.list ys) else .no
def T6:List D->R D:=fun ys=>.ok (.list ys)
theorem Of (nt:Nat) (ix:List Nat) (gi:aB->R (List D)) (gt:aB->R Bool) (ge:aB->R D):fS nt ix gi gt ge (s::ρ)=(gi (s::ρ)).bind (T5 nt ix gt ge (s::ρ)):=id rfl
theorem Jb (nt:Nat) (ix:List Nat) (gt:aB->R Bool) (ge:aB->R D) (ρ:aB) (ds:List D):T5 nt ix gt ge ρ ds=if ds.length<=1000 then (g_ (iw nt (oH nt ix ρ) gt ge) ds).bind T6 else .no:=id rfl
theorem Jc (ys:List D):T6 ys=.ok (.list ys):=id rfl
theorem tG (gi:aB->R (List D)) (kt:D->aB->R aB) (gb:aB->R Fl) (ds:List D) (h:gi (s::ρ)=.ok ds):qx gi kt gb (s::ρ)=js kt gb ds (s::ρ):=by unfold qx;rw [h]
def Og (k:D->aB->R aB) (ρ:aB):D->R Fl:=fun d=>match k d ρ with
 | .ok ρ'=>.ok (.nx ρ')
 | _=>.no
theorem T7 (g:aB->R D) (k:D->aB->R aB):AJ g k (s::ρ)=(g (s::ρ)).bind (Og k (s::ρ)):=id rfl
theorem BB (ds:List D):yX (.list ds)=.ok ds:=id rfl
theorem BC (ds:List D):yX (.tuple ds)=.ok ds:=id rfl
theorem BD (x:Str):yX (.str x)=.ok (o0 x):=id rfl
theorem Oh (ds:List D):Xw [.tuple ds]=.ok (qq 0 ds):=id rfl
theorem WG (ds es:List D):zp [.tuple ds,.tuple es]=.ok (xS ds es):=id rfl
def BE (ρ:aB) (i:Nat):Sl:=Re ((ρ[i]?).getD .no)
def Oi (ix:List Nat) (ρ:aB):aB:=ix.map (BE ρ)
theorem Oj (ix:List Nat) (ρ:aB):oH 1 ix ρ=.no::Oi ix ρ:=id rfl
theorem Ol (ix:List Nat) (ρ:aB):oH 2 ix ρ=.no::.no::Oi ix ρ:=id rfl
theorem Om (ρ:aB):Oi [] ρ=[]:=id rfl
theorem On (i:Nat) (ix:List Nat) (ρ:aB):Oi (i::ix) ρ=BE ρ i::Oi ix ρ:=id rfl
theorem Oo (s:Sl) (ρ:aB):BE (s::ρ) 0=Re s:=id rfl
theorem Op (s:Sl) (ρ:aB) (n:Nat):BE (s::ρ) (n + 1)=BE ρ n:=by simp [BE]
theorem BF (d:D):Re (.shr d)=.shr d:=id rfl
theorem D5   (h:ρ[i]?=some (Sl.own d)):shareAt i ρ=ρ.set i (.shr d):=by unfold shareAt;rw [h]
theorem dQ {α:Type} (f:D->R (Option D)) (c:α->D) (h:α->D):∀ (xs:List α),(∀ x∈xs,f (c x)=.ok (some (h x)))->g_ f (xs.map c)=.ok (xs.map h)
 | [],_=>rfl
 | x::r,e=>by
  rw [av,av]
  unfold g_
  rw [e x am,bind_ok,dQ f c h r fun y hy=>e y (ah _ hy),bind_ok]
theorem gx {α:Type} (f:D->R (Option D)) (c:α->D) (h:α->D) (p:α->Bool):∀ (xs:List α),(∀ x∈xs,f (c x)=.ok (if p x then some (h x) else none))->g_ f (xs.map c)=.ok ((xs.filter p).map h)
 | [],_=>rfl
 | x::r,e=>by
  rw [av]
  unfold g_
  rw [e x am,bind_ok,gx f c h p r fun y hy=>e y (ah _ hy),bind_ok]
  cases hp:p x<;>simp [hp]
theorem T8    : iw 1 ρ gt ge d=L5 (((gt (ρ.set 0 (.shr d)))).bind fun b=>if b then (ge (ρ.set 0 (.shr d))).bind fun y=>.ok (some y) else .ok none):=id rfl
theorem fL    (h1:gt (ρ.set 0 (.shr d))=.ok true) (h2:ge (ρ.set 0 (.shr d))=.ok y):iw 1 ρ gt ge d=.ok (some y):=by
 rw [T8,h1,bind_ok,if_pos rfl,h2];rfl
theorem pC     (h1:gt (ρ.set 0 (.shr d))=.ok b) (h2:b=true->ge (ρ.set 0 (.shr d))=.ok y):iw 1 ρ gt ge d=.ok (if b then some y else none):=by
 rw [T8,h1,bind_ok]
 cases b with
 | true=>rw [if_pos rfl,h2 rfl];rfl
 | false=>rfl
theorem Rl (h1:-(2 ^ 62)<=j) (h2:j<2 ^ 62):He [.int j]=.ok (r6 0 j.toNat):=by
 have h:-(2 ^ 62)<=j/\j<2 ^ 62:=⟨h1,h2⟩
 unfold He
 split
 ·rename_i j' e
  have e':j=j':=by injection e with e;injection e
  subst e'
  rw [if_pos h]
 ·rename_i hn
  exact (hn j rfl).elim
end
end
end J
section
namespace L2
open PySem PySem.Spec PyProof.Rows
end L2
namespace J
open PySem L2
open PyProof.Rows (envOfC)
section
variable {c:C}{e a b:aZ}{g ga gb:aB->R D}{pos rpos:Pos}{es:List aZ}{gs:aB->R (List D)}{x y:Str}{p q:Pos}
end
section
variable {c:C}{body:List c_}{x n:Str}{np np2 np3 hpos cpos rpos pos:Pos}{gb:aB->R Fl}{names:List Str}{wh:Str->Option Nat}
end
theorem Zh {α:Type}{us:List α} (h:us.length=1):∃ a,us=[a]:=by
 rcases us with _ | ⟨a0,_ | ⟨z,r⟩⟩
 ·simp at h
 ·exact ⟨_,rfl⟩
 ·simp at h
theorem Zi {α:Type}{us:List α} (h:us.length=2):∃ a b,us=[a,b]:=by
 rcases us with _ | ⟨a0,_ | ⟨a0,_ | ⟨z,r⟩⟩⟩
 ·simp at h
 ·simp at h
 ·exact ⟨_,_,rfl⟩
 ·simp at h
theorem Zj {α:Type}{us:List α} (h:us.length=3):∃ a b c,us=[a,b,c]:=by
 rcases us with _ | ⟨a0,_ | ⟨a0,_ | ⟨a0,_ | ⟨z,r⟩⟩⟩⟩
 ·simp at h
 ·simp at h
 ·simp at h
 ·exact ⟨_,_,_,rfl⟩
 ·simp at h
theorem Zk {α:Type}{us:List α} (h:us.length=4):∃ a b c d,us=[a,b,c,d]:=by
 rcases us with _ | ⟨a0,_ | ⟨a0,_ | ⟨a0,_ | ⟨a0,_ | ⟨z,r⟩⟩⟩⟩⟩
 ·simp at h
 ·simp at h
 ·simp at h
 ·simp at h
 ·exact ⟨_,_,_,_,rfl⟩
 ·simp at h
theorem Zl {α:Type}{us:List α} (h:us.length=5):∃ a b c d e,us=[a,b,c,d,e]:=by
 rcases us with _ | ⟨a0,_ | ⟨a0,_ | ⟨a0,_ | ⟨a0,_ | ⟨a0,_ | ⟨z,r⟩⟩⟩⟩⟩⟩
 ·simp at h
 ·simp at h
 ·simp at h
 ·simp at h
 ·simp at h
 ·exact ⟨_,_,_,_,_,rfl⟩
 ·simp at h
end J
end
namespace J
open PySem L2
section
section
variable {c:C}{e a b l tg:aZ}{g ga gb:aB->R D}{pos p:Pos}{gs:aB->R (List D)}{es:List aZ}{x:Str}
end
end
end J
section
namespace HT
open PySem PyProof.Rows
section
open PySem.SeqAt
open PySem.AutoSeq1 (wpAny_loadPart')
open PySem.MeetsSeq PySem.MeetsSeq2 PySem.MeetsSeq3
variable {prog:aK}{w:bc}{A:aX}{E:aa->af->Prop}{s:af}
end
end HT
namespace L2
open PySem PySem.Spec PyProof.Rows
section
variable {X:Cx}{e st:aZ}{te ts:TE}{pos p2:Pos}
end
end L2
namespace J
open PySem L2
section
variable {c:C}{e:aZ}{g:aB->R D}{pos p2 p3 p4:Pos}
end
end J
end
section
namespace L2
open PySem
def Mf (mask:Nat):Nat->Nat×Nat->Nat×Nat
 | 0,x=>x
 | n + 1,x=>Mf mask n (SetTable.leap mask x.1 x.2)
theorem Jd (mask:Nat):∀ (n m:Nat) (x:Nat×Nat),Mf mask (n + m) x=Mf mask m (Mf mask n x)
 | 0,m,x=>by rw [e8];rfl
 | n + 1,m,x=>by
  rw [Nat.succ_add]
  exact Jd mask n m _
theorem Je (mask:Nat):∀ (n:Nat) (x:Nat×Nat),(Mf mask n x).2=x.2 / 32 ^ n
 | 0,x=>by simp [Mf]
 | n + 1,x=>by
  show (Mf mask n _).2=_
  rw [Je mask n]
  show x.2 / 32 / 32 ^ n=_
  rw [Nat.div_div_eq_div_mul,Nat.pow_succ,Gz]
theorem Jf (mask:Nat):∀ (n:Nat) (x:Nat×Nat),x.1<=mask->(Mf mask n x).1<=mask
 | 0,x,h=>h
 | n + 1,x,h=>Jf mask n _ (by
  show (x.1 * 5 + 1 + x.2 / 32) % (mask + 1)<=mask
  exact xG (Cf _ (GA _)))
theorem BG  : ∀ (fuel i p:Nat),dL mask owner fuel i p=none->∀ n,n<fuel->(owner.getD (Mf mask n (i,p)).1 (some 0)).isSome=true
 | 0,_,_,_,n,h=>absurd h (mz n)
 | fuel + 1,i,p,e,n,h=>by
  unfold dL at e
  split at e
  ·cases e
  ·rename_i hf
   cases n with
   | zero =>
    have h0:=List.find?_eq_none.mp hf 0 (List.mem_range.mpr (by unfold SetTable.runEnd;split<;>omega))
    simp only [mY] at h0
    show (owner.getD i (some 0)).isSome=true
    cases q:owner.getD i (some 0) with
    | none=>rw [q] at h0;exact absurd rfl h0
    | some _=>rfl
   | succ n=>exact BG fuel _ _ e n (GB h)
theorem BH  : ∀ (fuel i p k:Nat),dL mask owner fuel i p=some k->owner.getD k (some 0)=none
 | 0,_,_,_,e=>nomatch e
 | fuel + 1,i,p,k,e=>by
  unfold dL at e
  split at e
  ·rename_i k' hf
   cases e
   have:=List.find?_some hf
   cases q:owner.getD (i + k') (some 0) with
   | none=>rfl
   | some _=>rw [q] at this;cases this
  ·exact BH fuel _ _ k e
def Mh (mask:Nat):Prop:=mask=7\/mask=15\/mask=31
def WH (mask:Nat):Bool:=(bH (mask + 1)).all fun i=>(bH (mask + 1)).all fun j=>(bH (mask + 1)).any fun n=>decide ((Mf mask n (i,0)).1=j)
theorem Rm (h:Mh mask):WH mask=true:=by
 rcases h with h | h | h<;>subst h<;>decide +kernel
theorem getD_none {owner:Array (Option Nat)}{k:Nat} (h:owner.getD k (some 0)=none):owner.toList[k]?=some none:=by
 by_cases hk:k<owner.size
 ·rw [iD,bV hk] at h
  rw [aQ,bV hk]
  simpa using h
 ·rw [iD,dm (by omega)] at h
  cases h
theorem L9 {mask:Nat} (hm:Mh mask) {owner:Array (Option Nat)}{j:Nat} (hj:j<=mask) (hn:owner.toList[j]?=some none) {i p:Nat} (hi:i<=mask) (hp:p<2 ^ 64) :
  ∃ k,dL mask owner (qB mask) i p=some k/\owner.toList[k]?=some none:=by
 cases e:dL mask owner (qB mask) i p with
 | some k=>exact ⟨k,rfl,getD_none (BH _ _ _ _ e)⟩
 | none =>
  exfalso
  have hz:(Mf mask 13 (i,p)).2=0:=by
   rw [Je]
   exact Nat.div_eq_of_lt (aC hp (by decide))
  have h1:=Jf mask 13 (i,p) hi
  have g:=Rm hm
  unfold WH at g
  rw [cu] at g
  have g:=g _ (List.mem_range.mpr (kj h1))
  rw [cu] at g
  have g:=g j (List.mem_range.mpr (kj hj))
  rw [lv] at g
  obtain ⟨n,hn1,hn2⟩:=g
  have hn1:=List.mem_range.mp hn1
  have hn2:=of_decide_eq_true hn2
  have hs:(Mf mask (13 + n) (i,p)).1=j:=by
   rw [Jd,<- hn2,<- hz]
  have:=BG _ _ _ e (13 + n) (by unfold qB;omega)
  rw [hs] at this
  have hq:owner.getD j (some 0)=none:=by
   rw [aQ] at hn
   rw [iD,hn]
   rfl
  rw [hq] at this
  cases this
theorem Rn (h:Int):nj h<2 ^ 64:=by
 unfold nj
 have:=nR h (show (0:Int)<2 ^ 64 by decide)
 have:=rJ h (show (2 ^ 64:Int)≠0 by decide)
 omega
theorem EQ:∀ {l:List (Option Nat)}{j:Nat},l[j]?=some none->((l.set j (some k)).filterMap id).Perm (k::l.filterMap id)
 | [],_,h=>nomatch h
 | x::r,0,h=>by
  cases h
  exact .refl _
 | x::r,j + 1,h=>by
  have ih:=EQ (k:=k) (l:=r) (j:=j) h
  cases x with
  | none=>exact ih
  | some y=>exact (ih.cons y).trans (.swap k y _)
theorem ES:∀ {l:List (Option Nat)},(l.filterMap id).length<l.length->∃ j,j<l.length/\l[j]?=some none
 | [],h=>absurd h (bW 0)
 | none::r,_=>⟨0,GA _,rfl⟩
 | some y::r,h=>by
  obtain ⟨j,h1,h2⟩:=ES (l:=r) (GB h)
  exact ⟨j + 1,Nat.succ_lt_succ h1,h2⟩
def Jg (mask:Nat) (acc:Option (Array (Option Nat)×Nat)) (h:Int):Option (Array (Option Nat)×Nat):=acc.bind fun x=>(dL mask x.1 (qB mask) (nj h % (mask + 1)) (nj h)).bind fun j=>some (x.1.setIfInBounds j (some x.2),x.2 + 1)
theorem ET (mask:Nat) (hs:Array Int):uL mask hs=(hs.toList.foldl (Jg mask) (some (yE (mask + 1) none,0))).map (·.1):=by
 rw [Array.foldl_toList]
 rfl
theorem Jh (hm:Mh mask):∀ (l:List Int) (owner:Array (Option Nat)) (k:Nat),owner.size=mask + 1->(owner.toList.filterMap id).Perm (bH k)->k + l.length<=mask ->
  ∃ o',l.foldl (Jg mask) (some (owner,k))=some (o',k + l.length)/\o'.size=mask + 1/\(o'.toList.filterMap id).Perm (bH (k + l.length))
 | [],owner,k,h1,h2,_=>⟨owner,rfl,h1,h2⟩
 | h::r,owner,k,h1,h2,h3=>by
  simp only [aW] at h3 ⊢
  obtain ⟨j,j1,j2⟩:=ES (l:=owner.toList) (by rw [h2.length_eq,eX,aq,h1];omega)
  rw [aq,h1] at j1
  obtain ⟨m,m1,m2⟩:=L9 hm (xG j1) j2 (i:=nj h % (mask + 1)) (xG (Cf _ (GA _))) (Rn h)
  have e:Jg mask (some (owner,k)) h=some (owner.setIfInBounds m (some k),k + 1):=by
   unfold Jg
   simp only [oY,m1]
  rw [cP,e]
  obtain ⟨o',a1,a2,a3⟩:=Jh hm r (owner.setIfInBounds m (some k)) (k + 1) (by rw [Ci];exact h1) (by
   rw [Au]
   refine (EQ m2).trans ?_
   rw [List.range_succ]
   exact ((h2.cons k).trans (List.perm_append_singleton k _).symm)) (by omega)
  rw [show k + 1 + r.length=k + (r.length + 1) by omega] at a1 a3
  exact ⟨o',a1,a2,a3⟩
theorem Ji {n:Nat}{o:Array (Option Nat)} (h:o.size=n):(bH n).filterMap (fun j=>o.getD j none)=o.toList.filterMap id:=by
 have e:(bH n).map (fun j=>o.getD j none)=o.toList:=by
  refine yb (by simp [h]) fun i h1 h2=>?_
  simp only [ao,eX] at h1
  rw [lw,Md,iD,bV (by omega)]
  simp
 rw [<- e,nc]
 rfl
theorem Jj {mask finger moves:Nat}{led plain:Bool}{hs:Array Int} (hm:Mh mask) (hl:hs.size<=mask):∃ place order,Ae mask finger moves led plain hs=some ({ mask,place,dummies:=#[],finger,led,moves,plain },order)/\place.size=hs.size/\order.toList.Perm (bH hs.size):=by
 obtain ⟨o,h1,h2,h3⟩:=Jh hm hs.toList (yE (mask + 1) none) 0 (by simp) (by
  have:(yE (mask + 1) (none:Option Nat)).toList.filterMap id=[]:=by
   rw [Array.toList_replicate,List.filterMap_eq_nil_iff]
   intro x hx
   rw [(List.mem_replicate.mp hx).2]
   rfl
  rw [this]
  exact .refl _) (by rw [aq];omega)
 have hc:uL mask hs=some o:=by
  rw [ET,h1]
  rfl
 rw [e8,aq] at h3
 refine ⟨_,_,by unfold Ae;rw [hc];rfl,?_,?_⟩
 ·have e:=congrArg lL (Ji h2)
  rw [h3.length_eq,eX] at e
  rw [aS,ao,<- e]
  rw [xH,xH]
  congr 1
  funext j
  cases o.getD j none<;>rfl
 ·rw [List.map_filterMap]
  refine .trans (.of_eq ?_) h3
  rw [<- Ji h2]
  show List.filterMap _ _=List.filterMap _ _
  congr 1
  funext j
  cases o.getD j none<;>rfl
end L2
namespace L2
open PySem
section
variable {P:aK}{w:bc}{A:aX}{E:aa->af->Prop}{s:af}
theorem Oq:∀ n:_root_.Fin 31,n.val<cx n.val/\(cx n.val=8\/cx n.val=16\/cx n.val=32):=by decide +kernel
theorem Os (h:n<=30):n<=cx n - 1/\Mh (cx n - 1)/\cx n<=32:=by
 obtain ⟨h1,h2⟩:=Oq ⟨n,by omega⟩
 simp only at h1 h2
 unfold Mh
 omega
theorem zm {es:Array (Int×aa)}{order:Array Nat} (h:order.toList.Perm (bH es.size)):(order.filterMap (es[·]?)).toList.Perm es.toList:=by
 rw [Array.toList_filterMap]
 refine (h.filterMap _).trans (.of_eq ?_)
 have e:(bH es.size).map (fun i=>es[i]?)=es.toList.map some:=by
  refine yb (by simp) fun i h1 h2=>?_
  simp only [ao,eX] at h1
  rw [lw,Md,lw,Array.getElem_toList]
  exact bV h1
 have e2:(bH es.size).filterMap (fun i=>es[i]?)=((bH es.size).map (fun i=>es[i]?)).filterMap id:=by rw [nc];rfl
 rw [e2,e,nc]
 simp
theorem cX.of     (I:cX w h a es ep t) (p:es'.toList.Perm es.toList) (f:t'.fits es'.size=true) (l:t'.led=t.led) (pl:t'.plain=t.plain):cX w (h.update a (qJ es' t')) a es' (ep + 1) t':=by
 have sz:es'.size=es.size:=by rw [<- aq,p.length_eq,aq]
 refine ⟨rP I,fun e he=>I.txt e (p.mem_iff.mp he),(p.map kf).nodup_iff.mpr I.nd,by rw [sz];exact I.few,f,l.trans I.led,?_⟩
 rw [sz,pl]
 exact I.pl
theorem zo {t:jq}{n:Nat} (h:t.fits n=true):t.place.size=n/\t.fill<=t.mask:=by
 unfold nh at h
 rw [aR] at h
 exact ⟨eq_of_beq h.1,of_decide_eq_true h.2⟩
theorem Jk {mask finger moves:Nat}{led plain:Bool}{place:Array Nat}{n:Nat} (h:place.size=n) (hm:n<=mask):nh { mask,place,dummies:=#[],finger,led,moves,plain } n=true:=by
 unfold nh Ms
 subst h
 simp only [beq_self_eq_true,uV,decide_eq_true_eq]
 exact hm
theorem Hk {a:ak}{es:Array (Int×aa)}{ep:Nat}{t:jq}{wanted:Nat}{Q:Unit->af->Prop} (I:cX w s.heap a es ep t) (hw:wanted<=30) (hz:es.size<=wanted)
  (h:∀ h' es' ep' t',bN a s.heap h'->cX w h' a es' ep' t'->es'.toList.Perm es.toList->Mh t'.mask->wanted<=t'.mask->Q () { s with heap:=h' }):au (ax P w) A (setRelay a wanted) Q E s:=by
 obtain ⟨w1,w2,w3⟩:=Os hw
 obtain ⟨place,order,e,hp,ho⟩:=Jj (finger:=t.finger) (moves:=t.movedTo (cx wanted - 1)) (led:=t.led) (plain:=t.plain) (hs:=es.map (·.1)) w2 (by rw [kc];omega)
 rw [kc] at hp ho
 have pm:=zm ho
 have sz:(order.filterMap (es[·]?)).size=es.size:=by rw [<- aq,pm.length_eq,aq]
 unfold setRelay
 refine a7 (bA I.at_ rfl I.fits ?_)
 show au _ _ (if cx wanted > sizeLine then _ else _) _ _ s
 have h32:(32:Nat)<=sizeLine:=by decide
 rw [if_neg (by omega)]
 refine a7 ?_
 unfold Kg
 rw [e]
 show au _ _ (if ((order.filterMap (es[·]?)).size != es.size)=true then _ else pure (order.filterMap (es[·]?),_)) _ _ s
 rw [if_neg (by rw [sz];simp)]
 refine a9 ?_
 have fit:nh { mask:=cx wanted - 1,place,dummies:=#[],finger:=t.finger,led:=t.led,moves:=t.movedTo (cx wanted - 1),plain:=t.plain } (order.filterMap (es[·]?)).size=true:=Jk (by rw [sz];exact hp) (by rw [sz];omega)
 refine jb I.at_ rfl ?_ (by rw [sz];exact fz I.few)
 exact h _ _ _ _ (bK s.heap a _) (I.of pm fit rfl rfl) pm w2 w1
theorem D6 {a:ak}{es:Array (Int×aa)}{ep:Nat}{t:jq}{more:Nat}{Q:Unit->af->Prop} (I:cX w s.heap a es ep t) (hz:es.size + more<=15) (hm:es.size≠0\/Mh t.mask)
  (h:∀ h' es' ep' t',bN a s.heap h'->cX w h' a es' ep' t'->es'.toList.Perm es.toList->(es.size≠0\/Mh t'.mask)->more<=t'.mask->Q () { s with heap:=h' }):au (ax P w) A (setRoomFor a more) Q E s:=by
 obtain ⟨f1,f2⟩:=zo I.fits
 unfold setRoomFor
 refine a7 (bA I.at_ rfl I.fits ?_)
 dsimp only
 unfold SetTable.roomFor
 by_cases hc:(t.fill + more) * 5 ≥ t.mask * 3
 ·rw [if_pos hc]
  refine Hk I (by rw [f1];omega) (by rw [f1];omega) fun h' es' ep' t' a1 a2 a3 a4 a5=>?_
  exact h h' es' ep' t' a1 a2 a3 (.inr a4) (by rw [f1] at a5;omega)
 ·rw [if_neg hc]
  exact a9 (h s.heap es ep t (.refl ..) I (.refl _) hm (by omega))
end
end L2
namespace L2
open PySem
theorem yn {α σ:Type}{M:Ag}{A:aX}{E:aa->af->Prop}{Q:σ->af->Prop}{f:α->σ->Sem (ForInStep σ)}{b:σ} (I:List α->af->Prop)
  (step:∀ x r s,I (x::r) s->au M A (f x b) (fun st s'=>st=.yield b/\I r s') E s) (fin:∀ s,I [] s->Q b s):∀ (l:List α) (s:af),I l s->au M A (forIn l b f) Q E s
 | [],s,h=>by rw [ng];exact a9 (fin s h)
 | x::r,s,h=>by
  rw [jF]
  refine a7 (bL (step x r s h) (fun st s' q=>?_) fun _ _ e=>e)
  obtain ⟨rfl,q⟩:=q
  exact yn I step fin r s' q
section
variable {P:aK}{w:bc}{A:aX}{E:aa->af->Prop}{s:af}
theorem EU  (h:∀ a∈l,∃ es ep t,cX w s.heap a es ep t) (q:Q true s):au (ax P w) A (setsQuiet l) Q E s:=by
 unfold setsQuiet
 refine a7 (yn (fun r s'=>s'=s/\∀ a∈r,∃ es ep t,cX w s.heap a es ep t) (fun a r s' hI=>?_) (fun s' hI=>?_) l s ⟨rfl,h⟩)
 ·obtain ⟨rfl,hI⟩:=hI
  obtain ⟨es,ep,t,I⟩:=hI a am
  unfold setEntries
  refine a7 (a7 (bA I.at_ rfl I.fits (a9 ?_)))
  dsimp only
  rw [<- Kl]
  refine a7 (yn (fun r2 s2=>s2=s'/\∀ e∈r2,u0 w e) (fun e r2 s2 h2=>?_) (fun s2 h2=>?_) es.toList s' ⟨rfl,I.txt⟩)
  ·obtain ⟨rfl,h2⟩:=h2
   obtain ⟨x,tk,rfl⟩:=h2 e am
   exact a9 ⟨rfl,rfl,fun e he=>h2 e (ah _ he)⟩
  ·obtain ⟨rfl,_⟩:=h2
   exact a9 ⟨rfl,rfl,fun b hb=>hI b (ah _ hb)⟩
 ·obtain ⟨rfl,_⟩:=hI
  exact a9 q
theorem La     (I:cX w s.heap o es ep t) (hb:w.params.followText "set-order"=true\/t.plain=true\/es.size<=1)
  (q:∀ es',es'.toList.Perm es.toList->Q es' s):au (ax P w) A (setWalk o) Q E s:=by
 unfold setWalk
 refine a7 (bA I.at_ rfl I.fits (a7 (fj ?_)))
 cases hw:w.params.followText "set-order" with
 | true =>
  simp only [if_true]
  exact a7 (ik (a9 (q _ (wv _ _))))
 | false =>
  simp only [bw,if_false]
  have hd:(!t.plain && decide (es.size > 1))=false:=by
   rcases hb with h | h | h
   ·rw [hw] at h;cases h
   ·rw [h];rfl
   ·rw [decide_eq_false (by omega),sZ]
  have hl:t.led=true:=by rw [I.led,hw];rfl
  show au _ _ (if (!t.plain && decide (es.size > 1))=true then _ else _) _ _ s
  rw [hd,if_neg bq]
  refine a7 ?_
  show au _ _ (if (!t.led && decide (es.size > 1))=true then _ else pure ()) _ _ s
  rw [hl,if_neg (by simp)]
  exact a9 (a9 (q _ (.refl _)))
theorem xV     (I:cX w s.heap o eo epo to) (J:cX w s.heap a es ep t)
  (q:∀ h' es' ep' t',bN a s.heap h'->cX w h' a es ep' t'->es'.toList.Perm eo.toList->Q es' { s with heap:=h' }):au (ax P w) A (setWalkUnseen o [a] (some a)) Q E s:=by
 unfold setWalkUnseen
 refine a7 (bA I.at_ rfl I.fits (a7 (fj ?_)))
 cases hc:(w.params.followText "set-order" || to.led && to.plain || decide (eo.size<=1)) with
 | true =>
  rw [if_pos rfl]
  refine La I ?_ fun es' p=>q s.heap es' ep t (.refl ..) J p
  rw [jJ,jJ,aR,decide_eq_true_eq] at hc
  rcases hc with (h | h) | h
  ·exact .inl h
  ·exact .inr (.inl h.2)
  ·exact .inr (.inr h)
 | false =>
  rw [if_neg bq]
  rw [Ix,Ix,decide_eq_false_iff_not] at hc
  obtain ⟨⟨c1,_⟩,c3⟩:=hc
  refine a7 (EU (fun b hb=>?_) ?_)
  ·rcases List.mem_cons.mp hb with h | h
   ·rw [h];exact ⟨_,_,_,I⟩
   ·rw [List.mem_singleton.mp h];exact ⟨_,_,_,J⟩
  rw [if_neg (by simp)]
  refine a7 (df ?_)
  dsimp only
  refine a7 (bA J.at_ rfl J.fits ?_)
  dsimp only
  have hpl:to.plain=false:=I.pl.resolve_left (by omega)
  have hled:(t.led && to.led)=t.led:=by rw [I.led,J.led,oZ]
  split
  ·refine a7 (jb J.at_ rfl ?_ (fz J.few))
   refine a9 (q _ _ _ _ (bK s.heap a _) (⟨rP J,J.txt,J.nd,J.few,?_,?_,?_⟩:cX w _ a es (ep + 1) _) (.refl _))
   ·exact J.fits
   ·exact hled.trans J.led
   ·exact .inr (by show (t.plain && to.plain)=false;rw [hpl,sZ])
  ·exact a9 (q s.heap eo ep t (.refl ..) J (.refl _))
end
end L2
namespace L2
open PySem
section
variable {P:aK}{w:bc}{A:aX}{E:aa->af->Prop}{s:af}
theorem cX.but     (I:cX w h o eo epo to) (ne:a≠o) (sb:bN a h h'):cX w h' o eo epo to:=I.keep fun _ e=>(sb.2 o (cV ne)).trans e
theorem zq {a o:ak}{es eo:Array (Int×aa)}{ep epo:Nat}{t to:jq}{each:Sem Unit}{Q:Unit->af->Prop} (ne:a≠o) (J:cX w s.heap a es ep t) (I:cX w s.heap o eo epo to)
  (hz:es.size + eo.size<=15) (hm:es.size≠0\/Mh t.mask) (he:∀ (s':af) (Q':Unit->af->Prop),cX w s'.heap o eo epo to->Q' () s'->au (ax P w) A each Q' E s')
  (q:∀ h' tk' es' ep' t',bN a s.heap h'->cX w h' a es' ep' t'->(∀ x,x∈es'.toList.map kf↔x∈es.toList.map kf\/x∈eo.toList.map kf)->(es'.size≠0\/Mh t'.mask)->Q () { s with heap:=h',toks:=tk' }) :
  au (ax P w) A (setMerge a o each) Q E s:=by
 unfold setMerge
 rw [if_neg (by simpa using ne)]
 refine a7 (bA I.at_ rfl I.fits ?_)
 dsimp only
 by_cases h0:eo.size=0
 ·rw [if_pos (by simpa [Array.isEmpty] using h0)]
  have e0:eo=#[]:=kY h0
  exact a9 (q s.heap s.toks es ep t (.refl ..) J (fun x=>by rw [e0];simp) hm)
 rw [if_neg (by simpa [Array.isEmpty] using h0)]
 refine a7 (D6 J hz hm fun h1 es1 ep1 t1 sb1 J1 p1 m1 r1=>?_)
 have I1:=I.but ne sb1
 have sz1:es1.size=es.size:=by rw [<- aq,p1.length_eq,aq]
 refine a7 (bA (s:={ s with heap:=h1 }) J1.at_ rfl J1.fits ?_)
 dsimp only
 obtain ⟨f1,f2⟩:=zo J1.fits
 have hpl:to.plain=false:=I.pl.resolve_left h0
 have hled:(t1.led && to.led)=t1.led:=by rw [I.led,J1.led,oZ]
 have kp:∀ x,x∈es1.toList.map kf↔x∈es.toList.map kf:=fun x=>(p1.map kf).mem_iff
 by_cases hf:t1.fill=0
 ·have e1:es.size=0:=by
   unfold Ms at hf
   omega
  have mk:Mh t1.mask:=m1.resolve_left (by omega)
  have ee:es=#[]:=kY e1
  unfold Mt
  rw [if_neg (by rw [hf];decide)]
  split
  ·refine jb (s:={ s with heap:=h1 }) J1.at_ rfl ?_ (fz I.few)
   refine q _ s.toks _ _ _ (sb1.trans (bK h1 a _)) (⟨rP J1,I.txt,I.nd,I.few,?_,?_,?_⟩:cX w _ a eo (ep1 + 1) _) (fun x=>by rw [ee];simp) (.inl h0)
   ·exact I.fits
   ·exact hled.trans J1.led
   ·exact .inr (by show (t1.plain && to.plain)=false;rw [hpl,sZ])
  ·obtain ⟨place,order,e,hp,ho⟩:=Jj (finger:=t1.finger) (moves:=t1.moves) (led:=t1.led && to.led) (plain:=t1.plain && to.plain) (hs:=eo.map (·.1)) mk (by rw [kc];exact r1)
   rw [kc] at hp ho
   have pm:=zm ho
   have sz:(order.filterMap (eo[·]?)).size=eo.size:=by rw [<- aq,pm.length_eq,aq]
   refine a7 ?_
   rw [e]
   show au _ _ (if ((order.filterMap (eo[·]?)).size != eo.size)=true then _ else pure (order.filterMap (eo[·]?),_)) _ _ _
   rw [if_neg (by rw [sz];simp)]
   refine a9 ?_
   refine jb (s:={ s with heap:=h1 }) J1.at_ rfl ?_ (by rw [sz];exact fz I.few)
   refine q _ s.toks _ _ _ (sb1.trans (bK h1 a _)) (⟨rP J1,fun x hx=>I.txt x (pm.mem_iff.mp hx),(pm.map kf).nodup_iff.mpr I.nd,by rw [sz];exact I.few,Jk (by rw [sz];exact hp) (by rw [sz];exact r1),hled.trans J1.led,.inr ?_⟩:cX w _ a (order.filterMap (eo[·]?)) (ep1 + 1) _) (fun x=>?_) (.inl (by rw [sz];exact h0))
   ·show (t1.plain && to.plain)=false;rw [hpl,sZ]
   ·rw [(pm.map kf).mem_iff,ee];simp
  ·rename_i hq
   split at hq<;>cases hq
 ·unfold Mt
  rw [if_pos (by simpa using hf)]
  dsimp only
  refine a7 (xV (s:={ s with heap:=h1 }) I1 J1 fun h2 es2 ep2 t2 sb2 J2 p2=>?_)
  rw [<- Kl]
  have hl:es2.toList.length=eo.size:=by rw [p2.length_eq,aq]
  refine a7 (yn (fun r s'=>∃ h' tk' e' p' t',s'={ s with heap:=h',toks:=tk' }/\bN a s.heap h'/\cX w h' a e' p' t'/\e'.size + r.length<=15/\(∀ e∈r,u0 w e)/\∀ x,(x∈e'.toList.map kf\/x∈r.map kf)↔x∈es.toList.map kf\/x∈eo.toList.map kf) ?_ ?_ es2.toList _ ⟨h2,s.toks,es1,ep2,t2,rfl,sb1.trans sb2,J2,by omega,fun e he=>I.txt e (p2.mem_iff.mp he),fun x=>by rw [kp,(p2.map kf).mem_iff]⟩)
  ·rintro e r s' ⟨h',tk',e',p',t',rfl,sb',J',z',tx',k'⟩
   obtain ⟨x,tk,rfl⟩:=tx' e am
   simp only [aW] at z'
   dsimp only
   refine a7 (dv (Bm (s:={ s with heap:=h',toks:=tk' }) (⟨e',p',t',J',.refl _⟩:lH w h' a (e'.toList.map kf)) (by rw [ao,aq];exact aC (show e'.size + 1<100 by omega) (by decide)) fun h'' tk'' sb'' S''=>?_))
   obtain ⟨e'',p'',t'',J'',pm''⟩:=S''
   have sb3:=sb'.trans sb''
   have I3:=I.but ne sb3
   refine a7 (he _ _ I3 ?_)
   refine a7 (bA (s:={ s with heap:=h'',toks:=tk'' }) I3.at_ rfl I3.fits ?_)
   dsimp only
   rw [if_neg (by simp)]
   refine a9 ⟨rfl,h'',tk'',e'',p'',t'',rfl,sb3,J'',?_,fun e he=>tx' e (ah _ he),fun y=>?_⟩
   ·have:=pm''.length_eq
    rw [ao,aq] at this
    have l2:(if x∈e'.toList.map kf then e'.toList.map kf else e'.toList.map kf++[x]).length<=e'.size + 1:=by
     split<;>simp
    omega
   ·rw [<- k' y,pm''.mem_iff]
    have ek:kf (hashStr w x,jM x tk)=x:=rfl
    rw [av,a_,ek]
    split
    ·rename_i hx
     constructor
     ·rintro (h | h)
      ·exact .inl h
      ·exact .inr (.inr h)
     ·rintro (h | h | h)
      ·exact .inl h
      ·rw [h];exact .inl hx
      ·exact .inr h
    ·rw [e_,cf]
     constructor
     ·rintro ((h | h) | h)
      ·exact .inl h
      ·exact .inr (.inl h)
      ·exact .inr (.inr h)
     ·rintro (h | h | h)
      ·exact .inl (.inl h)
      ·exact .inl (.inr h)
      ·exact .inr h
  ·rintro s' ⟨h',tk',e',p',t',rfl,sb',J',z',tx',k'⟩
   refine a9 (q h' tk' e' p' t' sb' J' (fun x=>?_) (.inl ?_))
   ·rw [<- k' x];simp
   ·intro e0
    obtain ⟨e,hh⟩:∃ e,e∈eo.toList:=by
     cases hq:eo.toList with
     | nil=>rw [<- aq,hq] at h0;exact absurd rfl h0
     | cons e r=>exact ⟨e,am⟩
    have:=(k' (kf e)).mpr (.inr (bx hh))
    rw [kY e0] at this
    simp at this
end
end L2
namespace L2
open PySem PyProof.Rows
theorem D7:Qa table "set.__or__"=some jG.«frozenset.__or__»:=Gu (id':="frozenset.__or__") (by kernel_rfl) rfl (by decide +kernel) (by kernel_rfl)
section
variable {P:aK}{w:bc}{A:aX}{E:aa->af->Prop}{s:af}
theorem cX.ty    (I:cX w s.heap a es ep t):s.TypeIs (.ref a) "set":=⟨_,I.at_,rfl⟩
theorem uc     (I:cX w s.heap a es ep t) (q:Q true s):au (ax P w) A (sL (.ref a)) Q E s:=by
 unfold sL
 refine a7 (gg I.ty Mn ?_)
 exact a9 q
theorem Ot  (e:h.get? a=some (fe w)):cX w h a #[] 0 (.fresh 0 0 (!w.params.followText "set-order")) :=
 ⟨e,(fun _ h=>nomatch h),fO,by decide,rfl,rfl,.inl rfl⟩
theorem Ro   (ha:lH w s.heap a xs) (hb:lH w s.heap b ys) (ne:a≠b) (hz:xs.length + ys.length<=15)
  (q:∀ h' tk',bN s.heap.objs.size (s.heap.push (fe w)) h'->lH w h' s.heap.objs.size (dn xs ys)->Q (.ref s.heap.objs.size) { s with heap:=h',toks:=tk' }) :
  au (ax P w) A (gG .BitOr (.ref a) (.ref b)) Q E s:=by
 obtain ⟨ea,pa,ta,Ia,ma⟩:=ha
 obtain ⟨eb,pb,tb,Ib,mb⟩:=hb
 have sa:ea.size=xs.length:=by rw [<- ma.length_eq,ao,aq]
 have sb:eb.size=ys.length:=by rw [<- mb.length_eq,ao,aq]
 refine wpAny_binaryOp_same Ia.ty Ib.ty F.fills_set_or F.slot_set_or (bJ F.slot_set_or Ia.ty D7 ?_ (F.args_set_or_2 _ _))
 have lt1:a<s.heap.objs.size:=ap Ia.at_
 have lt2:b<s.heap.objs.size:=ap Ib.at_
 show au _ _ (Qj "__or__" ⟨[.ref a,.ref b],[]⟩ >>= _) _ _ s
 refine a7 (a7 (a9 (a9 ?_)))
 dsimp only
 refine a7 (a7 (uc Ia (uc Ib ?_)))
 rw [if_neg (by simp)]
 refine a7 (a9 (a7 ?_))
 show au _ _ (tW a >>= _) _ _ s
 refine a7 ?_
 unfold tW Qk
 refine a7 (a7 (gg Ia.ty Mn (a9 ?_)))
 rw [if_pos rfl]
 refine a7 (tj ?_)
 have g0:(s.heap.push (fe w)).get? s.heap.objs.size=some (fe w):=aw _ rfl
 have J0:=Ot g0
 have Ia1:cX w (s.heap.push (fe w)) a ea pa ta:=Ia.keep fun _ e=>ac _ e
 have Ib1:cX w (s.heap.push (fe w)) b eb pb tb:=Ib.keep fun _ e=>ac _ e
 have na:s.heap.objs.size≠a:=cV (aE lt1)
 have nb:s.heap.objs.size≠b:=cV (aE lt2)
 refine a7 (a9 (a7 (zq (s:={ s with heap:=s.heap.push (fe w) }) na J0 Ia1 (by show 0 + ea.size<=15;omega) (.inr (.inl rfl)) (fun _ _ _ q=>a9 q) fun h1 tk1 e1 p1 t1 sb1 J1 k1 m1=>a9 ?_)))
 have Ib2:=Ib1.but nb sb1
 have n1:(e1.toList.map kf).length<=ea.size:=by
  have:=(nl J1.nd Ia.nd).mpr fun x=>by rw [k1];simp
  rw [this.length_eq,ao,aq]
  exact ar _
 rw [ao,aq] at n1
 show au _ _ (if (bu b != bu a)=true then _ else _) _ _ _
 rw [if_pos (by simp;exact cV ne)]
 refine a7 (a9 (a7 (dv ?_)))
 show au _ _ (jH _ s.heap.objs.size (bu b)) _ _ _
 unfold jH
 refine a7 (uc (s:={ s with heap:=h1,toks:=tk1 }) Ib2 ?_)
 rw [if_pos rfl]
 refine a7 (a9 ?_)
 unfold Ql setEpoch
 refine a7 (a7 (bA (s:={ s with heap:=h1,toks:=tk1 }) Ib2.at_ rfl Ib2.fits (a9 ?_)))
 refine zq (s:={ s with heap:=h1,toks:=tk1 }) nb J1 Ib2 (by omega) m1 (fun s' Q' I' q'=>?_) fun h2 tk2 e2 p2 t2 sb2 J2 k2 m2=>?_
 ·unfold Qm setEpoch
  refine a7 (a7 (bA I'.at_ rfl I'.fits (a9 ?_)))
  dsimp only
  rw [if_neg (by simp)]
  exact a9 q'
 ·refine a9 (a9 ⟨_,rfl,(fun z=>nomatch z),q h2 tk2 (sb1.trans sb2) ⟨e2,p2,t2,J2,?_⟩⟩)
  refine (nl J2.nd (iK _ _ (ma.nodup_iff.mp Ia.nd))).mpr fun x=>?_
  rw [k2,iS,k1,ma.mem_iff,mb.mem_iff]
  simp
end
end L2
namespace L2
open PySem PyProof.Rows
theorem UC:qD X (gG .BitOr) (fun x y H Q=>∃ a b xs ys,x=.ref a/\y=.ref b/\a≠b/\H a=some (lQ X.w a xs)/\H b=some (lQ X.w b ys)/\xs.length + ys.length<=15/\∀ p,H p=none->Q (.ref p) (upd H p (lQ X.w p (dn xs ys)))):=by
 intro pins s σ H x y v u Q I rx ry h
 obtain ⟨a,b,xs,ys,rfl,rfl,ne,ha,hb,hz,q⟩:=h
 cases rx
 cases ry
 have Sa:=(show dw X.prog X.w H s.heap a (lQ X.w a xs) from I.hok a _ ha).1
 have Sb:=(show dw X.prog X.w H s.heap b (lQ X.w b ys) from I.hok b _ hb).1
 refine Ro Sa Sb ne hz fun h' tk' sb S=>?_
 refine ⟨.ref s.heap.objs.size,_,I.laid (t':=tk') (fun b o e=>?_) (ar _) (CL S),rfl,q _ (I.hok.fresh (ar _))⟩
 exact (sb.2 b (aE (ap e))).trans (ac _ e)
end L2
namespace J
open PySem L2
section
variable {c:C}{a b:aZ}{ga gb:aB->R (List Str)}{pos:Pos}
def UD (xs ys:List Str):R (List Str):=if xs.length + ys.length<=15 then .ok (dn xs ys) else .no
def Ou (ga gb:aB->R (List Str)):aB->R (List Str):=fun ρ=>(ga ρ).bind fun xs=>(gb ρ).bind (J.UD xs)
theorem UE (ha:Rf c a ga) (hb:Rf c b gb):Rf c (.BinOp a .BitOr b pos) (Ou ga gb):=.of fun ρ=>tm (S4 UC (ha ρ) (hb ρ)) fun σ H Q h_0=>by
 obtain ⟨H0,Hs0,la,Hs,f,q⟩:=h_0
 refine IZ (w:=c.X.w) f q fun xs p H1 Hs1 e1 s1 f1 n1=>?_
 unfold Ou at q
 rw [e1,bind_ok] at q
 have s2:cK H1 Hs1 (upd H1 p (lQ c.X.w p xs)) Hs1:=.mine f1.st.sub n1
 refine IZ (w:=c.X.w) (f1.step s2) (q.on (s1.trans s2) (q':=fun _=>True) fun _ _=>trivial) fun ys p2 H2 Hs2 e2 s3 f2 n2=>?_
 rw [e2,bind_ok] at q
 unfold J.UD at q
 by_cases hz:xs.length + ys.length<=15
 ·rw [if_pos hz] at q
  have k1:H2 p=some (lQ c.X.w p xs):=s3.all p _ bg
  have ne:p≠p2:=fun z=>by rw [z,n2] at k1;cases k1
  have s4:cK H2 Hs2 (upd H2 p2 (lQ c.X.w p2 ys)) Hs2:=.mine f2.st.sub n2
  exact ⟨p,p2,xs,ys,rfl,rfl,ne,by rw [bi ne];exact k1,bg,hz,fun l hl=>q l _ _ (s1.trans (s2.trans (s3.trans s4))) hl⟩
 ·rw [if_neg hz] at q;exact q.elim
end
end J
namespace J
open PySem L2
section
variable {c:C}{a b:aZ}{gs:aB->R (List D)}{pos px py pt pt2:Pos}{x y:Str}
def Yq (i j:Nat) (ρ:aB):List D->R Fl
 | [d,e]=>.ok (.nx ((ρ.set i (.shr d)).set j (.shr e)))
 | _=>.no
def Ov (i j:Nat) (gs:aB->R (List D)):aB->R Fl:=fun ρ=>(gs ρ).bind (Yq i j ρ)
theorem UF (i j:Nat) (hc:c.X.calm=true) (hN:c.X.N.Nodup) (ha:IK c [a,b] gs) (hi:c.X.N[i]?=some x:=by rfl) (hj:c.X.N[j]?=some y:=by rfl) (hij:i≠j:=by decide)
  (hx:c.X.env.scope.names.lookup x=some .local:=by rfl) (hy:c.X.env.scope.names.lookup y=some .local:=by rfl) (hw:y0 [.Tuple [.Name x px,.Name y py] kt pt] (.Tuple [a,b] k2 pt2) c.X.env=pure (some [x,y]):=by rfl)
  (hs:x_ [.Tuple [.Name x px,.Name y py] kt pt] (.Tuple [a,b] k2 pt2) pos.line c.X.env=pure false:=by rfl):JS c (.Assign [.Tuple [.Name x px,.Name y py] kt pt] (.Tuple [a,b] k2 pt2) pos) (Ov i j gs):=.of fun ρ=>AF (TV hc hN hi hj hij hx hy (ha ρ) hw hs) fun D σ H h_0=>by
 obtain ⟨H0,Hs0,la,Hs,f,q⟩:=h_0
 refine ⟨H0,Hs0,la,Hs,f,?_⟩
 unfold Ov at q
 cases hr:gs ρ with
 | ok ds =>
  rw [hr,bind_ok] at q
  intro vs H' Hs' s r
  match ds,r,q with
  | [],_,q=>exact q.elim
  | [_],_,q=>exact q.elim
  | [d,e],.cons r1 (.cons r2 .nil),q=>exact ⟨_,_,rfl,q _ _ Hs' (((f.step s).set i r1).set j r2)⟩
  | _::_::_::_,_,q=>exact q.elim
 | ex z n =>
  rw [hr] at q
  exact fun H' Hs' s=>q H' Hs' (f.st.trans s)
 | no=>rw [hr] at q;exact q.elim
end
end J
namespace J
open PySem L2
end J
end
section
namespace L2
open PySem PySem.Spec PyProof.Rows
section
variable {prog:aK}{w:bc}{A:aX}{E:aa->af->Prop}{s:af}{R:tQ->af->Prop}
end
end L2
namespace L2
open PySem PySem.Spec PyProof.Rows
section
variable {prog:aK}{w:bc}{A:aX}{E:aa->af->Prop}{s:af}{R:tQ->af->Prop}
end
end L2
namespace L2
open PySem PySem.Spec PyProof.Rows
end L2
namespace J
open PySem L2
section
variable {c:C}{e:aZ}{g:aB->R D}{p cpos:Pos}
end
end J
namespace L2
open PySem PySem.Spec PyProof.Rows
end L2
namespace J
open PySem L2
section
variable {c:C}{a:aZ}{gs:aB->R (List D)}{p pos:Pos}
end
end J
namespace L2
open PySem PySem.Spec PyProof.Rows
end L2
namespace J
open PySem L2
section
variable {c:C}{tg a:aZ}{gs:aB->R (List D)}{p pos:Pos}
end
end J
namespace J
open PySem L2
theorem Ow  : JS c s (fun _=>.no):=.of fun ρ pins s σ H D I h=>by
 obtain ⟨H0,Hs0,la,Hs,f,q⟩:=h
 exact q.elim
end J
end
namespace J
open PySem L2 PyProof.Rows
section
structure En where
 P:aK
 w:bc
 K:a8
 mg:Str->Option aa
 base:bF
 cls:Str->ak
abbrev FN (e:En):=Fn e.P e.w e.K e.mg e.base e.cls
abbrev ER (e:En):=Er e.mg e.base e.cls
abbrev Cn (mg:Str->Option aa) (x:Str) (n:Int):Prop:=∃ t,mg x=some (.int n t)
structure gD (K:a8) (mg:Str->Option aa) (x:Str) (st:c_):Prop where
 ex:∃ f fd,KG K x x st f fd/\mg x=some (.ref f)
section
variable {K:a8}{h:bF}{mg:Str->Option aa}{x:Str}
theorem d_in {st:c_}{A:ak}{od an:Option ak}{sl:Array (Option aa)}{oc kV dc pm cv ct:aa} (X:K.In h) (G:h.Ns bQ mg) (a:gj K bQ x=some (some (.ref A)))
  (l:K.lookup A=some ⟨oc,od,.func (gf x x (kP st) (iu st) (az st) .none kV dc pm an cv ct),sl⟩) (c:mv K cv x=true) (k:fA K (.ref A)=true):gD K mg x st :=
 ⟨_,_,MX l c k,nQ X G a⟩
theorem cn_in  (X:K.In h) (G:h.Ns bQ mg) (t:gj K bQ x=some (some (.int n tk))):Cn mg x n:=⟨_,nQ X G t⟩
inductive Zs (K:a8):List Str->Prop
 | nil:Zs K []
 | cons {x:Str}{r:List Str}:gj K bQ x=some none->Zs K r->Zs K (x::r)
theorem Zs.get (z:Zs K r):∀ x∈r,gj K bQ x=some none:=by
 induction z with
 | nil=>exact fun _ h=>nomatch h
 | cons a _ ih =>
  intro y hy
  rcases List.mem_cons.mp hy with e | e
  ·rw [e];exact a
  ·exact ih y e
abbrev zn:List Str:=["len","isinstance","all","any","zip","tuple","list","sorted","set","range","enumerate","dict","sum","max","min","reversed","str","int","bool","ValueError"]
theorem WI (X:K.In h) (G:h.Ns bQ mg) (z:Zs K zn):Bi mg:=by
 have q:∀ x∈zn,mg x=none:=fun x hx=>PySem.W.mg_none_of X G (z.get x hx)
 exact ⟨q _ (by decide),q _ (by decide),q _ (by decide),q _ (by decide),q _ (by decide),q _ (by decide),q _ (by decide),q _ (by decide),q _ (by decide),q _ (by decide),q _ (by decide),q _ (by decide),q _ (by decide),q _ (by decide),q _ (by decide),q _ (by decide),q _ (by decide),q _ (by decide),q _ (by decide)⟩
end
section
variable {P:aK}{w:bc}{K:a8}{mg:Str->Option aa}{base:bF}{N:List Str}{qual:Str}{scope:gE}{f:ak}{cd:aa}{A:aX}{outer:List Env}{s:af}{H:Hp}{E:XK}
theorem px:tZ (qm P w) (ke (qm P w) P w K mg base N qual scope f cd A outer s H E) E:=El fun _ _ h=>h
end
section
variable {c:C}{x y:Str}{e:aZ}{es:List aZ}{gs:aB->R (List D)}{p q pos:Pos}
theorem jc  (G:Fn c.X.prog c.X.w c.X.K c.X.mg c.X.base c.cls x k n F) (hr:lG j c.X.A) (hx:tZ (qm c.X.prog c.X.w) c.X c.E) (ha:IK c (e::es) gs)
  (hk:k<=j:=by decide) (hg:Gl c.X x:=by exact rfl) (hdb:(x == ("__debug__" : Str))=false:=by decide) (he:aO (e::es) c.X.env=(false,eE e c.X.env)::aO es c.X.env:=by rfl) (hpl:(jn pos (aO es c.X.env)).any (·.1)=false:=by rfl) :
  JE c (.Call (.Name x p) (e::es) [] pos) (eR n F gs):=R9 G (hr.mono hk) hg hx ha hdb he hpl
end
abbrev Bq (x:Str) (st:c_) (us:List aa) (r:List (Str×aa)):Prop:=∀ (kV doc pm:aa) (an:Option ak) (cdv ct:aa),Q3 (gf x x (kP st) (iu st) (az st) .none kV doc pm an cdv ct) ⟨us,[]⟩=pure r
section
variable {K:a8}{x:Str}{st:c_}{f:ak}{fd:eP}
theorem b1 (F:KG K x x st f fd) (h:∀ u,Bq x st [u] [(a,u)]:=by exact fun _ _ _ _ _ _ _=>rfl):lM K fd [a] []:=F.binds fun _ _ _ _ _ _ us hl=>by obtain ⟨_,rfl⟩:=Zh hl;exact h ..
theorem b2 (F:KG K x x st f fd) (h:∀ u v,Bq x st [u,v] [(a,u),(b,v)]:=by exact fun _ _ _ _ _ _ _ _=>rfl):lM K fd [a,b] []:=F.binds fun _ _ _ _ _ _ us hl=>by obtain ⟨_,_,rfl⟩:=Zi hl;exact h ..
theorem b3 (F:KG K x x st f fd) (h:∀ u v w,Bq x st [u,v,w] [(a,u),(b,v),(c,w)]:=by exact fun _ _ _ _ _ _ _ _ _=>rfl):lM K fd [a,b,c] []:=F.binds fun _ _ _ _ _ _ us hl=>by obtain ⟨_,_,_,rfl⟩:=Zj hl;exact h ..
theorem b4 (F:KG K x x st f fd) (h:∀ u v w z,Bq x st [u,v,w,z] [(a,u),(b,v),(c,w),(d,z)]:=by exact fun _ _ _ _ _ _ _ _ _ _=>rfl):lM K fd [a,b,c,d] []:=F.binds fun _ _ _ _ _ _ us hl=>by obtain ⟨_,_,_,_,rfl⟩:=Zk hl;exact h ..
theorem b5 (F:KG K x x st f fd) (h:∀ u v w z y,Bq x st [u,v,w,z,y] [(a,u),(b,v),(c,w),(d,z),(e,y)]:=by exact fun _ _ _ _ _ _ _ _ _ _ _=>rfl):lM K fd [a,b,c,d,e] []:=F.binds fun _ _ _ _ _ _ us hl=>by obtain ⟨_,_,_,_,_,rfl⟩:=Zl hl;exact h ..
end
theorem o7 {e:En}{x:Str}{st:c_}{N ps:List Str}{k:Nat}{g:aB->R Fl} (D:gD e.K e.mg x st) (S:bD N ps (az st)) (b:∀ {f:ak}{fd:eP},KG e.K x x st f fd->lM e.K fd ps [])
  (h:∀ (f:ak) (cdv:aa) (A:aX) (outer:List Env) (s:af) (H:Hp) (E:XK),lG k (A.deeper (tS x (az st) s.heap.objs.size f cdv))->IT ⟨ke (qm e.P e.w) e.P e.w e.K e.mg e.base N x (az st) f cdv A outer s H E,e.cls,E⟩ (iu st) g) :
  FN e x (k + 1) ps.length (eS N.length g):=by
 obtain ⟨f,fd,F,hm⟩:=D.ex
 exact Wk F S hm (b F) (h f)
def Z7 (N P:List Str) (sc:gE):Bool:=decide (sc.kind=.function) && !sc.isCoroutine && !sc.isGenerator && decide N.Nodup && decide (N.take P.length=P) && P.all (fun x=>decide (sc.names.lookup x=some .local) || decide (sc.names.lookup x=some .cell)) && sc.names.all fun y=>decide (y.2≠.free)
theorem dz  (h:Z7 N P sc=true):bD N P sc:=by
 unfold Z7 at h
 simp only [aR,decide_eq_true_eq,Mr,cu,jJ] at h
 obtain ⟨⟨⟨⟨⟨⟨a,b⟩,c⟩,d⟩,e⟩,f⟩,g⟩:=h
 exact ⟨a,b,c,d,e,f,g⟩
structure Cw (K:a8) (x:Str) (C:ak):Prop where
 ns:gj K bQ x=some (some (.ref C))
 cl:∃ cd,sY K C=some cd
 ty:Mu K (.ref C)=some (.type "type")
theorem cw_in {K:a8}{x:Str}{C:ak}{cd:ClassData} (a:gj K bQ x=some (some (.ref C))) (i:sY K C=some cd) (y:Mu K (.ref C)=some (.type "type")):Cw K x C:=⟨a,⟨_,i⟩,y⟩
inductive Sb (K:a8) (C:ak):List (ak×Bool)->Prop
 | nil:Sb K C []
 | cons {D:ak}{b:Bool}{l:List (ak×Bool)}:PR K (.ref C) (.ref D)=some b->(b=false->C≠D)->Sb K C l->Sb K C ((D,b)::l)
structure Wy (K:a8) (C CP:ak) (l:List (ak×Bool)):Prop where
 x1:ms K (.ref C) "__getattribute__"=some (some (.builtin "BaseException.__getattribute__"))
 x2:ms K (.ref C) "__getattr__"=some none
 x3:ms K (.ref C) "__class__"=some (some (.builtin "object.__class__"))
 x4:Ir K (.builtin "object.__class__") "__get__"=some (some (.builtin "getset_descriptor.__get__"))
 x5:M3 K (.builtin "object.__class__")=some true
 x6:dB K C (.type "object")=some true
 x7:dB K C (.ref CP)=some true
 x8:PR K (.ref C) (.type "ValueError")=some true
 x9:(bu CP == bu C)=false
 sb:Sb K C l
end
end J
section
namespace L2
open PySem PySem.Spec PyProof.Rows
section
variable {prog:aK}{w:bc}{A:aX}{E:aa->af->Prop}{s:af}{it d:ak}{i n ep:Nat}{o:Obj}{es:Array mw}
theorem Jl  (hit:s.heap.IsKeyIter it d i es.size ep) (hd:s.heap.get? d=some o) (ho:o.data=.dict es ep) (he:es[i]?=some e)
  (h:∀ h':bF,h'.IsKeyIter it d (i + 1) es.size ep->bN it s.heap h'->Q (some e.key) { s with heap:=h' }) :
  au (ax prog w) A (lB (.ref it)) Q E s:=by
 obtain ⟨⟨c0,d0,dt,sl⟩,q1,q2,q3⟩:=id hit
 simp only at q2 q3
 subst q2 q3
 unfold lB
 refine a7 (k9 ?_)
 refine cq (name:=gR "__next__") hit.typeIs fB ?_
 refine bJ fB hit.typeIs s_ ?_ (sM _)
 refine a7 (f9 (a:=.ref it) rfl ?_)
 refine a7 (a7 (a7 (iE hit.typeIs (a9 ?_))))
 refine a7 (Gw q1 rfl ?_)
 show au _ _ (if (bu d == dX)=true then _ else _) _ _ s
 rw [if_neg (by simp)]
 refine a7 (f9 (a:=d) rfl ?_)
 refine a7 (Av hd ho ?_)
 show au _ _ (if ((es.size:Int) != (es.size:Int))=true then _ else _) _ _ s
 rw [if_neg (by simp)]
 refine a7 (f9 (a:=d) rfl ?_)
 refine a7 (DU hd ho ?_)
 show au _ _ (if ((ep:Int) != (ep:Int))=true then _ else _) _ _ s
 rw [if_neg (by simp)]
 refine a9 ?_
 have e0:(if (i:Int)<0 then none else es[(i:Int).toNat]?)=some e:=by
  rw [if_neg (by omega)]
  simpa using he
 simp only [e0]
 refine a7 (a7 (iE hit.typeIs (a9 ?_)))
 refine a7 (PU hit.typeIs ?_)
 refine a7 (gH q1 rfl (by simp [mi]) ?_)
 have st:∀ k x,k=1->x=cn ((i:Int) + 1)->(s.heap.update it (e6 (·.setIfInBounds k x))).IsKeyIter it d (i + 1) es.size ep:=fun k x hk hx=>by
  subst hk hx
  have q:=fV (e6 (·.setIfInBounds 1 (cn ((i:Int) + 1)))) q1 rfl
  refine ⟨_,q,rfl,?_⟩
  show Data.fields ((#[.ref d,.int i 0,.int es.size 0,.int ep 0] : Array aa).setIfInBounds 1 (cn ((i:Int) + 1)))=_
  simp [cn]
 have st1:=st _ _ rfl rfl
 refine a7 (dv (a7 (PU st1.typeIs ?_)))
 refine a9 ?_
 exact a9 ⟨_,rfl,a9 (h _ st1 (bK ..))⟩
theorem Ox (hh:A.handled=none) (hit:s.heap.IsKeyIter it d i es.size ep) (hd:s.heap.get? d=some o) (ho:o.data=.dict es ep) (he:es.size<=i)
  (h:∀ h':bF,Iv it s.heap h'->Q none { s with heap:=h' }) :
  au (ax prog w) A (lB (.ref it)) Q E s:=by
 obtain ⟨⟨c0,d0,dt,sl⟩,q1,q2,q3⟩:=id hit
 simp only at q2 q3
 subst q2 q3
 unfold lB
 refine a7 (k9 ?_)
 refine cq (name:=gR "__next__") hit.typeIs fB ?_
 refine bJ fB hit.typeIs s_ ?_ (sM _)
 refine a7 (f9 (a:=.ref it) rfl ?_)
 refine a7 (a7 (a7 (iE hit.typeIs (a9 ?_))))
 refine a7 (Gw q1 rfl ?_)
 show au _ _ (if (bu d == dX)=true then _ else _) _ _ s
 rw [if_neg (by simp)]
 refine a7 (f9 (a:=d) rfl ?_)
 refine a7 (Av hd ho ?_)
 show au _ _ (if ((es.size:Int) != (es.size:Int))=true then _ else _) _ _ s
 rw [if_neg (by simp)]
 refine a7 (f9 (a:=d) rfl ?_)
 refine a7 (DU hd ho ?_)
 show au _ _ (if ((ep:Int) != (ep:Int))=true then _ else _) _ _ s
 rw [if_neg (by simp)]
 refine a9 ?_
 have e0:(if (i:Int)<0 then none else es[(i:Int).toNat]?)=none:=by
  rw [if_neg (by omega)]
  simpa using he
 simp only [e0]
 refine a7 (a7 (iE hit.typeIs (a9 ?_)))
 refine a7 (gH q1 rfl (by simp [mi]) ?_)
 show au _ _ (tU (.type "StopIteration") [] >>= _) _ _ _
 refine a7 ?_
 simp only [tU,Qb]
 refine a7 (bR ?_ (by size_fits))
 refine a7 (m:=lF _ _) (f9 (a:=dX) ?_ ?_)
 ·first
   | rfl
   | (simp only [lF];rfl)
 refine bR ?_ (by size_fits)
 simp only [sK]
 refine a7 (Kh ?_)
 rw [show A.in1.handled=none from hh]
 refine a7 (a9 (Qc ?_))
 refine a7 (gg (T:="StopIteration") (b:=true) ⟨_,aw _ rfl,rfl⟩ wf ?_)
 exact a9 (h _ (((bK ..).extBut.push _).push _))
theorem Oy (hs:(d == eT)=false) (hd:s.heap.get? d=some o) (hx:o.ExactDict) (ho:o.data=.dict es ep)
  (h:Q (.ref s.heap.objs.size) { s with heap:=s.heap.push { cls:=.type "dict_keyiterator",data:=.fields #[.ref d,.int 0 0,.int es.size 0,.int ep 0] } }) :
  au (ax prog w) A (yA (.ref d)) Q E s:=by
 have ty:s.TypeIs (.ref d) "dict":=⟨o,hd,hx.1⟩
 refine Ao ty Cj (bJ Cj ty PySem.F.entry_dict_iter ?_ (PySem.F.args_dict_iter_1 _))
 refine a7 (a7 (wpAny_notOrdered_dict ty (a7 (f9 (a:=(bu d,[])) rfl (a9 ?_)))))
 refine a7 (f9 (a:=d) rfl ?_)
 refine a7 (f9 (a:=()) (by unfold Builtin.Dict.showsAll;rw [hs];rfl) ?_)
 refine a7 (Av hd ho ?_)
 refine a7 (DU hd ho ?_)
 refine a7 (bR ?_ (by size_fits))
 exact a9 ⟨_,rfl,"dict_keyiterator",_,⟨_,aw _ rfl,rfl⟩,PySem.F.slot_dict_keyiterator_next.lookup,h⟩
end
def Yr (a:ak) (o:Obj) (kvs:List (List fQ×V)):It :=
 ⟨fun i H=>H a=some (.frz o (.dT kvs))/\i<kvs.length,fun i H x H'=>H'=H/\∃ k v b,kvs[i]?=some (k,v)/\x=.ref b/\H b=some (.tup (k.map kV)),fun i H=>H a=some (.frz o (.dT kvs))/\kvs.length<=i⟩
theorem Lb {α β:Type}{F:α->β->Prop}{l:List α}{m:List β} (h:Gk F l m):∀ {i:Nat}{x:α},l[i]?=some x->∃ y,m[i]?=some y/\F x y:=by
 induction h with
 | nil=>intro i x e;simp at e
 | cons a _ ih =>
  intro i x e
  cases i with
  | zero=>cases e;exact ⟨_,rfl,a⟩
  | succ i=>exact ih e
theorem vm       (ok:qv P w H h) (e:H a=some (.frz o (.dT kvs))):(a == eT)=false/\h.get? a=some o/\o.ExactDict/\∃ es ep,o.data=.dict es ep/\es.size=kvs.length /\
  ∀ (i:Nat) (k:List fQ) (v:V),kvs[i]?=some (k,v)->∃ (en:mw) (b:ak),es[i]?=some en/\en.key=bu b/\H b=some (.tup (k.map kV)):=by
 obtain ⟨h0,z,y,xs,r,o',es,ep,h1,h2,h3,h4,h5⟩:=(show dw P w H h a (.frz o (.dT kvs)) from ok a _ e)
 rw [h0] at h1
 cases h1
 refine ⟨y,h0,h2,es,ep,h3,?_,fun i k v hk=>?_⟩
 ·rw [<- aq,h4,ao]
  exact (jj r).symm
 ·obtain ⟨q,q1,q2⟩:=Lb r hk
  refine ⟨entryOfKey (sJ (gm P w)) q,q.2.1,?_,?_,q2.2.1⟩
  ·rw [<- aQ,h4,aT,q1]
   rfl
  ·rfl
theorem Lc {P:aK}{w:bc}{K:a8}{tg:aZ}{a it:ak}{o:Obj}{kvs:List (List fQ×V)}{es:Array mw}{ep:Nat} (hd:o.data=.dict es ep) (hn:es.size=kvs.length) :
  Ax P w K tg (Yr a o kvs) [it] it (fun i h=>h.IsKeyIter it a i es.size ep) where
 mem:=by simp
 obj:=fun i h st b hb=>by
  have e:b=it:=by simpa using hb
  subst e
  obtain ⟨o,e,c,d⟩:=st
  exact ⟨o,e,fun v z=>by rw [d] at z;cases z⟩
 keep:=fun i h h' st k=>st.at fun o e=>k it (by simp) o e
 item:=by
  intro X hP hw hK hc i pins s σ H E I hf st hg
  subst hP hw hK
  obtain ⟨hq,hi⟩:=hg
  obtain ⟨_,g1,_,es',ep',g2,g3,g4⟩:=vm I.hok hq
  rw [hd] at g2
  cases g2
  obtain ⟨en,b,e1,e2,e3⟩:=g4 i _ _ (aV hi)
  obtain ⟨f0,f1,f2,f3,f4,f5⟩:=hf it (by simp)
  refine Jl st g1 hd e1 fun h' st' sb=>?_
  have I1:bX X pins σ H { s with heap:=h' }:=I.turned (t':=s.toks) (fun b o hb e=>(sb.2 b hb).trans e) f0 f1 f3 f4 f5
  obtain ⟨o',e,c,d⟩:=id st'
  refine ⟨_,rfl,IB (s:={ s with heap:=h' }) e c d (by decide) ⟨.ref b,H,I1,?_,⟨rfl,_,_,b,aV hi,rfl,e3⟩,st',fun b hb=>(hf b hb).1⟩⟩
  rw [e2]
  rfl
 done:=by
  intro X hP hw hK hc i pins s σ H E I hf st hg
  subst hP hw hK
  obtain ⟨hq,hi⟩:=hg
  obtain ⟨_,g1,_,es',ep',g2,g3,g4⟩:=vm I.hok hq
  obtain ⟨f0,f1,f2,f3,f4,f5⟩:=hf it (by simp)
  exact Ox (I.ok.hd hc) st g1 hd (by omega) fun h' eb=>⟨rfl,I.turned (t':=s.toks) (fun b o hb e=>eb b o hb e) f0 f1 f3 f4 f5⟩
 self:=fun _ _ _ _ _ st h=>Qn st h
def WJ (tl:TE):TI:=fun σ H R=>tl σ H fun x H1=>∃ a o kvs,x=.ref a/\H1 a=some (.frz o (.dT kvs))/\R (Yr a o kvs) H1
theorem Rp {X:Cx}{tg l:aZ}{tl:TE} (hl:PE X l tl):PI X tg l (WJ tl):=by
 intro pins s σ H R I h
 refine fN (hl pins s σ H _ I h) fun v s1 h1=>?_
 obtain ⟨x,H1,I1,r1,q1⟩:=h1
 obtain ⟨a,o,kvs,e,hq,q⟩:=q1
 subst e
 cases r1
 obtain ⟨y,g1,g0,es,ep,g2,g3,g4⟩:=vm I1.hok hq
 refine Oy y g1 g0 g2 ?_
 refine ⟨s1.heap.objs.size,[s1.heap.objs.size],_,_,H1,rfl,I1.kept (t':=s1.toks) fun b o e=>ac _ e,Lc g2 g3,⟨_,aw _ rfl,rfl,rfl⟩,fun b hb=>?_,q⟩
 rw [List.mem_singleton.mp hb]
 exact I1.fpOk (ar _) (I1.hok.fresh (ar _))
def Zm (tk tv:TE):TE:=fun σ H Q=>∀ p,H p=none->tk σ (upd H p (.dT [])) fun y H1=>tv σ H1 fun v H2=>∃ kvs k b,H2 p=some (.dT kvs)/\y=.ref b/\H2 b=some (.tup (k.map kV))/\kvs.length<sizeLine/\Q (.ref p) (upd H2 p (.dT (m_ kvs k v)))
theorem Oz    (hu:X.A.units + 1<gT) (hk:PE X k tk) (hv:PE X v tv):PE X (.Dict [some k] [v] pos) (Zm tk tv):=by
 intro pins s σ H Q I h
 refine wpAny_Dict_any rfl rfl (by simp) (by simp) ?_
 have I0:bX X pins σ (upd H s.heap.objs.size (.dT [])) { s with heap:=s.heap.push { cls:=.type "dict",data:=.dict #[] } }:=I.laid (a:=s.heap.objs.size) (o:=.dT []) (t':=s.toks) (fun _ _ q=>ac _ q) (ar _) (M_ s.heap I.big)
 have h0:=h s.heap.objs.size (I.hok.fresh (ar _))
 simp only [pairTrees,evalPairs]
 refine a7 (fN (hk pins _ σ _ _ I0 h0) fun u1 s1 h1=>?_)
 obtain ⟨y,H1,I1,r1,q1⟩:=h1
 refine a7 (dv (a7 (fN (hv pins s1 σ H1 _ I1 q1) fun u2 s2 h2=>?_)))
 obtain ⟨z,H2,I2,r2,q2⟩:=h2
 obtain ⟨kvs,ks,b,e1,e2,e3,e4,q⟩:=q2
 refine a7 (j0 (a9 ?_))
 refine a7 (dv (a9 (a9 ?_)))
 subst e2
 cases r1
 unfold storeAll
 simp only [jF,ng,bind_assoc]
 obtain ⟨z1,hd,xs,rel,dd⟩:=Sh I2.hok e1
 have hz:xs.length<=sizeLine:=by rw [<- jj rel];exact z1
 have hl:(m_ kvs ks z).length<=sizeLine:=by have:=qR kvs ks z;omega
 refine a7 (wpAny_dictSet_heap (by show X.A.units<gT;omega) (wt I2.hok e3) dd (fun h' dd' hs=>?_) hz)
 obtain ⟨o',es,ep,hq,g2,g3,g4,_,g5⟩:=dd'
 have I3:=CB (t':=s2.toks + (sJ (gm X.prog X.w)).draws ks) I2 (by rw [e1];exact j3) hs ⟨o',hq⟩ (ob:=.dT (m_ kvs ks z)) ⟨hl,hd,_,(rel.put ks e3 r2).keeps fun c ys ec=>(by rw [bi (MC ec e1 (fun z=>nomatch z))];exact ec),o',es,ep,hq,g2,g3,g4,g5⟩
 exact a9 ⟨.ref s.heap.objs.size,_,I3,rfl,q⟩
end L2
namespace J
open PySem L2
def keysOf:List D->Option (List fQ)
 | []=>some []
 | d::r=>(tF d).bind fun k=>(keysOf r).map (k::·)
def qr:D->Option (List fQ)
 | .tuple ds=>keysOf ds
 | _=>none
theorem BI:∀ {ds:List D}{ks:List fQ},keysOf ds=some ks->ds=ks.map kD
 | [],ks,h=>by cases h;rfl
 | d::r,ks,h=>by
  unfold keysOf at h
  cases hk:tF d with
  | none=>rw [hk] at h;cases h
  | some y =>
   rw [hk,oY] at h
   cases hr:keysOf r with
   | none=>rw [hr] at h;cases h
   | some l =>
    rw [hr] at h
    cases h
    rw [av,<- zc hk,<- BI hr]
theorem vn  (h:qr d=some ks):d=tD ks:=by
 cases d<;>first | (cases h;done) | skip
 rename_i ds
 unfold tD
 rw [<- BI (show keysOf ds=some ks from h)]
theorem BJ:∀ ks:List fQ,keysOf (ks.map kD)=some ks
 | []=>rfl
 | k::r=>by rw [av,keysOf,keyOf_of,BJ r];rfl
theorem OA (ks:List fQ):qr (tD ks)=some ks:=BJ ks
theorem Jm:∀ a b:List fQ,im (a.map kD) (b.map kD)=decide (a=b)
 | [],[]=>by simp [im]
 | [],_::_=>by simp [im]
 | _::_,[]=>by simp [im]
 | x::a,y::b=>by
  rw [av,av]
  simp only [im]
  rw [D2,Jm a b]
  by_cases h:x=y<;>by_cases h2:a=b<;>simp [h,h2]
theorem D8 (a b:List fQ):bn (tD a) (tD b)=decide (a=b):=by
 unfold tD
 simp only [bn]
 exact Jm a b
theorem RDt.any   (y:List fQ):∀ {ds:List (D×D)},RDt K H kvs ds->(ds.any fun kv=>bn kv.1 (tD y))=kvs.any fun kv=>decide (kv.1=y):=by
 induction kvs with
 | nil=>intro ds h;cases h;rfl
 | cons x r ih=>intro ds h;cases h with | cons h t=>rw [dY,dY,ih t,D8]
theorem RDt.repl  (y:List fQ)  (rv:RD K H v d):∀ {ds:List (D×D)},RDt K H kvs ds ->
  RDt K H (kvs.map fun kv=>if kv.1=y then (kv.1,v) else kv) (ds.map fun kv=>if bn kv.1 (tD y) then (kv.1,d) else kv):=by
 induction kvs with
 | nil=>intro ds h;cases h;exact .nil
 | cons x r ih =>
  intro ds h
  cases h with
  | @cons k _ _ _ _ h t =>
   rw [av,av]
   have e:=D8 k y
   by_cases hk:k=y
   ·subst hk
    rw [show (if k=k then (k,v) else (k,_))=(k,v) from if_pos rfl,show (if bn (tD k) (tD k)=true then (tD k,d) else (tD k,_))=(tD k,d) from if_pos (by rw [e];simp)]
    exact .cons rv (ih t)
   ·simp only [e,hk,if_neg,decide_false,bw,not_false_eq_true]
    exact .cons h (ih t)
theorem RDt.snoc  (y:List fQ)  (rv:RD K H v d):∀ {ds:List (D×D)},RDt K H kvs ds->RDt K H (kvs++[(y,v)]) (ds++[(tD y,d)]):=by
 induction kvs with
 | nil=>intro ds h;cases h;exact .cons rv .nil
 | cons x r ih=>intro ds h;cases h with | cons h t=>exact .cons h (ih t)
theorem RDt.put    (r:RDt K H kvs ds) (y:List fQ)  (rv:RD K H v d):RDt K H (m_ kvs y v) (xT ds (tD y) d):=by
 unfold m_ xT
 rw [r.any y]
 split
 ·exact r.repl y rv
 ·exact r.snoc y rv
theorem UG {κ:Type} [DecidableEq κ] {kvs:List (κ×V)}{y:κ}{v:V}:m_ kvs y v≠[]:=by
 unfold m_
 split
 ·rename_i h
  intro z
  have:=List.map_eq_nil_iff.mp z
  subst this
  cases h
 ·simp
theorem RDt.val   (y:List fQ):∀ {ds:List (D×D)},RDt K H kvs ds->(oF kvs y=none/\lP ds (tD y)=none)\/∃ v d,oF kvs y=some v/\lP ds (tD y)=some d/\RD K H v d:=by
 induction kvs with
 | nil=>intro ds h;cases h;exact .inl ⟨rfl,rfl⟩
 | cons x r ih =>
  intro ds h
  cases h with
  | @cons k _ _ _ _ h t =>
   unfold oF lP
   rw [bS,bS,D8]
   by_cases hk:k=y
   ·simp only [hk,decide_true,cL]
    exact .inr ⟨_,_,rfl,rfl,h⟩
   ·simp only [hk,decide_false]
    exact ih t
def Jn:List (D×D)->List (D×D)
 | (.none,_)::r=>r
 | l=>l
def jU (ds:List (D×D)):Bool:=!ds.isEmpty && ds.all fun kv=>(qr kv.1).isSome
theorem RDk.notT    (h:RDk K H kvs ds) (e:jU (Jn ds)=true):False:=by
 cases h with
 | nil=>cases e
 | @cons k _ _ _ _ h t =>
  cases k<;>simp [Jn,jU,kD,qr] at e
theorem RDt.un    (h:RDt K H kvs ds):Jn ds=ds:=by
 cases h<;>rfl
theorem yo    (sub:dD Hs H) (h:RB K H Hs v (tD ks)):∃ b,v=.ref b/\H b=some (.tup (ks.map kV)):=by
 rcases h with h | ⟨_,o,rfl,_,_,ow⟩
 ·cases h with
  | tuple q r =>
   have:=yi (c:=kD) (k:=kV) (fun h=>Hg h) r
   subst this
   exact ⟨_,rfl,sub _ _ q⟩
 ·cases ow
theorem Jo    (sub:dD Hs H) (h:RB K H Hs v (.dict ds)) (e:jU (Jn ds)=true):∃ a kvs,v=.ref a/\RDt K Hs kvs (Jn ds)/\∀ (b:ak) (k:List fQ),H b=some (.tup (k.map kV))->xN H a (.ref b) (oF kvs k):=by
 obtain ⟨a,ea,hh⟩:=h.dict sub
 clear h
 subst ea
 rcases hh with ⟨kvs,h1,h2⟩ | ⟨kvs,h1,hn,h2⟩ | ⟨o,kvs,es,rfl,h1,hn,h2⟩
 ·exact (h2.notT e).elim
 ·exact ⟨a,kvs,rfl,by rw [h2.un];exact h2,fun b k hb=>xN.t h1 hb⟩
 ·exact ⟨a,kvs,rfl,h2,fun b k hb=>.inr ⟨kvs,k,b,.inr ⟨o,h1⟩,rfl,hb,rfl⟩⟩
def Af:D->D->R D
 | .dict ds,k=>match qr k with
  | some _=>if jU (Jn ds)=true then (match lP (Jn ds) k with
   | some d=>.ok d
   | none=>.no) else .no
  | none=>.no
 | _,_=>.no
section
variable {c:C}{a b e k:aZ}{ga gb g gk:aB->R D}{pos p apos:Pos}{x:Str}
theorem wE (hu:c.X.A.units + 1<gT) (ha:JB c a ga) (hb:JB c b gb) (hs:u_ b:=by exact fun _ _=>rfl):JE c (.Subscript a b pos) (g2 ga gb Af):=.of fun ρ=>by
 refine tm (IE hu (ha ρ) (hb ρ) hs) fun σ H Q h_2=>?_
 obtain ⟨H0,Hs0,la,Hs,f,q⟩:=h_2
 refine one f q fun d v H1 Hs1 e1 s1 f1 r1=>?_
 unfold g2 at q
 rw [e1,bind_ok] at q
 refine one f1 (q.on s1 (q':=fun _=>True) fun _ _=>trivial) fun y w H2 Hs2 e2 s2 f2 r2=>?_
 rw [e2,bind_ok] at q
 unfold Af at q
 split at q
 ·rename_i ds
  split at q
  ·rename_i ky hy
   obtain rfl:=vn hy
   by_cases hf:jU (Jn ds)=true
   ·rw [if_pos hf] at q
    obtain ⟨p,kvs,rfl,h2,h3⟩:=Jo f2.st.sub (r1.step s2) hf
    obtain ⟨b,rfl,hb⟩:=yo f2.st.sub r2
    rcases h2.val ky with ⟨_,h4⟩ | ⟨u,d,h4,h5,h6⟩
    ·rw [h4] at q;exact q.elim
    ·rw [h5] at q
     exact ⟨p,u,rfl,by rw [<- h4];exact h3 b ky hb,q _ H2 Hs2 (s1.trans s2) h6⟩
   ·rw [if_neg hf] at q;exact q.elim
  ·exact q.elim
 ·exact q.elim
def Rq (neg:Bool):D->D->R D
 | k,.dict ds=>match qr k with
  | some _=>if jU (Jn ds)=true then .ok (.bool (if neg then !(lP (Jn ds) k).isSome else (lP (Jn ds) k).isSome)) else .no
  | none=>.no
 | _,_=>.no
theorem BK (hu:c.X.A.units + 1<gT):xQ c.X (bO .NotIn) (Rq true):=by
 refine ⟨fun pins s σ H x y v u Q I rv ru h=>?_,fun x y c n=>?_⟩
 ·obtain ⟨Hs,dx,dy,sub,rx,ry,d,hd,q⟩:=h
  unfold Rq at hd
  split at hd
  ·rename_i ds
   split at hd
   ·rename_i ky hy
    obtain rfl:=vn hy
    split at hd
    ·rename_i hf
     cases hd
     obtain ⟨p,kvs,rfl,h2,h3⟩:=Jo sub ry hf
     obtain ⟨b,rfl,hb⟩:=yo sub rx
     cases ru
     refine L2.QS hu I (h3 b ky hb) rv fun s' I'=>⟨.bl _,H,I',rfl,?_⟩
     have e:(oF kvs ky).isSome=(lP (Jn ds) (tD ky)).isSome:=by
      rcases h2.val ky with ⟨h4,h5⟩ | ⟨u,d,h4,h5,h6⟩<;>rw [h4,h5]<;>rfl
     rw [e]
     exact q _ H Hs (.refl sub) (.bool _)
    ·cases hd
   ·cases hd
  ·cases hd
 ·unfold Rq
  split<;>(try split)<;>(try split)<;>exact fun h=>by cases h
def tH (i:Nat) (gk g:aB->R D):aB->R Fl:=fun ρ=>match ρ[i]? with
 | some (Sl.own (.dict kvs))=>(g ρ).bind fun d=>(gk ρ).bind fun k=>match qr k with
  | some _=>if kvs.length<1000/\jU kvs=true then .ok (.nx (ρ.set i (.own (.dict (xT kvs k d))))) else .no
  | none=>.no
 | _=>.no
theorem EV (i:Nat) (h:JE c e g) (hk:JE c k gk) (hu:c.X.A.units + 1<gT) (hN:c.X.N[i]?=some x:=by rfl) (hv:Qv c.X.env.scope x:=by first | exact j9 rfl | exact fK (j9 rfl) | exact fK (fK rfl)) (hd:(x == ("__debug__" : Str))=false:=by decide)
  (hcd:(x == ("__classdict__" : Str))=false:=by decide) (hs:ij e (some (.Subscript (.Name x p) k apos)) pos.line c.X.env=pure false:=by rfl):JS c (.Assign [.Subscript (.Name x p) k apos] e pos) (tH i gk g):=.of fun ρ=>by
 refine AF (IF hu (tX hN hv hd hcd) (hk ρ) (h ρ) hs) fun D σ H h_1=>?_
 obtain ⟨H0,Hs0,la,Hs,f,q⟩:=h_1
 replace q:oG c.X.K c.cls c.E H0 Hs0 la D (tH i gk g ρ):=q
 unfold tH at q
 split at q
 ·rename_i kvs ho
  obtain ⟨a,o,k1,k2,k3,k4,k5⟩:=f.ow i _ ho
  refine sE f q fun d v H1 Hs1 e1 s1 f1 r1=>?_
  rw [e1,bind_ok] at q
  refine ⟨_,k1,sE f1 q fun y w H2 Hs2 e2 s2 f2 r2=>?_⟩
  rw [e2,bind_ok] at q
  split at q
  ·rename_i ky hy
   obtain rfl:=vn hy
   by_cases hl:kvs.length<1000/\jU kvs=true
   ·rw [if_pos hl] at q
    cases k5 with
    | dK r=>exact (r.notT (by cases r with | nil=>exact hl.2 | @cons k _ _ _ _ _ _=>cases k<;>exact hl.2)).elim
    | dF n r=>cases hl.2
    | dT n r =>
     have ha:=s2.all _ _ (s1.all _ _ k2)
     have r':=(r.same s1.sh).same s2.sh
     obtain ⟨b,rfl,hb⟩:=yo f2.st.sub (.inl r2)
     exact ⟨a,_,rfl,E8.t ha hb (dW (by rw [r.length];omega)),q _ _ Hs2 (f2.write i ho k1 (.dT UG (r'.put ky (r1.same s2.sh))))⟩
   ·rw [if_neg hl] at q;exact q.elim
  ·exact q.elim
 ·exact q.elim
end
end J
namespace J
open PySem L2
def li (i:Nat) (ρ:aB):aB:=match ρ[i]? with
 | some (Sl.own (.dict ((.tuple ks,v)::r)))=>ρ.set i (.own (.dict ((.none,.none)::(.tuple ks,v)::r)))
 | _=>ρ
theorem Rr       (I:bX X pins σ H s) (h:H a=some (.dT kvs)):∃ o,bX X pins σ (upd H a (.frz o (.dT kvs))) s:=by
 obtain ⟨z,y,xs,pr,o,es,ep,e1,e2,e3,e4,e5⟩:=(show dw X.prog X.w H s.heap a (.dT kvs) from I.hok a _ h)
 have new:dw X.prog X.w (upd H a (.frz o (.dT kvs))) s.heap a (.frz o (.dT kvs)) :=
  ⟨e1,z,y,xs,Paired.mapP pr fun p q w=>⟨w.1,by rw [bi (MC w.2.1 h (fun z=>nomatch z))];exact w.2.1,w.2.2⟩,o,es,ep,e1,e2,e3,e4,e5⟩
 have:=I.write (x:=a) (e:=a) (h':=s.heap) (t':=s.toks) (by rw [h];trivial) (.inl rfl) (fun b u _ q=>q) ⟨o,e1⟩ new
 exact ⟨o,this⟩
theorem WK   (h:PS X st t):PS X st (fun D σ H=>t D σ H\/∃ a kvs,H a=some (.dT kvs)/\∀ o,t D σ (upd H a (.frz o (.dT kvs)))):=fun pins s σ H D I q=>by
 rcases q with q | ⟨a,kvs,ha,q⟩
 ·exact h pins s σ H D I q
 ·obtain ⟨o,I'⟩:=Rr I ha
  exact h pins s σ _ D I' (q o)
theorem UH (i:Nat)  (h:JS c st gs):JS c st (fun ρ=>gs (li i ρ)):=.of fun ρ=>AF (WK (h (li i ρ))) fun D' σ H hh=>by
 obtain ⟨H0,Hs0,la,Hs,f,q⟩:=hh
 by_cases hx:∃ ks v r,ρ[i]?=some (Sl.own (.dict ((.tuple ks,v)::r)))
 ·obtain ⟨ks,v,r,ho⟩:=hx
  have e:li i ρ=ρ.set i (.own (.dict ((.none,.none)::(.tuple ks,v)::r))):=by unfold li;rw [ho]
  obtain ⟨a,o,k1,k2,k3,k4,k5⟩:=f.ow i _ ho
  generalize hd:Ge ((.tuple ks,v)::r)=d0 at k5
  cases k5 with
  | lst r=>cases hd
  | dK rk =>
   cases hd
   generalize hd:((.tuple ks,v)::r:List (D×D))=d1 at rk
   cases rk with
   | nil=>cases hd
   | @cons k _ _ _ _ _ _=>cases k<;>cases hd
  | dF n r=>cases hd
  | dT n r =>
   cases hd
   exact .inr ⟨a,_,k2,fun o=>⟨H0,Hs0,la,Hs,by rw [e];exact f.write i ho k1 (.dF n r),q⟩⟩
 ·have e:li i ρ=ρ:=by
   unfold li
   split
   ·rename_i ks v r ho;exact (hx ⟨ks,v,r,ho⟩).elim
   ·rfl
  refine .inl ⟨H0,Hs0,la,Hs,by rw [e];exact f,q⟩
def D9:D->R (List D)
 | .dict ((.none,.none)::ds)=>.ok (ds.map (·.1))
 | _=>.no
def OB (g:aB->R D):aB->R (List D):=fun ρ=>(g ρ).bind D9
theorem RDt.get   : ∀ {ds:List (D×D)}{i:Nat}{k:List fQ}{v:V},RDt K H kvs ds->kvs[i]?=some (k,v)->∃ d,ds[i]?=some (tD k,d):=by
 induction kvs with
 | nil=>intro ds i k v h e;simp at e
 | cons x r ih =>
  intro ds i k v h e
  cases h with
  | cons h t =>
   cases i with
   | zero=>cases e;exact ⟨_,rfl⟩
   | succ i=>have q:=ih (i:=i) t e;exact q
theorem OC  : ∀ ks:List fQ,RDs K H (ks.map kV) (ks.map kD)
 | []=>.nil
 | k::r=>.cons (by cases k<;>constructor) (OC r)
theorem Rs      (h:Hn a=some (.frz o (.dT kvs))) (r:RDt K Hs kvs ds):Q0 K (Yr a o kvs) (ds.map (·.1)) Hn Hs:=fun H2 Hs2 e1 e2 e3=>by
 have q:=e1 _ _ h
 have hl:=r.length
 refine ⟨fun i hi=>⟨q,?_⟩,fun i hi=>⟨q,?_⟩,fun i x H3 hi y=>?_⟩
 ·rw [ao] at hi;omega
 ·rw [ao] at hi;omega
 ·obtain ⟨rfl,k,v,b,y1,rfl,y3⟩:=y
  obtain ⟨d,y4⟩:=r.get y1
  have same:dD Hs2 (upd Hs2 b (.tup (k.map kV))):=fun c u e=>by
   by_cases hc:c=b
   ·subst hc
    have:=e3 _ _ e
    rw [y3] at this
    cases this
    exact bg
   ·rw [bi hc];exact e
  refine ⟨tD k,upd Hs2 b (.tup (k.map kV)),by rw [aT,y4];rfl,⟨.refl _,same,fun c u e=>?_,fun c u e t z=>?_⟩,.tuple bg (OC k)⟩
  ·by_cases hc:c=b
   ·subst hc;rw [bg] at e;cases e;exact y3
   ·rw [bi hc] at e;exact e3 _ _ e
  ·by_cases hc:c=b
   ·subst hc;rw [y3] at e;cases e;cases t
   ·rw [bi hc];exact z
section
variable {c:C}{tg l k v e:aZ}{g gk gv:aB->R D}{pos:Pos}
theorem Jp (h:JB c l g):JI c tg l (OB g):=.of fun ρ=>by
 refine L4 (Rp (h ρ)) fun σ H Q hh=>?_
 obtain ⟨H0,Hs0,la,Hs,f,q⟩:=hh
 refine one f q fun d v H1 Hs1 e1 s1 f1 r1=>?_
 unfold OB at q
 rw [e1,bind_ok] at q
 unfold D9 at q
 split at q
 ·obtain ⟨a,ea,hh⟩:=r1.dict f1.st.sub
  rcases hh with ⟨kvs,h1,h2⟩ | ⟨kvs,h1,hn,h2⟩ | ⟨o,kvs,es,he,h1,hn,h2⟩
  ·generalize hd:((.none,.none)::_:List (D×D))=d0 at h2
   cases h2 with
   | nil=>cases hd
   | @cons k _ _ _ _ _ _=>cases k<;>cases hd
  ·generalize hd:((.none,.none)::_:List (D×D))=d0 at h2
   cases h2<;>cases hd
  ·cases he
   exact ⟨a,o,kvs,ea,h1,q _ H1 Hs1 H1 s1 (.refl _) (Rs h1 h2)⟩
 ·exact q.elim
def T9 (gk gv:aB->R D):aB->R D:=fun ρ=>(gk ρ).bind fun k=>(gv ρ).bind fun v=>match qr k with
 | some _=>.ok (.dict [(k,v)])
 | none=>.no
theorem EW (hu:c.X.A.units + 1<gT) (hk:JE c k gk) (hv:JE c v gv):JN c (.Dict [some k] [v] pos) (T9 gk gv):=.of fun ρ=>by
 refine tm (Oz hu (hk ρ) (hv ρ)) fun σ H Q hh=>?_
 obtain ⟨H0,Hs0,la,Hs,f,q⟩:=hh
 intro p hp
 have sm:cK H Hs (upd H p (.dT [])) Hs:=.mine f.st.sub hp
 have np:Hs p=none:=f.st.sub.free hp
 unfold T9 at q
 refine AG (f.step sm) (q.on sm (q':=fun _=>True) fun _ _=>trivial) fun y w H1 Hs1 e1 s1 f1 r1=>?_
 rw [e1,bind_ok] at q
 refine AG f1 (q.on (sm.trans s1) (q':=fun _=>True) fun _ _=>trivial) fun z u H2 Hs2 e2 s2 f2 r2=>?_
 rw [e2,bind_ok] at q
 split at q
 ·rename_i ky hy
  obtain rfl:=vn hy
  obtain ⟨b,rfl,hb⟩:=yo f1.st.sub (.inl r1)
  have s12:=s1.trans s2
  have hp2:H2 p=some (.dT []):=s12.all _ _ bg
  have hn2:Hs2 p=none:=s12.out _ _ bg rfl np
  let H3:Hp:=fun x=>if x=p then none else H2 x
  have h3:∀ x,x≠p->H3 x=H2 x:=fun x hx=>if_neg hx
  have st:cK H Hs H3 Hs2:=by
   refine ⟨fun x o e=>?_,s12.sh,fun x o e=>?_,fun x o e t n=>?_⟩
   ·have hx:=bZ e hp
    rw [h3 x hx]
    exact s12.all _ _ (by rw [bi hx];exact e)
   ·have hx:x≠p:=fun z=>by rw [z,hn2] at e;cases e
    rw [h3 x hx]
    exact f2.st.sub _ _ e
   ·have hx:=bZ e hp
    exact s12.out _ _ (by rw [bi hx];exact e) t n
  have:=q p (.dT [(ky,u)]) H3 Hs2 st (if_pos rfl) (.dT (by simp) (.cons r2 .nil))
  have e3:upd H3 p (.dT [(ky,u)])=upd H2 p (.dT (m_ [] ky u)):=by
   funext x
   by_cases hx:x=p
   ·subst hx;rw [bg,bg];rfl
   ·rw [bi hx,bi hx,h3 x hx]
  rw [e3] at this
  exact ⟨[],ky,b,hp2,rfl,s2.all _ _ hb,by rw [jo];decide,this⟩
 ·exact q.elim
def AL (g:aB->R D):aB->R Bool:=fun ρ=>(g ρ).bind fun d=>match d with
 | .list ds=>.ok (!ds.isEmpty)
 | _=>.no
theorem OD (h:JB c e g) (he:∀ whole,vZ e c.X.env whole=(do let v <- whole;xi e.pos;holding [v] (truthy v)):=by intro _;rfl):JT c e (AL g):=.of fun ρ=>W4 (MQ (h ρ) he) fun σ H Q hh=>by
 obtain ⟨H0,Hs0,la,Hs,f,q⟩:=hh
 refine one f q fun d v H1 Hs1 e1 s1 f1 r1=>?_
 unfold AL at q
 rw [e1,bind_ok] at q
 split at q
 ·obtain ⟨a,vs,rfl,qa,ra⟩:=r1.list f1.st.sub
  refine ⟨_,.inl ⟨vs,qa,rfl⟩,?_⟩
  cases ra with
  | nil=>exact q H1 Hs1 s1
  | cons _ _=>exact q H1 Hs1 s1
 ·exact q.elim
end
end J
namespace L2
open PySem PySem.Spec PyProof.Rows
theorem EX {ns:List Int}:∀ {its:List aa},dC (ns.map V.int) its->∀ {i:Nat}{v:aa},its[i]?=some v->∃ n t,ns[i]?=some n/\v=.int n t:=by
 induction ns with
 | nil=>intro its r i v e;cases r;simp at e
 | cons x r ih =>
  intro its rr i v e
  cases rr with
  | cons a b =>
   cases i with
   | zero=>cases e;obtain ⟨t,rfl⟩:=a;exact ⟨x,t,rfl,rfl⟩
   | succ i=>have q:=ih b (i:=i) e;exact q
theorem AM {X:Cx} (hc:X.calm=true):jz X (.builtin "min") (fun xs H Q=>∃ p,∃ ns:List Int,xs=[.ref p]/\ph X.K H p (ns.map V.int)/\0<ns.length/\∀ m,m∈ns->(∀ a∈ns,m<=a)->Q (.int m) H):=by
 intro pins s σ H xs us Q I r h
 obtain ⟨p,ns,rfl,hq,hz,q⟩:=h
 obtain ⟨u,rfl,rx⟩:=l8 r
 cases rx
 obtain ⟨its,r',pl,hl⟩:=I.list hq
 have ln:its.toArray.size=ns.length:=by have:=r'.length;simp at this ⊢;omega
 obtain ⟨o,ho,hk⟩:=pl.isList
 refine call_min_walk (lC pl.isList ⟨_,_,_,_,_,_,fun i j=>decide (ns.getD i 0<ns.getD j 0),rfl,Am (by simpa using I.ok.hd hc) _ p (aE (ap ho)) its.toArray,⟨⟨_,aw _ rfl,rfl,rfl⟩,pl.isList.push _⟩,?_,?_,?_,fun v h' tk hv kp=>?_⟩)
 ·intro b hb
  simp only [a_,bv,or_false] at hb
  have hp:=ap ho
  have hs:(s.heap.push { cls:=.type "list_iterator",data:=.fields #[bu p,mT 0 0] }).objs.size=s.heap.objs.size + 1:=Array.size_push ..
  rcases hb with rfl | rfl
  ·exact Mv (dS _) hs.symm
  ·exact Mv (dI hp) hs.symm
 ·omega
 ·refine CmpOf.ints_lt (fun i=>ns.getD i 0) fun i v hi=>?_
  obtain ⟨n,t,e1,rfl⟩:=EX r' (i:=i) (by simpa using hi)
  exact ⟨t,by simp [dk,e1]⟩
 ·rw [ln] at hv
  obtain ⟨b1,b2⟩:=argBest_lt (fun i=>ns.getD i 0) (ns.length - 1)
  obtain ⟨n,t,e1,rfl⟩:=EX r' (by simpa using hv)
  refine ⟨.int n,H,I.kept (t':=tk) fun b o e=>kp b o ?_ (ac _ e),⟨t,rfl⟩,q n (dh e1) fun a ha=>?_⟩
  ·simp only [cf]
   exact aE (ap e)
  ·obtain ⟨j,hj,e⟩:=jk ha
   have:=b2 j (by omega)
   simpa [dk,e1,hj,e] using this
end L2
namespace J
open PySem L2
def ud:List D->Option (List Int)
 | []=>some []
 | .int b::r=>(ud r).map (b::·)
 | _::_=>none
theorem EY:∀ {bs:List Int},ud ds=some bs->ds=bs.map cD:=by
 induction ds with
 | nil=>intro bs h;cases h;rfl
 | cons d r ih =>
  intro bs h
  cases d with
  | int b =>
   have h:(ud r).map (b::·)=some bs:=h
   cases hr:ud r with
   | none=>rw [hr] at h;cases h
   | some z=>rw [hr] at h;cases h;rw [ih hr];rfl
  | _=>cases h
theorem zr:∀ bs:List Int,ud (bs.map cD)=some bs
 | []=>rfl
 | b::r=>by show (ud (r.map cD)).map (b::·)=_;rw [zr r];rfl
def Hl:List Int->Int
 | []=>0
 | x::r=>r.foldl min x
theorem zt:∀ (r:List Int) (x:Int),(r.foldl min x∈x::r)/\∀ a∈x::r,r.foldl min x<=a
 | [],x=>⟨by simp,fun a ha=>by simp at ha;subst ha;exact Int.le_refl _⟩
 | y::r,x=>by
  obtain ⟨h1,h2⟩:=zt r (min x y)
  rw [cP]
  refine ⟨?_,fun a ha=>?_⟩
  ·rcases List.mem_cons.mp h1 with h | h
   ·rw [h]
    by_cases hxy:x<=y
    ·rw [Int.min_eq_left hxy];simp
    ·rw [Int.min_eq_right (by omega)];simp
   ·exact ah _ (ah _ h)
  ·have h0:=h2 (min x y) am
   rcases List.mem_cons.mp ha with h | h
   ·subst h
    exact Int.le_trans h0 (Int.min_le_left _ _)
   ·rcases List.mem_cons.mp h with h | h
    ·subst h
     exact Int.le_trans h0 (Int.min_le_right _ _)
    ·exact h2 a (ah _ h)
theorem UI  (h1:m∈ns) (h2:∀ a∈ns,m<=a):m=Hl ns:=by
 cases ns with
 | nil=>cases h1
 | cons x r =>
  obtain ⟨k1,k2⟩:=zt r x
  exact Int.le_antisymm (h2 _ k1) (k2 _ h1)
def Hm:D->R D
 | .list ds=>match ud ds with
  | some ns=>if 0<ns.length then .ok (.int (Hl ns)) else .no
  | none=>.no
 | _=>.no
theorem UJ (hc:X.calm=true):K_ X (.builtin "min") (iy Hm):=by
 refine qZ (fun d c n=>?_) fun pins s σ H x u Q Hs d d' I ru sub rx hd q=>?_
 ·unfold Hm
  split<;>(try split)<;>(try split)<;>exact fun h=>by cases h
 ·unfold Hm at hd
  split at hd
  ·split at hd
   ·split at hd
    ·rename_i ns hs hz
     cases hd
     obtain ⟨a,vs,rfl,qa,ra⟩:=rx.list sub
     rw [EY hs] at ra
     rw [CQ ra] at qa
     exact AM hc pins s σ H _ _ Q I (.cons ru .nil) ⟨a,ns,rfl,qa,hz,fun m h1 h2=>by rw [UI h1 h2];exact q _ H Hs (.refl sub) (.int _)⟩
    ·cases hd
   ·cases hd
  ·cases hd
end J
namespace J
open PySem L2
def UK (i:Nat) (g:aB->R Fl):aB->R Fl:=fun ρ=>g (li i ρ)
theorem OE (i:Nat)  (h:JS c st gs):JS c st (UK i gs):=UH i h
end J
namespace J
open PySem L2
end J
namespace J
open PySem L2
def rS (i:Nat) (ρ:aB):R D:=Gi ρ i
def rB (i:Nat) (ρ:aB):R D:=Gj ρ i
def kI (n:Int) (_:aB):R D:=.ok (.int n)
def kB (b:Bool) (_:aB):R D:=.ok (.bool b)
def kN (_:aB):R D:=.ok .none
def kT (_:aB):R Bool:=.ok true
theorem WL (i:Nat) (ρ:aB):rS i ρ=Gi ρ i:=id rfl
theorem UL (i:Nat) (ρ:aB):rB i ρ=Gj ρ i:=id rfl
theorem WM (n:Int) (ρ:aB):kI n ρ=.ok (.int n):=id rfl
theorem WN (b:Bool) (ρ:aB):kB b ρ=.ok (.bool b):=id rfl
theorem WO (ρ:aB):kN ρ=.ok .none:=id rfl
end J
end
section
namespace L2
open PySem PySem.Spec PyProof.Rows
section
variable {X:Cx}{tg:aZ}
end
end L2
namespace J
open PySem L2
section
variable {c:C}{tg a b d:aZ}{p pos:Pos}{gs:aB->R (List D)}
end
end J
end
namespace L2
open PySem PySem.Spec PyProof.Rows
section
open Builtin Builtin.ObjectAttr
inductive Jq (h:bF) (bmB:List aa) (nms:List Str):List aa->Prop
 | base:Jq h bmB nms bmB
 | own {A:ak}{c0:aa}{dd:Option ak}{cd:ClassData}{sl:Array (Option aa)}{mA:Str->Option aa}{tl:List aa} :
   h.get? A=some { cls:=c0,dict:=dd,data:=.cls cd,slots:=sl }->h.Ns cd.ns mA->(∀ n∈nms,mA n=none)->Jq h bmB nms tl->Jq h bmB nms (.ref A::tl)
section
variable {M:Ag}{A:aX}{E:aa->af->Prop}{h:bF}{g:Array Gn}{d:M0}{t:Nat}{os:OsState}
variable {nm q:Str}{C N x:ak}{bs bm bmB:List aa}{hdct:Bool}{sn:List Str}{sub:List aa}{ab:Bool}{col:Option Bool}{dd:Option ak}{k0 k1 k2 k3 k5:Option aa}{B newId initId sa owner:String}{nms:List Str}{name:Str}{v:aa}{mN:Str->Option aa}
end
section
variable {prog:aK}{w:bc}{A:aX}{E:aa->af->Prop}{h:bF}{g:Array Gn}{d:M0}{t:Nat}{os:OsState}
variable {nm q:Str}{C N x:ak}{bs bm bmB:List aa}{sn:List Str}{sub:List aa}{ab:Bool}{col:Option Bool}{dd:Option ak}{k0 k1 k2 k3 k5:Option aa}{B newId initId sa owner:String}{nms:List Str}{name:Str}{v:aa}{mN:Str->Option aa}
end
end
section
section
variable {prog:aK}{w:bc}{A:aX}{E:aa->af->Prop}{h:bF}{g:Array Gn}{d:M0}{t:Nat}{os:OsState}
variable {nm q:Str}{C N:ak}{bs bm bmB:List aa}{hdct:Bool}{sn:List Str}{sub:List aa}{ab:Bool}{col:Option Bool}{dd:Option ak}{k0 k1 k2 k3 k5:Option aa}{B newId initId:String}
end
section
variable {M:Ag}{A:aX}{E:aa->af->Prop}{env:Env}
variable {nm q:Str}{C N:ak}{bs bm:List aa}{hdct:Bool}{sn:List Str}{sub:List aa}{ab:Bool}{col:Option Bool}{dd:Option ak}{k0 k1 k2 k3 k5:Option aa}{newId:String}
end
section
variable {prog:aK}{w:bc}{A:aX}{E:aa->af->Prop}{s:af}{env:Env}
variable {nm q:Str}{C N:ak}{bs bm bmB:List aa}{hdct:Bool}{sn:List Str}{sub:List aa}{ab:Bool}{col:Option Bool}{dd:Option ak}{k0 k1 k2 k3 k5:Option aa}{B newId initId:String}
end
end
section
structure UM (h:bF) (fI:ak):Prop where
 ex:∃ (oI:Obj) (fd:eP) (p1 p2 p3 p4:Pos),h.get? fI=some oI/\oI.cls=.type "function"/\oI.data=.func fd/\h.CodeRec fd.code fd.qualname/\fd.scope.isCoroutine=false/\fd.scope.isGenerator=false/\fd.scope.kind=.function /\
  fd.scope.names=[(("self" : Str),qC),(("number" : Str),qC)]/\fd.body=.stmts [.Assign [.Attribute (.Name "self" p1) "number" p2] (.Name "number" p3) p4]/\∀ (s:af) (e v:aa),(∀ b o,h.get? b=some o->s.heap.get? b=some o)->Ai s fd ⟨[e,v],[]⟩ [("self",e),("number",v)]
section
variable {prog:aK}{w:bc}{A:aX}{E:aa->af->Prop}{s:af}
variable {nm q:Str}{C N e fI:ak}{bs bm bmB:List aa}{sn:List Str}{sub:List aa}{ab:Bool}{col:Option Bool}{dd:Option ak}{k0 k1 k2 k3 k5:Option aa}{B newId initId sa owner:String}{nms:List Str}{v:aa}{mN:Str->Option aa}
end
section
variable {M:Ag}{A:aX}{E:aa->af->Prop}{s:af}
end
end
section
structure Ys (x:Str) (C:ak) (mg:Str->Option aa) (base:bF):Prop where
 bound:mg x=some (.ref C)
 obj:∃ nm q N bs bm sn sub ab col dd k0 k1 k2 k3 k5 mN fI,base.get? C=some (excClassObj nm q C N bs bm true sn sub ab col dd k0 k1 k2 k3 k5 "ValueError.__new__")/\base.Ns N mN/\mN "__init__"=some (.ref fI)/\mN "__setattr__"=none/\mN "number"=none /\
  Jq base [.type "ValueError",.type "Exception",.type "BaseException",.type "object"] ["__init__","__setattr__","number"] bm/\UM base fI
section
variable {P:aK}{w:bc}{K:a8}{mg:Str->Option aa}{base:bF}{N:List Str}{qual:Str}{scope:gE}{f:ak}{cd:aa}{A:aX}{outer:List Env}{s:af}{H:Hp}{E:XK}
end
end
end L2
namespace J
open PySem L2
section
open PySem.W (nsIn nsOkIn codeIn fnOf)
theorem WP      (X:K.In h) (G:h.Ns N mg) (e:nsIn K N n=some (some v)):mg n=some v:=by
 obtain ⟨o,es,ep,ho,hd,_,hf⟩:=G
 unfold gj at e
 split at e
 ·rename_i c d es' n' sl q
  have:=X _ _ q
  rw [ho] at this
  cases this
  cases hd
  split at e
  ·rename_i he
   rw [<- hf]
   unfold nsFind findBy
   rw [<- K9,he]
   cases e
   rfl
  ·split at e<;>cases e
 ·cases e
structure Yt (K:a8) (x:Str) (C:ak) (st:c_):Prop where
 ns:nsIn K bQ x=some (some (.ref C))
 own:∀ {h:bF}{mg:Str->Option aa},K.In h->h.Ns bQ mg->Ys x C mg h
 mb:dB K C (.type "BaseException")=some true
 ox:∀ {h:bF},K.In h->∃ bm,VW h C bm/\∀ v,(v == bu C)=false->dB K C v=some true->bm.contains v=true
theorem topN {K:a8}{x:Str}{C CP fI T0 Nn NP:ak}{st:c_}{nm qn nmP qnP fq:Str}{bs bsP mroP subP sub:List aa}{sn snP:List Str}{ab abP hdP delP:Bool}{col colP:Option Bool}{dd dP od dT an:Option ak}{k0 k1 k2 k3 k5:Option aa}{c0 kV doc pm cdv ct cT:aa}{slP slF slT:Array (Option aa)}{nT:Nat}{p1 p2 p3 p4:Pos}{cN cM:aa}{dN dM:Option ak}{esN esM:Array mw}{epN epM:Nat}{slN slM:Array (Option aa)}
  (a1:nsIn K bQ x=some (some (.ref C))) (a4:dB K C (.type "BaseException")=some true)
  (a2:K.lookup C=some ⟨.type "type",dd,.cls ⟨nm,bs,[.ref C,.ref CP,.type "ValueError",.type "Exception",.type "BaseException",.type "object"],Nn,qn,true,sn,sub,ab,col,false⟩,#[k0,k1,k2,k3,some (.builtin "ValueError.__new__"),k5]⟩)
  (a3:K.lookup CP=some ⟨c0,dP,.cls ⟨nmP,bsP,mroP,NP,qnP,hdP,snP,subP,abP,colP,delP⟩,slP⟩)
  (b1:nsIn K Nn "__init__"=some (some (.ref fI))) (b2:nsIn K Nn "__setattr__"=some none) (b3:nsIn K Nn "number"=some none)
  (c1:nsIn K NP "__init__"=some none) (c2:nsIn K NP "__setattr__"=some none) (c3:nsIn K NP "number"=some none)
  (d1:K.lookup fI=some ⟨.type "function",od,.func (fnOf "__init__" fq (kP st) (iu st) (az st) (.ref T0) kV doc pm an cdv ct),slF⟩)
  (d2:K.lookup T0=some ⟨cT,dT,.seq #[.none] nT,slT⟩) (d3:codeIn K cdv fq=true)
  (g1:K.lookup Nn=some ⟨cN,dN,.dict esN epN,slN⟩) (g2:K.lookup NP=some ⟨cM,dM,.dict esM epM,slM⟩) (g3:(esN.toList.all fun e=>match e.key with | .str _ _=>true | _=>false)=true) (g4:(esM.toList.all fun e=>match e.key with | .str _ _=>true | _=>false)=true)
  (f1:iu st=[.Assign [.Attribute (.Name "self" p1) "number" p2] (.Name "number" p3) p4]) (f2:(az st).names=[(("self" : Str),qC),(("number" : Str),qC)])
  (f3:(az st).isCoroutine=false) (f4:(az st).isGenerator=false) (f5:(az st).kind=.function)
  (f6:∀ e v,∃ k,Q3 (fnOf "__init__" fq (kP st) (iu st) (az st) (.ref T0) kV doc pm an cdv ct) ⟨[e,v],[]⟩=M7 (.ref T0) >>= k/\k (some #[.none])=pure [(("self" : Str),e),(("number" : Str),v)]):Yt K x C st:=by
 have e1:nsOkIn K Nn=true:=by unfold Mw;rw [g1];show esN.all _=true;rw [<- xI];exact g3
 have e2:nsOkIn K NP=true:=by unfold Mw;rw [g2];show esM.all _=true;rw [<- xI];exact g4
 refine ⟨a1,fun {h mg} X G=>⟨nQ X G a1,nm,qn,Nn,bs,_,sn,sub,ab,col,dd,k0,k1,k2,k3,k5,h.nsMap Nn,fI,X _ _ a2,.of_isNs (my X e1),?_,eG X e1 b2,eG X e1 b3,?_,⟨_,_,p1,p2,p3,p4,X _ _ d1,rfl,rfl,Gp X d3,f3,f4,f5,f2,congrArg FuncBody.stmts f1,fun s e v kb=>?_⟩⟩,a4,fun {h} X=>⟨_,⟨⟨nm,qn,Nn,bs,true,sn,sub,ab,col,dd,k0,k1,k2,k3,k5,_,X _ _ a2⟩,rfl⟩,fun v nv hv=>?_⟩⟩
 ·exact WP X (.of_isNs (my X e1)) b1
 ·refine .own (X _ _ a3) (.of_isNs (my X e2)) (fun n hn=>?_) .base
  rcases List.mem_cons.mp hn with z | hn
  ·rw [z];exact eG X e2 c1
  rcases List.mem_cons.mp hn with z | hn
  ·rw [z];exact eG X e2 c2
  ·rw [List.mem_singleton.mp hn];exact eG X e2 c3
 ·obtain ⟨k,k1,k2⟩:=f6 e v
  exact BindsTo.of_defaults rfl (kb _ _ (X _ _ d2)) rfl k1 k2
 ·unfold dB sY at hv
  rw [a2] at hv
  have:(bu C::[bu CP,.type "ValueError",.type "Exception",.type "BaseException",.type "object"]).contains v=true:=by simpa using hv
  rw [Mc,nv,uU] at this
  exact this
section
variable {P:aK}{w:bc}{K:a8}{mg:Str->Option aa}{base:bF}{N:List Str}{qual:Str}{scope:gE}{f:ak}{cd:aa}{A:aX}{outer:List Env}{s:af}{H:Hp}{E:XK}{cls:Str->ak}
end
end
section
section
variable {c:C}{e:aZ}{g:aB->R D}{pos p:Pos}
end
end
end J
section
namespace L2
open PySem PySem.Spec PyProof.Rows
end L2
namespace L2
open PySem PySem.Spec PyProof.Rows
end L2
namespace J
open PySem L2
end J
end
namespace J
open PySem L2
section
end
end J
namespace L2
open PySem PySem.Spec PyProof.Rows
section
section
variable {prog:aK}{w:bc}{A:aX}{R:tQ->af->Prop}{s:af}
end
def Tks (H H':Hp):Prop:=∀ b ys,H b=some (.tup ys)->H' b=some (.tup ys)
end
end L2
namespace J
open PySem L2
section
section
variable {c:C}{pos:Pos}{x:Str}{kx vx iter tg:aZ}{ifs:List aZ}{scope:gE}{N':List Str}{nt:Nat}{ix:List Nat}{gi:aB->R (List D)}{gt:aB->R Bool}{gk gv:aB->R D}
end
end
end J
section
namespace L2
open PySem PySem.Spec PyProof.Rows
end L2
namespace J
open PySem L2
section
variable {c:C}{pos:Pos}{x:Str}{kx vx iter tg:aZ}{ifs:List aZ}{scope:gE}{N':List Str}{nt:Nat}{ix:List Nat}{gi:aB->R (List D)}{gt:aB->R Bool}{gk gv:aB->R D}
end
end J
end
namespace J
open PySem L2
section
end
section
end
section
def Yu (p:HO->Bool) (H Hs:Hp):Hp:=fun b=>match Hs b,H b with
 | some o,_=>some o
 | none,some o=>if p o then some o else none
 | none,none=>none
def Zn (p:HO->Bool) (H Hs Hs1:Hp):Hp:=fun b=>match Hs b,H b with
 | none,some o=>if p o then none else Hs1 b
 | _,_=>Hs1 b
section
variable {p:HO->Bool}{H Hs H' Hs' Hs1:Hp}{K:a8}
end
inductive WQ (p:HO->Bool) (K:a8) (cls:Str->ak) (E:XK) (ρ:aB) (r:R (List D)) (σ:St) (H:Hp) (Q:List V->Hp->Prop):Prop
 | mk (H0 Hs0:Hp) (la:Nat->Option ak) (Hs:Hp) (f:Fr K H0 Hs0 la ρ σ H Hs) (q:Fin K cls E H Hs r fun d=>∀ v H' Hs',cK H Hs H' Hs'->RDs K (Yu p H' Hs') v d->Q v H'):WQ p K cls E ρ r σ H Q
structure JL (p:HO->Bool) (c:C) (es:List aZ) (g:aB->R (List D)):Prop where of ::
 run:∀ ρ,PA c.X es (WQ p c.X.K c.cls c.E ρ (g ρ))
section
variable {p:HO->Bool}{c:C}{e:aZ}{es:List aZ}{g:aB->R D}{gs:aB->R (List D)}{pos:Pos}
end
end
section
section
variable {p:HO->Bool}{c:C}{e:aZ}{es:List aZ}{g:aB->R D}{gs:aB->R (List D)}{pos spos pn apos cpos:Pos}{x:Str}
end
end
end J
section
namespace L2
open PySem PySem.Spec PyProof.Rows
end L2
namespace J
open PySem L2
end J
end
namespace J
open PySem L2
section
section
variable {c:C}{e:aZ}{g:aB->R D}{pn cpos pos:Pos}
end
end
end J
section
namespace L2
open PySem PySem.Spec PyProof.Rows
inductive WR (X:Cx) (CX:Kz) (E:XK) (t:TA) (σ:St) (Q:VK) (v:V) (H1:Hp):Prop
 | mk (k:Nat) (f:ak) (fd:eP) (ps:List Str) (sp:Sp) (h0:v=.ref f) (F:sQ X.prog X.w X.K X.mg X.base CX k f fd ps sp) (hr:lG k X.A) (hk:fA X.K (.ref f)=true) (hb:lM X.K fd ps []) (q:S7 sp [] E t σ H1 Q):WR X CX E t σ Q v H1
end L2
namespace J
open PySem L2
inductive EZ (c:C) (n j:Nat):List aZ->List (List D->R D)->List ak->Prop
 | nil:EZ c n j [] [] []
 | cons {x:Str}{p:Pos}{F:List D->R D}{k:Nat}{f:ak}{fd:eP}{ps:List Str}{es:List aZ}{Fs:List (List D->R D)}{as:List ak} (hf:sQ c.X.prog c.X.w c.X.K c.X.mg c.X.base (qm c.X.prog c.X.w) k f fd ps (SA c.X.K c.cls n F)) (hm:c.X.mg x=some (.ref f)) (hk:fA c.X.K (.ref f)=true) (hb:lM c.X.K fd ps []) (hj:k<=j) (hg:Gl c.X x) (hdb:(x == ("__debug__" : Str))=false) (r:EZ c n j es Fs as):EZ c n j (.Name x p::es) (F::Fs) (f::as)
section
variable {c:C}{n j:Nat}{es:List aZ}{Fs:List (List D->R D)}{x:Str}{p pos:Pos}
inductive OF (c:C) (n j:Nat) (F:List D->R D) (f:ak):Prop
 | mk (k:Nat) (fd:eP) (ps:List Str) (hf:sQ c.X.prog c.X.w c.X.K c.X.mg c.X.base (qm c.X.prog c.X.w) k f fd ps (SA c.X.K c.cls n F)) (hk:fA c.X.K (.ref f)=true) (hb:lM c.X.K fd ps []) (hj:k<=j):OF c n j F f
theorem Ld (h:EZ c n j es Fs as):∀ {i:Nat}{F:List D->R D},Fs[i]?=some F->∃ f,as[i]?=some f/\OF c n j F f:=by
 induction h with
 | nil=>intro i F e;simp at e
 | @cons x p F k f fd ps es Fs as hf hm hk hb hj hg hdb r ih =>
  intro i F e
  cases i with
  | zero=>cases e;exact ⟨f,rfl,k,fd,ps,hf,hk,hb,hj⟩
  | succ i=>have q:=ih (i:=i) e;exact q
def Ta (Fs:List (List D->R D)) (n:Nat) (gi:aB->R D) (gs:aB->R (List D)) (ρ:aB):R Fl:=(gi ρ).bind fun d=>match d with
 | .int k=>if 0<=k then (match Fs[k.toNat]? with
  | some F=>(gs ρ).bind fun ds=>if ds.length=n then (F ds).bind fun d=>.ok (.rt d) else .no
  | none=>.no) else .no
 | _=>.no
variable {e ie:aZ}{gi:aB->R D}{gs:aB->R (List D)}{ess:List aZ}
theorem CF       (P:EZ c n j es Fs as) (hr:lG j c.X.A) (f:Fr c.X.K H0 Hs0 la ρ σ H Hs) (ha:H a=some (.lst (as.map V.ref))) (q:oG c.X.K c.cls c.E H0 Hs0 la D' (Ta Fs n gi gs ρ)) :
  TR c.X.K c.cls c.E ρ (gi ρ) σ H fun y H2=>VN c.X.K (.ref a) y H2 (WR c.X (qm c.X.prog c.X.w) c.E (Xs c.X.K c.cls c.E ρ (gs ρ)) σ D'.rt):=by
 refine sE f q fun d v H2 Hs2 e1 s1 f2 r1=>?_
 unfold Ta at q
 rw [e1,bind_ok] at q
 cases r1 with
 | int k =>
  simp only at q
  by_cases hk:0<=k
  ·rw [if_pos hk] at q
   split at q
   ·rename_i F hF
    obtain ⟨g,h1,k',fd,ps,hf,hkp,hb,hj⟩:=Ld P hF
    have hix:DR (as.map V.ref) k=some (.ref g):=by
     have:=rN (xs:=as.map V.ref) (j:=k.toNat) (v:=V.ref g) (by rw [aT,h1];rfl)
     rwa [eg hk] at this
    refine ⟨a,as.map V.ref,k,.ref g,rfl,rfl,.of (s1.all _ _ ha),hix,k',g,fd,ps,_,rfl,hf,hr.mono hj,hkp,hb,H0,Hs0,la,Hs2,f2,?_⟩
    cases hg:gs ρ with
    | no=>rw [hg] at q;exact q.elim
    | ex y m=>rw [hg] at q;exact fun H3 Hs3 s3=>q H3 Hs3 (f2.st.trans s3)
    | ok ds =>
     rw [hg,bind_ok] at q
     intro vs H3 Hs3 s3 r3
     have f3:=f2.step s3
     by_cases hn:ds.length=n
     ·rw [if_pos hn] at q
      show SA _ _ _ _ (vs++[]) _ _ _
      rw [cO]
      refine ⟨Hs3,ds,f3.st.sub,hn,r3,?_⟩
      cases hFd:F ds with
      | no=>rw [hFd] at q;exact q.elim
      | ex y m=>rw [hFd] at q;exact fun H4 Hs4 s4=>q H4 Hs4 (f3.st.trans s4)
      | ok d=>rw [hFd] at q;exact fun v H4 Hs4 s4 r4=>q v H4 Hs4 (f3.st.trans s4) r4
     ·rw [if_neg hn] at q;exact q.elim
   ·exact q.elim
  ·rw [if_neg hk] at q;exact q.elim
 | list _ _=>exact q.elim
 | none=>exact q.elim
 | bool _=>exact q.elim
 | str _=>exact q.elim
 | tuple _ _=>exact q.elim
 | dictK _ _=>exact q.elim
 | dictT _ _ _=>exact q.elim
 | dictF _ _ _=>exact q.elim
end
end J
namespace J
open PySem L2
end J
end
namespace TS
open PySem PyProof.Rows
section
def Rt:Bool->cz->Array cz->Nat->Nat->Nat->StateT ed Sem (Option Nat):=sortPriv% PySem.Builtin.gallop
section
variable {prog:aK}{w:bc}{A:aX}{E:aa->af->Prop}{s:af}{kd:mZ}{rk:aa->Nat}{L:List cz}
def Cp (prog:aK) (w:bc) (A:aX) (s:af) (kd:mZ) (rk:aa->Nat) (L:List cz):Prop :=
 ∀ x∈L,∀ y∈L,∀ (Q:Bool->af->Prop) (E:aa->af->Prop),Q (decide (rk x.1<rk y.1)) s->au (ax prog w) A (keyLt' kd x.1 y.1) Q E s
theorem OG {x y:cz}{Q:Option Bool->ed->Prop}{st:ed} (hC:Cp prog w A s kd rk L) (hk:kindOf st=kd) (hx:x∈L) (hy:y∈L)
  (h:Q (some (decide (rk x.1<rk y.1))) st):wpS (ax prog w) A E s (lt' x y) Q st:=by
 rw [lt'_eq]
 refine ay (mU ?_)
 rw [hk]
 exact ay (sO (k9 (hC x hx y hy _ _ ⟨rfl,aP h⟩)))
theorem fF {a:Array cz}{i:Nat}{p:cz}{Q:cz->ed->Prop}{st:ed} (hi:a[i]?=some p) (h:Q p st):wpS (ax prog w) A E s (elem' a i) Q st:=by
 rw [elem'_eq,hi];exact aP h
structure WS (rk:aa->Nat) (L:List cz) (a:Array cz) (b n:Nat) (g:Nat->Nat):Prop where
 at_:∀ i,i<n->∃ p,a[b + i]?=some p/\p∈L/\rk p.1=g i
 up:∀ i j,i<j->j<n->g i<g j
variable {l:Bool}{k:cz}{a:Array cz}{b n h i:Nat}{g:Nat->Nat}{st:ed}
theorem Jr (hC:Cp prog w A s kd rk L) (hk:kindOf st=kd) (hr:WS rk L a b n g) (hx:k∈L) (hne:∀ i,i<n->g i≠rk k.1) (hi:i<n)
  (h:Q (some (decide (g i<rk k.1))) st):wpS (ax prog w) A E s (do
   let x <- elem' a (b + i)
   if l=true then lt' x k else do
    let o <- lt' k x
    pure (o.map (fun x=>!x))) Q st:=by
 obtain ⟨p,e,m,r⟩:=hr.at_ i hi
 refine ay (fF e ?_)
 cases l with
 | true=>rw [if_pos rfl];refine OG hC hk m hx ?_;rw [r];exact h
 | false =>
  rw [if_neg (by decide)]
  refine ay (OG hC hk hx m (aP ?_))
  have e:(!decide (rk k.1<rk p.1))=decide (g i<rk k.1):=by
   have:=hne i hi
   rw [r]
   rcases Nat.lt_trichotomy (g i) (rk k.1) with h | h | h
   ·simp [h,ca h]
   ·exact absurd h this
   ·simp [h,Nat.not_lt.2 (ca h)]
  rw [cL,e];exact h
theorem oM (hC:Cp prog w A s kd rk L) (hk:kindOf st=kd) (hr:WS rk L a b n g) (hx:k∈L) (hne:∀ i,i<n->g i≠rk k.1) (hh:h<n)
  (q:∀ m,m<=n->(∀ i,i<m->g i<rk k.1)->(∀ i,m<=i->i<n->rk k.1<g i)->Q (some m) st):wpS (ax prog w) A E s (Rt l k a b n h) Q st:=by
 have lo_of:∀ j,j<n->g j<rk k.1->∀ i,i<j + 1->g i<rk k.1:=fun j hj hl i hi=>by
  rcases cJ i j with h | h
  ·exact eQ (hr.up i j h hj) hl
  ·rw [show i=j by omega];exact hl
 have hi_of:∀ j,j<n->¬ g j<rk k.1->∀ i,j<=i->i<n->rk k.1<g i:=fun j hj hl i hi hn=>by
  have h1:=hne j hj
  have h2:rk k.1<g j:=by omega
  rcases cJ j i with h | h
  ·exact eQ h2 (hr.up j i h hn)
  ·rw [show i=j by omega];exact h2
 refine ay (Jr hC hk hr hx hne hh ?_)
 dsimp (config:={ zeta:=false }) only
 extract_lets jp
 have J:∀ x y lo hi,lo<=hi->hi<=n->(∀ i,i<lo->g i<rk k.1)->(∀ i,hi<=i->i<n->rk k.1<g i)->wpS (ax prog w) A E s (jp () x y lo hi) Q st:=by
  intro x y lo hi h1 h2 h3 h4
  refine ay (eA (cQ (I:=fun x c st'=>st'=st/\∃ l r,c=(none,l,r)/\l<=r/\r<=n/\r - l<=n - x/\(∀ i,i<l->g i<rk k.1)/\(∀ i,r<=i->i<n->rk k.1<g i))
   (Q:=fun c st'=>st'=st/\∃ l,c=(none,l,l)/\l<=n/\(∀ i,i<l->g i<rk k.1)/\(∀ i,l<=i->i<n->rk k.1<g i)) ?_ ?_ ⟨rfl,lo,hi,rfl,h1,h2,by omega,h3,h4⟩) ?_)
  ·rintro x c st' - hx' ⟨rfl,l,r,rfl,a1,a2,a3,a4,a5⟩
   dsimp only
   by_cases hge:l ≥ r
   ·rw [if_pos hge]
    have:l=r:=by omega
    subst this
    exact aP ⟨rfl,l,rfl,a2,a4,a5⟩
   ·rw [if_neg hge]
    refine ay (Jr hC hk hr hx hne (by omega) ?_)
    dsimp only
    by_cases hb:g (l + (r - l) / 2)<rk k.1
    ·rw [if_pos (by simpa using hb)]
     exact aP ⟨rfl,_,r,rfl,by omega,a2,by omega,lo_of _ (by omega) hb,a5⟩
    ·rw [if_neg (by simpa using hb)]
     exact aP ⟨rfl,l,_,rfl,by omega,by omega,by omega,a4,hi_of _ (by omega) hb⟩
  ·rintro c st' ⟨rfl,l,r,rfl,a1,a2,a3,a4,a5⟩
   have:l=r:=by omega
   subst this
   exact ⟨rfl,l,rfl,a2,a4,a5⟩
  ·rintro c st' ⟨rfl,l,rfl,a2,a4,a5⟩
   exact aP (q l a2 a4 a5)
 by_cases hb:g h<rk k.1
 ·rw [if_pos (by simpa using hb)]
  refine ay (eA (cQ (I:=fun x c st'=>st'=st/\∃ u v,c=(none,u,v)/\u<v/\x<v/\h + u<n/\g (h + u)<rk k.1)
   (Q:=fun c st'=>st'=st/\∃ u v,c=(none,u,v)/\u<v/\h + u<n/\g (h + u)<rk k.1/\(n - h<=v\/(h + v<n/\¬ g (h + v)<rk k.1))) ?_ ?_ ⟨rfl,0,1,rfl,by omega,by omega,by omega,hb⟩) ?_)
  ·rintro x c st' - hx' ⟨rfl,u,v,rfl,a1,a2,a3,a4⟩
   dsimp only
   by_cases hge:v ≥ n - h
   ·rw [if_pos hge];exact aP ⟨rfl,u,v,rfl,a1,a3,a4,.inl hge⟩
   ·rw [if_neg hge]
    refine ay (Jr hC hk hr hx hne (by omega) ?_)
    dsimp only
    by_cases hc:g (h + v)<rk k.1
    ·rw [if_neg (by simp [hc])];exact aP ⟨rfl,v,_,rfl,by omega,by omega,by omega,hc⟩
    ·rw [if_pos (by simp [hc])];exact aP ⟨rfl,u,v,rfl,a1,a3,a4,.inr ⟨by omega,hc⟩⟩
  ·rintro c st' ⟨rfl,u,v,rfl,a1,a2,a3,a4⟩
   exact ⟨rfl,u,v,rfl,a1,a3,a4,.inl (by omega)⟩
  ·rintro c st' ⟨rfl,u,v,rfl,a1,a3,a4,a5⟩
   refine J u v (h + u + 1) (h + min v (n - h)) (by omega) (by omega) (lo_of _ a3 a4) ?_
   rcases Nat.le_total (n - h) v with h1 | h1
   ·intro i h2 h3;rw [Nat.min_eq_right h1] at h2;omega
   ·rcases a5 with a5 | ⟨a5,a6⟩
    ·intro i h2 h3;rw [mB h1] at h2;omega
    ·rw [mB h1];exact hi_of _ a5 a6
 ·rw [if_neg (by simpa using hb)]
  refine ay (eA (cQ (I:=fun x c st'=>st'=st/\∃ u v,c=(none,u,v)/\u<v/\x<v/\u<=h/\¬ g (h - u)<rk k.1)
   (Q:=fun c st'=>st'=st/\∃ u v,c=(none,u,v)/\u<v/\u<=h/\¬ g (h - u)<rk k.1/\(h + 1<=v\/(v<=h/\g (h - v)<rk k.1))) ?_ ?_ ⟨rfl,0,1,rfl,by omega,by omega,by omega,hb⟩) ?_)
  ·rintro x c st' - hx' ⟨rfl,u,v,rfl,a1,a2,a3,a4⟩
   dsimp only
   by_cases hge:v ≥ h + 1
   ·rw [if_pos hge];exact aP ⟨rfl,u,v,rfl,a1,a3,a4,.inl hge⟩
   ·rw [if_neg hge]
    refine ay (Jr hC hk hr hx hne (by omega) ?_)
    dsimp only
    by_cases hc:g (h - v)<rk k.1
    ·rw [if_pos (by simp [hc])];exact aP ⟨rfl,u,v,rfl,a1,a3,a4,.inr ⟨by omega,hc⟩⟩
    ·rw [if_neg (by simp [hc])];exact aP ⟨rfl,v,_,rfl,by omega,by omega,by omega,hc⟩
  ·rintro c st' ⟨rfl,u,v,rfl,a1,a2,a3,a4⟩
   exact ⟨rfl,u,v,rfl,a1,a3,a4,.inl (by omega)⟩
  ·rintro c st' ⟨rfl,u,v,rfl,a1,a3,a4,a5⟩
   refine J u v (h + 1 - min v (h + 1)) (h - u) (by omega) (by omega) ?_ (hi_of _ (by omega) a4)
   rcases a5 with a5 | ⟨a5,a6⟩
   ·intro i h2;omega
   ·intro i h2;exact lo_of (h - v) (by omega) a6 i (by omega)
end
end
section
structure Mg {α:Type} (lt:α->α->Prop) (T out ra rb:List α):Prop where
 perm:(out++ra++rb).Perm T
 so:out.Pairwise lt
 sa:ra.Pairwise lt
 sb:rb.Pairwise lt
 oa:∀ x∈out,∀ y∈ra,lt x y
 ob:∀ x∈out,∀ y∈rb,lt x y
section
variable {α:Type}{lt:α->α->Prop}{T out ra rb p:List α}
theorem Mg.comm (h:Mg lt T out ra rb):Mg lt T out rb ra :=
 ⟨by
  refine o_ ?_ h.perm
  rw [eW,eW]
  exact List.Perm.append_left _ List.perm_append_comm,h.so,h.sb,h.sa,h.ob,h.oa⟩
theorem Mg.take (h:Mg lt T out (p++ra) rb) (hp:∀ x∈p,∀ y∈rb,lt x y):Mg lt T (out++p) ra rb:=by
 have s2:=gQ.1 h.sa
 refine ⟨by simpa [eW] using h.perm,gQ.2 ⟨h.so,s2.1,fun x hx y hy=>h.oa x hx y (bj _ hy)⟩,s2.2.1,h.sb,?_,?_⟩
 ·intro x hx y hy
  rcases e_.1 hx with hx | hx
  ·exact h.oa x hx y (aH _ hy)
  ·exact s2.2.2 x hx y hy
 ·intro x hx y hy
  rcases e_.1 hx with hx | hx
  ·exact h.ob x hx y hy
  ·exact hp x hx y hy
theorem Mg.fin (h:Mg lt T out ra rb) (hp:∀ x∈ra,∀ y∈rb,lt x y):(out++ra++rb).Perm T/\(out++ra++rb).Pairwise lt :=
 ⟨h.perm,gQ.2 ⟨gQ.2 ⟨h.so,h.sa,h.oa⟩,h.sb,fun x hx y hy=>(e_.1 hx).elim (fun hx=>h.ob x hx y hy) fun hx=>hp x hx y hy⟩⟩
end
section
variable {a:Array cz}{i k:Nat}{x:cz}
theorem E_ (h:x∈a.toList.drop i):∃ j,i<=j/\a[j]?=some x:=by
 obtain ⟨n,hn⟩:=kZ.1 h
 rw [vV] at hn
 exact ⟨i + n,by omega,by rw [<- aQ];exact hn⟩
theorem o8 (h:x∈(a.toList.drop i).take k):∃ j,i<=j/\j<i + k/\a[j]?=some x:=by
 obtain ⟨n,hn⟩:=kZ.1 h
 rw [Me] at hn
 split at hn
 ·rw [vV] at hn
  exact ⟨i + n,by omega,by omega,by rw [<- aQ];exact hn⟩
 ·cases hn
theorem F1 (h:x∈a.toList.take k):∃ j,j<k/\a[j]?=some x:=by
 obtain ⟨j,_,h1,h2⟩:=o8 (i:=0) (k:=k) h
 exact ⟨j,by omega,h2⟩
theorem eL (h:a[i]?=some x):x∈a.toList:=by
 rw [<- aQ] at h;exact dh h
theorem Js (h:a[i]?=some x):a.toList.drop i=[x]++a.toList.drop (i + 1):=by
 rw [<- aQ] at h
 obtain ⟨hl,rfl⟩:=oy.1 h
 exact Ce hl
theorem Jt (h:a[i]?=some x):a.toList.take (i + 1)=a.toList.take i++[x]:=by
 rw [<- aQ] at h
 rw [Mx,h];rfl
theorem BL:a.toList.drop i=(a.toList.drop i).take k++a.toList.drop (i + k):=by
 rw [<- Bb];exact (fX k _).symm
theorem fG (h:i<a.size):∃ p,a[i]?=some p:=⟨a[i],bV h⟩
theorem F2:(a.extract i (i + k)).toList=(a.toList.drop i).take k:=by
 rw [gI,e7,List.take_drop]
theorem rX:(a.extract i a.size).toList=a.toList.drop i:=by
 rw [gI,e7]
 rw [kh (by simp)]
end
def Ru (rk:aa->Nat) (a:Array cz):Prop:=∀ (i j:Nat) (p q:cz),i<j->a[i]?=some p->a[j]?=some q->rk p.1<rk q.1
def dH (rk:aa->Nat) (a:Array cz) (i:Nat):Nat:=(a[i]?.map fun p=>rk p.1).getD 0
section
variable {rk:aa->Nat}{a:Array cz}{L:List cz}
theorem bI  (h:a[i]?=some p):dH rk a i=rk p.1:=by unfold dH;rw [h];rfl
theorem Ru.pw (h:Ru rk a):a.toList.Pairwise fun x y=>rk x.1<rk y.1:=by
 rw [oz]
 intro i j hi hj hij
 exact h i j _ _ hij (by rw [<- aQ];exact aV hi) (by rw [<- aQ];exact aV hj)
theorem Ru.run (h:Ru rk a) (hL:∀ p∈a.toList,p∈L) (hn:b + n<=a.size):WS rk L a b n (fun i=>dH rk a (b + i)):=by
 refine ⟨fun i hi=>?_,fun i j hij hj=>?_⟩
 ·obtain ⟨p,hp⟩:=fG (a:=a) (i:=b + i) (by omega)
  exact ⟨p,hp,hL p (eL hp),(bI hp).symm⟩
 ·obtain ⟨p,hp⟩:=fG (a:=a) (i:=b + i) (by omega)
  obtain ⟨q,hq⟩:=fG (a:=a) (i:=b + j) (by omega)
  show dH rk a _<dH rk a _
  rw [bI hp,bI hq]
  exact h _ _ p q (by omega) hp hq
end
end
section
def OH:Array cz->Array cz->StateT ed Sem (Array cz):=sortPriv% PySem.Builtin.mergeLo
def WT:Nat->StateT ed Sem Unit:=sortPriv% PySem.Builtin.setMinGallop
def Sm (st st':ed):Prop:=kindOf st'=kindOf st/\aN st'=aN st/\bU st'=bU st/\wl st'=wl st
section
variable {prog:aK}{w:bc}{A:aX}{E:aa->af->Prop}{s:af}{kd:mZ}{rk:aa->Nat}{L:List cz}{st st':ed}
theorem Sm.rfl:Sm st st:=⟨Qo _,Qo _,Qo _,Qo _⟩
theorem Da   (hm:Sm st0 st) (h:∀ st',Sm st0 st'->Q () st'):wpS (ax prog w) A E s (WT n) Q st :=
 pf (h _ hm)
structure OI (rk:aa->Nat) (L:List cz) (a b:Array cz):Prop where
 sa:Ru rk a
 sb:Ru rk b
 la:∀ p∈a.toList,p∈L
 lb:∀ p∈b.toList,p∈L
 ne:∀ p∈a.toList,∀ q∈b.toList,rk p.1≠rk q.1
def UN (rk:aa->Nat) (x y:cz):Prop:=rk x.1<rk y.1
def oN (rk:aa->Nat) (a b r:Array cz):Prop:=r.toList.Perm (a.toList++b.toList)/\r.toList.Pairwise (UN rk)
def V (rk:aa->Nat) (a b out:Array cz) (ia ib:Nat):Prop:=Mg (UN rk) (a.toList++b.toList) out.toList (a.toList.drop ia) (b.toList.drop ib)
variable {a b out:Array cz}{ia ib k:Nat}{p q:cz}
theorem yp {x y:cz} (t:Ru rk b) (hq:b[ib]?=some q) (h:rk x.1<rk q.1) (hy:y∈b.toList.drop ib):rk x.1<rk y.1:=by
 obtain ⟨j,hj,e⟩:=E_ hy
 rcases cJ ib j with h1 | h1
 ·exact eQ h (t _ _ _ _ h1 hq e)
 ·rw [show j=ib by omega,hq] at e;cases e;exact h
theorem V.pushA (v:V rk a b out ia ib) (t:OI rk L a b) (hp:a[ia]?=some p) (hq:b[ib]?=some q) (h:rk p.1<rk q.1):V rk a b (out.push p) (ia + 1) ib:=by
 unfold V at *
 rw [iz]
 rw [Js hp] at v
 exact v.take fun x hx y hy=>by
  rw [cf.1 hx];exact yp t.sb hq h hy
theorem V.pushB (v:V rk a b out ia ib) (t:OI rk L a b) (hp:a[ia]?=some p) (hq:b[ib]?=some q) (h:rk q.1<rk p.1):V rk a b (out.push q) ia (ib + 1):=by
 unfold V at *
 rw [iz]
 rw [Js hq] at v
 exact (v.comm.take fun x hx y hy=>by
  rw [cf.1 hx];exact yp t.sa hp h hy).comm
theorem V.moreA (v:V rk a b out ia ib) (t:OI rk L a b) (hq:b[ib]?=some q) (h:∀ i,i<k->dH rk a (ia + i)<rk q.1):V rk a b (out++a.extract ia (ia + k)) (ia + k) ib:=by
 unfold V at *
 rw [cm,F2]
 rw [BL (k:=k)] at v
 exact v.take fun x hx y hy=>by
  obtain ⟨j,h1,h2,e⟩:=o8 hx
  refine yp t.sb hq ?_ hy
  have:=h (j - ia) (by omega)
  rwa [show ia + (j - ia)=j by omega,bI e] at this
theorem V.moreB (v:V rk a b out ia ib) (t:OI rk L a b) (hp:a[ia]?=some p) (h:∀ i,i<k->dH rk b (ib + i)<rk p.1):V rk a b (out++b.extract ib (ib + k)) ia (ib + k):=by
 unfold V at *
 rw [cm,F2]
 rw [BL (a:=b) (k:=k)] at v
 exact (v.comm.take fun x hx y hy=>by
  obtain ⟨j,h1,h2,e⟩:=o8 hx
  refine yp t.sa hp ?_ hy
  have:=h (j - ib) (by omega)
  rwa [show ib + (j - ib)=j by omega,bI e] at this).comm
theorem V.done (v:V rk a b out ia ib) (h:ib=b.size):oN rk a b (out++a.extract ia a.size++b.extract ib b.size):=by
 unfold V at v
 have e:b.toList.drop ib=[]:=List.drop_eq_nil_of_le (by simp [h])
 unfold oN
 rw [cm,cm,rX,rX]
 exact v.fin fun x _ y hy=>by rw [e] at hy;cases hy
theorem V.last (v:V rk a b out ia ib) (hp:a[ia]?=some p) (h:ia + 1=a.size) (hl:∀ y∈b.toList,rk y.1<rk p.1):oN rk a b (out++b.extract ib b.size++a.extract ia a.size):=by
 unfold V at v
 unfold oN
 rw [cm,cm,rX,rX]
 refine v.comm.fin fun x hx y hy=>?_
 obtain ⟨j,hj,e⟩:=E_ hy
 have:j<a.size:=by
  rcases cJ j a.size with h | h
  ·exact h
  ·rw [dm h] at e;cases e
 rw [show j=ia by omega,hp] at e;cases e
 exact hl x (List.mem_of_mem_drop hx)
theorem eD {β:Type}{c:Prop} [Decidable c] {m1 m2:StateT ed Sem β}{Q:β->ed->Prop} (h1:c->wpS (ax prog w) A E s m1 Q st) (h2:¬ c->wpS (ax prog w) A E s m2 Q st):wpS (ax prog w) A E s (if c then m1 else m2) Q st:=by
 by_cases h:c
 ·rw [if_pos h];exact h1 h
 ·rw [if_neg h];exact h2 h
theorem jV {β:Type}{m n:Nat}{m1 m2:StateT ed Sem β}{Q:β->ed->Prop} (h1:m=n->wpS (ax prog w) A E s m1 Q st) (h2:m≠n->wpS (ax prog w) A E s m2 Q st):wpS (ax prog w) A E s (if (m == n)=true then m1 else m2) Q st :=
 eD (fun h=>h1 (beq_iff_eq.1 h)) fun h=>h2 fun e=>h (beq_iff_eq.2 e)
def GP (rk:aa->Nat) (a b:Array cz) (x:Nat) (st:ed) (r:ForInStep (Option (Array cz)×Array cz×Nat×Nat×Nat×Nat×Nat)) (st':ed):Prop:=Sm st st'/\match r with
 | .done c=>(∃ r z,c=(some r,z)/\oN rk a b r)\/∃ out ia ib g n1 n2,c=(none,out,ia,ib,g,n1,n2)/\V rk a b out ia ib/\ia + 1<a.size/\ib<b.size/\x + 2<=ia + ib
 | .yield c=>∃ out ia ib g n1 n2,c=(none,out,ia,ib,g,n1,n2)/\V rk a b out ia ib/\ia + 1<a.size/\ib<b.size/\x + 2<=ia + ib
theorem Le (hC:Cp prog w A s kd rk L) (hk:kindOf st=kd) (t:OI rk L a b)
  (hp0:a[0]?=some p0) (hq0:b[0]?=some q0) (h0:rk q0.1<rk p0.1) (hl:∀ p,a[a.size - 1]?=some p->∀ y∈b.toList,rk y.1<rk p.1)
  (h:∀ r st',Sm st st'->oN rk a b r->Q r st'):wpS (ax prog w) A E s (OH a b) Q st:=by
 have lastp:∀ {ia p out ib},V rk a b out ia ib->ia + 1=a.size->a[ia]?=some p->oN rk a b (out++b.extract ib b.size++a.extract ia a.size):=fun v e hp=>v.last hp e (hl _ (by rw [<- e];exact hp))
 have V0:V rk a b #[q0] 0 1:=V.pushB (out:=#[]) ⟨by simp,by simp,t.sa.pw,t.sb.pw,by simp,by simp⟩ t hp0 hq0 h0
 have sza:0<a.size:=by
  rcases fW a.size with e | e
  ·rw [dm (by omega)] at hp0;cases hp0
  ·exact e
 have szb:0<b.size:=by
  rcases fW b.size with e | e
  ·rw [dm (by omega)] at hq0;cases hq0
  ·exact e
 refine ay (sO (df ⟨rfl,?_⟩))
 refine ay (fF hq0 ?_)
 refine jV (m:=1) (n:=b.size) (fun e1=>aP (h _ _ .rfl (V0.done e1))) fun e1=>?_
 refine jV (m:=0 + 1) (n:=a.size) (fun e2=>aP (h _ _ .rfl (lastp V0 e2 hp0))) fun e2=>?_
 refine ay (mU ?_)
 refine ay (eA (cQ
  (I:=fun x c st'=>Sm st st'/\∃ out ia ib g,c=(none,out,ia,ib,g)/\V rk a b out ia ib/\ia + 1<a.size/\ib<b.size/\x + 1<=ia + ib)
  (Q:=fun c st'=>Sm st st'/\∃ r z,c=(some r,z)/\oN rk a b r) ?step ?fin ⟨.rfl,_,0,1,_,rfl,V0,by omega,by omega,by omega⟩) ?post)
 case fin =>
  rintro c st' ⟨_,out,ia,ib,g,rfl,v,h1,h2,h3⟩
  omega
 case post =>
  rintro c st' ⟨m,r,z,rfl,f⟩
  exact aP (h r st' m f)
 case step =>
  rintro x c st1 - hx ⟨m1,out,ia,ib,g,rfl,v,h1,h2,h3⟩
  refine ay (eA (cQ
   (I:=fun y c st'=>Sm st st'/\∃ out ia ib n1 n2,c=(none,out,ia,ib,n1,n2)/\V rk a b out ia ib/\ia + 1<a.size/\ib<b.size/\x + 1 + y<=ia + ib)
   (Q:=fun c st'=>Sm st st'/\((∃ r z,c=(some r,z)/\oN rk a b r)\/∃ out ia ib n1 n2,c=(none,out,ia,ib,n1,n2)/\V rk a b out ia ib/\ia + 1<a.size/\ib<b.size/\x + 2<=ia + ib))
   ?istep ?ifin ⟨m1,out,ia,ib,0,0,rfl,v,h1,h2,by omega⟩) ?ipost)
  case ifin =>
   rintro c st' ⟨m,out,ia,ib,n1,n2,rfl,v,h1,h2,h3⟩
   exact ⟨m,.inr ⟨out,ia,ib,n1,n2,rfl,v,h1,h2,by omega⟩⟩
  case istep =>
   rintro y c st' - hy ⟨m,out,ia,ib,n1,n2,rfl,v,h1,h2,h3⟩
   dsimp only
   obtain ⟨p,hp⟩:=fG (a:=a) (i:=ia) (by omega)
   obtain ⟨q,hq⟩:=fG h2
   refine ay (fF hq (ay (fF hp (ay (OG hC (m.1.trans hk) (t.lb q (eL hq)) (t.la p (eL hp)) ?_)))))
   dsimp only
   by_cases hlt:rk q.1<rk p.1
   ·rw [if_pos (by simpa using hlt)]
    refine ay (fF hq ?_)
    have v':=v.pushB t hp hq hlt
    by_cases e3:ib + 1=b.size
    ·rw [if_pos (by simpa using e3)]
     exact aP ⟨m,.inl ⟨_,_,rfl,v'.done e3⟩⟩
    rw [if_neg (by simpa using e3)]
    by_cases e4:n2 + 1 ≥ g
    ·rw [if_pos e4];exact aP ⟨m,.inr ⟨_,_,_,_,_,rfl,v',h1,by omega,by omega⟩⟩
    ·rw [if_neg e4];exact aP ⟨m,_,_,_,_,_,rfl,v',h1,by omega,by omega⟩
   ·rw [if_neg (by simpa using hlt)]
    have hlt':rk p.1<rk q.1:=by have:=t.ne p (eL hp) q (eL hq);omega
    refine ay (fF hp ?_)
    have v':=v.pushA t hp hq hlt'
    by_cases e3:ia + 1 + 1=a.size
    ·rw [if_pos (by simpa using e3)]
     obtain ⟨p',hp'⟩:=fG (a:=a) (i:=ia + 1) (by omega)
     exact aP ⟨m,.inl ⟨_,_,rfl,lastp v' e3 hp'⟩⟩
    rw [if_neg (by simpa using e3)]
    by_cases e4:n1 + 1 ≥ g
    ·rw [if_pos e4];exact aP ⟨m,.inr ⟨_,_,_,_,_,rfl,v',by omega,h2,by omega⟩⟩
    ·rw [if_neg e4];exact aP ⟨m,_,_,_,_,_,rfl,v',by omega,h2,by omega⟩
  case ipost =>
   rintro c st2 ⟨m2,⟨r,z,rfl,f⟩ | ⟨out,ia,ib,n1,n2,rfl,v,h1,h2,h3⟩⟩
   ·exact aP ⟨m2,r,_,rfl,f⟩
   refine ay (sO (df ⟨rfl,?_⟩))
   refine ay (eA (cQ
    (I:=fun y c st'=>Sm st st'/\∃ out ia ib g n1 n2,c=(none,out,ia,ib,g,n1,n2)/\V rk a b out ia ib/\ia + 1<a.size/\ib<b.size/\x + 2<=ia + ib)
    (Q:=fun c st'=>Sm st st'/\((∃ r z,c=(some r,z)/\oN rk a b r)\/∃ out ia ib g n1 n2,c=(none,out,ia,ib,g,n1,n2)/\V rk a b out ia ib/\ia + 1<a.size/\ib<b.size/\x + 2<=ia + ib))
    ?gstep ?gfin ⟨m2,out,ia,ib,_,n1,n2,rfl,v,h1,h2,by omega⟩) ?gpost)
   case gfin =>
    rintro c st' ⟨m,out,ia,ib,g,n1,n2,rfl,v,h1,h2,h3⟩
    exact ⟨m,.inr ⟨out,ia,ib,g,n1,n2,rfl,v,h1,h2,h3⟩⟩
   case gpost =>
    rintro c st2 ⟨m2,⟨r,z,rfl,f⟩ | ⟨out,ia,ib,g,n1,n2,rfl,v,h1,h2,h3⟩⟩
    ·exact aP ⟨m2,r,_,rfl,f⟩
    exact ay (Da m2 fun st' m'=>aP ⟨m',out,ia,ib,_,rfl,v,h1,h2,h3⟩)
   case gstep =>
    rintro y c st' - hy ⟨m,out,ia,ib,g,n1,n2,rfl,v,h1,h2,h3⟩
    extract_lets s1 out' s2 ia' s3 ib' s4 g' s5 n1' n2' ib1 jp
    have J:∀ g,wpS (ax prog w) A E s (jp () g) (GP rk a b x st) st':=by
     intro g
     obtain ⟨q,hq⟩:=fG h2
     have sa:=t.sa.run (b:=ia) (n:=a.size - ia) t.la (by omega)
     have na:∀ i,i<a.size - ia->dH rk a (ia + i)≠rk q.1:=fun i hi=>by
      obtain ⟨p,hp⟩:=fG (a:=a) (i:=ia + i) (by omega)
      rw [bI hp];exact t.ne p (eL hp) q (eL hq)
     refine ay (Da m fun st' m'=>?_)
     refine ay (fF (a:=b) (i:=ib) hq ?_)
     refine ay (oM (a:=a) (b:=ia) (n:=a.size - ia) (h:=0) hC (m'.1.trans hk) sa (t.lb q (eL hq)) na (by omega) fun k k1 k2 k3=>?_)
     have v1:=v.moreA t hq k2
     have k4:ia + k<a.size:=by
      obtain ⟨p,hp⟩:=fG (a:=a) (i:=a.size - 1) (by omega)
      rcases cJ (ia + k) a.size with h | h
      ·exact h
      ·have h4:=k2 (a.size - 1 - ia) (by omega)
       have h5:=hl p hp q (eL hq)
       rw [show ia + (a.size - 1 - ia)=a.size - 1 by omega,bI hp] at h4
       omega
     obtain ⟨p,hp⟩:=fG k4
     have hpq:rk q.1<rk p.1:=by
      have:=k3 k (by omega) (by omega)
      rwa [bI hp] at this
     dsimp (config:={ zeta:=false }) only
     extract_lets nn jp1
     have J1:∀ out,V rk a b out (ia + k) ib->ia + k + 1<a.size->wpS (ax prog w) A E s (jp1 () out (ia + k)) (GP rk a b x st) st':=by
      intro out v1 k5
      refine ay (fF (a:=b) (i:=ib) hq ?_)
      have v2:=v1.pushB t hp hq hpq
      refine jV (m:=ib + 1) (n:=b.size) (fun e=>aP ⟨m',.inl ⟨_,_,rfl,v2.done e⟩⟩) fun e=>?_
      refine ay (fF (a:=a) (i:=ia + k) hp ?_)
      have sb:=t.sb.run (b:=ib + 1) (n:=b.size - (ib + 1)) t.lb (by omega)
      have nb:∀ i,i<b.size - (ib + 1)->dH rk b (ib + 1 + i)≠rk p.1:=fun i hi=>by
       obtain ⟨q',hq'⟩:=fG (a:=b) (i:=ib + 1 + i) (by omega)
       rw [bI hq'];exact fun e=>t.ne p (eL hp) q' (eL hq') e.symm
      refine ay (oM (a:=b) (b:=ib + 1) (n:=b.size - (ib + 1)) (h:=0) hC (m'.1.trans hk) sb (t.la p (eL hp)) nb (by omega) fun k' c1 c2 c3=>?_)
      have v3:=v2.moreB t hp c2
      dsimp (config:={ zeta:=false }) only
      extract_lets nn' ia1 jp2
      have J2:∀ out,V rk a b out (ia + k) (ib + 1 + k')->ib + 1 + k'<b.size->wpS (ax prog w) A E s (jp2 () out (ib + 1 + k')) (GP rk a b x st) st':=by
       intro out v3 c5
       obtain ⟨q',hq'⟩:=fG c5
       have hqp:rk p.1<rk q'.1:=by
        have:=c3 k' (by omega) (by omega)
        rwa [bI hq'] at this
       have v4:=v3.pushA t hp hq' hqp
       refine ay (fF (a:=a) (i:=ia + k) hp ?_)
       refine jV (m:=ia + k + 1 + 1) (n:=a.size) (fun e=>?_) fun e=>?_
       ·obtain ⟨p',hp'⟩:=fG (a:=a) (i:=ia + k + 1) (by omega)
        exact aP ⟨m',.inl ⟨_,_,rfl,lastp v4 e hp'⟩⟩
       ·refine eD (fun _=>aP ⟨m',.inr ⟨_,ia + k + 1,ib + 1 + k',_,_,_,rfl,v4,by omega,by omega,by omega⟩⟩) fun _=>aP ⟨m',_,ia + k + 1,ib + 1 + k',_,_,_,rfl,v4,by omega,by omega,by omega⟩
      refine eD (fun _=>?_) fun hz=>?_
      ·refine jV (m:=ib + 1 + k') (n:=b.size) (fun e=>aP ⟨m',.inl ⟨_,_,rfl,v3.done e⟩⟩) fun e=>J2 _ v3 (by omega)
      ·obtain rfl:k'=0:=by omega
       exact J2 _ v2 (by omega)
     refine eD (fun _=>?_) fun hz=>?_
     ·refine jV (m:=ia + k + 1) (n:=a.size) (fun e=>aP ⟨m',.inl ⟨_,_,rfl,lastp v1 e hp⟩⟩) fun e=>?_
      refine jV (m:=ia + k) (n:=a.size) (fun e=>by omega) fun e=>J1 _ v1 (by omega)
     ·obtain rfl:k=0:=by omega
      exact J1 _ v (by omega)
    exact eA (eD (fun _=>J _) fun _=>J _) fun r _ hh=>by cases r<;>exact hh
end
end
section
def OJ:Array cz->Array cz->StateT ed Sem (Array cz):=sortPriv% PySem.Builtin.mergeHi
section
variable {prog:aK}{w:bc}{A:aX}{E:aa->af->Prop}{s:af}{kd:mZ}{rk:aa->Nat}{L:List cz}{st st':ed}
def W (rk:aa->Nat) (a b out:Array cz) (na nb:Nat):Prop:=Mg (fun x y=>UN rk y x) (a.toList++b.toList) out.toList (a.toList.take na).reverse (b.toList.take nb).reverse
variable {a b out:Array cz}{n m k:Nat}{p q:cz}
theorem yq {x y:cz} (t:Ru rk b) (hq:b[m]?=some q) (h:rk q.1<rk x.1) (hy:y∈(b.toList.take (m + 1)).reverse):rk y.1<rk x.1:=by
 obtain ⟨j,hj,e⟩:=F1 (lz.1 hy)
 rcases cJ j m with h1 | h1
 ·exact eQ (t _ _ _ _ h1 e hq) h
 ·rw [show j=m by omega,hq] at e;cases e;exact h
theorem W.pushA (v:W rk a b out (n + 1) (m + 1)) (t:OI rk L a b) (hp:a[n]?=some p) (hq:b[m]?=some q) (h:rk q.1<rk p.1):W rk a b (out.push p) n (m + 1):=by
 unfold W at *
 rw [iz]
 rw [Jt hp,uN] at v
 exact v.take fun x hx y hy=>by
  rw [Gf] at hx
  rw [cf.1 hx];exact yq t.sb hq h hy
theorem W.pushB (v:W rk a b out (n + 1) (m + 1)) (t:OI rk L a b) (hp:a[n]?=some p) (hq:b[m]?=some q) (h:rk p.1<rk q.1):W rk a b (out.push q) (n + 1) m:=by
 unfold W at *
 rw [iz]
 rw [Jt hq,uN] at v
 exact (v.comm.take fun x hx y hy=>by
  rw [Gf] at hx
  rw [cf.1 hx];exact yq t.sa hp h hy).comm
theorem BM {l:List cz} (h:k<=n):(l.take n).reverse=((l.take n).drop k).reverse++(l.take k).reverse:=by
 rw [<- uN]
 conv=>lhs;rw [<- fX k (l.take n)]
 rw [List.take_take,mB h]
theorem Ju:(a.extract k n).reverse.toList=((a.toList.take n).drop k).reverse:=by
 rw [sP,gI,e7,List.take_eq_take_min]
theorem oO:(a.extract 0 n).toList=a.toList.take n:=by
 rw [gI,e7];simp
theorem tJ (h:x∈(a.toList.take n).drop k):∃ j,k<=j/\j<n/\a[j]?=some x:=by
 obtain ⟨i,hi⟩:=kZ.1 h
 rw [vV,Me] at hi
 split at hi
 ·exact ⟨k + i,by omega,by omega,by rw [<- aQ];exact hi⟩
 ·cases hi
theorem W.moreA (v:W rk a b out n (m + 1)) (t:OI rk L a b) (hq:b[m]?=some q) (hk:k<=n) (h:∀ i,k<=i->i<n->rk q.1<dH rk a (0 + i)):W rk a b (out++(a.extract k n).reverse) k (m + 1):=by
 unfold W at *
 rw [cm,Ju]
 rw [BM hk] at v
 exact v.take fun x hx y hy=>by
  obtain ⟨j,h1,h2,e⟩:=tJ (lz.1 hx)
  refine yq t.sb hq ?_ hy
  have:=h j h1 h2
  rwa [e8,bI e] at this
theorem W.moreB (v:W rk a b out (n + 1) m) (t:OI rk L a b) (hp:a[n]?=some p) (hk:k<=m) (h:∀ i,k<=i->i<m->rk p.1<dH rk b (0 + i)):W rk a b (out++(b.extract k m).reverse) (n + 1) k:=by
 unfold W at *
 rw [cm,Ju]
 rw [BM (n:=m) hk] at v
 exact (v.comm.take fun x hx y hy=>by
  obtain ⟨j,h1,h2,e⟩:=tJ (lz.1 hx)
  refine yq t.sa hp ?_ hy
  have:=h j h1 h2
  rwa [e8,bI e] at this).comm
theorem W.done (v:W rk a b out n m) (h:n=0):oN rk a b (a.extract 0 n++b.extract 0 m++out.reverse):=by
 subst h
 have f:=v.comm.fin fun x _ y hy=>by rw [List.take_zero] at hy;cases hy
 unfold oN
 rw [cm,cm,oO,oO,sP]
 refine ⟨?_,?_⟩
 ·refine o_ ?_ f.1
  refine (oC _).symm.trans ?_
  simp
 ·have:=k_.2 f.2
  simpa using this
theorem W.last (v:W rk a b out n m) (hq:b[0]?=some q) (h:m=1) (hl:∀ y∈a.toList,rk q.1<rk y.1):oN rk a b (b.extract 0 m++a.extract 0 n++out.reverse):=by
 subst h
 have f:=v.fin fun x hx y hy=>by
  obtain ⟨j,hj,e⟩:=F1 (lz.1 hy)
  rw [show j=0 by omega,hq] at e;cases e
  exact hl x (List.mem_of_mem_take (lz.1 hx))
 unfold oN
 rw [cm,cm,oO,oO,sP]
 refine ⟨?_,?_⟩
 ·refine o_ ?_ f.1
  refine (oC _).symm.trans ?_
  simp
 ·have:=k_.2 f.2
  simpa using this
def HP (rk:aa->Nat) (a b:Array cz) (x:Nat) (st:ed) (r:ForInStep (Option (Array cz)×Nat×Nat×Array cz×Nat×Nat×Nat)) (st':ed):Prop:=Sm st st'/\match r with
 | .done c=>(∃ r z,c=(some r,z)/\oN rk a b r)\/∃ out na nb g n1 n2,c=(none,na + 1,nb + 2,out,g,n1,n2)/\W rk a b out (na + 1) (nb + 2)/\na + 1<=a.size/\nb + 2<=b.size/\na + nb + 3 + x + 2<=a.size + b.size
 | .yield c=>∃ out na nb g n1 n2,c=(none,na + 1,nb + 2,out,g,n1,n2)/\W rk a b out (na + 1) (nb + 2)/\na + 1<=a.size/\nb + 2<=b.size/\na + nb + 3 + x + 2<=a.size + b.size
theorem Lf (hC:Cp prog w A s kd rk L) (hk:kindOf st=kd) (t:OI rk L a b)
  (hp0:a[a.size - 1]?=some p0) (hq0:b[b.size - 1]?=some q0) (h0:rk q0.1<rk p0.1) (hq1:b[0]?=some q1) (hl:∀ y∈a.toList,rk q1.1<rk y.1)
  (h:∀ r st',Sm st st'->oN rk a b r->Q r st'):wpS (ax prog w) A E s (OJ a b) Q st:=by
 have sza:0<a.size:=by
  rcases fW a.size with e | e
  ·rw [dm (by omega)] at hp0;cases hp0
  ·exact e
 have szb:0<b.size:=by
  rcases fW b.size with e | e
  ·rw [dm (by omega)] at hq0;cases hq0
  ·exact e
 have V0:W rk a b #[p0] (a.size - 1) b.size:=by
  have e:b.size=b.size - 1 + 1:=by omega
  rw [e]
  refine W.pushA (out:=#[]) ?_ t hp0 hq0 h0
  rw [<- e,show a.size - 1 + 1=a.size by omega]
  unfold W
  rw [kh (by simp),kh (by simp)]
  refine ⟨?_,by simp,k_.2 t.sa.pw,k_.2 t.sb.pw,by simp,by simp⟩
  exact (oC _).append (oC _)
 refine ay (sO (df ⟨rfl,?_⟩))
 refine ay (fF hp0 ?_)
 refine jV (m:=a.size - 1) (n:=0) (fun e1=>aP (h _ _ .rfl (V0.done e1))) fun e1=>?_
 refine jV (m:=b.size) (n:=1) (fun e2=>aP (h _ _ .rfl (V0.last hq1 e2 hl))) fun e2=>?_
 refine ay (mU ?_)
 refine ay (eA (cQ
  (I:=fun x c st'=>Sm st st'/\∃ out na nb g,c=(none,na + 1,nb + 2,out,g)/\W rk a b out (na + 1) (nb + 2)/\na + 1<=a.size/\nb + 2<=b.size/\na + nb + 3 + x + 1<=a.size + b.size)
  (Q:=fun c st'=>Sm st st'/\∃ r z,c=(some r,z)/\oN rk a b r) ?step ?fin ⟨.rfl,#[p0],a.size - 2,b.size - 2,gallopOf st,?e1,?e2,by omega,by omega,by omega⟩) ?post)
 case e1=>rw [show a.size - 2 + 1=a.size - 1 by omega,show b.size - 2 + 2=b.size by omega]
 case e2=>rw [show a.size - 2 + 1=a.size - 1 by omega,show b.size - 2 + 2=b.size by omega];exact V0
 case fin =>
  rintro c st' ⟨_,out,na,nb,g,rfl,v,h1,h2,h3⟩
  omega
 case post =>
  rintro c st' ⟨m,r,z,rfl,f⟩
  exact aP (h r st' m f)
 case step =>
  rintro x c st1 - hx ⟨m1,out,na,nb,g,rfl,v,h1,h2,h3⟩
  refine ay (eA (cQ
   (I:=fun y c st'=>Sm st st'/\∃ out na nb n1 n2,c=(none,na + 1,nb + 2,out,n1,n2)/\W rk a b out (na + 1) (nb + 2)/\na + 1<=a.size/\nb + 2<=b.size/\na + nb + 3 + x + 1 + y<=a.size + b.size)
   (Q:=fun c st'=>Sm st st'/\((∃ r z,c=(some r,z)/\oN rk a b r)\/∃ out na nb n1 n2,c=(none,na + 1,nb + 2,out,n1,n2)/\W rk a b out (na + 1) (nb + 2)/\na + 1<=a.size/\nb + 2<=b.size/\na + nb + 3 + x + 2<=a.size + b.size))
   ?istep ?ifin ⟨m1,out,na,nb,0,0,rfl,v,h1,h2,by omega⟩) ?ipost)
  case ifin =>
   rintro c st' ⟨m,out,na,nb,n1,n2,rfl,v,h1,h2,h3⟩
   exact ⟨m,.inr ⟨out,na,nb,n1,n2,rfl,v,h1,h2,by omega⟩⟩
  case istep =>
   rintro y c st' - hy ⟨m,out,na,nb,n1,n2,rfl,v,h1,h2,h3⟩
   dsimp only
   obtain ⟨p,hp⟩:=fG (a:=a) (i:=na) (by omega)
   obtain ⟨q,hq⟩:=fG (a:=b) (i:=nb + 1) (by omega)
   refine ay (fF hq (ay (fF hp (ay (OG hC (m.1.trans hk) (t.lb q (eL hq)) (t.la p (eL hp)) ?_)))))
   dsimp only
   by_cases hlt:rk q.1<rk p.1
   ·rw [if_pos (by simpa using hlt)]
    refine ay (fF hp ?_)
    have v':=v.pushA t hp hq hlt
    refine jV (m:=na) (n:=0) (fun e3=>aP ⟨m,.inl ⟨_,_,rfl,v'.done e3⟩⟩) fun e3=>?_
    obtain ⟨na,rfl⟩:∃ n,na=n + 1:=⟨na - 1,by omega⟩
    exact eD (fun _=>aP ⟨m,.inr ⟨_,na,nb,_,_,rfl,v',by omega,by omega,by omega⟩⟩) fun _=>aP ⟨m,_,na,nb,_,_,rfl,v',by omega,by omega,by omega⟩
   ·rw [if_neg (by simpa using hlt)]
    have hlt':rk p.1<rk q.1:=by have:=t.ne p (eL hp) q (eL hq);omega
    refine ay (fF hq ?_)
    have v':=v.pushB t hp hq hlt'
    refine jV (m:=nb + 1) (n:=1) (fun e3=>aP ⟨m,.inl ⟨_,_,rfl,v'.last hq1 e3 hl⟩⟩) fun e3=>?_
    obtain ⟨nb,rfl⟩:∃ n,nb=n + 1:=⟨nb - 1,by omega⟩
    exact eD (fun _=>aP ⟨m,.inr ⟨_,na,nb,_,_,rfl,v',by omega,by omega,by omega⟩⟩) fun _=>aP ⟨m,_,na,nb,_,_,rfl,v',by omega,by omega,by omega⟩
  case ipost =>
   rintro c st2 ⟨m2,⟨r,z,rfl,f⟩ | ⟨out,na,nb,n1,n2,rfl,v,h1,h2,h3⟩⟩
   ·exact aP ⟨m2,r,_,rfl,f⟩
   refine ay (sO (df ⟨rfl,?_⟩))
   refine ay (eA (cQ
    (I:=fun y c st'=>Sm st st'/\∃ out na nb g n1 n2,c=(none,na + 1,nb + 2,out,g,n1,n2)/\W rk a b out (na + 1) (nb + 2)/\na + 1<=a.size/\nb + 2<=b.size/\na + nb + 3 + x + 2<=a.size + b.size)
    (Q:=fun c st'=>Sm st st'/\((∃ r z,c=(some r,z)/\oN rk a b r)\/∃ out na nb g n1 n2,c=(none,na + 1,nb + 2,out,g,n1,n2)/\W rk a b out (na + 1) (nb + 2)/\na + 1<=a.size/\nb + 2<=b.size/\na + nb + 3 + x + 2<=a.size + b.size))
    ?gstep ?gfin ⟨m2,out,na,nb,_,n1,n2,rfl,v,h1,h2,by omega⟩) ?gpost)
   case gfin =>
    rintro c st' ⟨m,out,na,nb,g,n1,n2,rfl,v,h1,h2,h3⟩
    exact ⟨m,.inr ⟨out,na,nb,g,n1,n2,rfl,v,h1,h2,h3⟩⟩
   case gpost =>
    rintro c st2 ⟨m2,⟨r,z,rfl,f⟩ | ⟨out,na,nb,g,n1,n2,rfl,v,h1,h2,h3⟩⟩
    ·exact aP ⟨m2,r,_,rfl,f⟩
    exact ay (Da m2 fun st' m'=>aP ⟨m',out,na,nb,_,rfl,v,h1,h2,by omega⟩)
   case gstep =>
    rintro y c st' - hy ⟨m,out,na,nb,g,n1,n2,rfl,v,h1,h2,h3⟩
    extract_lets s1 na' s2 nb' s3 out' s4 g' s5 n1' n2' nb1 jp
    have J:∀ g,wpS (ax prog w) A E s (jp () g) (HP rk a b x st) st':=by
     intro g
     obtain ⟨q,hq⟩:=fG (a:=b) (i:=nb + 1) (by omega)
     have sa:=t.sa.run (b:=0) (n:=na + 1) t.la (by omega)
     have ne1:∀ i,i<na + 1->dH rk a (0 + i)≠rk q.1:=fun i hi=>by
      obtain ⟨p,hp⟩:=fG (a:=a) (i:=0 + i) (by omega)
      rw [bI hp];exact t.ne p (eL hp) q (eL hq)
     refine ay (Da m fun st' m'=>?_)
     refine ay (fF (a:=b) (i:=nb + 1) hq ?_)
     refine ay (oM (a:=a) (b:=0) (n:=na + 1) (h:=na) hC (m'.1.trans hk) sa (t.lb q (eL hq)) ne1 (by omega) fun k k1 k2 k3=>?_)
     have v1:=v.moreA t hq k1 k3
     dsimp (config:={ zeta:=false }) only
     extract_lets kk nn jp1
     have J1:∀ out i,k=i + 1->W rk a b out (i + 1) (nb + 2)->wpS (ax prog w) A E s (jp1 () (i + 1) out) (HP rk a b x st) st':=by
      intro out i ei v1
      obtain ⟨p,hp⟩:=fG (a:=a) (i:=i) (by omega)
      have hpq:rk p.1<rk q.1:=by
       have:=k2 i (by omega)
       rwa [e8,bI hp] at this
      refine ay (fF (a:=b) (i:=nb + 1) hq ?_)
      have v2:=v1.pushB t hp hq hpq
      refine jV (m:=nb + 1) (n:=1) (fun e=>aP ⟨m',.inl ⟨_,_,rfl,v2.last hq1 e hl⟩⟩) fun e=>?_
      refine ay (fF (a:=a) (i:=i) hp ?_)
      have sb:=t.sb.run (b:=0) (n:=nb + 1) t.lb (by omega)
      have ne2:∀ i,i<nb + 1->dH rk b (0 + i)≠rk p.1:=fun i hi=>by
       obtain ⟨q',hq'⟩:=fG (a:=b) (i:=0 + i) (by omega)
       rw [bI hq'];exact fun e=>t.ne p (eL hp) q' (eL hq') e.symm
      refine ay (oM (a:=b) (b:=0) (n:=nb + 1) (h:=nb) hC (m'.1.trans hk) sb (t.la p (eL hp)) ne2 (by omega) fun k' c1 c2 c3=>?_)
      have v3:=v2.moreB t hp c1 c3
      have c4:0<k':=by
       rcases fW k' with e | e
       ·have h4:=c3 0 (by omega) (by omega)
        rw [bI hq1] at h4
        have h5:=hl p (eL hp)
        omega
       ·exact e
      dsimp (config:={ zeta:=false }) only
      extract_lets kk' nn' ia1 jp2
      have J2:∀ out j,k'=j + 2->W rk a b out (i + 1) (j + 2)->wpS (ax prog w) A E s (jp2 () (j + 2) out) (HP rk a b x st) st':=by
       intro out j ej v3
       obtain ⟨q',hq'⟩:=fG (a:=b) (i:=j + 1) (by omega)
       have hqp:rk q'.1<rk p.1:=by
        have:=c2 (j + 1) (by omega)
        rwa [e8,bI hq'] at this
       have v4:=v3.pushA t hp hq' hqp
       refine ay (fF (a:=a) (i:=i) hp ?_)
       refine jV (m:=i) (n:=0) (fun e=>aP ⟨m',.inl ⟨_,_,rfl,v4.done e⟩⟩) fun e=>?_
       obtain ⟨i,rfl⟩:∃ n,i=n + 1:=⟨i - 1,by omega⟩
       exact eD (fun _=>aP ⟨m',.inr ⟨_,i,j,_,_,_,rfl,v4,by omega,by omega,by omega⟩⟩) fun _=>aP ⟨m',_,i,j,_,_,_,rfl,v4,by omega,by omega,by omega⟩
      refine eD (fun _=>?_) fun hz=>?_
      ·refine jV (m:=k') (n:=1) (fun e=>aP ⟨m',.inl ⟨_,_,rfl,v3.last hq1 e hl⟩⟩) fun e=>?_
       refine jV (m:=k') (n:=0) (fun e=>by omega) fun e=>?_
       obtain ⟨j,rfl⟩:∃ j,k'=j + 2:=⟨k' - 2,by omega⟩
       exact J2 _ j rfl v3
      ·have hz':¬ nb + 1 - k' > 0:=hz
       obtain ⟨j,rfl⟩:∃ j,nb=j + 1:=⟨nb - 1,by omega⟩
       exact J2 _ j (by omega) v2
     refine eD (fun _=>?_) fun hz=>?_
     ·refine jV (m:=k) (n:=0) (fun e=>aP ⟨m',.inl ⟨_,_,rfl,v1.done e⟩⟩) fun e=>?_
      obtain ⟨j,rfl⟩:∃ j,k=j + 1:=⟨k - 1,by omega⟩
      exact J1 _ j rfl v1
     ·have hz':¬ na + 1 - k > 0:=hz
      exact J1 _ na (by omega) v
    exact eA (eD (fun _=>J _) fun _=>J _) fun r _ hh=>by cases r<;>exact hh
end
end
section
def UO:Nat->Nat->StateT ed Sem (Option Nat):=sortPriv% PySem.Builtin.countRun
def Yv:Nat->Nat->Nat->StateT ed Sem Bool:=sortPriv% PySem.Builtin.binarySort
structure Bs (kd:mZ) (L:List cz) (st:ed):Prop where
 kind:kindOf st=kd
 perm:(aN st).toList.Perm L
 ok:wl st=none
def Up (rk:aa->Nat) (a:Array cz) (lo n:Nat):Prop:=∀ i j,lo<=i->i<j->j<lo + n->dH rk a i<dH rk a j
def Dn (rk:aa->Nat) (a:Array cz) (lo n:Nat):Prop:=∀ i j,lo<=i->i<j->j<lo + n->dH rk a j<dH rk a i
section
variable {prog:aK}{w:bc}{A:aX}{E:aa->af->Prop}{s:af}{kd:mZ}{rk:aa->Nat}{L:List cz}{st:ed}{a:Array cz}
theorem Bs.size (B:Bs kd L st):(aN st).size=L.length:=by rw [<- B.perm.length_eq];simp
theorem Bs.get (B:Bs kd L st) (hi:i<L.length):∃ p,(aN st)[i]?=some p/\p∈L:=by
 obtain ⟨p,hp⟩:=fG (a:=aN st) (i:=i) (by rw [B.size];exact hi)
 exact ⟨p,hp,B.perm.mem_iff.1 (eL hp)⟩
theorem Bs.ne (B:Bs kd L st) (hn:(L.map fun p=>rk p.1).Nodup) (hi:i<L.length) (hj:j<L.length) (h:i≠j):dH rk (aN st) i≠dH rk (aN st) j:=by
 have hn':=(B.perm.map fun p=>rk p.1).nodup_iff.2 hn
 obtain ⟨p,hp,_⟩:=B.get hi
 obtain ⟨q,hq,_⟩:=B.get hj
 rw [bI hp,bI hq]
 intro e
 have h1:((aN st).toList.map fun p=>rk p.1)[i]?=some (rk p.1):=by rw [aT,aQ,hp];rfl
 have h2:((aN st).toList.map fun p=>rk p.1)[j]?=some (rk p.1):=by rw [aT,aQ,hq,e];rfl
 obtain ⟨l1,h1⟩:=oy.1 h1
 obtain ⟨l2,h2⟩:=oy.1 h2
 exact h ((PM hn').1 (h1.trans h2.symm))
theorem Bs.put (B:Bs kd L st) (h:xs.Perm (aN st)):Bs kd L (setArr st xs):=⟨B.kind,(Array.perm_iff_toList_perm.1 h).trans B.perm,B.ok⟩
theorem wF  (hC:Cp prog w A s kd rk L) (B:Bs kd L st) (hi:i<L.length) (hj:j<L.length)
  (h:Q (some (decide (dH rk (aN st) i<dH rk (aN st) j))) st):wpS (ax prog w) A E s (ltAt' i j) Q st:=by
 obtain ⟨p,hp,lp⟩:=B.get hi
 obtain ⟨q,hq,lq⟩:=B.get hj
 rw [bI hp,bI hq] at h
 rw [ltAt'_eq]
 exact ay (mU (ay (fF hp (ay (fF hq (OG hC B.kind lp lq h))))))
theorem jt  (h:a[i]?=b[j]?):dH rk a i=dH rk b j:=by unfold dH;rw [h]
theorem xq (hj:j<=a.size) (k:Nat):dH rk (GC a i j ((j - i) / 2)) k=if i<=k/\k<j then dH rk a (i + j - 1 - k) else dH rk a k:=by
 have e:=getElem?_mirror_all (i:=i) hj k
 by_cases h:i<=k/\k<j
 ·rw [if_pos h] at e ⊢;exact jt e
 ·rw [if_neg h] at e ⊢;exact jt e
theorem xr (hs:src<a.size) (hd:d<=src) (k:Nat) :
  dH rk (bubble a src d) k=if k=src - d then dH rk a src else if src - d<k/\k<=src then dH rk a (k - 1) else dH rk a k:=by
 have e:=getElem?_bubble hs d hd k
 by_cases h:k=src - d
 ·rw [if_pos h] at e ⊢;exact jt e
 ·rw [if_neg h] at e ⊢
  by_cases h2:src - d<k/\k<=src
  ·rw [if_pos h2] at e ⊢;exact jt e
  ·rw [if_neg h2] at e ⊢;exact jt e
theorem Up.more {lo n:Nat} (u:Up rk a lo n) (h:1<=n->dH rk a (lo + n - 1)<dH rk a (lo + n)):Up rk a lo (n + 1):=by
 intro i j h1 h2 h3
 rcases cJ j (lo + n) with h4 | h4
 ·exact u i j h1 h2 h4
 ·obtain rfl:j=lo + n:=by omega
  rcases cJ i (lo + n - 1) with h5 | h5
  ·exact eQ (u i (lo + n - 1) h1 h5 (by omega)) (h (by omega))
  ·rw [show i=lo + n - 1 by omega];exact h (by omega)
theorem Dn.more {lo n:Nat} (u:Dn rk a lo n) (h:1<=n->dH rk a (lo + n)<dH rk a (lo + n - 1)):Dn rk a lo (n + 1):=by
 intro i j h1 h2 h3
 rcases cJ j (lo + n) with h4 | h4
 ·exact u i j h1 h2 h4
 ·obtain rfl:j=lo + n:=by omega
  rcases cJ i (lo + n - 1) with h5 | h5
  ·exact eQ (h (by omega)) (u i (lo + n - 1) h1 h5 (by omega))
  ·rw [show i=lo + n - 1 by omega];exact h (by omega)
def Kp (lo:Nat) (a b:Array cz):Prop:=∀ i,i<lo->b[i]?=a[i]?
theorem Jv {lo r:Nat}{Q:Option Nat->ed->Prop} (hC:Cp prog w A s kd rk L) (hn:(L.map fun p=>rk p.1).Nodup) (B:Bs kd L st) (h1:1<=r) (hr:lo + r<=L.length)
  (h:∀ n st',Bs kd L st'->bU st'=bU st->Kp lo (aN st) (aN st')->1<=n->n<=r->Up rk (aN st') lo n->Q (some n) st') :
  wpS (ax prog w) A E s (UO lo r) Q st:=by
 refine ay (eA (cQ (I:=fun x c st'=>st'=st/\c=(none,x)/\Up rk (aN st) lo x)
  (Q:=fun c st'=>st'=st/\∃ n,c=(none,n)/\1<=n/\n<=r/\Up rk (aN st) lo n/\(n=r\/dH rk (aN st) (lo + n)<dH rk (aN st) (lo + n - 1))) ?_ ?_ ⟨rfl,rfl,fun i j h1 h2 h3=>by omega⟩) ?_)
 ·rintro x c st' hx1 hx2 ⟨rfl,rfl,u⟩
  refine ay (wF (i:=lo + x) (j:=lo + x - 1) hC B (by omega) (by omega) ?_)
  by_cases hl:dH rk (aN st') (lo + x)<dH rk (aN st') (lo + x - 1)
  ·exact eD (fun _=>aP ⟨rfl,x,rfl,hx1,by omega,u,.inr hl⟩) fun h=>absurd (by simpa using hl) h
  ·refine eD (fun h=>absurd (by simpa using h) hl) fun _=>aP ⟨rfl,rfl,u.more fun _=>?_⟩
   have:=B.ne hn (i:=lo + x) (j:=lo + x - 1) (by omega) (by omega) (by omega)
   omega
 ·rintro c st' ⟨rfl,rfl,u⟩
  rw [show max 1 r=r by omega] at u ⊢
  exact ⟨rfl,r,rfl,h1,ar _,u,.inl rfl⟩
 rintro c st' ⟨rfl,n,rfl,n1,n2,u,e⟩
 refine jV (m:=n) (n:=r) (fun e=>aP (h n st' B rfl (fun _ _=>rfl) n1 n2 u)) fun ne=>?_
 have e:=e.resolve_left ne
 extract_lets jp
 refine eD (fun hg=>?_) fun hg=>?_
 ·refine ay (wF (i:=lo) (j:=lo + n - 1) hC B (by omega) (by omega) ?_)
  have hl:dH rk (aN st') lo<dH rk (aN st') (lo + n - 1):=u lo (lo + n - 1) (ar _) (by have:n > 1:=hg;omega) (by have:n > 1:=hg;omega)
  exact eD (fun _=>aP (h n st' B rfl (fun _ _=>rfl) n1 n2 u)) fun h=>absurd (by simpa using hl) h
 obtain rfl:n=1:=by have:¬ n > 1:=hg;omega
 refine ay (sO (df ⟨rfl,?_⟩))
 refine ay (eA (cQ (I:=fun x c st''=>st''=st'/\c=(none,x,0)/\Dn rk (aN st') lo x)
  (Q:=fun c st''=>st''=st'/\∃ n,c=(none,n,0)/\1<=n/\n<=r/\Dn rk (aN st') lo n) ?_ ?_ ⟨rfl,rfl,Dn.more (n:=1) (fun i j h1 h2 h3=>by omega) fun _=>e⟩) ?_)
 ·rintro x c st'' hx1 hx2 ⟨rfl,rfl,u⟩
  refine ay (wF (i:=lo + x) (j:=lo + x - 1) hC B (by omega) (by omega) ?_)
  by_cases hl:dH rk (aN st'') (lo + x)<dH rk (aN st'') (lo + x - 1)
  ·refine eD (fun _=>?_) fun h=>absurd (by simpa using hl) h
   exact eD (fun h=>absurd h (bW 0)) fun _=>aP ⟨rfl,rfl,u.more fun _=>hl⟩
  ·refine eD (fun h=>absurd (by simpa using h) hl) fun _=>?_
   refine ay (wF (i:=lo + x - 1) (j:=lo + x) hC B (by omega) (by omega) ?_)
   have:=B.ne hn (i:=lo + x) (j:=lo + x - 1) (by omega) (by omega) (by omega)
   have hl':dH rk (aN st'') (lo + x - 1)<dH rk (aN st'') (lo + x):=by omega
   exact eD (fun _=>aP ⟨rfl,x,rfl,by omega,by omega,u⟩) fun h=>absurd (by simpa using hl') h
 ·rintro c st'' ⟨rfl,rfl,u⟩
  rw [show max (1 + 1) r=r by omega] at u ⊢
  exact ⟨rfl,r,rfl,h1,ar _,u⟩
 rintro c st'' ⟨rfl,n,rfl,n1,n2,d⟩
 refine eD (fun h=>absurd h (bW 0)) fun _=>?_
 refine ay (pf (f:=fun s=>setArr s (GC (aN s) lo (lo + n) ((lo + n - lo) / 2))) ?_)
 have hsz:lo + n<=(aN st'').size:=by rw [B.size];omega
 have B':Bs kd L (setArr st'' (GC (aN st'') lo (lo + n) ((lo + n - lo) / 2))):=B.put (mirror_perm _ _ _ _)
 have kp:Kp lo (aN st'') (GC (aN st'') lo (lo + n) ((lo + n - lo) / 2)):=fun i hi=>by
  rw [getElem?_mirror_all hsz,if_neg (by omega)]
 have up:Up rk (GC (aN st'') lo (lo + n) ((lo + n - lo) / 2)) lo n:=by
  intro i j h1 h2 h3
  rw [xq hsz,xq hsz,if_pos (by omega),if_pos (by omega)]
  exact d _ _ (by omega) (by omega) (by omega)
 generalize hst:setArr st'' (GC (aN st'') lo (lo + n) ((lo + n - lo) / 2))=st3 at B'
 have har:aN st3=GC (aN st'') lo (lo + n) ((lo + n - lo) / 2):=by rw [<- hst]
 have hpe:bU st3=bU st'':=by rw [<- hst]
 rw [<- har] at kp up
 refine ay (eA (cQ (I:=fun x c st'=>st'=st3/\c=(none,x)/\Up rk (aN st3) lo x)
  (Q:=fun c st'=>st'=st3/\∃ n,c=(none,n)/\1<=n/\n<=r/\Up rk (aN st3) lo n) ?_ ?_ ⟨rfl,rfl,up⟩) ?_)
 ·rintro x c st' hx1 hx2 ⟨rfl,rfl,u⟩
  have hx1:n<=x:=hx1
  refine ay (wF (i:=lo + x) (j:=lo + x - 1) hC B' (by omega) (by omega) ?_)
  by_cases hl:dH rk (aN st') (lo + x)<dH rk (aN st') (lo + x - 1)
  ·exact eD (fun _=>aP ⟨rfl,x,rfl,by omega,by omega,u⟩) fun h=>absurd (by simpa using hl) h
  ·refine eD (fun h=>absurd (by simpa using h) hl) fun _=>aP ⟨rfl,rfl,u.more fun _=>?_⟩
   have:=B'.ne hn (i:=lo + x) (j:=lo + x - 1) (by omega) (by omega) (by omega)
   omega
 ·rintro c st' ⟨rfl,rfl,u⟩
  rw [show max n r=r by omega] at u ⊢
  exact ⟨rfl,r,rfl,h1,ar _,u⟩
 rintro c st' ⟨rfl,n,rfl,n1,n2,u⟩
 exact aP (h n st' B' hpe kp n1 n2 u)
theorem Tb {lo n k0:Nat}{Q:Bool->ed->Prop} (hC:Cp prog w A s kd rk L) (hn:(L.map fun p=>rk p.1).Nodup) (B:Bs kd L st) (hr:lo + n<=L.length) (hk:1<=k0) (hkn:k0<=n) (u:Up rk (aN st) lo k0)
  (h:∀ st',Bs kd L st'->bU st'=bU st->Kp lo (aN st) (aN st')->Up rk (aN st') lo n->Q true st') :
  wpS (ax prog w) A E s (Yv lo n k0) Q st:=by
 refine ay (eA (cQ (I:=fun k c st'=>c=(none,())/\Bs kd L st'/\bU st'=bU st/\Kp lo (aN st) (aN st')/\Up rk (aN st') lo k)
  (Q:=fun c st'=>c=(none,())/\Bs kd L st'/\bU st'=bU st/\Kp lo (aN st) (aN st')/\Up rk (aN st') lo n) ?step ?fin ⟨rfl,B,rfl,fun _ _=>rfl,by rw [show max k0 1=k0 by omega];exact u⟩) ?post)
 case post =>
  rintro c st' ⟨rfl,B',pe,kp,u⟩
  exact aP (h st' B' pe kp u)
 case fin =>
  rintro c st' ⟨rfl,B',pe,kp,u⟩
  rw [show max (max k0 1) n=n by omega] at u
  exact ⟨rfl,B',pe,kp,u⟩
 case step =>
  rintro k c st1 hk1 hk2 ⟨rfl,B',pe,kp,u⟩
  refine ay (eA (cQ (I:=fun x c st''=>st''=st1/\∃ l r,c=(none,l,r)/\l<=r/\r<=k/\r - l<=k - x /\
    (∀ i,i<l->dH rk (aN st1) (lo + i)<dH rk (aN st1) (lo + k))/\(∀ i,r<=i->i<k->dH rk (aN st1) (lo + k)<dH rk (aN st1) (lo + i)))
   (Q:=fun c st''=>st''=st1/\∃ l r,c=(none,l,r)/\l<=k /\
    (∀ i,i<l->dH rk (aN st1) (lo + i)<dH rk (aN st1) (lo + k))/\(∀ i,l<=i->i<k->dH rk (aN st1) (lo + k)<dH rk (aN st1) (lo + i))) ?_ ?_ ⟨rfl,0,k,rfl,by omega,by omega,by omega,fun i hi=>by omega,fun i h1 h2=>by omega⟩) ?_)
  ·rintro x c st' - hx ⟨rfl,l,r,rfl,a1,a2,a3,a4,a5⟩
   refine eD (fun hg=>?_) fun hg=>?_
   ·have hg:l ≥ r:=hg
    obtain rfl:l=r:=by omega
    exact aP ⟨rfl,l,l,rfl,a2,a4,a5⟩
   have hg:¬ l ≥ r:=hg
   refine ay (wF (i:=lo + k) (j:=lo + (l + r) / 2) hC B' (by omega) (by omega) ?_)
   by_cases hl:dH rk (aN st') (lo + k)<dH rk (aN st') (lo + (l + r) / 2)
   ·refine eD (fun _=>aP ⟨rfl,l,(l + r) / 2,rfl,by omega,by omega,by omega,a4,fun i h1 h2=>?_⟩) fun h=>absurd (by simpa using hl) h
    rcases cJ ((l + r) / 2) i with h3 | h3
    ·exact eQ hl (u _ _ (by omega) (by omega) (by omega))
    ·rw [show i=(l + r) / 2 by omega];exact hl
   ·refine eD (fun h=>absurd (by simpa using h) hl) fun _=>aP ⟨rfl,(l + r) / 2 + 1,r,rfl,by omega,by omega,by omega,fun i h1=>?_,a5⟩
    have ne:=B'.ne hn (i:=lo + k) (j:=lo + (l + r) / 2) (by omega) (by omega) (by omega)
    have hl':dH rk (aN st') (lo + (l + r) / 2)<dH rk (aN st') (lo + k):=by omega
    rcases cJ i ((l + r) / 2) with h3 | h3
    ·exact eQ (u _ _ (by omega) (by omega) (by omega)) hl'
    ·rw [show i=(l + r) / 2 by omega];exact hl'
  ·rintro c st' ⟨rfl,l,r,rfl,a1,a2,a3,a4,a5⟩
   obtain rfl:l=r:=by omega
   exact ⟨rfl,l,l,rfl,a2,a4,a5⟩
  ·rintro c st' ⟨rfl,l,r,rfl,a2,a4,a5⟩
   refine ay (pf (f:=fun s=>setArr s (bubble (aN s) (lo + k) (lo + k - (lo + l)))) (aP ⟨rfl,B'.put (bubble_perm _ _ _),pe,?_,?_⟩))
   ·intro i hi
    rw [<- kp i hi]
    show (bubble (aN st') (lo + k) (lo + k - (lo + l)))[i]?=_
    rw [getElem?_bubble (by rw [B'.size];omega) _ (by omega),if_neg (by omega),if_neg (by omega)]
   ·intro i j h1 h2 h3
    show dH rk (bubble (aN st') (lo + k) (lo + k - (lo + l))) i<dH rk (bubble (aN st') (lo + k) (lo + k - (lo + l))) j
    have hs:lo + k<(aN st').size:=by rw [B'.size];omega
    rw [xr hs (by omega),xr hs (by omega),show lo + k - (lo + k - (lo + l))=lo + l by omega]
    repeat' split
    all_goals first
     | (exfalso;omega)
     | exact u _ _ (by omega) (by omega) (by omega)
     | (have:=a5 (j - 1 - lo) (by omega) (by omega);rwa [show lo + (j - 1 - lo)=j - 1 by omega] at this)
     | (have:=a4 (i - lo) (by omega);rwa [show lo + (i - lo)=i by omega] at this)
end
end
section
def UP:Nat->StateT ed Sem Bool:=sortPriv% PySem.Builtin.mergeAt
section
variable {prog:aK}{w:bc}{A:aX}{E:aa->af->Prop}{s:af}{kd:mZ}{rk:aa->Nat}{L:List cz}{st:ed}{a:Array cz}
theorem Jw (c:Nat):∀ (l:List cz) (i:Nat) (a:Array cz),c + i + l.length<=a.size ->
  ((l.zipIdx i).foldl (fun a x=>match x with | (p,j)=>a.setIfInBounds (c + j) p) a).toList=a.toList.take (c + i)++l++a.toList.drop (c + i + l.length)
 | [],i,a,_=>by simp
 | p::l,i,a,h=>by
  have hl:(p::l).length=l.length + 1:=rfl
  rw [yc,cP,Jw c l (i + 1) _ (by rw [Ci];omega)]
  dsimp only
  rw [Au,show c + (i + 1)=c + i + 1 by omega,hl,show c + i + (l.length + 1)=c + i + 1 + l.length by omega]
  rw [List.drop_set_of_lt (by omega)]
  have e:List.take (c + i + 1) (a.toList.set (c + i) p)=a.toList.take (c + i)++[p]:=by
   rw [Mx,List.take_set_of_le (ar _),aG (by simp;omega)]
   rfl
  rw [e];simp
theorem WU  (h:Q ⟨⟩ st'):wpS (ax prog w) A E s (set st':StateT ed Sem PUnit) Q st:=by
 unfold wpS;exact a9 ⟨rfl,h⟩
theorem Ho  (h:(a.extract i j)[k]?=some p):i + k<j/\a[i + k]?=some p:=by
 rw [i9] at h
 split at h
 ·exact ⟨by omega,h⟩
 ·cases h
theorem Up.srt {i j lo n:Nat} (u:Up rk a lo n) (h1:lo<=i) (h2:j<=lo + n):Ru rk (a.extract i j):=by
 intro x y p q hxy hp hq
 obtain ⟨l1,e1⟩:=Ho hp
 obtain ⟨l2,e2⟩:=Ho hq
 rw [<- bI (rk:=rk) e1,<- bI (rk:=rk) e2]
 exact u _ _ (by omega) (by omega) (by omega)
theorem jW  (h:p∈(a.extract i j).toList):∃ k,i<=k/\k<j/\a[k]?=some p:=by
 obtain ⟨k,hk⟩:=kZ.1 h
 rw [aQ] at hk
 obtain ⟨h1,h2⟩:=Ho hk
 exact ⟨i + k,by omega,h1,h2⟩
theorem Bs.ne' (B:Bs kd L st) (hn:(L.map fun p=>rk p.1).Nodup) {i j:Nat}{p q:cz} (hi:(aN st)[i]?=some p) (hj:(aN st)[j]?=some q) (h:i≠j):rk p.1≠rk q.1:=by
 have l1:i<L.length:=by rw [<- B.size];exact (fM.1 hi).1
 have l2:j<L.length:=by rw [<- B.size];exact (fM.1 hj).1
 have:=B.ne hn l1 l2 h
 rwa [bI hi,bI hj] at this
theorem OK (x y z:Nat×Nat×Nat):((#[x,y].setIfInBounds 0 z).eraseIdxIfInBounds (0 + 1)).size=1:=by
 simp [Array.eraseIdxIfInBounds]
theorem WV (h:a.toList.Pairwise (UN rk)):Up rk a 0 a.size:=by
 intro i j _ h2 h3
 obtain ⟨p,hp⟩:=fG (a:=a) (i:=i) (by omega)
 obtain ⟨q,hq⟩:=fG (a:=a) (i:=j) (by omega)
 rw [bI hp,bI hq]
 rw [oz] at h
 have:=h i j (by simp;omega) (by simp;omega) h2
 obtain ⟨_,rfl⟩:=fM.1 hp
 obtain ⟨_,rfl⟩:=fM.1 hq
 exact this
theorem Lg {n m pw:Nat}{Q:Bool->ed->Prop} (hC:Cp prog w A s kd rk L) (hn:(L.map fun p=>rk p.1).Nodup) (B:Bs kd L st)
  (pe:bU st=#[(0,n,pw),(n,m,0)]) (h1:0<n) (h2:0<m) (hr:n + m=L.length) (u1:Up rk (aN st) 0 n) (u2:Up rk (aN st) n m)
  (h:∀ st',Bs kd L st'->(bU st').size=1->Up rk (aN st') 0 L.length->Q true st'):wpS (ax prog w) A E s (UP 0) Q st:=by
 have sz:=B.size
 obtain ⟨q0,hq0,lq0⟩:=B.get (i:=n) (by omega)
 have mem:∀ {i p},(aN st)[i]?=some p->p∈L:=fun e=>B.perm.mem_iff.1 (eL e)
 refine ay (mU ?_)
 rw [show (sortPriv% PySem.Builtin.SortState.pending) st=#[(0,n,pw),(n,m,0)] from pe]
 refine ay (WU ?_)
 refine ay (fF hq0 ?_)
 have r1:WS rk L (aN st) 0 n (fun i=>dH rk (aN st) (0 + i)):=⟨fun i hi=>by
  obtain ⟨p,hp,lp⟩:=B.get (i:=0 + i) (by omega)
  exact ⟨p,hp,lp,(bI hp).symm⟩,fun i j hij hj=>u1 _ _ (by omega) (by omega) (by omega)⟩
 have r2:WS rk L (aN st) n m (fun i=>dH rk (aN st) (n + i)):=⟨fun i hi=>by
  obtain ⟨p,hp,lp⟩:=B.get (i:=n + i) (by omega)
  exact ⟨p,hp,lp,(bI hp).symm⟩,fun i j hij hj=>u2 _ _ (by omega) (by omega) (by omega)⟩
 refine ay (oM (a:=aN st) (b:=0) (n:=n) (h:=0) hC B.kind r1 lq0 (fun i hi=>?_) h1 fun k k1 k2 k3=>?_)
 ·have:=B.ne hn (i:=0 + i) (j:=n) (by omega) (by omega) (by omega)
  rwa [bI hq0] at this
 refine jV (m:=n - k) (n:=0) (fun e=>aP (h _ ⟨B.kind,B.perm,B.ok⟩ (OK ..) ?_)) fun e=>?_
 ·intro i j _ hij hj
  rcases cJ j n with c1 | c1
  ·exact u1 i j (by omega) hij (by omega)
  ·rcases cJ i n with c2 | c2
   ·have c3:=k2 i (by omega)
    rw [e8] at c3
    show dH rk (aN st) i<dH rk (aN st) j
    rcases cJ n j with c4 | c4
    ·have c5:=u2 n j (by omega) c4 (by omega)
     rw [bI hq0] at c5;omega
    ·rw [show j=n by omega,bI hq0];exact c3
   ·exact u2 i j (by omega) hij (by omega)
 obtain ⟨p0,hp0,lp0⟩:=B.get (i:=n - 1) (by omega)
 refine ay (fF (i:=0 + k + (n - k) - 1) (by rw [show 0 + k + (n - k) - 1=n - 1 by omega];exact hp0) ?_)
 refine ay (oM (a:=aN st) (b:=n) (n:=m) (h:=m - 1) hC B.kind r2 lp0 (fun i hi=>?_) (by omega) fun k' c1 c2 c3=>?_)
 ·have:=B.ne hn (i:=n + i) (j:=n - 1) (by omega) (by omega) (by omega)
  rwa [bI hp0] at this
 have c0:0<k':=by
  rcases fW k' with e0 | e0
  ·have c4:=c3 0 (by omega) (by omega)
   have c5:=k3 (n - 1) (by omega) (by omega)
   rw [e8,bI hp0] at c5
   rw [mY,bI hq0] at c4
   omega
  ·exact e0
 refine jV (m:=k') (n:=0) (fun e=>by omega) fun _=>?_
 have t:OI rk L ((aN st).extract (0 + k) n) ((aN st).extract n (n + k')):=by
  refine ⟨u1.srt (by omega) (by omega),u2.srt (by omega) (by omega),fun p hp=>?_,fun p hp=>?_,fun p hp q hq=>?_⟩
  ·obtain ⟨_,_,_,e⟩:=jW hp;exact mem e
  ·obtain ⟨_,_,_,e⟩:=jW hp;exact mem e
  ·obtain ⟨_,_,_,e1⟩:=jW hp
   obtain ⟨_,_,_,e2⟩:=jW hq
   exact B.ne' hn e1 e2 (by omega)
 have za:((aN st).extract (0 + k) n).size=n - k:=by rw [Km];omega
 have zb:((aN st).extract n (n + k')).size=k':=by rw [Km];omega
 obtain ⟨pk,hpk,_⟩:=B.get (i:=0 + k) (by omega)
 obtain ⟨ql,hql,_⟩:=B.get (i:=n + (k' - 1)) (by omega)
 have e1:((aN st).extract (0 + k) n)[0]?=some pk:=by rw [i9,if_pos (by omega)];exact hpk
 have e2:((aN st).extract n (n + k'))[0]?=some q0:=by rw [i9,if_pos (by omega)];exact hq0
 have e3:((aN st).extract (0 + k) n)[((aN st).extract (0 + k) n).size - 1]?=some p0:=by
  rw [za,i9,if_pos (by omega),show 0 + k + (n - k - 1)=n - 1 by omega];exact hp0
 have e4:((aN st).extract n (n + k'))[((aN st).extract n (n + k')).size - 1]?=some ql:=by
  rw [zb,i9,if_pos (by omega)];exact hql
 have g1:rk q0.1<rk pk.1:=by
  have:=k3 k (ar _) (by omega)
  rwa [bI hpk] at this
 have g2:∀ y∈((aN st).extract n (n + k')).toList,rk y.1<rk p0.1:=fun y hy=>by
  obtain ⟨j,j1,j2,e⟩:=jW hy
  have:=c2 (j - n) (by omega)
  rwa [show n + (j - n)=j by omega,bI e] at this
 have g3:∀ y∈((aN st).extract (0 + k) n).toList,rk q0.1<rk y.1:=fun y hy=>by
  obtain ⟨j,j1,j2,e⟩:=jW hy
  have:=k3 j (by omega) (by omega)
  rwa [e8,bI e] at this
 extract_lets x y jp
 have J:∀ r st',kindOf st'=kd->aN st'=aN st->wl st'=none->(bU st').size=1->oN rk ((aN st).extract (0 + k) n) ((aN st).extract n (n + k')) r->wpS (ax prog w) A E s (jp r) Q st':=by
  rintro r st' z1 z2 z3 z4 ⟨f1,f2⟩
  have rl:r.toList.length=n - k + k':=by rw [f1.length_eq,aM,aq,aq,za,zb]
  have pa:=Jw (0 + k) r.toList 0 (aN st') (by rw [z2,rl];omega)
  refine ay (pf (ay (mU (aP ?_))))
  have e5:(wl st').isNone=true:=by rw [z3];rfl
  show Q ((wl st').isNone) _
  rw [e5]
  generalize hb:List.foldl (fun a x=>match x with | (p,j)=>a.setIfInBounds (0 + k + j) p) (aN st') r.toList.zipIdx=nw at pa
  have hT:(aN st').toList.take (0 + k + 0)=((aN st).extract 0 k).toList:=by rw [z2,oO,mY,e8]
  have hD:(aN st').toList.drop (0 + k + 0 + r.toList.length)=((aN st).extract (n + k') (aN st).size).toList:=by
   rw [z2,rX,rl];congr 1;omega
  rw [hT,hD] at pa
  have hpm:nw.toList.Perm L:=by
   refine o_ ?_ B.perm
   rw [pa]
   refine ((f1.append_left _).append_right _).trans (Iy ?_)
   rw [oO,rX,gI,gI,e7,e7]
   conv=>rhs;rw [<- fX k (aN st).toList,<- fX (n - k) ((aN st).toList.drop k),Bb,<- fX k' ((aN st).toList.drop (k + (n - k))),Bb]
   rw [show k + (n - k)=n by omega,List.drop_take,List.drop_take,show n + k' - n=k' by omega,e8]
   simp [eW]
  have low:∀ x∈((aN st).extract 0 k).toList,rk x.1<rk q0.1:=fun x hx=>by
   obtain ⟨i,_,i2,e⟩:=jW hx
   have:=k2 i i2
   rwa [e8,bI e] at this
  have high:∀ {j y},n<=j->(aN st)[j]?=some y->rk q0.1<=rk y.1:=fun {j y} hj e=>by
   have lj:j<(aN st).size:=(fM.1 e).1
   rcases cJ n j with h | h
   ·have:=u2 n j (ar _) h (by omega)
    rw [bI hq0,bI e] at this;omega
   ·rw [show j=n by omega,hq0] at e;cases e;exact ar _
  refine h _ ⟨z1,hpm,z3⟩ z4 ?_
  have up:=WV (a:=nw) (rk:=rk) ?_
  ·have:nw.size=L.length:=by rw [<- hpm.length_eq];simp
   rwa [this] at up
  rw [pa]
  refine gQ.2 ⟨gQ.2 ⟨(u1.srt (by omega) (by omega)).pw,f2,fun x hx y hy=>?_⟩,(u2.srt (by omega) (by omega)).pw,fun x hx y hy=>?_⟩
  ·have l:=low x hx
   rcases e_.1 (f1.mem_iff.1 hy) with hy | hy
   ·exact eQ l (g3 y hy)
   ·obtain ⟨j,j1,_,e⟩:=jW hy
    exact aC l (high j1 e)
  ·obtain ⟨j,j1,j2,e⟩:=jW hy
   rcases e_.1 hx with hx | hx
   ·exact aC (low x hx) (high (by omega) e)
   ·rcases e_.1 (f1.mem_iff.1 hx) with hx | hx
    ·obtain ⟨i,i1,i2,e'⟩:=jW hx
     have l:=c3 (j - n) (by omega) (by omega)
     rw [show n + (j - n)=j by omega,bI e] at l
     rcases cJ i (n - 1) with h | h
     ·have:=u1 i (n - 1) (by omega) h (by omega)
      rw [bI hp0,bI e'] at this;exact eQ this l
     ·rw [show i=n - 1 by omega,hp0] at e';cases e';exact l
    ·obtain ⟨i,i1,i2,e'⟩:=jW hx
     have:=u2 i j (by omega) (by omega) (by omega)
     rwa [bI e,bI e'] at this
 refine eD (fun _=>ay (Le hC B.kind t e1 e2 g1 (fun p hp=>?_) fun r st' m f=>?_)) fun _=>ay (Lf hC B.kind t e3 e4 (g2 ql (eL e4)) e2 g3 fun r st' m f=>?_)
 ·rw [e3] at hp;cases hp;exact g2
 ·exact J r st' (m.1.trans B.kind) m.2.1 (m.2.2.2.trans B.ok) (by rw [m.2.2.1];exact OK ..) f
 ·exact J r st' (m.1.trans B.kind) m.2.1 (m.2.2.2.trans B.ok) (by rw [m.2.2.1];exact OK ..) f
end
end
section
section
variable {prog:aK}{w:bc}{A:aX}{E:aa->af->Prop}{s:af}{kd:mZ}{rk:aa->Nat}{L:List cz}{st:ed}{a:Array cz}
theorem Lh (h2:2<=N) (h64:N<=64):1<=Gg N N 0/\Gg N N 0<=N/\N<=2 * Gg N N 0:=by
 obtain ⟨f,hf⟩:∃ f,N=f + 1:=⟨N - 1,by omega⟩
 by_cases h:N<64
 ·have:Gg (f + 1) N 0=N:=by rw [minRun'_succ,if_pos h];rfl
  rw [<- hf] at this;rw [this];omega
 ·obtain rfl:N=64:=by omega
  have:Gg 64 64 0=32:=by rfl
  rw [this];omega
theorem UQ (hC:Cp prog w A s kd rk L) (hn:(L.map fun p=>rk p.1).Nodup) (B:Bs kd L st) (pe:bU st=#[]) (h2:2<=L.length) (h64:L.length<=64)
  (h:∀ st',Bs kd L st'->Up rk (aN st') 0 L.length->Q () st'):wpS (ax prog w) A E s sortRuns' Q st:=by
 obtain ⟨m1,m2,m3⟩:=Lh h2 h64
 refine ay (mU ?_)
 extract_lets size mr lo
 have hsz:size=L.length:=B.size
 have hmr:mr=Gg L.length L.length 0:=by rw [<- hsz];rfl
 rw [<- hmr] at m1 m2 m3
 clear_value size mr
 subst hsz
 refine ay (eA (cQ
  (I:=fun x c st'=>Bs kd L st'/\((x=0/\c=(none,0)/\bU st'=#[])\/(x=1/\∃ n,c=(none,n)/\bU st'=#[(0,n,0)]/\mr<=n/\n<=L.length/\Up rk (aN st') 0 n) \/
   (∃ n m pw,c=(none,L.length)/\bU st'=#[(0,n,pw),(n,m,0)]/\0<n/\0<m/\n + m=L.length/\Up rk (aN st') 0 n/\Up rk (aN st') n m)))
  (Q:=fun c st'=>Bs kd L st'/\((∃ n,c=(none,n)/\(bU st').size=1/\Up rk (aN st') 0 L.length) \/
   (∃ n m pw,c=(none,L.length)/\bU st'=#[(0,n,pw),(n,m,0)]/\0<n/\0<m/\n + m=L.length/\Up rk (aN st') 0 n/\Up rk (aN st') n m))) ?step ?fin ⟨B,.inl ⟨rfl,rfl,pe⟩⟩) ?post)
 case fin =>
  rintro c st' ⟨B',⟨e,_⟩ | ⟨e,_⟩ | c3⟩
  ·omega
  ·omega
  ·exact ⟨B',.inr c3⟩
 case step =>
  rintro x c st1 - hx ⟨B1,⟨rfl,rfl,p1⟩ | ⟨rfl,n,rfl,p1,n1,n2,u⟩ | ⟨n,m,pw,rfl,p1,n1,n2,n3,u1,u2⟩⟩
  ·refine eD (fun hg=>?_) fun _=>?_
   ·have hg:0 ≥ L.length:=hg;omega
   refine ay (Jv (lo:=0) (r:=L.length - 0) hC hn B1 (by omega) (by omega) fun n st2 B2 p2 k2 n1 n2 u2=>?_)
   dsimp (config:={ zeta:=false }) only
   extract_lets nn jp
   have J:∀ n st',Bs kd L st'->bU st'=#[]->mr<=n->n<=L.length->Up rk (aN st') 0 n->wpS (ax prog w) A E s (jp () n) (fun r st'=>∃ c,r=.yield c/\Bs kd L st'/\∃ n,c=(none,n)/\bU st'=#[(0,n,0)]/\mr<=n/\n<=L.length/\Up rk (aN st') 0 n) st':=by
    intro n st' B' p' l1 l2 u
    refine ay (mU ?_)
    extract_lets jp1
    rw [show (sortPriv% PySem.Builtin.SortState.pending) st'=#[] from p']
    refine ay (pf (aP ⟨_,rfl,⟨B'.kind,B'.perm,B'.ok⟩,n,?_,?_,l1,l2,u⟩))
    ·show ((none,0 + n):Option Unit×Nat)=(none,n)
     rw [e8]
    ·show (bU st').push _=_
     rw [p'];rfl
   refine eA (Q:=fun r st'=>∃ c,r=.yield c/\Bs kd L st'/\∃ n,c=(none,n)/\bU st'=#[(0,n,0)]/\mr<=n/\n<=L.length/\Up rk (aN st') 0 n) (eD (fun hl=>?_) fun hl=>?_) ?_
   ·have hl:n<mr:=hl
    refine ay (sO (df ⟨rfl,?_⟩))
    have hf:min (L.length - 0) mr=mr:=by omega
    refine ay (Tb (lo:=0) (n:=min (L.length - 0) mr) hC hn B2 (by omega) n1 (by omega) u2 fun st3 B3 p3 k3 u3=>?_)
    refine eD (fun h=>by cases h) fun _=>?_
    rw [hf] at u3
    exact J (min (L.length - 0) mr) st3 B3 (p3.trans (p2.trans p1)) (by omega) (by omega) (by rw [hf];exact u3)
   ·have hl:¬ n<mr:=hl
    exact J n st2 B2 (p2.trans p1) (by omega) (by omega) u2
   ·rintro r st' ⟨c,rfl,B',n,rfl,p',l1,l2,u⟩
    exact ⟨B',.inr (.inl ⟨rfl,n,rfl,p',l1,l2,u⟩)⟩
  ·refine eD (fun hg=>aP ⟨B1,.inl ⟨n,rfl,by rw [p1];rfl,?_⟩⟩) fun hg=>?_
   ·have hg:n ≥ L.length:=hg
    rw [show L.length=n by omega];exact u
   have hg:¬ n ≥ L.length:=hg
   refine ay (Jv (lo:=n) (r:=L.length - n) hC hn B1 (by omega) (by omega) fun m st2 B2 p2 k2 m1 m2 u2=>?_)
   dsimp (config:={ zeta:=false }) only
   extract_lets nn jp
   have up:∀ {st':ed},Kp n (aN st1) (aN st')->Up rk (aN st') 0 n:=fun {st'} kp i j h1 h2 h3=>by
    rw [jt (rk:=rk) (kp i (by omega)),jt (rk:=rk) (kp j (by omega))]
    exact u i j h1 h2 h3
   have J:∀ m st',Bs kd L st'->bU st'=#[(0,n,0)]->n + m=L.length->0<m->Up rk (aN st') 0 n->Up rk (aN st') n m->wpS (ax prog w) A E s (jp () m) (fun r st'=>∃ c,r=.yield c/\Bs kd L st'/\∃ n m pw,c=(none,L.length)/\bU st'=#[(0,n,pw),(n,m,0)]/\0<n/\0<m/\n + m=L.length/\Up rk (aN st') 0 n/\Up rk (aN st') n m) st':=by
    intro m st' B' p' l1 l2 u1 u2
    refine ay (mU ?_)
    extract_lets jp1
    rw [show (sortPriv% PySem.Builtin.SortState.pending) st'=#[(0,n,0)] from p']
    refine ay (eA (cQ (I:=fun _ c st''=>st''=st'/\c=(none,())) (Q:=fun c st''=>st''=st'/\c=(none,())) ?_ (fun _ _ hh=>hh) ⟨rfl,rfl⟩) ?_)
    ·rintro x c st'' - _ ⟨rfl,rfl⟩
     refine ay (mU ?_)
     rw [show (sortPriv% PySem.Builtin.SortState.pending) st''=#[(0,n,0)] from p']
     exact aP ⟨rfl,rfl⟩
    ·rintro c st'' ⟨rfl,rfl⟩
     refine ay (pf (ay (pf (aP ⟨_,rfl,⟨B'.kind,B'.perm,B'.ok⟩,n,m,(sortPriv% PySem.Builtin.power) L.length (2 * 0 + n) (2 * 0 + n + n + m) L.length,?_,?_,by omega,l2,l1,u1,u2⟩))))
     ·show ((none,n + m):Option Unit×Nat)=(none,L.length)
      rw [l1]
     ·show Array.push (Array.modify (bU st'') ((bU st'').size - 1) _) _=_
      rw [p'];rfl
   refine eA (Q:=fun r st'=>∃ c,r=.yield c/\Bs kd L st'/\∃ n m pw,c=(none,L.length)/\bU st'=#[(0,n,pw),(n,m,0)]/\0<n/\0<m/\n + m=L.length/\Up rk (aN st') 0 n/\Up rk (aN st') n m) (eD (fun hl=>?_) fun hl=>?_) ?_
   ·have hl:m<mr:=hl
    refine ay (sO (df ⟨rfl,?_⟩))
    have hf:min (L.length - n) mr=L.length - n:=by omega
    refine ay (Tb (lo:=n) (n:=min (L.length - n) mr) hC hn B2 (by omega) m1 (by omega) u2 fun st3 B3 p3 k3 u3=>?_)
    refine eD (fun h=>by cases h) fun _=>?_
    exact J (min (L.length - n) mr) st3 B3 (p3.trans (p2.trans p1)) (by omega) (by omega) (up fun i hi=>(k3 i hi).trans (k2 i hi)) u3
   ·have hl:¬ m<mr:=hl
    exact J m st2 B2 (p2.trans p1) (by omega) (by omega) (up k2) u2
   ·rintro r st' ⟨c,rfl,B',hh⟩
    exact ⟨B',.inr (.inr hh)⟩
  ·exact eD (fun _=>aP ⟨B1,.inr ⟨n,m,pw,rfl,p1,n1,n2,n3,u1,u2⟩⟩) fun hg=>absurd (ar _) hg
 case post =>
  have fin:∀ {st'},Bs kd L st'->(bU st').size=1->Up rk (aN st') 0 L.length->Bs kd L st'/\(bU st').size=1/\Up rk (aN st') 0 L.length:=fun b p u=>⟨b,p,u⟩
  rintro c st1 ⟨B1,hh⟩
  obtain ⟨lo,rfl⟩:∃ lo,c=(none,lo):=by
   rcases hh with ⟨n,rfl,_⟩ | ⟨n,m,pw,rfl,_⟩
   ·exact ⟨_,rfl⟩
   ·exact ⟨_,rfl⟩
  refine ay (eA (cQ
   (I:=fun x c st'=>c=(none,())/\Bs kd L st'/\(((bU st').size=1/\Up rk (aN st') 0 L.length)\/(x=0/\∃ n m pw,bU st'=#[(0,n,pw),(n,m,0)]/\0<n/\0<m/\n + m=L.length/\Up rk (aN st') 0 n/\Up rk (aN st') n m)))
   (Q:=fun c st'=>c=(none,())/\Bs kd L st'/\Up rk (aN st') 0 L.length) ?_ ?_ ⟨rfl,B1,?_⟩) ?_)
  ·rintro x c st' - hx ⟨rfl,B',⟨p1,u⟩ | ⟨rfl,n,m,pw,p1,n1,n2,n3,u1,u2⟩⟩
   ·refine ay (mU (eD (fun _=>aP ⟨rfl,B',u⟩) fun hg=>absurd ?_ hg))
    show (bU st').size<=1
    omega
   ·refine ay (mU ?_)
    rw [show (sortPriv% PySem.Builtin.SortState.pending) st'=#[(0,n,pw),(n,m,0)] from p1]
    refine eD (fun h=>?_) fun _=>?_
    ·have h:(2:Nat)<=1:=h
     omega
    refine ay (Lg hC hn B' p1 n1 n2 n3 u1 u2 fun st2 B2 p2 u=>?_)
    exact eD (fun h=>by cases h) fun _=>aP ⟨rfl,B2,.inl ⟨p2,u⟩⟩
  ·rintro c st' ⟨rfl,B',⟨p1,u⟩ | ⟨e,_⟩⟩
   ·exact ⟨rfl,B',u⟩
   ·omega
  ·rcases hh with ⟨n,_,p,u⟩ | ⟨n,m,pw,_,hh⟩
   ·exact .inl ⟨p,u⟩
   ·exact .inr ⟨rfl,n,m,pw,hh⟩
  ·rintro c st' ⟨rfl,B',u⟩
   exact aP (h st' B' u)
end
end
end TS
namespace TS
open PySem PyProof.Rows PySem.W
section
def Ss:List aa->List Str->Prop
 | [],[]=>True
 | v::vs,x::xs=>(∃ t,v=.str x t)/\Ss vs xs
 | _,_=>False
def tl:List Str->List Str->Bool
 | [],[]=>false
 | [],_::_=>true
 | _::_,[]=>false
 | x::xs,y::ys=>if x=y then tl xs ys else decide (x.cps.toList<y.cps.toList)
def Tk (h:bF) (v:aa) (x:List Str):Prop:=∃ a o vs n,v=.ref a/\h.get? a=some o/\o.cls=.type "tuple"/\o.data=.seq vs n/\Ss vs.toList x
section
variable {prog:aK}{w:bc}{A:aX}{E:aa->af->Prop}{s:af}
theorem vo  : tl (x::xs) (y::ys)=if x=y then tl xs ys else decide (x.cps.toList<y.cps.toList):=rfl
theorem Jx  : ∀ {vs us:List aa}{x y:List Str}{i:Nat},Ss vs x->Ss us y->fin=decide (vs.length<us.length)->Q (tl x y) s->KatLex prog w A true fin Q (vs.zip us) i s
 | [],[],[],[],_,_,_,e,q=>by subst e;exact q
 | [],_::_,[],_::_,_,_,_,e,q=>by subst e;rw [List.zip_nil_left];refine kat_nil ?_;simpa [tl] using q
 | _::_,[],_::_,[],_,_,_,e,q=>by subst e;rw [List.zip_nil_right];refine kat_nil ?_;simpa [tl] using q
 | v::vs,u::us,x::xs,y::ys,i,h1,h2,e,q=>by
  obtain ⟨⟨t,rfl⟩,h1⟩:=h1
  obtain ⟨⟨t',rfl⟩,h2⟩:=h2
  rw [vW]
  refine kat_cons (Cc ?_)
  rw [vo] at q
  by_cases hxy:x=y
  ·rw [if_pos hxy] at q
   have e':(x == y)=true:=by simp [hxy]
   first | rw [e'] | (rw [show decide (x=y)=true by simp [hxy]])
   exact kat_yes (Jx h1 h2 (by rw [e];simp) q)
  ·rw [if_neg hxy] at q
   have e':(x == y)=false:=by simp [hxy]
   first | rw [e'] | (rw [show decide (x=y)=false by simp [hxy]])
   refine kat_no ?_
   cases (true && i == 0) with
   | true=>exact oneLt_str q
   | false=>exact kat_one _ _ (lt_str q)
 | [],_,_::_,_,_,h,_,_,_=>h.elim
 | _::_,_,[],_,_,h,_,_,_=>h.elim
 | _,[],_,_::_,_,_,h,_,_=>h.elim
 | _,_::_,_,[],_,_,h,_,_=>h.elim
theorem Rv   (h1:Tk s.heap v x) (h2:Tk s.heap u y) (q:Q (tl x y) s):au (ax prog w) A (keyLt' (tuples' true) v u) Q E s:=by
 obtain ⟨a,o,vs,n,rfl,e1,_,e2,e3⟩:=h1
 obtain ⟨b,o',us,m,rfl,f1,_,f2,f3⟩:=h2
 exact kat_lt e1 e2 f1 f2 (Jx e3 f3 (by simp) q)
theorem tK   (hx:Tk s.heap (.ref a) x) (hy:Tk s.heap (.ref b) y) (h:P (.done (.ret (.bool (tl x y)))) s) :
  au (ax prog w) A (jG.«tuple.__lt__» ⟨[.ref a,.ref b],[]⟩) P E s:=by
 obtain ⟨_,oa,xs,na,ea,hoa,hca,hda,hia⟩:=hx
 obtain ⟨_,ob,ys,nb,eb,hob,hcb,hdb,hib⟩:=hy
 cases ea;cases eb
 show au _ _ (isInstance (.ref b) (.type "tuple") >>= _) _ _ s
 refine a7 (gg (T:="tuple") ⟨_,hob,hcb⟩ isSubtype_tuple_tuple ?_)
 simp only [jx,bw,if_false]
 refine a7 (wpAny_tupleItemsOf hoa hda ?_)
 refine a7 (wpAny_tupleItemsOf hob hdb ?_)
 refine a7 ?_
 refine wpAny_forIn_list _
  (fun c6 r s'=>r.1=none/\s'=s/\∃ x' y' xs' ys',c6=List.zip xs' ys'/\Ss xs' x'/\Ss ys' y'/\tl x' y'=tl x y/\(decide (xs'.length<ys'.length))=(decide (xs.size<ys.size)))
  _ ?_ ?_ _ _ ⟨rfl,rfl,x,y,xs.toList,ys.toList,rfl,hia,hib,rfl,by simp⟩
 ·rintro ⟨u,v⟩ c6 r s' ⟨hr,rfl,x',y',xs',ys',hz,hx',hy',hdec,hlen⟩
  match x',y',xs',ys',hz,hx',hy',hdec,hlen with
  | k1::x',k2::y',u'::xs',v'::ys',hz,⟨⟨t,e1⟩,hx'⟩,⟨⟨t',e2⟩,hy'⟩,hdec,hlen =>
   rw [vW] at hz
   obtain ⟨e3,rfl⟩:=rK hz
   obtain ⟨rfl,rfl⟩:=Prod.mk.inj e3
   subst e1;subst e2
   refine a7 (Cc ?_)
   rw [vo] at hdec
   by_cases hk:k1=k2
   ·rw [if_pos hk] at hdec
    have e':(k1 == k2)=true:=by simp [hk]
    first | rw [e'] | (rw [show decide (k1=k2)=true by simp [hk]])
    simp only [jx,bw,if_false]
    refine a9 ⟨rfl,rfl,x',y',xs',ys',rfl,hx',hy',hdec,by simpa using hlen⟩
   ·rw [if_neg hk] at hdec
    have e':(k1 == k2)=false:=by simp [hk]
    first | rw [e'] | (rw [show decide (k1=k2)=false by simp [hk]])
    simp only [j5,if_true]
    rw [<- hdec] at h
    refine a7 (df (a7 (lt_str ?_)))
    exact a7 (a9 (a9 (a9 h)))
  | [],_,u'::xs',_,_,h,_,_,_=>exact h.elim
  | _::_,_,[],_,hz,h,_,_,_=>exact h.elim
  | [],_,[],_,hz,_,_,_,_=>simp at hz
  | _::_,[],_::_,v'::ys',hz,_,h,_,_=>exact h.elim
  | _::_,_::_,_::_,[],hz,_,h,_,_=>exact h.elim
  | _::_,[],_::_,[],hz,_,_,_,_=>simp at hz
 ·rintro ⟨r1,r2⟩ s' ⟨hr,rfl,x',y',xs',ys',hz,hx',hy',hdec,hlen⟩
  simp only at hr
  subst hr
  refine a9 ?_
  have hfin:decide (xs.size<ys.size)=tl x y:=by
   rw [<- hdec,<- hlen]
   match x',y',xs',ys',hz,hx',hy' with
   | [],[],[],[],_,_,_=>simp [tl]
   | [],_::_,[],_::_,_,_,_=>simp [tl]
   | _::_,[],_::_,[],_,_,_=>simp [tl]
   | _::_,_::_,_::_,_::_,hz,_,_=>simp at hz
   | [],_,_::_,_,_,h,_=>exact h.elim
   | _::_,_,[],_,_,h,_=>exact h.elim
   | _,[],_,_::_,_,_,h=>exact h.elim
   | _,_::_,_,[],_,_,h=>exact h.elim
  show P (.done (.ret (.bool (decide (xs.size<ys.size))))) s'
  rw [hfin];exact h
theorem Tk.typeIs  (h:Tk s.heap v x):s.TypeIs v "tuple":=by
 obtain ⟨a,o,vs,n,rfl,e1,e2,_⟩:=h
 exact ⟨_,e1,e2⟩
theorem UR   (hu:A.units<gT) (h1:Tk s.heap v x) (h2:Tk s.heap u y) (q:Q (tl x y) s):au (ax prog w) A (keyLt' general' v u) Q E s:=by
 have h1':=h1;have h2':=h2
 obtain ⟨a,_,_,_,rfl,_⟩:=h1'
 obtain ⟨b,_,_,_,rfl,_⟩:=h2'
 refine kat_one _ _ (wpAny_richCompare_same_room (op:=.Lt) h1.typeIs h2.typeIs t4
  (bJ t4 h1.typeIs F.entry_tuple_lt (tK h1 h2 ⟨_,rfl,(fun e=>nomatch e),q⟩) (F.args_tuple_lt_2 _ _)) hu)
theorem US   (hu:A.units<gT) (h1:Tk s.heap v x) (h2:Tk s.heap u y) (q:Q (tl x y) s):au (ax prog w) A (keyLt' oneType' v u) Q E s:=by
 have h1':=h1;have h2':=h2
 obtain ⟨a,_,_,_,rfl,_⟩:=h1'
 obtain ⟨b,_,_,_,rfl,_⟩:=h2'
 rw [keyLt'_oneType,oneLt'_eq]
 simp only [if_true]
 refine a7 (wpAny_cRoomFor_or (.inr hu) ?_)
 refine a7 (wpAny_callSpecialIfBound?_slot h1.typeIs t4 (bJ t4 h1.typeIs F.entry_tuple_lt (tK h1 h2 ⟨_,rfl,?_⟩) (F.args_tuple_lt_2 _ _)))
 exact dg q
end
end
section
theorem UT {x y:Str} (h:x.cps.toList=y.cps.toList):x=y:=by
 cases x;cases y;exact congrArg _ (xJ.1 h)
theorem tl_irrefl:∀ x:List Str,tl x x=false
 | []=>rfl
 | x::xs=>by rw [vo,if_pos rfl];exact tl_irrefl xs
theorem tl_total:∀ x y:List Str,tl x y=false->tl y x=false->x=y
 | [],[],_,_=>rfl
 | [],_::_,h,_=>by cases h
 | _::_,[],_,h=>by cases h
 | x::xs,y::ys,h1,h2=>by
  rw [vo] at h1 h2
  by_cases e:x=y
  ·subst e
   rw [if_pos rfl] at h1 h2
   rw [tl_total xs ys h1 h2]
  ·rw [if_neg e] at h1
   rw [if_neg (cV e)] at h2
   exact absurd (UT (PyProof.Rows.strKind.total x.cps.toList y.cps.toList h1 h2)) e
theorem tl_trans:∀ x y z:List Str,tl x y=true->tl y z=true->tl x z=true
 | [],_,[],h1,h2=>by
  rename_i y
  cases y with
  | nil=>cases h1
  | cons=>cases h2
 | [],_,_::_,_,_=>rfl
 | _::_,[],_,h,_=>by cases h
 | _::_,_::_,[],_,h=>by cases h
 | x::xs,y::ys,z::zs,h1,h2=>by
  rw [vo] at h1 h2 ⊢
  by_cases e:x=y
  ·subst e
   rw [if_pos rfl] at h1
   by_cases e':x=z
   ·subst e'
    rw [if_pos rfl] at h2 ⊢
    exact tl_trans xs ys zs h1 h2
   ·rw [if_neg e'] at h2 ⊢;exact h2
  ·rw [if_neg e] at h1
   by_cases e':y=z
   ·subst e'
    rw [if_neg e];exact h1
   ·rw [if_neg e'] at h2
    have h3:=PyProof.Rows.strKind.trans x.cps.toList y.cps.toList z.cps.toList h1 h2
    rw [if_neg fun e2=>by subst e2;rw [PyProof.Rows.strKind.irrefl] at h3;cases h3]
    exact h3
theorem BN {α:Type}{p q:α->Bool}:∀ {l:List α}{a:α},(∀ z∈l,p z=true->q z=true)->a∈l->p a=false->q a=true->l.countP p<l.countP q
 | b::l,a,h,ha,pa,qa=>by
  rw [PV,PV]
  have mono:l.countP p<=l.countP q:=List.countP_mono_left fun z hz=>h z (ah _ hz)
  rcases a_.1 ha with rfl | ha
  ·rw [if_neg (by simp [pa]),if_pos qa];omega
  ·have:=BN (fun z hz=>h z (ah _ hz)) ha pa qa
   have hb:=h b (am ..)
   cases hpb:p b with
   | false=>simp;split<;>omega
   | true=>rw [hb hpb];simp;omega
def F3 (xs:List (List Str)) (x:List Str):Nat:=xs.countP fun y=>tl y x
theorem Jy  (hx:x∈xs) (h:tl x y=true):F3 xs x<F3 xs y :=
 BN (fun z _ hz=>tl_trans z x y hz h) hx (tl_irrefl x) h
theorem vp  (hx:x∈xs) (hy:y∈xs):decide (F3 xs x<F3 xs y)=tl x y:=by
 cases h:tl x y with
 | true=>exact decide_eq_true (Jy hx h)
 | false =>
  refine decide_eq_false fun hl=>?_
  cases h2:tl y x with
  | true=>have:=Jy hy h2;omega
  | false=>rw [tl_total x y h h2] at hl;omega
theorem OL  (hx:x∈xs) (hy:y∈xs) (h:F3 xs x=F3 xs y):x=y:=by
 refine tl_total x y ?_ ?_
 ·rw [<- vp hx hy];simp [h]
 ·rw [<- vp hy hx];simp [h]
theorem Ss.inj:∀ {vs:List aa}{x y:List Str},Ss vs x->Ss vs y->x=y
 | [],[],[],_,_=>rfl
 | v::vs,x::xs,y::ys,h1,h2=>by
  obtain ⟨⟨t,rfl⟩,h1⟩:=h1
  obtain ⟨⟨t',e⟩,h2⟩:=h2
  cases e
  rw [Ss.inj h1 h2]
 | [],_::_,_,h,_=>h.elim
 | [],[],_::_,_,h=>h.elim
 | _::_,[],_,h,_=>h.elim
 | _::_,_::_,[],_,h=>h.elim
theorem Tk.inj   (h1:Tk h v x) (h2:Tk h v y):x=y:=by
 obtain ⟨a,o,vs,n,rfl,e1,_,e2,e3⟩:=h1
 obtain ⟨_,o',us,m,ea,f1,_,f2,f3⟩:=h2
 cases ea
 rw [e1] at f1;cases f1
 rw [e2] at f2;cases f2
 exact e3.inj f3
def Tks (h:bF):List aa->List (List Str)->Prop
 | [],[]=>True
 | v::vs,x::xs=>Tk h v x/\Tks h vs xs
 | _,_=>False
theorem Tks.len:∀ {vs:List aa}{xs:List (List Str)},Tks h vs xs->vs.length=xs.length
 | [],[],_=>rfl
 | _::_,_::_,t=>congrArg (· + 1) t.2.len
 | [],_::_,t=>t.elim
 | _::_,[],t=>t.elim
theorem Tks.mem  : ∀ {vs:List aa}{xs:List (List Str)},Tks h vs xs->v∈vs->∃ x∈xs,Tk h v x
 | v'::vs,x::xs,t,hm=>by
  rcases a_.1 hm with rfl | hm
  ·exact ⟨x,am ..,t.1⟩
  ·obtain ⟨y,hy,e⟩:=Tks.mem t.2 hm
   exact ⟨y,ah _ hy,e⟩
 | [],_,_,hm=>by cases hm
 | _::_,[],t,_=>t.elim
theorem Tks.keep (k:∀ v x,Tk h v x->Tk h' v x):∀ {vs:List aa}{xs:List (List Str)},Tks h vs xs->Tks h' vs xs
 | [],[],_=>trivial
 | _::_,_::_,t=>⟨k _ _ t.1,Tks.keep k t.2⟩
 | [],_::_,t=>t.elim
 | _::_,[],t=>t.elim
theorem Tks.perm:∀ {vs us:List aa}{xs:List (List Str)},vs.Perm us->Tks h us xs->∃ ys,Tks h vs ys/\ys.Perm xs:=by
 intro vs us xs p
 induction p generalizing xs with
 | nil=>exact fun t=>⟨xs,t,.refl _⟩
 | cons v p ih =>
  intro t
  cases xs with
  | nil=>exact t.elim
  | cons x xs =>
   obtain ⟨ys,t2,p2⟩:=ih t.2
   exact ⟨x::ys,⟨t.1,t2⟩,p2.cons x⟩
 | swap v u l =>
  intro t
  match xs,t with
  | x::y::xs,t=>exact ⟨y::x::xs,⟨t.2.1,t.1,t.2.2⟩,.swap x y xs⟩
  | [_],t=>exact t.2.elim
  | [],t=>exact t.elim
 | trans p q ih1 ih2 =>
  intro t
  obtain ⟨ys,t2,p2⟩:=ih2 t
  obtain ⟨zs,t3,p3⟩:=ih1 t2
  exact ⟨zs,t3,p3.trans p2⟩
open Classical in
noncomputable def Li (h:bF) (xs:List (List Str)) (v:aa):Nat:=if e:∃ x,Tk h v x then F3 xs e.choose else 0
theorem rY    (t:Tk h v x):Li h xs v=F3 xs x:=by
 have e:∃ x,Tk h v x:=⟨x,t⟩
 unfold Li
 rw [dif_pos e,e.choose_spec.inj t]
section
variable {prog:aK}{w:bc}{A:aX}{E:aa->af->Prop}{s:af}
def Kd (kd:mZ):Prop:=kd=tuples' true\/kd=general'\/kd=oneType'
theorem WW   (hu:A.units<gT) (k:Kd kd) (t:Tks s.heap vs xs):Cp prog w A s kd (Li s.heap xs) (vs.zip vs):=by
 intro x hx y hy Q E q
 obtain ⟨e1,m1⟩:=Aw hx
 obtain ⟨e2,m2⟩:=Aw hy
 obtain ⟨a,ha,ta⟩:=t.mem m1
 obtain ⟨b,hb,tb⟩:=t.mem m2
 rw [rY ta,rY tb,vp ha hb] at q
 rcases k with rfl | rfl | rfl
 ·exact Rv ta tb q
 ·exact UR hu ta tb q
 ·exact US hu ta tb q
theorem F4:∀ {vs:List aa}{xs ys:List (List Str)}{h:bF},Tks h vs xs->(∀ x∈xs,x∈ys)->xs.Nodup->((vs.zip vs).map fun p=>Li h ys p.1).Nodup
 | [],[],_,_,_,_,_=>fO
 | v::vs,x::xs,ys,h,t,s,n=>by
  rw [vW,av,jK]
  refine ⟨fun hm=>?_,F4 t.2 (fun x hx=>s x (ah _ hx)) (jK.1 n).2⟩
  obtain ⟨p,hp,e⟩:=xk.1 hm
  obtain ⟨y,hy,ty⟩:=t.2.mem (Aw hp).2
  rw [rY ty,rY t.1] at e
  rw [OL (s y (ah _ hy)) (s x (am ..)) e] at hy
  exact (jK.1 n).1 hy
 | [],_::_,_,_,t,_,_=>t.elim
 | _::_,[],_,_,t,_,_=>t.elim
theorem OM   (t:Tk s.heap v x) (q:∀ o,(o=none\/∃ b u,o=some (.str b u))->Q o s):au (ax prog w) A (firstOfTuple' v) Q E s:=by
 obtain ⟨a,o,vs,n,rfl,e1,e0,e2,e3⟩:=t
 rw [kas_first_eq]
 refine a7 (Looks.here (show Looks (ax prog w) s.heap (typeOf (.ref a)) o.cls from (Looks.ld e1).andThen .now) ?_)
 rw [e0,if_neg (by first | decide | simp)]
 refine a7 (listItems_at e1 e2 (a9 (q _ ?_)))
 rw [<- aQ]
 match vs.toList,x,e3 with
 | [],[],_=>exact .inl rfl
 | v::vs,x::xs,h=>obtain ⟨⟨t,rfl⟩,_⟩:=h;exact .inr ⟨x,t,rfl⟩
theorem BO:∀ {vs:List aa}{xs:List (List Str)}{Q:List (Option aa)->af->Prop},Tks s.heap vs xs->(∀ os:List (Option aa),os.length=vs.length->(∀ o∈os,o=none\/∃ b u,o=some (.str b u))->Q os s)->au (ax prog w) A (vs.mapM firstOfTuple') Q E s
 | [],[],_,_,q=>by rw [List.mapM_nil];exact a9 (q [] rfl (by simp))
 | v::vs,x::xs,Q,t,q=>by
  rw [List.mapM_cons]
  refine a7 (OM t.1 fun o ho=>a7 (BO t.2 fun os hl ha=>a9 (q _ (by simp [hl]) ?_)))
  intro o' ho'
  rcases a_.1 ho' with rfl | ho'
  ·exact ho
  ·exact ha _ ho'
 | [],_::_,_,t,_=>t.elim
 | _::_,[],_,t,_=>t.elim
theorem ON {vs:List aa}{T:aa}{Q:Option aa->af->Prop} (hn:0<vs.length) (hT:∀ v∈vs,Looks (ax prog w) s.heap (typeOf v) T) (hT2:(T == T)=true) (q:Q (some T) s):au (ax prog w) A (oneTypeOnly' vs.toArray) Q E s:=by
 match vs,hn with
 | v::vs,_ =>
  rw [oneTypeOnly'_eq,My,map_eq_pure_bind]
  refine a7 (a7 (kas_mapM (r:=T) _ (fun v hv Q' hq=>(hT v hv).here hq) (a9 ?_)))
  have hall2:((nq (fun _=>T) (v::vs)).toArray.all fun x=>x == T)=true:=by
   simp only [List.all_toArray,mV,cu]
   intro _ _
   exact hT2
  have h0:(nq (fun _=>T) (v::vs)).toArray[0]?=some T:=by simp
  rw [h0]
  simp only [hall2,if_true]
  exact a9 q
theorem Rw {vs:List aa}{xs:List (List Str)}{Q:mZ->af->Prop} (hn:2<=vs.length) (t:Tks s.heap vs xs) (q:∀ kd,Kd kd->Q kd s):au (ax prog w) A (keyKind' vs.toArray) Q E s:=by
 rw [kat_kind_eq,My,map_eq_pure_bind]
 refine a7 (a7 (BO t fun os hl ha=>a9 ?_))
 by_cases hall:(os.toArray.all fun x=>x.isSome)=true
 ·rw [if_pos hall]
  refine a7 (df ?_)
  have hs:∀ o∈os,∃ b u,o=some (.str b u):=fun o ho=>by
   rcases ha o ho with rfl | h
   ·simp at hall;have:=hall _ ho;cases this
   ·exact h
  have hfm:os.toArray.filterMap id=(os.filterMap id).toArray:=by simp
  rw [hfm]
  have hl2:(os.filterMap id).length=os.length:=by
   have:∀ os:List (Option aa),(∀ o∈os,∃ b u,o=some (.str b u))->(os.filterMap id).length=os.length:=by
    intro os
    induction os with
    | nil=>intro _;rfl
    | cons o os ih =>
     intro hs
     obtain ⟨b,u,rfl⟩:=hs o (am ..)
     rw [mq];simp only [id]
     rw [aW,ih fun o ho=>hs o (ah _ ho)];rfl
   exact this os hs
  refine a7 (ON (T:=.type "str") (by omega) (fun v hv=>?_) (by rfl) (a9 (q _ (.inl rfl))))
  obtain ⟨o,ho,e⟩:=List.mem_filterMap.1 hv
  obtain ⟨b,u,rfl⟩:=hs o ho
  cases e
  exact .now
 ·rw [if_neg hall]
  by_cases h0:(os.toArray[0]?.bind id).isSome=true
  ·rw [if_pos h0]
   exact a9 (q _ (.inr (.inl rfl)))
  ·rw [if_neg h0]
   refine a7 (ON (T:=.type "tuple") (by omega) (fun v hv=>?_) (by rfl) (a9 (q _ (.inr (.inr rfl)))))
   obtain ⟨x,_,a,o,us,n,rfl,e1,e2,_⟩:=t.mem hv
   rw [<- e2]
   exact (Looks.ld e1).andThen .now
end
end
section
section
variable {prog:aK}{w:bc}{A:aX}{E:aa->af->Prop}{s:af}
theorem Tks.inj:∀ {vs:List aa}{xs ys:List (List Str)},Tks h vs xs->Tks h vs ys->xs=ys
 | [],[],[],_,_=>rfl
 | _::_,_::_,_::_,t1,t2=>by rw [t1.1.inj t2.1,Tks.inj t1.2 t2.2]
 | [],_::_,_,t,_=>t.elim
 | [],[],_::_,_,t=>t.elim
 | _::_,[],_,t,_=>t.elim
 | _::_,_::_,[],_,t=>t.elim
theorem Tk.keepNe    (ha:h.get? a=some (j7 "list" vs n)) (k:∀ b o,b≠a->h.get? b=some o->h'.get? b=some o) (v:aa) (x:List Str) (t:Tk h v x):Tk h' v x:=by
 obtain ⟨b,o,us,m,rfl,e1,e2,e3⟩:=t
 refine ⟨b,o,us,m,rfl,k b o (fun e=>?_) e1,e2,e3⟩
 subst e
 rw [ha] at e1;cases e1
 simp at e2
theorem Rx {vs:List aa}{xs:List cz} (p:xs.Perm (vs.zip vs)):(xs.map (·.2)).Perm vs/\xs.map (·.1)=xs.map (·.2):=by
 refine ⟨?_,hW fun p' hp=>(Aw (p.mem_iff.1 hp)).1⟩
 have:=p.map (·.2)
 rwa [PX (ar _)] at this
theorem zu  : ∀ {xs:List cz}{zs:List (List Str)},Tks h (xs.map (·.1)) zs->(∀ z∈zs,z∈ys)->xs.Pairwise (UN (Li h ys))->zs.Pairwise (fun a b=>tl a b=true)
 | [],[],_,_,_=>qH
 | x::xs,z::zs,t,hm,p=>by
  have p':=jN.1 p
  refine jN.2 ⟨fun b hb=>?_,zu t.2 (fun z hz=>hm z (ah _ hz)) p'.2⟩
  have:∀ {us:List cz}{ws:List (List Str)},Tks h (us.map (·.1)) ws->b∈ws->∃ u∈us,Tk h u.1 b:=by
   intro us
   induction us with
   | nil=>intro ws t hb;cases ws with
    | nil=>cases hb
    | cons=>exact t.elim
   | cons u us ih=>intro ws t hb;cases ws with
    | nil=>cases hb
    | cons w ws =>
     rcases a_.1 hb with rfl | hb
     ·exact ⟨u,am ..,t.1⟩
     ·obtain ⟨u',h1,h2⟩:=ih t.2 hb
      exact ⟨u',ah _ h1,h2⟩
  obtain ⟨u,hu,tu⟩:=this t.2 hb
  have l:=p'.1 u hu
  unfold UN at l
  rw [rY t.1,rY tu] at l
  rw [<- vp (hm z (am ..)) (hm b (ah _ hb))]
  exact decide_eq_true l
 | [],_::_,t,_,_=>t.elim
 | _::_,[],t,_,_=>t.elim
theorem WX  (u:Up rk a 0 a.size):a.toList.Pairwise (UN rk):=by
 rw [oz]
 intro i j hi hj hij
 have hi':i<a.size:=by simpa using hi
 have hj':j<a.size:=by simpa using hj
 have:=u i j (cC _) hij (by omega)
 rw [bI (bV hi'),bI (bV hj')] at this
 exact this
theorem F5 {a:ak}{vs:List aa}{xs:List (List Str)}{n:Nat}{P:Fin->af->Prop} (hu:A.units<gT) (ho:s.heap.get? a=some (j7 "list" vs.toArray n))
  (t:Tks s.heap vs xs) (hx:xs.Nodup) (h64:vs.length<=64)
  (h:∀ (vs':List aa) (xs':List (List Str)),vs'.Perm vs->Tks s.heap vs' xs'->xs'.Perm xs->xs'.Pairwise (fun a b=>tl a b=true)->P (.done (.ret .none)) { s with heap:=sortedHeap s.heap a vs vs'.toArray }) :
  au (ax prog w) A (jG.«list.sort» ⟨[.ref a],[]⟩) P E s:=by
 rw [list_sort_plain]
 have ha:a<s.heap.objs.size:=ap ho
 have zl:vs.length<=sizeLine:=by rw [jo];omega
 refine a7 (listItems_at ho rfl ?_)
 refine a7 (Kn ho rfl ?_ (by simpa using zl) (cC _))
 obtain ⟨e1,ho1⟩:∃ e1,(s.heap.update a (gW fun _=>#[])).get? a=some (j7 "list" #[] e1):=⟨_,get?_update_seq ho (fun _=>#[])⟩
 refine a7 (Qp ho1 rfl ?_)
 refine a7 (wpAny_newTuple ?_ (by simpa using zl))
 refine a7 (Ki ?_ (cC _))
 refine dv ?_
 have ho6:(((s.heap.update a (gW fun _=>#[])).push (j7 "tuple" vs.toArray 0)).push (j7 "list" #[] 0)).get? a=some (j7 "list" #[] e1):=by
  rw [Mz _ _ _ (by rw [size_push',yf];exact aE (dI ha)),Mz _ _ _ (by rw [yf];exact aE ha)]
  exact ho1
 have t6:Tks (((s.heap.update a (gW fun _=>#[])).push (j7 "tuple" vs.toArray 0)).push (j7 "list" #[] 0)) vs xs :=
  t.keep (Tk.keepNe ho fun b o hb e=>ac _ (ac _ ((fw _ _ (cV hb)).trans e)))
 show au (ax prog w) A _ P E { s with heap:=((s.heap.update a (gW fun _=>#[])).push (j7 "tuple" vs.toArray 0)).push (j7 "list" #[] 0) }
 dsimp only
 have hsz:vs.toArray.size=vs.length:=by simp
 by_cases h2:vs.toArray.size<2
 ·rw [if_pos h2,if_pos h2]
  refine a7 (a9 ?_)
  rw [StateT.run_pure]
  refine a7 (a9 ?_)
  dsimp only
  refine a7 (Qp ho6 rfl ?_)
  refine a7 (Kn ho6 rfl ?_ (hsz2:=by rw [kc,Array.size_zip,aS,GD];exact xK zl))
  simp only [bne_self_eq_false,bw,if_false]
  have e:(vs.toArray.zip vs.toArray).map (·.2)=vs.toArray:=by
   apply xJ.1;rw [Array.toList_map,MA,PX (ar _)]
  refine a9 ?_
  have:=h vs xs (.refl _) t (.refl _) (by
   have:=t.len
   match xs,this with
   | [],_=>exact .nil
   | [_],_=>exact DV ..
   | _::_::_,e=>simp at e;omega)
  rw [<- e] at this
  exact this
 ·rw [if_neg h2,if_neg h2]
  refine a7 (Rw (by omega) t6 fun kd hk=>?_)
  refine a7 (bL (UQ (kd:=kd) (L:=vs.zip vs) (st:=SortSt.mk' kd (vs.toArray.zip vs.toArray) #[] 7 none)
   (Q:=fun _ st'=>(aN st').toList.Perm (vs.zip vs)/\wl st'=none/\Up (Li _ xs) (aN st') 0 (vs.zip vs).length)
   (WW hu hk t6) (F4 t6 (fun _ h=>h) hx) ⟨rfl,by rw [MA],rfl⟩ rfl (by rw [qL];omega) (by rw [qL];omega) fun st' b u=>⟨b.perm,b.ok,u⟩) ?_ fun _ _ e=>e)
  rintro ⟨⟨⟩,st'⟩ s' ⟨rfl,hp,hf,hs⟩
  dsimp only
  have hpl:(aN st').size=vs.length:=by
   have:=hp.length_eq;rw [aq,qL,GD] at this;exact this
  refine a7 (Qp ho6 rfl ?_)
  refine a7 (Kn ho6 rfl ?_ (hsz2:=by rw [kc];show (aN st').size<=_;rw [hpl,jo];omega))
  rw [hf]
  simp only [bne_self_eq_false,bw,if_false]
  refine a9 ?_
  obtain ⟨z1,z2⟩:=Rx hp
  obtain ⟨ys,t7,p7⟩:=t6.perm z1
  obtain ⟨ys',t8,p8⟩:=t.perm z1
  rw [<- z2] at t7
  have len2:(vs.zip vs).length=(aN st').size:=by rw [qL,hpl,GD]
  rw [len2] at hs
  have so:=zu (ys:=xs) t7 (fun z hz=>p7.mem_iff.1 hz) (WX hs)
  have:ys'=ys:=by
   rw [z2] at t7
   exact Tks.inj (t8.keep (Tk.keepNe ho fun b o hb e=>ac _ (ac _ ((fw _ _ (cV hb)).trans e)))) t7
  subst this
  have:=h _ ys' z1 t8 p8 so
  have e:(aN st').map (·.2)=((aN st').toList.map (·.2)).toArray:=by apply xJ.1;simp
  rw [<- e] at this
  exact this
theorem sorted_T  (hu:A.units + 2<gT) (hc:au (ax prog w) A.in1 (Aq x) (fun vs s1=>∃ xs,Tks s1.heap vs xs/\xs.Nodup/\vs.length<=64 /\
   ∀ (h':bF) (vs':List aa) (xs':List (List Str)) (e:Nat),(∀ b o,s1.heap.get? b=some o->h'.get? b=some o)->h'.get? s1.heap.objs.size=some (j7 "list" vs'.toArray e)->vs'.Perm vs->Tks s1.heap vs' xs'->xs'.Perm xs->xs'.Pairwise (fun a b=>tl a b=true) ->
    Q (.ref s1.heap.objs.size) { s1 with heap:=h' }) E s):au (ax prog w) A (call (.builtin "sorted") [x]) Q E s:=by
 refine nP kind_sorted plain_sorted entry_sorted (args_sorted1 _) ?_
 unfold jG.«sorted»
 refine a7 (m:=checkCount "sorted" 1 1 _) (a9 ?_)
 refine a7 (bL hc (fun vs s1 z=>?_) fun _ _ z=>z)
 obtain ⟨xs,t,hx,h64,hq⟩:=z
 refine a7 (Ki ?_ (by rw [jo];omega))
 have at1:(s1.heap.push (j7 "list" vs.toArray 0)).get? s1.heap.objs.size=some (j7 "list" vs.toArray 0):=aw _ rfl
 show au _ _ _ _ _ { s1 with heap:=s1.heap.push (j7 "list" vs.toArray 0) }
 have up:∀ v x,Tk s1.heap v x->Tk (s1.heap.push (j7 "list" vs.toArray 0)) v x:=fun v x ⟨b,o,us,m,e0,e1,e2⟩=>⟨b,o,us,m,e0,ac _ e1,e2⟩
 refine a7 (dv (bJ slot_list_sort ⟨_,at1,rfl⟩ entry_list_sort (F5 (by show A.units + 1 + 1<gT;omega) at1 (t.keep up) hx h64 fun vs' xs' a1 a2 a3 a4=>⟨_,rfl,?_⟩) (args_list_sort _)))
 obtain ⟨e,at2⟩:=sortedHeap_at (out:=vs'.toArray) at1
 obtain ⟨ys,t9,p9⟩:=t.perm a1
 obtain rfl:ys=xs':=(t9.keep up).inj a2
 refine a9 ⟨_,rfl,hq _ _ ys e (fun b o q=>?_) at2 a1 t9 a3 a4⟩
 have hb:=ap q
 rw [sortedHeap_old (aE hb) (by rw [size_push'];exact dI hb)]
 exact ac _ q
end
end
end TS
namespace L2
open PySem PySem.Spec PyProof.Rows PySem.W
section
def Lj (x:List Str):List (List Str)->List (List Str)
 | []=>[x]
 | y::l=>if TS.tl x y=true then x::y::l else y::Lj x l
def oP:List (List Str)->List (List Str)
 | []=>[]
 | x::l=>Lj x (oP l)
theorem wG (x:List Str):∀ l,(Lj x l).Perm (x::l)
 | []=>.refl _
 | y::l=>by
  unfold Lj
  split
  ·exact .refl _
  ·exact ((wG x l).cons y).trans (.swap x y l)
theorem pE:∀ l,(oP l).Perm l
 | []=>.refl _
 | x::l=>(wG x _).trans ((pE l).cons x)
abbrev Vl (l:List (List Str)):Prop:=l.Pairwise fun a b=>TS.tl a b=true
theorem Jz:∀ {l:List (List Str)},Vl l->x∉l->Vl (Lj x l)
 | [],_,_=>DV ..
 | y::l,h,hx=>by
  have h':=jN.1 h
  unfold Lj
  split
  ·rename_i e
   refine jN.2 ⟨fun z hz=>?_,h⟩
   rcases a_.1 hz with rfl | hz
   ·exact e
   ·exact TS.tl_trans x y z e (h'.1 z hz)
  ·rename_i e
   refine jN.2 ⟨fun z hz=>?_,Jz h'.2 fun q=>hx (ah _ q)⟩
   rcases a_.1 ((wG x l).mem_iff.1 hz) with rfl | hz
   ·cases q:TS.tl y z with
    | true=>rfl
    | false=>exact absurd (a_.2 (.inl (TS.tl_total z y (by simpa using e) q))) hx
   ·exact h'.1 z hz
theorem F6:∀ {l:List (List Str)},l.Nodup->Vl (oP l)
 | [],_=>.nil
 | x::l,h=>Jz (F6 (jK.1 h).2) fun q=>(jK.1 h).1 ((pE l).mem_iff.1 q)
theorem UU (hl:Vl l) (hm:Vl m) (p:l.Perm m):l=m :=
 List.Perm.eq_of_pairwise (le:=fun a b=>TS.tl a b=true) (fun a b _ _ h1 h2=>by
  have:=TS.tl_trans a b a h1 h2
  rw [TS.tl_irrefl] at this;cases this) hl hm p
theorem OO (n:l.Nodup) (p:l'.Perm l) (h:Vl l'):l'=oP l:=UU h (F6 n) (p.trans (pE l).symm)
def Db (H:Hp):List ak->List (List Str)->Prop
 | [],[]=>True
 | a::as,x::xs=>H a=some (.tup (x.map V.str))/\Db H as xs
 | _,_=>False
section
theorem Tc {pins σ H s} (I:bX X pins σ H s)  (h:H a=some (.tup (x.map V.str))):TS.Tk s.heap (.ref a) x:=by
 obtain ⟨its,r,⟨o,h1,h2,n,h3⟩,_⟩:=I.tuple (.inl (.of h))
 refine ⟨a,o,its.toArray,n,rfl,h1,h2,h3,?_⟩
 have:∀ {vs:List aa}{x:List Str},qA vs x->TS.Ss vs x:=by
  intro vs x q
  induction q with
  | nil=>trivial
  | cons x t _ ih=>exact ⟨⟨t,rfl⟩,ih⟩
 exact this (jQ r)
theorem Hq {pins σ H s} (I:bX X pins σ H s):∀ {as:List ak}{xs:List (List Str)},Db H as xs->TS.Tks s.heap (as.map bu) xs
 | [],[],_=>trivial
 | _::_,_::_,t=>⟨Tc I t.1,Hq I t.2⟩
 | [],_::_,t=>t.elim
 | _::_,[],t=>t.elim
theorem Db.mem  : ∀ {as:List ak}{xs:List (List Str)},Db H as xs->a∈as->∃ x:List Str,H a=some (.tup (x.map V.str))
 | b::as,x::xs,t,h=>by
  rcases a_.1 h with rfl | h
  ·exact ⟨x,t.1⟩
  ·exact Db.mem t.2 h
 | [],_,_,h=>by cases h
 | _::_,[],t,_=>t.elim
theorem Td {pins σ H s} (I:bX X pins σ H s)  (t:Db H as xs):∀ {bs:List ak}{ys:List (List Str)},(∀ b∈bs,b∈as)->TS.Tks s.heap (bs.map bu) ys->Db H bs ys
 | [],[],_,_=>trivial
 | b::bs,y::ys,h,q=>by
  obtain ⟨x,e⟩:=t.mem (h b (am ..))
  rw [(Tc I e).inj q.1] at e
  exact ⟨e,Td I t (fun b hb=>h b (ah _ hb)) q.2⟩
 | [],_::_,_,q=>q.elim
 | _::_,[],_,q=>q.elim
theorem JA:∀ {as:List ak}{us:List aa},dC (as.map V.ref) us->us=as.map bu
 | [],_,.nil=>rfl
 | _::_,_,.cons r t=>by cases r;rw [JA t];rfl
theorem BP:∀ as:List ak,dC (as.map V.ref) (as.map bu)
 | []=>.nil
 | a::as=>.cons rfl (BP as)
theorem Lk  (p:us.Perm (as.map bu)):∃ bs:List ak,us=bs.map bu/\bs.Perm as:=by
 refine ⟨us.map fun v=>match v with | .ref a=>a | _=>0,?_,?_⟩
 ·rw [cj]
  refine (List.map_id us).symm.trans (hW fun v hv=>?_)
  obtain ⟨a,_,rfl⟩:=xk.1 (p.mem_iff.1 hv)
  rfl
 ·have:=p.map fun v=>match v with | .ref a=>a | _=>(0:ak)
  rw [cj] at this
  refine this.trans (Iy ?_)
  exact (hW fun a _=>rfl).trans (List.map_id as)
theorem zv {pins σ H s} (hu:X.A.units + 2<gT) (I:bX X pins σ H s)    (t:Db H as xs) (hn:xs.Nodup) (hz:as.length<=64)
  (hc:∀ (P:List aa->af->Prop),(∀ (h':bF) (tk:Nat),(∀ b o,s.heap.get? b=some o->h'.get? b=some o)->s.heap.objs.size<=h'.objs.size->P (as.map bu) { s with heap:=h',toks:=tk })->au (ax X.prog X.w) X.A.in1 (Aq v) P X.xe s)
  (q:∀ l bs,H l=none->bs.Perm as->Db H bs (oP xs)->Q (.ref l) (upd H l (.lst (bs.map V.ref)))) :
  au (ax X.prog X.w) X.A (call (.builtin "sorted") [v]) (EP X pins σ Q) X.xe s:=by
 refine TS.sorted_T hu (hc _ fun h' tk kp sz=>⟨xs,(Hq I t).keep ?_,hn,by rw [ao];exact hz,fun h2 vs' ys e kp2 at2 p2 t2 p3 u=>?_⟩)
 ·exact fun v x ⟨b,o,us,m,e0,e1,e2⟩=>⟨b,o,us,m,e0,kp b o e1,e2⟩
 ·obtain ⟨bs,rfl,pb⟩:=Lk p2
  obtain rfl:=OO hn p3 u
  obtain ⟨ys,t9,_⟩:=(Hq I t).perm p2
  have:=(t9.keep fun v x ⟨b,o,us,m,e0,e1,e2⟩=>(⟨b,o,us,m,e0,kp b o e1,e2⟩:TS.Tk h' v x)).inj t2
  subst this
  have kk:∀ b o,s.heap.get? b=some o->h2.get? b=some o:=fun b o e=>kp2 b o (kp b o e)
  have ok2:dw X.prog X.w (upd H h'.objs.size (.lst (bs.map V.ref))) h2 h'.objs.size (.lst (bs.map V.ref)) :=
   ⟨by rw [ao,pb.length_eq];exact cy hz (by rw [jo];decide),bs.map bu,e,BP bs,at2⟩
  exact ⟨.ref h'.objs.size,_,I.laid (t':=tk) kk sz ok2,rfl,q _ bs (I.hok.fresh sz) pb (Td I t (fun b hb=>pb.mem_iff.1 hb) t9)⟩
end
end
section
theorem Ry      (hs:(d == eT)=false) (hx:o.ExactDict) (ho:o.data=.dict es ep) :
  KdlSrc prog w "dict" d d es.size (fun i v=>∃ e,es[i]?=some e/\v=e.key) (fun h=>h.get? d=some o) where
 type:=fun s e=>⟨o,e,hx.1⟩
 there:=fun h e=>⟨ap e,ap e⟩
 keep:=fun h h' e k=>k d (.inl rfl) o e
 notList:=by decide
 notTuple:=by decide
 hint:=fun A E s Q e q=>kdl_hint_dict ⟨o,e,hx.1⟩ q
 iter:=fun A s hh e=>by
  refine ⟨{ cls:=.type "dict_keyiterator",data:=.fields #[.ref d,.int 0 0,.int es.size 0,.int ep 0] },fun i h=>h.IsKeyIter s.heap.objs.size d i es.size ep/\h.get? d=some o,fun E Q q=>Oy hs e hx ho q,?_,⟨_,aw _ rfl,rfl,rfl⟩,ac _ e⟩
  have ne:d≠s.heap.objs.size:=aE (ap e)
  refine ⟨by simp,fun i h h' st k=>⟨st.1.at fun o q=>k _ (by simp) o q,k _ (by simp) o st.2⟩,fun i s' Q E hi st q=>?_,fun s' Q E st q=>?_,fun i s' Q E st q=>Qn st.1 q⟩
  ·refine Jl st.1 st.2 ho (bV hi) fun h' st' sb=>q _ h' s'.toks ⟨_,bV hi,rfl⟩ ⟨st',(sb.2 d ne).trans st.2⟩ fun b o hb e=>(sb.2 b (by simpa using hb)).trans e
  ·exact Ox hh st.1 st.2 ho (ar _) fun h' eb=>q h' s'.toks fun b o hb e=>eb b o (by simpa using hb) e
section
variable {prog:aK}{w:bc}{A:aX}{E:aa->af->Prop}{s:af}{d:ak}{o:Obj}{es:Array mw}{ep:Nat}
theorem Dc (hh:A.handled=none) (hs:(d == eT)=false) (hx:o.ExactDict) (ho:o.data=.dict es ep) (hd:s.heap.get? d=some o) (hz:es.size<=sizeLine)
  (h:∀ (vs:List aa) (h':bF) (tk:Nat),vs=es.toList.map (·.key)->(∀ b o,s.heap.get? b=some o->h'.get? b=some o)->s.heap.objs.size<=h'.objs.size->Q vs { s with heap:=h',toks:=tk }) :
  au (ax prog w) A (Aq (.ref d)) Q E s:=by
 have hlt:=ap hd
 unfold Aq
 refine a7 (Gs (hV M8 ?_))
 rw [eN M9 _]
 show au _ A.in1 (newList [] >>= fun l=>Q2 (.builtin "list.__iadd__" ⟨[l,.ref d],[]⟩)) _ _ s
 refine a7 (bR ?_)
 refine a9 ⟨qK qj _,hV F.entry_list_iadd ?_⟩
 rw [eN qj _]
 have at1:(s.heap.push { cls:=.type "list",data:=.seq ([] : List aa).toArray }).get? s.heap.objs.size=some { cls:=.type "list",data:=.seq ([] : List aa).toArray }:=aw _ rfl
 show au _ A.in1 (kL (.ref s.heap.objs.size) (.ref d) (.ref s.heap.objs.size)) _ _ { s with heap:=s.heap.push { cls:=.type "list",data:=.seq ([] : List aa).toArray } }
 refine kdl_extend (R:=fun r s'=>match r with | .ok (.ret v)=>au (ax prog w) A (match v with | .ref a=>(do let o <- load a;match o.data with | .seq xs _=>pure xs.toList | _=>we "internal:collect") | _=>we "internal:collect") Q E s' | .ok _=>False | .error e=>E e s') (s:={ s with heap:=s.heap.push { cls:=.type "list",data:=.seq ([] : List aa).toArray } }) (Ry hs hx ho) (by simpa using hh) (ac _ hd) s.heap.objs.size (eO hlt) (eO hlt) _ 0 at1 (fun h' tk acc c kp at2 ia=>?_) hz
 show au _ A (load s.heap.objs.size >>= _) _ _ _
 refine a7 (wpAny_load at2 (a9 ?_))
 refine h _ h' tk ?_ (fun b o e=>kp b o (aE (ap e)) (ac _ e)) (ca (ap at2))
 apply Mp
 intro j
 rw [aQ,aT,aQ]
 by_cases hj:j<acc.size
 ·obtain ⟨e,e1,e2⟩:=ia.2 j acc[j] (bV hj)
  rw [e1,bV hj,e2];rfl
 ·rw [dm (by omega),dm (by rw [<- ia.1];omega)];rfl
end
theorem F7 {P:aK}{w:bc}{H:Hp}{es:Array mw}:∀ {kvs:List (List fQ×V)}{xs:List (List Str)}{l:List mw},l.length=kvs.length->kvs.map (·.1)=xs.map (fun x=>x.map iM) ->
  (∀ (i:Nat) (k:List fQ) (v:V),kvs[i]?=some (k,v)->∃ (en:mw) (b:ak),l[i]?=some en/\en.key=bu b/\H b=some (.tup (k.map kV)))->∃ as:List ak,l.map (·.key)=as.map bu/\Db H as xs
 | [],[],[],_,_,_=>⟨[],rfl,trivial⟩
 | (k,v)::kvs,x::xs,en::l,hl,hk,h=>by
  obtain ⟨en',b,e1,e2,e3⟩:=h 0 k v rfl
  cases e1
  rw [av,av] at hk
  obtain ⟨e0,hk'⟩:=rK hk
  have e0:k=x.map iM:=e0
  subst e0
  obtain ⟨as,f1,f2⟩:=F7 (P:=P) (w:=w) (H:=H) (es:=es) (l:=l) (by simpa using hl) hk' fun i k v hi=>h (i + 1) k v hi
  refine ⟨b::as,by rw [av,av,e2,f1],?_,f2⟩
  rw [e3,cj];rfl
 | [],_::_,_,_,hk,_=>by cases hk
 | _::_,[],_,_,hk,_=>by cases hk
 | [],[],_::_,hl,_,_=>by cases hl
 | _::_,_::_,[],hl,_,_=>by cases hl
section
variable {X:Cx}
theorem zw (hu:X.A.units + 2<gT):jz X (.builtin "sorted") (fun xs H Q=>∃ p as ts,xs=[.ref p]/\ph X.K H p (as.map V.ref)/\Db H as ts/\ts.Nodup/\as.length<=64/\∀ l bs,H l=none->bs.Perm as->Db H bs (oP ts)->Q (.ref l) (upd H l (.lst (bs.map V.ref)))):=by
 intro pins s σ H xs us Q I r h
 obtain ⟨p,as,ts,rfl,hq,t,hn,hz,q⟩:=h
 obtain ⟨u,rfl,rx⟩:=l8 r
 cases rx
 obtain ⟨its,r',pl,hl⟩:=I.list hq
 obtain rfl:=JA r'
 refine zv hu I t hn hz (fun P hp=>collect_list pl.isList ?_ (by rw [ao] at hl ⊢;exact hl)) q
 refine hp _ s.toks (fun b o e=>?_) ?_
 ·have hb:=ap e
  exact (fw _ _ (eO hb)).trans (ac _ e)
 ·rw [yf,cc];exact k8 _
theorem zx (hc:X.calm=true) (hu:X.A.units + 2<gT):jz X (.builtin "sorted") (fun xs H Q=>∃ p o kvs ts,xs=[.ref p]/\H p=some (.frz o (.dT kvs))/\kvs.map (·.1)=ts.map (fun x=>x.map iM)/\ts.Nodup/\ts.length<=64/\∀ l bs,H l=none->Db H bs (oP ts)->Q (.ref l) (upd H l (.lst (bs.map V.ref)))):=by
 intro pins s σ H xs us Q I r h
 obtain ⟨p,o,kvs,ts,rfl,hq,hk,hn,hz,q⟩:=h
 obtain ⟨u,rfl,rx⟩:=l8 r
 cases rx
 obtain ⟨y,g1,g0,es,ep,g2,g3,g4⟩:=vm I.hok hq
 have lk:kvs.length=ts.length:=by simpa using congrArg lL hk
 obtain ⟨as,ea,ta⟩:=F7 (P:=X.prog) (w:=X.w) (es:=es) (H:=H) (l:=es.toList) (by rw [aq];exact g3) hk fun i k v hi=>by
  obtain ⟨en,b,e1,e2⟩:=g4 i k v hi
  exact ⟨en,b,by rw [aQ];exact e1,e2⟩
 have la:as.length=ts.length:=by
  have:=congrArg lL ea
  rw [ao,ao,aq,g3,lk] at this
  exact this.symm
 refine zv hu I ta hn (by omega) (fun P hp=>Dc (by simpa using I.ok.hd hc) y g0 g2 g1 (by rw [g3,lk,jo];omega) fun vs h' tk ev kp sz=>?_) fun l bs h1 _ h3=>q l bs h1 h3
 subst ev
 rw [ea]
 exact hp h' tk kp sz
end
end
end L2
namespace J
open PySem L2
section
def re:List D->Option (List (List Str))
 | []=>some []
 | .tuple ds::r=>(eV ds).bind fun x=>(re r).map (x::·)
 | _::_=>none
def wH (x:List Str):D:=.tuple (x.map .str)
theorem zy:∀ xs:List (List Str),re (xs.map wH)=some xs
 | []=>rfl
 | x::xs=>by
  show (eV (x.map aU)).bind (fun y=>(re (xs.map wH)).map (y::·))=_
  rw [strsOf_map,zy xs];rfl
theorem rf:∀ {ds:List D}{xs:List (List Str)},re ds=some xs->ds=xs.map wH
 | [],xs,h=>by cases h;rfl
 | d::ds,xs,h=>by
  cases d with
  | tuple ts =>
   have h:(eV ts).bind (fun y=>(re ds).map (y::·))=some xs:=h
   cases h1:eV ts with
   | none=>rw [h1] at h;cases h
   | some x =>
    cases h2:re ds with
    | none=>rw [h1,h2] at h;cases h
    | some ys =>
     rw [h1,h2] at h;cases h
     rw [av,<- rf h2,nu h1];rfl
  | _=>cases h
def oQ (ts:List (List Str)):R D:=if ts.Nodup/\ts.length<=64 then .ok (.list ((oP ts).map wH)) else .no
def rZ:D->R D
 | .list ds=>match re ds with
  | some ts=>oQ ts
  | none=>.no
 | .dict ((.none,.none)::ds)=>match re (ds.map (·.1)) with
  | some ts=>oQ ts
  | none=>.no
 | _=>.no
theorem F8  : ∀ {vs:List V}{xs:List (List Str)},RDs K H vs (xs.map wH)->∃ as:List ak,vs=as.map V.ref/\Db H as xs
 | _,[],.nil=>⟨[],rfl,trivial⟩
 | _,x::xs,.cons h t=>by
  obtain ⟨as,e,ta⟩:=F8 t
  subst e
  unfold wH at h
  cases h with
  | @tuple a ys _ q r =>
   rw [lR r] at q
   exact ⟨a::as,rfl,q,ta⟩
theorem zz  : ∀ {bs:List ak}{ys:List (List Str)}{Hs:Hp},Db H bs ys->dD Hs H->∃ Hs2,cK H Hs H Hs2/\RDs K Hs2 (bs.map V.ref) (ys.map wH)
 | [],[],Hs,_,s=>⟨Hs,.refl s,.nil⟩
 | b::bs,y::ys,Hs,t,s=>by
  obtain ⟨Hs1,st,r⟩:=zz (K:=K) t.2 s
  have sub:=st.sub
  have same:dD Hs1 (upd Hs1 b (.tup (y.map V.str))):=fun c u e=>by
   by_cases hc:c=b
   ·subst hc
    have:=sub _ _ e
    rw [t.1] at this
    cases this
    exact bg
   ·rw [bi hc];exact e
  refine ⟨upd Hs1 b (.tup (y.map V.str)),st.trans ⟨.refl _,same,fun c u e=>?_,fun c u e n z=>?_⟩,.cons (.tuple bg (vh y)) (r.same same)⟩
  ·by_cases hc:c=b
   ·subst hc;rw [bg] at e;cases e;exact t.1
   ·rw [bi hc] at e;exact sub _ _ e
  ·by_cases hc:c=b
   ·subst hc;rw [t.1] at e;cases e;cases n
   ·rw [bi hc];exact z
 | [],_::_,_,t,_=>t.elim
 | _::_,[],_,t,_=>t.elim
theorem JC (s:dD Hs H):∀ {as:List ak}{xs:List (List Str)},Db Hs as xs->Db H as xs
 | [],[],_=>trivial
 | _::_,_::_,t=>⟨s _ _ t.1,JC s t.2⟩
 | [],_::_,t=>t.elim
 | _::_,[],t=>t.elim
theorem JD:∀ {as:List ak}{xs:List (List Str)},Db H as xs->as.length=xs.length
 | [],[],_=>rfl
 | _::_,_::_,t=>congrArg (· + 1) (JD t.2)
 | [],_::_,t=>t.elim
 | _::_,[],t=>t.elim
theorem F9:∀ {k:List fQ}{x:List Str},k.map kD=x.map aU->k=x.map iM
 | [],[],_=>rfl
 | .inr a::k,x::xs,h=>by
  simp only [av,wn] at h
  obtain ⟨h1,h2⟩:=h
  cases h1
  rw [F9 h2];rfl
 | .inl _::_,_::_,h=>by
  simp only [av,wn] at h
  cases h.1
 | [],_::_,h=>by cases h
 | _::_,[],h=>by cases h
theorem Fa  : ∀ {kvs:List (List fQ×V)}{ds:List (D×D)}{xs:List (List Str)},RDt K H kvs ds->ds.map (·.1)=xs.map wH->kvs.map (·.1)=xs.map fun x=>x.map iM
 | _,_,[],.nil,_=>rfl
 | _,_,x::xs,.cons h t,e=>by
  rw [av,av] at e
  obtain ⟨e1,e2⟩:=rK e
  rw [av,av,Fa t e2]
  have e1:tD _=wH x:=e1
  unfold tD wH at e1
  injection e1 with e1
  rw [F9 e1]
 | _,_,_::_,.nil,e=>by cases e
 | _,_,[],.cons _ _,e=>by cases e
theorem Hr (hc:X.calm=true) (hu:X.A.units + 64<gT):K_ X (.builtin "sorted") (iy rZ):=by
 have hu:X.A.units + 2<gT:=by omega
 refine qZ (fun d c n=>?_) fun pins s σ H x u Q Hs d d' I ru sub rx hd q=>?_
 ·unfold rZ oQ
  split<;>(try split)<;>(try split)<;>exact fun h=>by cases h
 ·have fin:∀ {ts:List (List Str)}{l:ak}{bs:List ak},H l=none->Db H bs (oP ts)->Q (.ref l) (upd H l (.lst (bs.map V.ref)))\/d'≠.list ((oP ts).map wH):=fun {ts l bs} hl tb=>by
   by_cases e:d'=.list ((oP ts).map wH)
   ·subst e
    obtain ⟨Hs2,st,r⟩:=zz (K:=X.K) tb sub
    have s2:cK H Hs2 (upd H l (.lst (bs.map V.ref))) (upd Hs2 l (.lst (bs.map V.ref))):=.new st.sub hl
    exact .inl (q _ _ _ (st.trans s2) (.list (.inl (.of bg)) (r.same s2.sh)))
   ·exact .inr e
  unfold rZ at hd
  split at hd
  ·split at hd
   ·rename_i ts ht
    unfold oQ at hd
    split at hd
    ·rename_i hz
     cases hd
     obtain ⟨a,vs,rfl,qa,ra⟩:=rx.list sub
     rw [rf ht] at ra
     obtain ⟨as,rfl,ta⟩:=F8 ra
     exact zw hu pins s σ H _ _ Q I (.cons ru .nil) ⟨a,as,ts,rfl,qa,JC sub ta,hz.1,by rw [JD ta];exact hz.2,fun l bs hl _ tb=>(fin hl tb).resolve_right fun h=>h rfl⟩
    ·cases hd
   ·cases hd
  ·split at hd
   ·rename_i ts ht
    unfold oQ at hd
    split at hd
    ·rename_i hz
     cases hd
     obtain ⟨a,ea,hh⟩:=rx.dict sub
     subst ea
     rcases hh with ⟨kvs,h1,h2⟩ | ⟨kvs,h1,hn,h2⟩ | ⟨o,kvs,es,he,h1,hn,h2⟩
     ·generalize hd:((.none,.none)::_:List (D×D))=d0 at h2
      cases h2 with
      | nil=>cases hd
      | @cons k _ _ _ _ _ _=>cases k<;>cases hd
     ·generalize hd:((.none,.none)::_:List (D×D))=d0 at h2
      cases h2<;>cases hd
     ·cases he
      exact zx hc hu pins s σ H _ _ Q I (.cons ru .nil) ⟨a,o,kvs,ts,rfl,h1,Fa h2 (rf ht),hz.1,hz.2,fun l bs hl tb=>(fin hl tb).resolve_right fun h=>h rfl⟩
    ·cases hd
   ·cases hd
  ·cases hd
end
end J
namespace Z
open PySem L2 J
section
def jX:aB->R Fl:=(db (Bt (cb (ag (fS 1 [1] (lO (rB 0)) kT (g2 (rB 0) (rB 1) (Es false))) aL) (iy (gX fun bs=>bs.any id)))))
def eJ:List D->R D:=eS 2 jX
def r_:aB->R Fl:=(db (cb (ag (fS 1 [1] (lO (rB 0)) (fR (g2 (rB 0) (rB 1) (Es true))) (rS 0)) aL) (iy io)))
def s9:List D->R D:=eS 2 r_
def vq:aB->R Fl:=(db (cb (ag (lc (Ou (pB (rB 0)) (pB (rB 1)))) aL) (iy io)))
def vt:List D->R D:=eS 2 vq
def sd:aB->R Fl:=(aY (eY (KW (kg (fR (wA (rB 0) "str"))) (kg (fR (qW (kI 1) (cb (ag (rB 0) aL) (iy jg)) (kI 6) Sv Sv)))) (db (kB false)) (fun ρ=>.ok (.nx ρ))) (db (cb (ag (fS 1 [] (lO (rB 0)) kT (qW (fun _=>.ok (.str "a")) (rB 0) (fun _=>.ok (.str "z")) Sv Sv)) aL) (iy (gX fun bs=>bs.all id)))))
def oR:List D->R D:=eS 1 sd
def i5:aB->R Fl:=(aY (eY (KW (kg (fR (wA (rB 0) "tuple"))) (kg (fR (cb (ag (fS 1 [] (lO (rB 0)) kT (eR 1 oR (ag (rS 0) aL))) aL) (iy (gX fun bs=>bs.all id)))))) (db (kB false)) (fun ρ=>.ok (.nx ρ))) (db (cb (ag (fS 2 [] (Rb (ag (rS 0) (ag (Sy (rB 0) (R6 (kI 1)) Vj) aL))) kT (g2 (rB 0) (rB 1) AH)) aL) (iy (gX fun bs=>bs.all id)))))
def fH:List D->R D:=eS 1 i5
def nz:aB->R Fl:=(db (qo (eR 1 fH (ag (rS 1) aL)) (cb (ag (fS 1 [0] (lO (rB 1)) kT (g2 (rB 0) (rB 1) (Es false))) aL) (iy (gX fun bs=>bs.all id)))))
def fk:List D->R D:=eS 2 nz
def pF:aB->R Fl:=(aY (eY (KW (kg (fR (wA (rB 0) "int"))) (fR (wA (rB 0) "bool"))) (db (kB false)) (fun ρ=>.ok (.nx ρ))) (db (qW (rB 1) (rB 0) (rB 2) Sv Sv)))
def pG:List D->R D:=eS 3 pF
def nA:aB->R Fl:=(aY (eY (KW (kg (fR (wA (rB 1) "tuple"))) (fR (g2 (cb (ag (rB 1) aL) (iy jg)) (kI 6) (nZ true)))) (db (kB false)) (fun ρ=>.ok (.nx ρ))) (aY (AJ (rS 1) (o6 6 (da (c8 2) (da (c8 3) (da (c8 4) (da (c8 5) (da (c8 6) (da (c8 7) pz)))))))) (aY (eY (KW (kg (fR (eR 1 oR (ag (rS 2) aL)))) (kg (fR (eR 3 pG (ag (rS 7) (ag (kI 0) (ag (kI 9) aL))))))) (db (kB false)) (fun ρ=>.ok (.nx ρ))) (aY (eY (kg (fR (cb (ag (fS 1 [0] (lO (ft (ag (rS 3) (ag (rS 4) (ag (rS 5) (ag (rS 6) aL)))) .tuple)) kT (eR 2 fk (ag (rS 1) (ag (rS 0) aL)))) aL) (iy (gX fun bs=>bs.all id))))) (db (kB false)) (fun ρ=>.ok (.nx ρ))) (db (qo (eR 2 eJ (ag (rS 3) (ag (rS 4) aL))) (eR 2 eJ (ag (rS 5) (ag (rS 6) aL)))))))))
def nB:List D->R D:=eS 8 nA
def sf:aB->R Fl:=(aY (eY (KW (kg (fR (wA (rB 0) "tuple"))) (fR (g2 (cb (ag (rB 0) aL) (iy jg)) (kI 2) (nZ true)))) (db (kB false)) (fun ρ=>.ok (.nx ρ))) (aY (AJ (rS 0) (o6 2 (da (c8 1) (da (c8 2) pz)))) (aY (eY (KW (kg (fR (eR 1 fH (ag (rS 1) aL)))) (fR (g2 (cb (ag (rB 1) aL) (iy jg)) (kI 6) Sw))) (db (kB false)) (fun ρ=>.ok (.nx ρ))) (aY (eY (KW (kg (fR (wA (rB 2) "tuple"))) (fR (g2 (cb (ag (rB 2) aL) (iy jg)) (kI 6) Sw))) (db (kB false)) (fun ρ=>.ok (.nx ρ))) (aY (eY (kg (fR (cb (ag (fS 1 [1] (lO (rB 2)) kT (eR 2 nB (ag (rS 1) (ag (rS 0) aL)))) aL) (iy (gX fun bs=>bs.all id))))) (db (kB false)) (fun ρ=>.ok (.nx ρ))) (db (g2 (vj (wC 1 [] (lO (rB 2)) kT (g2 (rB 0) (kI 0) bp))) (cb (ag (rB 2) aL) (iy jg)) (nZ false))))))))
def sg:List D->R D:=eS 3 sf
def si:aB->R Fl:=(aY (eY (KW (kg (fR (wA (rB 1) "tuple"))) (fR (g2 (cb (ag (rB 1) aL) (iy jg)) (kI 2) (nZ true)))) (db (kB false)) (fun ρ=>.ok (.nx ρ))) (aY (AJ (rS 1) (o6 2 (da (c8 2) (da (c8 3) pz)))) (db (qo (eR 2 fk (ag (g2 (rB 0) (kI 0) bp) (ag (rS 2) aL))) (qo (eR 2 fk (ag (g2 (rB 0) (kI 0) bp) (ag (rS 3) aL))) (eR 2 eJ (ag (rS 2) (ag (rS 3) aL))))))))
def sj:List D->R D:=eS 4 si
def kR:aB->R Fl:=(eY (kg (fR (eR 2 fk (ag (g2 (rB 0) (kI 0) bp) (ag (rS 1) aL))))) (wD "NoState" (ag (fun _=>.ok (.str "a state is a rising tuple of the book's facts, none twice")) aL)) (fun ρ=>.ok (.nx ρ)))
def kS:List D->R D:=eS 2 kR
def lT:aB->R Fl:=(eY (kg (fR (eR 2 sj (ag (rS 0) (ag (rS 1) aL))))) (wD "NoWant" (ag (fun _=>.ok (.str "a want is a tuple of two states with nothing in common")) aL)) (fun ρ=>.ok (.nx ρ)))
def lU:List D->R D:=eS 2 lT
def jm:aB->R Fl:=(aY (eY (kg (fR (wA (rB 1) "str"))) (db kN) (fun ρ=>.ok (.nx ρ))) (aY (qx (lO (g2 (rB 0) (kI 1) bp)) (c8 2) (eY (fR (g2 (g2 (rB 2) (kI 0) bp) (rB 1) (nZ false))) (db (rS 2)) (fun ρ=>.ok (.nx ρ)))) (db kN)))
def ig:List D->R D:=eS 3 jm
def sk:aB->R Fl:=(aY (AJ (rS 1) (o6 2 (da (c8 2) (da (c8 3) pz)))) (db (qo (cb (ag (fS 1 [0] (lO (rB 2)) kT (g2 (rB 0) (rB 1) (Es false))) aL) (iy (gX fun bs=>bs.all id))) (eR 2 eJ (ag (rS 3) (ag (rS 0) aL))))))
def mj:List D->R D:=eS 4 sk
def nC:aB->R Fl:=(db (eR 2 mj (ag (rS 1) (ag (ft (ag (g2 (rB 0) (kI 1) bp) (ag (g2 (rB 0) (kI 2) bp) aL)) .tuple) aL))))
def hX:List D->R D:=eS 2 nC
def jY:aB->R Fl:=(aY (Ov 2 3 (ag (g2 (rB 0) (kI 3) bp) (ag (g2 (rB 0) (kI 4) bp) aL))) (db (eR 2 vt (ag (eR 2 s9 (ag (rS 1) (ag (rS 3) aL))) (ag (rS 2) aL)))))
def eM:List D->R D:=eS 4 jY
def sr:aB->R Fl:=(aY (eY (kg (fR (eR 1 sg (ag (rS 0) aL)))) (wD "NoBook" (ag (fun _=>.ok (.str "a book is a tuple of facts and errands, each as the document tells")) aL)) (fun ρ=>.ok (.nx ρ))) (db (rS 0)))
def su:List D->R D:=eS 1 sr
def kU:aB->R Fl:=(aY (tw (eR 1 su (ag (rS 0) aL))) (tw (eR 2 kS (ag (rS 0) (ag (rS 1) aL)))))
def ji:List D->R D:=eS 2 kU
def nD:aB->R Fl:=(aY (tw (eR 2 ji (ag (rS 0) (ag (rS 1) aL)))) (tw (eR 2 lU (ag (rS 0) (ag (rS 2) aL)))))
def ll:List D->R D:=eS 3 nD
def lV:aB->R Fl:=(db (fS 1 [1] (lO (g2 (rB 0) (kI 1) bp)) (fR (eR 2 hX (ag (rS 0) (ag (rS 1) aL)))) (ft (ag (rS 0) (ag (eR 2 eM (ag (rS 0) (ag (rS 1) aL))) aL)) .tuple)))
def jZ:List D->R D:=eS 2 lV
def lW:aB->R Fl:=(aY (gZ 2 (T9 (rS 1) (ft aL .list))) (aY (gZ 3 (ft (ag (rS 1) aL) .list)) (aY (j8 (AL (rB 3)) (aY (gZ 4 (ft aL .list)) (aY (tE 3 (c8 5) (qx (lO (eR 2 jZ (ag (rS 0) (ag (rS 5) aL)))) (o6 2 (da (c8 6) (da (c8 7) pz))) (eY (fR (g2 (rB 7) (rB 2) (Rq true))) (aY (tH 2 (rS 7) (g2 (g2 (rB 2) (rB 5) Af) (ft (ag (g2 (rB 6) (kI 0) bp) aL) .list) dZ)) (r9 4 (rS 7))) (fun ρ=>.ok (.nx ρ))))) (SD 4 (gY 3 (rS 4))))) 100000) (UK 2 (db (rS 2))))))
def j_:List D->R D:=eS 8 lW
def sw:aB->R Fl:=(aY (gZ 2 (fS 1 [1] (OB (rB 0)) (fR (eR 2 mj (ag (rS 0) (ag (rS 1) aL)))) (rS 0))) (db (fS 1 [0,2] (lO (rB 2)) (fR (g2 (cb (ag (g2 (rB 1) (rB 0) Af) aL) (iy jg)) (cb (ag (g2 (rB 1) (g2 (rB 2) (kI 0) bp) Af) aL) (iy jg)) (nZ false))) (rS 0))))
def ml:List D->R D:=eS 3 sw
def sx:aB->R Fl:=(aY (tw (eR 2 ji (ag (rS 0) (ag (rS 1) aL)))) (db (cb (ag (eR 2 j_ (ag (rS 0) (ag (rS 1) aL))) aL) (iy rZ))))
def sy:List D->R D:=eS 2 sx
def mF:aB->R Fl:=(aY (tw (eR 3 ll (ag (rS 0) (ag (rS 1) (ag (rS 2) aL))))) (aY (gY 3 (eR 2 j_ (ag (rS 0) (ag (rS 1) aL)))) (aY (gY 4 (eR 2 ml (ag (rS 3) (ag (rS 2) aL)))) (db (W6 (AL (rB 4)) (g2 (rB 3) (g2 (rB 4) (kI 0) bp) Af) kN)))))
def i6:List D->R D:=eS 5 mF
def Fb:aB->R Fl:=(aY (gY 3 (eR 3 i6 (ag (rS 0) (ag (rS 1) (ag (rS 2) aL))))) (db (W6 (fR (g2 (rB 3) kN (Bw false))) kN (cb (ag (rB 3) aL) (iy jg)))))
def BQ:List D->R D:=eS 4 Fb
def vv:aB->R Fl:=(aY (eY (KW (kg (fR (wA (rB 1) "list"))) (fR (g2 (cb (ag (rB 1) aL) (iy jg)) (kI 64) Sw))) (db (kB false)) (fun ρ=>.ok (.nx ρ))) (db (cb (ag (fS 1 [0] (lO (rB 1)) kT (g2 (eR 2 ig (ag (rS 1) (ag (rS 0) aL))) kN (Bw true))) aL) (iy (gX fun bs=>bs.all id)))))
def vw:List D->R D:=eS 2 vv
def lX:aB->R Fl:=(aY (eY (kg (fR (eR 2 vw (ag (rS 0) (ag (rS 1) aL))))) (fun _=>.no) (fun ρ=>.ok (.nx ρ))) (db (fS 1 [0] (lO (rB 1)) kT (eR 2 ig (ag (rS 1) (ag (rS 0) aL))))))
def lY:List D->R D:=eS 2 lX
def iT:aB->R Fl:=(aY (gZ 2 (ft (ag (rS 1) aL) .list)) (aY (tE 0 (c8 3) (aY (eY (kg (fR (eR 2 hX (ag (rS 3) (ag (g2 (rB 2) (xU (kI 1)) bp) aL))))) (db (rS 2)) (fun ρ=>.ok (.nx ρ))) (r9 2 (eR 2 eM (ag (rS 3) (ag (g2 (rB 2) (xU (kI 1)) bp) aL)))))) (db (rS 2))))
def iU:List D->R D:=eS 4 iT
def vy:aB->R Fl:=(aY (tw (eR 3 ll (ag (rS 0) (ag (rS 1) (ag (rS 2) aL))))) (aY (gY 4 (eR 2 lY (ag (rS 0) (ag (rS 3) aL)))) (aY (gY 5 (eR 2 iU (ag (rS 4) (ag (rS 1) aL)))) (db (qo (g2 (cb (ag (rB 5) aL) (iy jg)) (cb (ag (rB 4) aL) (iy jg)) Sw) (eR 2 mj (ag (g2 (rB 5) (xU (kI 1)) bp) (ag (rS 2) aL))))))))
def vz:List D->R D:=eS 6 vy
def kW:aB->R Fl:=(aY (eY (fR (g2 (rB 1) (cb (ag (rB 0) aL) (iy jg)) AH)) (db (g2 (rB 0) (rB 1) bp)) (fun ρ=>.ok (.nx ρ))) (aY (eY (fR (g2 (rB 0) (ft aL .list) (nZ false))) (db (kI 0)) (fun ρ=>.ok (.nx ρ))) (db (g2 (g2 (g2 (rB 0) (g2 (rB 1) (cb (ag (rB 0) aL) (iy jg)) KY) bp) (kI 31) xR) (rB 1) dZ))))
def kX:List D->R D:=eS 2 kW
def nE:aB->R Fl:=(aY (gY 3 (g2 (g2 (g2 (g2 (eR 2 kX (ag (rS 0) (ag (rS 1) aL))) (g2 (kI 7919) (rB 1) xR) dZ) (kI 1) dZ) (kI 48271) xR) (kI 2147483647) KY)) (db (g2 (g2 (g2 (g2 (g2 (rB 3) (rB 3) xR) (g2 (kI 7) (rB 3) xR) dZ) (rB 1) dZ) (kI 2147483629) KY) (rB 2) KY)))
def bB:List D->R D:=eS 4 nE
def pH:aB->R Fl:=(aY (gY 2 (fun _=>.ok (.str ""))) (aY (qx (BA (ag (g2 (ft (ag (kI 1) (ag (kI 2) (ag (kI 3) (ag (kI 6) (ag (kI 1) (ag (kI 4) aL)))))) .list) (eR 3 bB (ag (rS 0) (ag (rS 1) (ag (kI 6) aL)))) bp) aL)) (c8 3) (gY 2 (g2 (rB 2) (g2 (fun _=>.ok (.str "abcdefghijklmnopqrstuvwxyz")) (eR 3 bB (ag (rS 0) (ag (g2 (g2 (rB 1) (kI 1) dZ) (rB 3) dZ) (ag (kI 26) aL)))) bp) dZ))) (db (rS 2))))
def kw:List D->R D:=eS 4 pH
def nF:aB->R Fl:=(aY (gZ 3 (fun _=>.ok (.dict []))) (aY (qx (BA (ag (eR 3 bB (ag (rS 0) (ag (rS 1) (ag (g2 (rB 2) (kI 1) dZ) aL)))) aL)) (c8 4) (D3 3 (eR 2 kw (ag (rS 0) (ag (g2 (g2 (rB 1) (kI 1) dZ) (g2 (kI 8) (rB 4) xR) dZ) aL))) (kB true))) (db (cb (ag (cb (ag (cb (ag (rB 3) aL) (iy kQ)) aL) (iy rW)) aL) (iy io)))))
def nG:List D->R D:=eS 5 nF
def pI:aB->R Fl:=(db (cb (ag (fS 2 [0,1,3] (Hf (ag (rS 2) aL)) (fR (g2 (eR 3 bB (ag (rS 2) (ag (g2 (rB 3) (rB 0) dZ) (ag (kI 12) aL)))) (rB 4) AH)) (rS 1)) aL) (iy io)))
def pJ:List D->R D:=eS 4 pI
def pK:aB->R Fl:=(aY (gY 4 (g2 (rB 2) (eR 3 bB (ag (rS 0) (ag (g2 (rB 1) (kI 10) dZ) (ag (cb (ag (rB 2) aL) (iy jg)) aL)))) bp)) (aY (gY 5 (g2 (rB 2) (eR 3 bB (ag (rS 0) (ag (g2 (rB 1) (kI 11) dZ) (ag (cb (ag (rB 2) aL) (iy jg)) aL)))) bp)) (aY (gY 6 (g2 (rB 2) (eR 3 bB (ag (rS 0) (ag (g2 (rB 1) (kI 12) dZ) (ag (cb (ag (rB 2) aL) (iy jg)) aL)))) bp)) (aY (gY 7 (Sy (ft (ag (rS 4) (ag (rS 5) aL)) .list) Vj (R6 (g2 (kI 1) (g2 (eR 3 bB (ag (rS 0) (ag (g2 (rB 1) (kI 13) dZ) (ag (kI 3) aL)))) (kI 2) Nw) dZ)))) (aY (gZ 8 (fS 1 [7,0,1] (lO (ft (ag (rS 6) aL) .list)) (CS (fR (g2 (rB 0) (rB 1) (Es true))) (fR (g2 (eR 3 bB (ag (rS 2) (ag (g2 (rB 3) (kI 14) dZ) (ag (kI 4) aL)))) (kI 0) (nZ false)))) (rS 0))) (aY (gZ 9 (fS 1 [6,0,1] (lO (ft (ag (rS 4) aL) .list)) (CS (fR (g2 (rB 0) (rB 1) (nZ true))) (fR (g2 (eR 3 bB (ag (rS 2) (ag (g2 (rB 3) (kI 15) dZ) (ag (kI 3) aL)))) (kI 0) (nZ false)))) (rS 0))) (aY (SD 8 (SD 9 (gZ 10 (fS 1 [] (lO (ft (ag (rS 7) (ag (rS 8) (ag (ft (ag (rS 6) aL) .list) (ag (rS 9) aL)))) .tuple)) kT (cb (ag (lc (pB (rB 0))) aL) (iy io)))))) (db (ft (ag (rS 3) (ag (g2 (rB 10) (kI 0) bp) (ag (g2 (rB 10) (kI 1) bp) (ag (g2 (rB 10) (kI 2) bp) (ag (g2 (rB 10) (kI 3) bp) (ag (eR 3 bB (ag (rS 0) (ag (rS 1) (ag (kI 5) aL)))) aL)))))) .tuple)))))))))
def pL:List D->R D:=eS 11 pK
def iV:aB->R Fl:=(aY (eY (CS (fR (g2 (rB 2) (ft aL .tuple) (nZ true))) (fR (g2 (eR 3 bB (ag (rS 0) (ag (kI 97) (ag (kI 2) aL)))) (kI 0) (nZ false)))) (db (eR 4 pL (ag (rS 0) (ag (rS 1) (ag (rS 2) (ag (rS 3) aL)))))) (fun ρ=>.ok (.nx ρ))) (aY (Rh 4) (aY (qx (Hf (ag (rS 2) aL)) (o6 2 (da (c8 5) (da (c8 6) pz))) (aY (gY 7 (eR 3 bB (ag (rS 0) (ag (g2 (g2 (rB 1) (kI 10) dZ) (rB 5) dZ) (ag (kI 8) aL))))) (aY (eY (fR (g2 (rB 7) (kI 3) AH)) (oK 4 (g2 (ft (ag (kI 0) (ag (kI 0) (ag (kI 1) aL))) .list) (rB 7) bp) (rS 6)) (fun ρ=>.ok (.nx ρ))) (aY (gY 7 (eR 3 bB (ag (rS 0) (ag (g2 (g2 (rB 1) (kI 20) dZ) (rB 5) dZ) (ag (kI 8) aL))))) (eY (fR (g2 (rB 7) (kI 4) AH)) (oK 4 (g2 (ft (ag (kI 2) (ag (kI 2) (ag (kI 3) (ag (kI 3) aL)))) .list) (rB 7) bp) (rS 6)) (fun ρ=>.ok (.nx ρ))))))) (aY (fun ρ=>(gZ 8 (fS 1 [] (lO (rB 4)) kT (cb (ag (rB 0) aL) (iy io)))) (fE ρ)) (db (ft (ag (rS 3) (ag (g2 (rB 8) (kI 0) bp) (ag (g2 (rB 8) (kI 1) bp) (ag (g2 (rB 8) (kI 2) bp) (ag (g2 (rB 8) (kI 3) bp) (ag (eR 3 bB (ag (rS 0) (ag (rS 1) (ag (kI 5) aL)))) aL)))))) .tuple))))))
def iW:List D->R D:=eS 9 iV
def mG:aB->R Fl:=(aY (gY 4 (eR 3 nG (ag (rS 0) (ag (rS 1) (ag (rS 2) aL))))) (aY (gZ 5 (fun _=>.ok (.dict []))) (aY (qx (BA (ag (eR 3 bB (ag (rS 0) (ag (g2 (rB 1) (kI 60) dZ) (ag (g2 (rB 3) (kI 1) dZ) aL)))) aL)) (c8 6) (aY (gY 7 (eR 2 kw (ag (rS 0) (ag (g2 (g2 (rB 1) (kI 70) dZ) (g2 (kI 40) (rB 6) xR) dZ) aL)))) (D3 5 (rS 7) (eR 4 iW (ag (rS 0) (ag (g2 (g2 (rB 1) (kI 80) dZ) (g2 (kI 40) (rB 6) xR) dZ) (ag (rS 4) (ag (rS 7) aL)))))))) (aY (gY 8 (cb (ag (rB 5) aL) (iy kQ))) (aY (gY 9 (eR 3 bB (ag (rS 0) (ag (g2 (rB 1) (kI 61) dZ) (ag (g2 (cb (ag (rB 8) aL) (iy jg)) (kI 1) dZ) aL))))) (db (ft (ag (rS 4) (ag (cb (ag (fS 1 [5] (lO (g2 (Sy (rB 8) (R6 (rS 9)) Vj) (Sy (rB 8) Vj (R6 (rS 9))) dZ)) kT (g2 (rB 1) (rB 0) bp)) aL) (iy io)) aL)) .tuple)))))))
def mH:List D->R D:=eS 10 mG
def mI:aB->R Fl:=(aY (gZ 3 (ft aL .list)) (aY (gZ 4 (ft aL .list)) (aY (qx (Hf (ag (rS 2) aL)) (o6 2 (da (c8 5) (da (c8 6) pz))) (aY (gY 7 (eR 3 bB (ag (rS 0) (ag (g2 (rB 1) (rB 5) dZ) (ag (kI 8) aL))))) (eY (fR (g2 (rB 7) (kI 2) AH)) (r9 3 (rS 6)) (eY (fR (g2 (rB 7) (kI 2) (nZ false))) (r9 4 (rS 6)) (fun ρ=>.ok (.nx ρ)))))) (db (ft (ag (cb (ag (rB 3) aL) (iy io)) (ag (cb (ag (rB 4) aL) (iy io)) aL)) .tuple)))))
def ue:List D->R D:=eS 8 mI
def pM:aB->R Fl:=(aY (gY 3 (eR 4 mH (ag (rS 0) (ag (kI 100) (ag (rS 1) (ag (rS 2) aL)))))) (aY (gY 4 (eR 4 pJ (ag (rS 0) (ag (kI 20) (ag (g2 (rB 3) (kI 0) bp) (ag (g2 (ft (ag (kI 2) (ag (kI 4) aL)) .list) (eR 3 bB (ag (rS 0) (ag (kI 97) (ag (kI 2) aL)))) bp) aL)))))) (db (ft (ag (rS 3) (ag (rS 4) (ag (eR 3 ue (ag (rS 0) (ag (kI 30) (ag (g2 (rB 3) (kI 0) bp) aL)))) aL))) .tuple))))
def pO:List D->R D:=eS 5 pM
def pP:aB->R Fl:=(db (qo (cb (ag (fS 1 [0] (lO (g2 (rB 1) (kI 0) bp)) kT (g2 (rB 0) (rB 1) (Es false))) aL) (iy (gX fun bs=>bs.all id))) (Bt (cb (ag (fS 1 [0] (lO (g2 (rB 1) (kI 1) bp)) kT (g2 (rB 0) (rB 1) (Es false))) aL) (iy (gX fun bs=>bs.any id))))))
def gL:List D->R D:=eS 2 pP
def pQ:aB->R Fl:=(aY (eY (kg (fR (eR 2 gL (ag (rS 1) (ag (Sy (rB 0) (R6 (kI 1)) (R6 (kI 3))) aL))))) (db kN) (fun ρ=>.ok (.nx ρ))) (aY (gZ 2 (fS 1 [0] (lO (rB 1)) (fR (g2 (rB 0) (g2 (rB 1) (kI 4) bp) (Es true))) (rS 0))) (db (cb (ag (lc (pB (g2 (rB 2) (cb (ag (g2 (rB 0) (kI 3) bp) aL) (iy kQ)) dZ))) aL) (iy io)))))
def mJ:List D->R D:=eS 3 pQ
def lZ:aB->R Fl:=(aY (gZ 2 (T9 (rS 1) (kI 0))) (aY (gZ 3 (ft (ag (rS 1) aL) .list)) (aY (gY 4 (kI 0)) (aY (j8 (fR (g2 (rB 4) (cb (ag (rB 3) aL) (iy jg)) AH)) (aY (qx (lO (g2 (rB 0) (kI 1) bp)) (c8 5) (aY (gY 6 (eR 2 mJ (ag (rS 5) (ag (g2 (rB 3) (rB 4) bp) aL)))) (eY (CS (fR (g2 (rB 6) kN (Bw true))) (fR (g2 (rB 6) (rB 2) (Rq true)))) (aY (tH 2 (rS 6) (g2 (g2 (rB 2) (g2 (rB 3) (rB 4) bp) Af) (kI 1) dZ)) (r9 3 (rS 6))) (fun ρ=>.ok (.nx ρ))))) (gY 4 (g2 (rB 4) (kI 1) dZ))) 100000) (UK 2 (db (rS 2)))))))
def l_:List D->R D:=eS 7 lZ
def sA:aB->R Fl:=(aY (gY 3 (eR 2 l_ (ag (rS 0) (ag (rS 1) aL)))) (aY (gZ 4 (fS 1 [2,3] (OB (rB 3)) (fR (eR 2 gL (ag (rS 0) (ag (rS 1) aL)))) (g2 (rB 2) (rB 0) Af))) (aY (eY (fR (g2 (rB 4) (ft aL .list) (nZ false))) (db kN) (fun ρ=>.ok (.nx ρ))) (db (cb (ag (rB 4) aL) (iy Hm))))))
def mn:List D->R D:=eS 5 sA
def JF:aB->R Fl:=(aY (AJ (eR 3 pO (ag (rS 0) (ag (kI 6) (ag (kI 6) aL)))) (o6 3 (da (c8 1) (da (c8 2) (da (c8 3) pz))))) (aY (gY 4 (eR 3 mn (ag (rS 1) (ag (rS 2) (ag (rS 3) aL))))) (aY (gY 5 (eR 3 i6 (ag (rS 1) (ag (rS 2) (ag (rS 3) aL))))) (aY (eY (fR (g2 (eR 3 BQ (ag (rS 1) (ag (rS 2) (ag (rS 3) aL)))) (rB 4) (nZ true))) (db (kB false)) (fun ρ=>.ok (.nx ρ))) (aY (eY (fR (g2 (g2 (rB 4) kN (Bw false)) (Bt (cb (ag (fS 1 [3] (lO (eR 2 sy (ag (rS 1) (ag (rS 2) aL)))) kT (eR 2 gL (ag (rS 0) (ag (rS 1) aL)))) aL) (iy (gX fun bs=>bs.any id)))) (nZ true))) (db (kB false)) (fun ρ=>.ok (.nx ρ))) (aY (eY (fR (g2 (rB 4) kN (Bw false))) (db (g2 (rB 5) kN (Bw false))) (fun ρ=>.ok (.nx ρ))) (db (qo (g2 (cb (ag (rB 5) aL) (iy jg)) (rB 4) (nZ false)) (qo (eR 4 vz (ag (rS 1) (ag (rS 2) (ag (rS 3) (ag (rS 5) aL))))) (g2 (g2 (rB 5) (ft aL .list) (nZ false)) (eR 2 gL (ag (rS 2) (ag (rS 3) aL))) (nZ false)))))))))))
def F_law:List D->R D:=eS 6 JF
end
end Z
section
set_option hygiene false
namespace Z
open PySem L2 J
local macro_rules | `(tactic| walk_at "zz") => `(tactic| simp only [WL, UL, WM, WN, WO, EH, vk, EI, Wo, NL, NM, SE, Wp, I_, EJ, J4, EK, EL, EM, NN, NO, NQ, J5, NR, J6, Wr, SG, SH, NS, SJ, NT, SK, Wu, NU, SL, NV, J7, NW, J8, SQ, NX, J9, NY, N_, O0, O4, EN, EO, SS, O5, Ja, O6, WA, SW, SX, O7, SY, O8, O9, SZ, S_, Oa, WE, Ob, Oc, T1, T2, Od, UB, Oe, T3, T4, Of, Jb, Jc, T7, BB, BC, BD, Oh, WG, Oj, Ol, Om, On, Oo, Op, BF, zj, dZ, xR, KY, Nw, H9, AH, Sv, Sw, KZ, jg, av, d_, aW, bT, ao, PY, gJ, Ko, Kq, vX, vY, Nat.reduceSub, Nat.reduceAdd, Qq, Qr, Nat.sub_self, if_true, if_false, ite_true, ite_false, bw, decide_true, decide_false, cond_true, cond_false, jx, j5, ar, cC, GE, Int.reduceLE, Int.reduceAdd, Int.reduceMul, Nat.reduceLT, Int.reduceNeg, reduceIte])
local macro_rules | `(tactic| walk_at "yy") => `(tactic| simp only [WL, UL, WM, WN, WO, EH, vk, EI, SE, Wp, I_, EJ, J4, EK, EL, EM, NN, NO, NQ, J5, NR, J6, Wr, SG, SH, NS, SJ, NT, SK, Wu, NU, SL, NV, J7, NW, J8, SQ, NX, J9, NY, N_, O0, O4, EN, EO, SS, O5, Ja, O6, WA, SW, SX, O7, SY, O8, O9, SZ, S_, Oa, WE, Ob, Oc, T1, T2, Od, UB, Oe, T3, T4, Of, Jb, Jc, T7, BB, BC, BD, Oh, WG, Oj, Ol, Om, On, Oo, Op, BF, zj, dZ, jg, av, d_, aW, bT, ao, PY, gJ, Ko, Kq, vX, vY, Nat.reduceSub, Nat.reduceAdd, Qq, Qr, Nat.sub_self, if_true, if_false, ite_true, ite_false, bw, decide_true, decide_false, cond_true, cond_false, jx, j5, ar, cC, GE, Int.reduceLE, Int.reduceAdd, Int.reduceMul, Nat.reduceLT, Int.reduceNeg, reduceIte])
theorem cr    (h:g (bP n ds)=.ok (.rt d)):eS n g ds=.ok d:=by unfold eS;rw [h]
def JH (ns:List Int) (k:Int):Int:=if k<ns.length then ns.getD k.toNat 0 else if ns=[] then 0 else ns.getD (k % ns.length).toNat 0 * 31 + k
theorem OP (ns:List Int):cF (ns.map .int)=true:=by
 induction ns with
 | nil=>rfl
 | cons x r ih=>simp [cF,iN,ih]
theorem Rz (ns:List Int):bn (.list (ns.map .int)) (.list [])=decide (ns=[]):=by
 cases ns with
 | nil=>rfl
 | cons x r=>simp [bn,im]
theorem UV (ns:List Int):nZ false (.list (ns.map .int)) (.list [])=.ok (.bool (decide (ns=[]))):=by
 unfold nZ
 have h1:(gC (ns.map .int)).canLay0=true:=by simp only [iN];exact OP ns
 have h2:(gC []).canLay0=true:=rfl
 have h3:min (gC (ns.map .int)).depth (gC []).depth<=60:=cy (qu _ _) (by decide)
 rw [h1,h2,decide_eq_true h3,Rz]
 rfl
theorem UW (ns:List Int) (k:Int) (h0:0<=k) (h1:k<ns.length):DR (ns.map cD) k=some (.int (ns.getD k.toNat 0)):=by
 have hk:k.toNat<ns.length:=by omega
 have:=rN (xs:=ns.map cD) (j:=k.toNat) (v:=.int (ns.getD k.toNat 0)) (by rw [aT,aV hk];simp [hk])
 rwa [eg h0] at this
theorem OQ (ns:List Int) (k:Int) (h0:0<=k) (h1:k<ns.length):bp (.list (ns.map .int)) (.int k)=.ok (.int (ns.getD k.toNat 0)):=by
 have e:∀ xs k,bp (.list xs) k=Ew (.list xs) k:=fun _ _=>rfl
 rw [e]
 unfold Ew
 simp only [UW ns k h0 h1]
theorem JJ (h1:-(2 ^ 64)<j) (h2:j<2 ^ 64):Bu i j=true:=by
 unfold Bu
 simp only [jJ,aR,decide_eq_true_eq]
 exact .inr ⟨h1,h2⟩
theorem sB (h1:-(2 ^ 64)<i) (h2:i<2 ^ 64):Bu i j=true:=by
 unfold Bu
 simp only [jJ,aR,decide_eq_true_eq]
 exact .inl ⟨h1,h2⟩
theorem RA (ns:List Int) (k:Int) (hk:0<=k):kX [.list (ns.map .int),.int k]=.ok (.int (JH ns k)):=by
 unfold kX
 refine cr ?_
 unfold kW bP JH
 walk_at "zz"
 by_cases h:k<ns.length
 ·simp only [h,decide_true,cond_true,if_true,OQ ns k hk h,bind_ok]
  walk_at "zz"
 ·simp only [h,decide_false,cond_false,if_false]
  walk_at "zz"
  rw [UV]
  walk_at "zz"
  by_cases h2:ns=[]
  ·simp only [h2,decide_true,cond_true,if_true]
   walk_at "zz"
  ·have hl:(0:Int)<ns.length:=by have:0<ns.length:=List.length_pos_iff.mpr h2;omega
   simp only [h2,decide_false,cond_false,if_false,hl,decide_true]
   walk_at "zz"
   simp only [h2,decide_false,cond_false,if_false,hl,decide_true,if_true]
   walk_at "zz"
   rw [OQ ns _ (rJ _ (by omega)) (nR _ hl)]
   walk_at "zz"
   rw [JJ (by decide) (by decide)]
   walk_at "zz"
def zA (ns:List Int) (k:Int):Int:=(JH ns k + 7919 * k + 1) * 48271 % 2147483647
def fv (ns:List Int) (k m:Int):Int:=(zA ns k * zA ns k + 7 * zA ns k + k) % 2147483629 % m
theorem gy (ns:List Int) (k m:Int) (h:0<m):0<=fv ns k m:=rJ _ (by omega)
theorem i7 (ns:List Int) (k m:Int) (h:0<m):fv ns k m<m:=nR _ h
theorem f_ (ns:List Int) (k m:Int) (hk:0<=k) (hm:0<m):bB [.list (ns.map .int),.int k,.int m]=.ok (.int (fv ns k m)):=by
 have d0:0<=zA ns k:=rJ _ (by decide)
 have d1:zA ns k<2147483647:=nR _ (by decide)
 unfold bB
 refine cr ?_
 unfold nE bP
 walk_at "zz"
 rw [RA ns k hk]
 walk_at "zz"
 rw [sB (by decide) (by decide)]
 walk_at "zz"
 rw [JJ (by decide) (by decide)]
 walk_at "zz"
 rw [show (JH ns k + 7919 * k + 1) * 48271 % 2147483647=zA ns k from rfl,sB (i:=zA ns k) (by omega) (by omega)]
 walk_at "zz"
 rw [sB (i:=7) (by decide) (by decide)]
 walk_at "zz"
 rw [decide_eq_true hm]
 walk_at "zz"
 rfl
theorem rg {α β:Type}{kt:D->aB->R aB}{gb:aB->R Fl} (c:α->D) (f:β->α->β) (P:List α->β->aB->Prop) (h:∀ x c6 b ρ,P (x::c6) b ρ->∃ ρ1 ρ',kt (c x) ρ=.ok ρ1/\gb ρ1=.ok (.nx ρ')/\P c6 (f b x) ρ') :
  ∀ (xs:List α) (b:β) (ρ:aB),P xs b ρ->∃ ρ',js kt gb (xs.map c) ρ=.ok (.nx ρ')/\P [] (xs.foldl f b) ρ'
 | [],b,ρ,p=>⟨ρ,rfl,p⟩
 | x::r,b,ρ,p=>by
  obtain ⟨ρ1,ρ2,h1,h2,h3⟩:=h x r b ρ p
  obtain ⟨ρ3,h4,h5⟩:=rg c f P h r (f b x) ρ2 h3
  refine ⟨ρ3,?_,h5⟩
  rw [av]
  unfold js
  rw [h1]
  simp only [h2]
  exact h4
theorem JK {α β:Type}{kt:D->aB->R aB}{gb hh:aB->R Fl}{r:R Fl} (c:α->D) (f:β->α->β) (P:List α->β->aB->Prop) {xs:List α} (b:β) {ρ:aB}
  (h:∀ x c6 b ρ,P (x::c6) b ρ->∃ ρ1 ρ',kt (c x) ρ=.ok ρ1/\gb ρ1=.ok (.nx ρ')/\P c6 (f b x) ρ') (p0:P xs b ρ) (k:∀ ρ',P [] (xs.foldl f b) ρ'->hh ρ'=r):(js kt gb (xs.map c) ρ).bind (Rj hh)=r:=by
 obtain ⟨ρ',e,p⟩:=rg c f P h xs b ρ p0
 rw [e,bind_ok,vk]
 exact k ρ' p
theorem Dd (n:Nat) (h:n<=1000):He [.int (n:Int)]=.ok ((bH n).map fun (i:Nat)=>cD (i:Int)):=by
 have e:He [.int (n:Int)]=.ok (r6 0 (n:Int).toNat):=Rl (by omega) (by omega)
 rw [e]
 unfold r6
 rw [ki]
 exact congrArg R.ok (hW fun a _=>congrArg cD (Int.zero_add _))
def De (x:Str):Bool:=decide (1<=x.cps.size) && decide (x.cps.size<=6/\x.cps.size≠5) && x.cps.toList.all fun c=>decide (97<=c) && decide (c<=122)
def tL (ns:List Int) (k:Int):Nat:=[1,2,3,6,1,4].getD (fv ns k 6).toNat 0
def Df (ns:List Int) (k:Int) (i:Nat):Nat:=97 + (fv ns (k + 1 + i) 26).toNat
def lm (ns:List Int) (k:Int):Str:=⟨((bH (tL ns k)).map (Df ns k)).toArray⟩
theorem JM (ns:List Int) (k:Int):1<=tL ns k/\(tL ns k<=6/\tL ns k≠5):=by
 have h0:=gy ns k 6 (by decide)
 have h1:=i7 ns k 6 (by decide)
 unfold tL
 have:∀ j:_root_.Fin 6,1<=[1,2,3,6,1,4].getD j.val 0/\([1,2,3,6,1,4].getD j.val 0<=6/\[1,2,3,6,1,4].getD j.val 0≠5):=by decide
 exact this ⟨(fv ns k 6).toNat,by omega⟩
theorem RC (ns:List Int) (k:Int) (i:Nat):97<=Df ns k i/\Df ns k i<=122:=by
 have h0:=gy ns (k + 1 + i) 26 (by decide)
 have h1:=i7 ns (k + 1 + i) 26 (by decide)
 unfold Df
 omega
theorem Fc (ns:List Int) (k:Int):De (lm ns k)=true:=by
 have ⟨h1,h2⟩:=JM ns k
 unfold De lm
 simp only [aS,ao,eX,aR,decide_eq_true_eq,cu]
 refine ⟨⟨h1,h2⟩,fun c hc=>?_⟩
 obtain ⟨i,_,rfl⟩:=List.mem_map.mp hc
 exact RC ns k i
theorem OR (j:Int) (h0:0<=j) (h1:j<26):bp (.str "abcdefghijklmnopqrstuvwxyz") (.int j)=.ok (.str ⟨#[97 + j.toNat]⟩):=by
 have e:∀ x k,bp (.str x) k=Ew (.str x) k:=fun _ _=>rfl
 rw [e]
 unfold Ew
 have hc:("abcdefghijklmnopqrstuvwxyz" : Str).cps.toList=(bH 26).map (97 + ·):=by decide +kernel
 have hl:("abcdefghijklmnopqrstuvwxyz" : Str).length<=1000:=by decide +kernel
 have hj:j.toNat<26:=by omega
 have hx:=rN (xs:=(bH 26).map (97 + ·)) (j:=j.toNat) (v:=97 + j.toNat) (by rw [aT,Kj hj];rfl)
 rw [eg h0] at hx
 simp only [hl,if_true,hc,hx]
theorem RE (j:Int) (h0:0<=j) (h1:j<6):bp (.list [.int 1,.int 2,.int 3,.int 6,.int 1,.int 4]) (.int j)=.ok (.int (([1,2,3,6,1,4].getD j.toNat 0:Nat):Int)):=by
 obtain ⟨n,rfl⟩:=Int.eq_ofNat_of_zero_le h0
 have hn:n<6:=by omega
 match n,hn with
 | 0,_=>rfl
 | 1,_=>rfl
 | 2,_=>rfl
 | 3,_=>rfl
 | 4,_=>rfl
 | 5,_=>rfl
theorem Dg (l:List Nat):∀ (acc:Str),l.foldl (fun (a:Str) c=>a++⟨#[c]⟩) acc=⟨(acc.cps.toList++l).toArray⟩:=by
 induction l with
 | nil=>intro acc;simp
 | cons c r ih =>
  intro acc
  rw [cP,ih]
  show (⟨((acc.cps++#[c]).toList++r).toArray⟩:Str)=_
  simp
theorem Ll:("" : Str).cps.toList=[]:=by decide +kernel
theorem JP (ns:List Int) (k:Int) (hk:0<=k):kw [.list (ns.map .int),.int k]=.ok (.str (lm ns k)):=by
 have h0:=gy ns k 6 (by decide)
 have h1:=i7 ns k 6 (by decide)
 have ⟨w1,w2⟩:=JM ns k
 unfold kw
 refine cr ?_
 unfold pH bP
 walk_at "zz"
 rw [tG (ds:=(bH (tL ns k)).map fun (i:Nat)=>cD i)]
 ·refine JK (fun (i:Nat)=>cD i) (fun (a:Str) i=>a++⟨#[Df ns k i]⟩) (fun c6 a ρ=>a.length + c6.length<=900/\∃ z,ρ=[.shr (.list (ns.map .int)),.shr (.int k),.shr (.str a),z]) "" ?_ ⟨by rw [eX,show ("" : Str).length=0 by decide];omega,_,rfl⟩ ?_
  ·rintro i c6 a ρ ⟨hl,z,rfl⟩
   simp only [aW] at hl
   refine ⟨_,[.shr (.list (ns.map .int)),.shr (.int k),.shr (.str (a++⟨#[Df ns k i]⟩)),.shr (.int i)],rfl,?_,?_,_,rfl⟩
   ·walk_at "zz"
    rw [f_ ns _ 26 (by omega) (by decide)]
    walk_at "zz"
    rw [OR _ (gy _ _ _ (by decide)) (i7 _ _ _ (by decide))]
    walk_at "zz"
    have hz:a.length + (⟨#[97 + (fv ns (k + 1 + i) 26).toNat]⟩:Str).length<=1000:=by
     show a.length + 1<=1000
     omega
    rw [if_pos hz]
    walk_at "zz"
    rw [show 97 + (fv ns (k + 1 + i) 26).toNat=Df ns k i from rfl]
   ·show (a.cps++#[_]).size + c6.length<=900
    rw [Array.size_append]
    show a.cps.size + 1 + c6.length<=900
    have:a.length=a.cps.size:=rfl
    omega
  ·rintro ρ' ⟨_,z,rfl⟩
   walk_at "zz"
   have:(bH (tL ns k)).foldl (fun (a:Str) i=>a++⟨#[Df ns k i]⟩) ""=lm ns k:=by
    have:=Dg ((bH (tL ns k)).map (Df ns k)) ""
    rw [List.foldl_map] at this
    rw [this,Ll]
    unfold lm
    rw [gJ]
   rw [this]
 ·walk_at "zz"
  rw [f_ ns k 6 hk (by decide)]
  walk_at "zz"
  have et:=RE (fv ns k 6) h0 h1
  have ew:[1,2,3,6,1,4].getD (fv ns k 6).toNat 0=tL ns k:=rfl
  rw [ew] at et
  rw [et]
  walk_at "zz"
  rw [Dd (tL ns k) (by omega)]
def m5 (l:List (Str×D)):List (D×D):=l.map fun p=>(.str p.1,p.2)
def vA (l:List (Str×D)) (x:Str) (d:D):List (Str×D):=if l.any (fun p=>decide (p.1=x)) then l.map (fun p=>if p.1=x then (p.1,d) else p) else l++[(x,d)]
theorem vB (x y:Str):bn (.str x) (.str y)=decide (x=y):=by
 show (x == y)=_
 rw [rH]
theorem RF (l:List (Str×D)) (x:Str) (d:D):xT (m5 l) (.str x) d=m5 (vA l x d):=by
 unfold xT vA m5
 rw [mW]
 have e:((fun kv:D×D=>bn kv.1 (.str x))∘fun p:Str×D=>(aU p.1,p.2))=fun p=>decide (p.1=x):=by
  funext p
  exact vB p.1 x
 rw [e]
 split
 ·rw [cj,cj]
  apply hW
  intro p _
  simp only [Function.comp,vB]
  by_cases h:p.1=x
  ·simp [h]
  ·simp [h]
 ·simp
theorem zB (l:List (Str×D)):ic (m5 l)=true:=by
 unfold ic m5
 rw [mV,cu]
 intro p _
 rfl
theorem Fd (l:List (Str×D)) (x:Str) (d:D):(vA l x d).length<=l.length + 1:=by
 unfold vA
 split<;>simp
theorem BR (l:List (Str×D)) (x:Str) (d:D):(vA l x d).map (·.1)=if x∈l.map (·.1) then l.map (·.1) else l.map (·.1)++[x]:=by
 unfold vA
 have e:(l.any fun p=>decide (p.1=x))=decide (x∈l.map (·.1)):=by
  rw [jI]
  simp only [lv,decide_eq_true_eq,xk]
 rw [e]
 by_cases h:x∈l.map (·.1)
 ·rw [decide_eq_true h,if_pos rfl,if_pos h,cj]
  apply hW
  intro p _
  by_cases hp:p.1=x<;>simp [hp]
 ·rw [decide_eq_false h,if_neg bq,if_neg h,b9]
  rfl
theorem OS {Q:Str->D->Prop}{l:List (Str×D)}{x:Str}{d:D} (h:∀ p∈l,Q p.1 p.2) (hx:Q x d):∀ p∈vA l x d,Q p.1 p.2:=by
 unfold vA
 split
 ·intro p hp
  obtain ⟨p',hp',rfl⟩:=List.mem_map.mp hp
  by_cases e:p'.1=x
  ·rw [if_pos e];rw [e];exact hx
  ·rw [if_neg e];exact h p' hp'
 ·intro p hp
  rcases List.mem_append.mp hp with hp | hp
  ·exact h p hp
  ·rw [List.mem_singleton.mp hp];exact hx
theorem Lm {l:List Str}{x:Str} (h:l.Nodup):(if x∈l then l else l++[x]).Nodup:=by
 by_cases hx:x∈l
 ·rw [if_pos hx];exact h
 ·rw [if_neg hx];exact yg h hx
theorem Te      (hi:ρ[i]?=some (Sl.own (.dict (m5 l)))) (hg:g ρ=.ok d) (hk:gk ρ=.ok (.str x)) (hl:l.length<1000):D3 i gk g ρ=.ok (.nx (ρ.set i (.own (.dict (m5 (vA l x d)))))):=by
 have hl':(m5 l).length<1000:=by unfold m5;rw [ao];exact hl
 have e:D3 i gk g ρ=(g ρ).bind fun d=>(gk ρ).bind fun k=>match tF k with
  | some _=>if (m5 l).length<1000/\ic (m5 l)=true then .ok (.nx (ρ.set i (.own (.dict (xT (m5 l) k d))))) else .no
  | none=>.no:=by
  unfold D3
  simp only [hi]
  try rfl
 rw [e,hg,zj,hk,zj]
 simp only [tF,if_pos (uM hl' (zB l)),RF]
theorem Fe (l:List (Str×D)):kQ (.dict (m5 l))=.ok (.list ((l.map (·.1)).map .str)):=by
 have e:∀ kvs,kQ (.dict kvs)=if ic kvs=true then .ok (.list (kvs.map (·.1))) else .no:=fun _=>rfl
 rw [e,if_pos (zB l)]
 unfold m5
 rw [cj,cj]
 rfl
theorem sorted_strs (ss:List Str) (h:ss.length<64):rW (.list (ss.map .str))=.ok (.list ((jP ss).map .str)):=by
 have e:∀ ds,rW (.list ds)=match eV ds with
  | some ss=>if ss.length<64 then .ok (.list ((jP ss).map .str)) else .no
  | none=>.no:=fun _=>rfl
 rw [e,strsOf_map]
 simp only [if_pos h]
theorem gM (ds:List D):io (.list ds)=.ok (.tuple ds):=id rfl
def Dh (ns:List Int) (k:Int) (n:Nat):List Str:=(bH n).map fun (i:Nat)=>lm ns (k + 1 + 8 * (i:Int))
def Di (ns:List Int) (k m:Int):List Str:=jP (dn [] (Dh ns k (fv ns k (m + 1)).toNat))
structure OT (fs:List Str) (n:Nat):Prop where
 ok:∀ x∈fs,De x=true
 up:fs.Pairwise fun a b=>qk a b=true
 len:fs.length<=n
theorem OU {α:Type}{a b:List α} (h:a.Perm b):a.length=b.length:=h.length_eq
theorem Ht (ns:List Int) (k m:Int) (hm:0<=m):OT (Di ns k m) m.toNat:=by
 have h0:=gy ns k (m + 1) (by omega)
 have h1:=i7 ns k (m + 1) (by omega)
 have hp:=i4 (dn [] (Dh ns k (fv ns k (m + 1)).toNat))
 refine ⟨fun x hx=>?_,?_,?_⟩
 ·have hx:=hp.mem_iff.mp hx
  rw [iS] at hx
  rcases hx with hx | hx
  ·cases hx
  ·obtain ⟨i,_,rfl⟩:=List.mem_map.mp hx
   exact Fc _ _
 ·exact wy (qS _) (hp.nodup_iff.mpr (iK _ [] fO))
 ·unfold Di
  rw [OU hp]
  have:=gn (Dh ns k (fv ns k (m + 1)).toNat) []
  unfold Dh at this ⊢
  simp at this
  omega
theorem Ln (f:Nat->Str) (l:List Nat):∀ acc:List (Str×D),((l.foldl (fun (a:List (Str×D)) i=>vA a (f i) (.bool true)) acc).map (·.1))=dn (acc.map (·.1)) (l.map f):=by
 induction l with
 | nil=>intro acc;rfl
 | cons i r ih =>
  intro acc
  rw [cP,ih,av,BR]
  rfl
theorem OV (ns:List Int) (k m:Int) (hk:0<=k) (hm:0<=m) (hm2:m<=20):nG [.list (ns.map .int),.int k,.int m]=.ok (.tuple ((Di ns k m).map .str)):=by
 have h0:=gy ns k (m + 1) (by omega)
 have h1:=i7 ns k (m + 1) (by omega)
 unfold nG
 refine cr ?_
 unfold nF bP
 walk_at "zz"
 rw [tG (ds:=(bH (fv ns k (m + 1)).toNat).map fun (i:Nat)=>cD i)]
 ·refine JK (fun (i:Nat)=>cD i) (fun (a:List (Str×D)) i=>vA a (lm ns (k + 1 + 8 * (i:Int))) (.bool true)) (fun c6 a ρ=>a.length + c6.length<=60/\∃ z,ρ=[.shr (.list (ns.map .int)),.shr (.int k),.shr (.int m),.own (.dict (m5 a)),z]) [] ?_ ⟨by simp;omega,_,rfl⟩ ?_
  ·rintro i c6 a ρ ⟨hl,z,rfl⟩
   simp only [aW] at hl
   refine ⟨_,[.shr (.list (ns.map .int)),.shr (.int k),.shr (.int m),.own (.dict (m5 (vA a (lm ns (k + 1 + 8 * (i:Int))) (.bool true)))),.shr (.int i)],rfl,?_,?_,_,rfl⟩
   ·refine (Te (l:=a) (x:=lm ns (k + 1 + 8 * (i:Int))) (d:=.bool true) rfl rfl ?_ (by omega)).trans rfl
    walk_at "zz"
    rw [sB (by decide) (by decide)]
    walk_at "zz"
    rw [JP ns _ (by omega)]
   ·have:=Fd a (lm ns (k + 1 + 8 * (i:Int))) (.bool true)
    omega
  ·rintro ρ' ⟨hl,z,rfl⟩
   simp only [bT] at hl
   walk_at "zz"
   rw [Fe]
   walk_at "zz"
   have ek:=Ln (fun i=>lm ns (k + 1 + 8 * (i:Int))) (bH (fv ns k (m + 1)).toNat) []
   rw [ek,sorted_strs]
   ·walk_at "zz"
    rw [gM]
    walk_at "zz"
    rfl
   ·rw [<- ek,ao];omega
 ·walk_at "zz"
  rw [f_ ns k (m + 1) hk (by omega)]
  walk_at "zz"
  have:=Dd (fv ns k (m + 1)).toNat (by omega)
  rw [eg h0] at this
  exact this
structure gU where
 name:Str
 needs:List Str
 bars:List Str
 makes:List Str
 ends:List Str
 price:Int
abbrev aD (xs:List Str):D:=.tuple (xs.map .str)
def du (e:gU):D:=.tuple [.str e.name,aD e.needs,aD e.bars,aD e.makes,aD e.ends,.int e.price]
structure tM (fs xs:List Str):Prop where
 up:xs.Pairwise fun a b=>qk a b=true
 mem:∀ x∈xs,x∈fs
structure tN (fs:List Str) (e:gU):Prop where
 name:De e.name=true
 needs:tM fs e.needs
 bars:tM fs e.bars
 makes:tM fs e.makes
 ends:tM fs e.ends
 nb:∀ x∈e.needs,x∉e.bars
 me:∀ x∈e.makes,x∉e.ends
 p0:0<=e.price
 p9:e.price<=9
def srt (xs:List Str):List Str:=jP (dn [] xs)
theorem nH  : x∈srt xs↔x∈xs:=by
 unfold srt
 rw [(i4 _).mem_iff,iS]
 simp
theorem Hu (xs:List Str):(srt xs).Pairwise fun a b=>qk a b=true:=wy (qS _) ((i4 _).nodup_iff.mpr (iK _ [] fO))
theorem yr (h:∀ x∈xs,x∈fs):tM fs (srt xs):=⟨Hu xs,fun x hx=>h x (nH.mp hx)⟩
theorem Dj (fs:List Str) (j:Int) (h0:0<=j) (h1:j<fs.length):∃ x,x∈fs/\bp (aD fs) (.int j)=.ok (.str x):=by
 have hj:j.toNat<fs.length:=by omega
 refine ⟨fs[j.toNat],ja hj,?_⟩
 have e:∀ xs k,bp (.tuple xs) k=Ew (.tuple xs) k:=fun _ _=>rfl
 rw [e]
 have hx:=rN (xs:=fs.map aU) (j:=j.toNat) (v:=.str fs[j.toNat]) (by rw [aT,aV hj];rfl)
 rw [eg h0] at hx
 unfold Ew
 simp only [hx]
theorem zC (x:Str):∀ ys:List Str,((ys.map aU).any fun y=>bn y (.str x))=decide (x∈ys)
 | []=>rfl
 | y::r=>by
  rw [av,dY,zC x r,vB]
  by_cases h:y=x
  ·subst h;simp
  ·simp [h,cV h]
theorem zD (ys:List Str):(ys.map aU).all lN=true:=by
 rw [mV,cu];intro _ _;rfl
theorem RG (neg:Bool) (x:Str) (ys:List Str):Es neg (.str x) (.list (ys.map .str))=.ok (.bool (if neg then !decide (x∈ys) else decide (x∈ys))):=by
 have e:Es neg (.str x) (.list (ys.map .str))=if lN (.str x) && (ys.map aU).all lN then .ok (.bool (if neg then !((ys.map aU).any fun y=>bn y (.str x)) else (ys.map aU).any fun y=>bn y (.str x))) else .no:=rfl
 rw [e,zD,zC]
 rfl
theorem rh (neg:Bool) (x:Str) (ys:List Str):Es neg (.str x) (aD ys)=.ok (.bool (if neg then !decide (x∈ys) else decide (x∈ys))):=by
 have e:Es neg (.str x) (aD ys)=if lN (.str x) && (ys.map aU).all lN then .ok (.bool (if neg then !((ys.map aU).any fun y=>bn y (.str x)) else (ys.map aU).any fun y=>bn y (.str x))) else .no:=rfl
 rw [e,zD,zC]
 rfl
theorem kz (neg:Bool) (a b:Int):nZ neg (.int a) (.int b)=.ok (.bool (if neg then !decide (a=b) else decide (a=b))):=by
 have e:nZ neg (.int a) (.int b)=.ok (.bool (if neg then !(a == b) else (a == b))):=rfl
 rw [e,rH]
theorem yt (h:De x=true):(aU x).canLay0=true:=by
 unfold De at h
 simp only [aR,cu,decide_eq_true_eq] at h
 show PyData.strOk x=true
 unfold PyData.strOk
 rw [<- xI,cu]
 intro c hc
 have:=h.2 c hc
 exact decide_eq_true (by omega)
theorem Dk (neg:Bool) (hx:De x=true) (hy:De y=true):nZ neg (.str x) (.str y)=.ok (.bool (if neg then !decide (x=y) else decide (x=y))):=by
 unfold nZ
 rw [yt hx,yt hy,vB]
 rfl
theorem zE (ss:List Str) (h:ss.length<60):ua (.list (ss.map .str))=.ok (dn [] ss):=by
 have e:∀ ds,ua (.list ds)=match eV ds with
  | some ss=>if ss.length<60 then .ok (dn [] ss) else .no
  | none=>.no:=fun _=>rfl
 rw [e,strsOf_map]
 simp only [if_pos h]
theorem JQ (g:aB->R D) (s:Sl) (ρ:aB):pB g (s::ρ)=(g (s::ρ)).bind ua:=id rfl
def Tf:List Str->R D:=fun ss=>if ss.length<64 then .ok (.list ((jP ss).map .str)) else .no
theorem wI (g:aB->R (List Str)) (s:Sl) (ρ:aB):lc g (s::ρ)=(g (s::ρ)).bind Tf:=id rfl
theorem zF (ss:List Str) (h:ss.length<64):Tf ss=.ok (.list ((jP ss).map .str)):=if_pos h
theorem Lo (ss:List Str) (h:ss.length<60) (ρ:aB):(cb (J.ag (lc (pB (rB 0))) J.aL) (iy io)) (.shr (.list (ss.map .str))::ρ)=.ok (aD (srt ss)):=by
 walk_at "zz"
 rw [wI,JQ]
 walk_at "zz"
 rw [zE ss h]
 walk_at "zz"
 rw [zF _ (by have:=gn ss [];simp at this;omega)]
 walk_at "zz"
 rw [gM]
 rfl
theorem Ff      (hρ:ρ=s::r) (h:gt (.shr (.str x)::r)=.ok b):g_ (iw 1 ρ gt (rS 0)) [.str x]=.ok ((if b then [x] else []).map .str):=by
 subst hρ
 have e:=pC (ρ:=s::r) (gt:=gt) (ge:=(rS 0)) (d:=.str x) (y:=.str x) (b:=b) h fun _=>rfl
 unfold g_
 rw [e,zj]
 unfold g_
 rw [zj]
 cases b<;>rfl
theorem UX (p q r t:List Str) (hp:p.length<60) (hq:q.length<60) (hr:r.length<60) (ht:t.length<60):g_ (iw 1 [Sl.no] kT (cb (J.ag (lc (pB (rB 0))) J.aL) (iy io))) [.list (p.map .str),.list (q.map .str),.list (r.map .str),.list (t.map .str)]=.ok [aD (srt p),aD (srt q),aD (srt r),aD (srt t)] :=
 dQ _ (fun ss:List Str=>gC (ss.map .str)) (fun ss=>aD (srt ss)) [p,q,r,t] fun ss hs=>fL rfl (Lo ss (by simp at hs;rcases hs with h | h | h | h<;>(rw [h];assumption)) _)
theorem Tg (a b c d:D):bp (.list [a,b,c,d]) (.int 0)=.ok a:=id rfl
theorem Th (a b c d:D):bp (.list [a,b,c,d]) (.int 1)=.ok b:=id rfl
theorem Ti (a b c d:D):bp (.list [a,b,c,d]) (.int 2)=.ok c:=id rfl
theorem Tj (a b c d:D):bp (.list [a,b,c,d]) (.int 3)=.ok d:=id rfl
theorem RH (ns:List Int) (k:Int) (hk:0<=k) (fs:List Str) (hf:∀ x∈fs,De x=true) (h0:0<fs.length) (nm:Str) (hn:De nm=true) :
  ∃ e,pL [.list (ns.map .int),.int k,aD fs,.str nm]=.ok (du e)/\tN fs e/\e.name=nm:=by
 have hl:(0:Int)<(fs.length:Int):=by omega
 obtain ⟨a,ha,ea⟩:=Dj fs (fv ns (k + 10) fs.length) (gy _ _ _ hl) (i7 _ _ _ hl)
 obtain ⟨b,hb,eb⟩:=Dj fs (fv ns (k + 11) fs.length) (gy _ _ _ hl) (i7 _ _ _ hl)
 obtain ⟨c,hc,ec⟩:=Dj fs (fv ns (k + 12) fs.length) (gy _ _ _ hl) (i7 _ _ _ hl)
 have m13a:=gy ns (k + 13) 3 (by decide)
 have m13b:=i7 ns (k + 13) 3 (by decide)
 obtain ⟨nd,hnd,hnl,end_⟩:∃ nd:List Str,(∀ x∈nd,x∈fs)/\nd.length<60/\IS (.list [.str a,.str b]) none (some (1 + fv ns (k + 13) 3 / 2))=.ok (.list (nd.map .str)):=by
  by_cases h2:fv ns (k + 13) 3=2
  ·exact ⟨[a,b],by simp [ha,hb],by simp,by rw [h2];rfl⟩
  ·have:fv ns (k + 13) 3 / 2=0:=by omega
   exact ⟨[a],by simp [ha],by simp,by rw [this];rfl⟩
 let bb:Bool:=!decide (c∈nd) && decide (fv ns (k + 14) 4=0)
 let be:Bool:=!decide (a=c) && decide (fv ns (k + 15) 3=0)
 have p0:=gy ns k 5 (by decide)
 have p1:=i7 ns k 5 (by decide)
 refine ⟨⟨nm,srt nd,srt (if bb then [c] else []),srt [c],srt (if be then [a] else []),fv ns k 5⟩,?_,⟨hn,yr hnd,yr ?_,yr (by simp [hc]),yr ?_,fun x h1 h2=>?_,fun x h1 h2=>?_,p0,by show fv ns k 5<=9;omega⟩,rfl⟩
 ·unfold pL
  refine cr ?_
  unfold pK bP
  walk_at "zz"
  rw [f_ ns _ _ (by omega) hl]
  walk_at "zz"
  rw [ea]
  walk_at "zz"
  rw [f_ ns (k + 11) _ (by omega) hl]
  walk_at "zz"
  rw [eb]
  walk_at "zz"
  rw [f_ ns (k + 12) _ (by omega) hl]
  walk_at "zz"
  rw [ec]
  walk_at "zz"
  rw [f_ ns (k + 13) 3 (by omega) (by decide)]
  walk_at "zz"
  simp only [GE,decide_true,oZ,if_true]
  walk_at "zz"
  rw [end_]
  walk_at "zz"
  rw [Ff (b:=bb) rfl]
  ·walk_at "zz"
   rw [Ff (b:=be) rfl]
   ·walk_at "zz"
    simp only [SD]
    rw [D5 rfl,D5 rfl]
    walk_at "zz"
    have pk:=UX nd (if bb then [c] else []) [c] (if be then [a] else []) hnl (by cases bb<;>simp) (by simp) (by cases be<;>simp)
    rw [show ([c].map aU)=[aU c] from rfl] at pk
    rw [pk]
    walk_at "zz"
    rw [Tg]
    walk_at "zz"
    rw [Th]
    walk_at "zz"
    rw [Ti]
    walk_at "zz"
    rw [Tj]
    walk_at "zz"
    rw [f_ ns k 5 hk (by decide)]
    walk_at "zz"
    rfl
   ·walk_at "zz"
    rw [Dk true (hf a ha) (hf c hc)]
    walk_at "zz"
    by_cases hac:a=c
    ·simp only [be,hac,decide_true,jx,B8,if_true,cond_false]
    ·simp only [be,hac,decide_false,j5,uV,if_true,cond_true]
     rw [f_ ns (k + 15) 3 (by omega) (by decide)]
     walk_at "zz"
     rw [kz]
     walk_at "zz"
  ·walk_at "zz"
   rw [RG]
   walk_at "zz"
   by_cases hcn:c∈nd
   ·simp only [bb,hcn,decide_true,jx,B8,if_true,cond_false]
   ·simp only [bb,hcn,decide_false,j5,uV,if_true,cond_true]
    rw [f_ ns (k + 14) 4 (by omega) (by decide)]
    walk_at "zz"
    rw [kz]
    walk_at "zz"
 ·intro x hx
  cases hbb:bb
  ·simp [hbb] at hx
  ·simp [hbb] at hx;rw [hx];exact hc
 ·intro x hx
  cases hbe:be
  ·simp [hbe] at hx
  ·simp [hbe] at hx;rw [hx];exact ha
 ·have h2:x∈(if bb then [c] else []):=nH.mp h2
  cases hbb:bb
  ·simp [hbb] at h2
  ·simp [hbb] at h2
   subst h2
   have:(!decide (x∈nd))=true:=by
    have:(!decide (x∈nd) && decide (fv ns (k + 14) 4=0))=true:=hbb
    simp only [aR] at this
    exact this.1
   simp at this
   exact this (nH.mp h1)
 ·cases hbe:be
  ·have h2:x∈(if be then [a] else []):=nH.mp h2
   simp [hbe] at h2
  ·skip
   have h4:x∈[c]:=nH.mp h1
   have h5:x∈(if be then [a] else []):=nH.mp h2
   simp only [cf] at h4
   simp only [hbe,if_true,cf] at h5
   have:(!decide (a=c) && decide (fv ns (k + 15) 3=0))=true:=hbe
   simp only [aR] at this
   have h3:=this.1
   simp at h3
   exact h3 (h5.symm.trans h4)
theorem Dl       (hi:ρ[i]?=some (Sl.ow2 dss)) (hj:gi ρ=.ok (.int j)) (h0:0<=j) (hd:dss[j.toNat]?=some ds) (hg:g ρ=.ok d) (hl:ds.length<1000):oK i gi g ρ=.ok (.nx (ρ.set i (.ow2 (dss.set j.toNat (ds++[d]))))):=by
 unfold oK
 simp only [hi,hj,bind_ok,if_pos h0,hd,hg,if_pos hl]
def nI (n:Nat):List Str->List (Nat×Str)
 | []=>[]
 | x::r=>(n,x)::nI (n + 1) r
abbrev cI (p:Nat×Str):D:=.tuple [.int (p.1:Nat),.str p.2]
theorem yu:∀ (xs:List Str) (n:Nat),qq n (xs.map .str)=(nI n xs).map cI
 | [],_=>rfl
 | x::r,n=>by
  show fh [.int n,.str x]::qq (n + 1) (r.map .str)=cI (n,x)::(nI (n + 1) r).map cI
  rw [yu r (n + 1)]
theorem sC:∀ (xs:List Str) (n:Nat),(nI n xs).map (·.2)=xs
 | [],_=>rfl
 | x::r,n=>by
  show x::(nI (n + 1) r).map (·.2)=x::r
  rw [sC r]
theorem Fg:∀ (fs:List Str),(∀ x∈fs,De x=true)->cF (fs.map .str)=true
 | [],_=>rfl
 | x::r,h=>by
  have h1:=yt (h x am)
  have h2:=Fg r fun y hy=>h y (ah _ hy)
  simp only [av,cF,h1,h2,oZ]
theorem JR (fs:List Str) (hf:∀ x∈fs,De x=true):nZ true (aD fs) (.tuple [])=.ok (.bool (!decide (fs=[]))):=by
 unfold nZ
 have h1:(aD fs).canLay0=true:=by simp only [iN];exact Fg fs hf
 have h2:(fh []).canLay0=true:=rfl
 have h3:min (aD fs).depth (fh []).depth<=60:=cy (qu _ _) (by decide)
 have h4:bn (aD fs) (.tuple [])=decide (fs=[]):=by
  cases fs with
  | nil=>rfl
  | cons x r=>simp [bn,im]
 rw [h1,h2,decide_eq_true h3,h4]
 rfl
structure o9 (pre p q:List Str):Prop where
 sp:p.Sublist pre
 sq:q.Sublist pre
 d:∀ x∈p,x∉q
theorem o9.skip (h:o9 pre p q) (x:Str):o9 (pre++[x]) p q:=⟨h.sp.trans (jy _ _),h.sq.trans (jy _ _),h.d⟩
theorem o9.left (h:o9 pre p q) (x:Str) (hx:x∉pre):o9 (pre++[x]) (p++[x]) q:=⟨h.sp.append (eI _),h.sq.trans (jy _ _),fun y hy hq=>by
 rcases List.mem_append.mp hy with h1 | h1
 ·exact h.d y h1 hq
 ·rw [List.mem_singleton.mp h1] at hq
  exact hx (h.sq.subset hq)⟩
theorem o9.right (h:o9 pre p q) (x:Str) (hx:x∉pre):o9 (pre++[x]) p (q++[x]):=⟨h.sp.trans (jy _ _),h.sq.append (eI _),fun y hy hq=>by
 rcases List.mem_append.mp hq with h1 | h1
 ·exact h.d y hy h1
 ·rw [List.mem_singleton.mp h1] at hy
  exact hx (h.sp.subset hy)⟩
abbrev o4 (p q r t:List Str):Sl:=.ow2 [p.map .str,q.map .str,r.map .str,t.map .str]
theorem WY (j:Int) (h0:0<=j) (h1:j<3):∃ b:Bool,bp (.list [.int 0,.int 0,.int 1]) (.int j)=.ok (.int (if b then 0 else 1)):=by
 have:j=0\/j=1\/j=2:=by omega
 rcases this with h | h | h<;>subst h
 ·exact ⟨true,rfl⟩
 ·exact ⟨true,rfl⟩
 ·exact ⟨false,rfl⟩
theorem WZ (j:Int) (h0:0<=j) (h1:j<4):∃ b:Bool,bp (.list [.int 2,.int 2,.int 3,.int 3]) (.int j)=.ok (.int (if b then 2 else 3)):=by
 have:j=0\/j=1\/j=2\/j=3:=by omega
 rcases this with h | h | h | h<;>subst h
 ·exact ⟨true,rfl⟩
 ·exact ⟨true,rfl⟩
 ·exact ⟨false,rfl⟩
 ·exact ⟨false,rfl⟩
theorem vC (p:List Str) (x:Str):(p++[x]).map aU=p.map .str++[.str x]:=by simp
theorem OW    (hp:o9 pre p q) (hx:x∉pre) (hl:pre.length<900) (h0:0<=j) :
  ∃ p' q',o9 (pre++[x]) p' q'/\eY (fR (g2 (rB 7) (kI 3) AH)) (oK 4 (g2 (ft (J.ag (kI 0) (J.ag (kI 0) (J.ag (kI 1) J.aL))) .list) (rB 7) bp) (rS 6)) (fun ρ=>.ok (.nx ρ)) [a,b,c,d,o4 p q r t,e,.shr (.str x),.shr (.int j),f]=.ok (.nx [a,b,c,d,o4 p' q' r t,e,.shr (.str x),.shr (.int j),f]):=by
 by_cases h3:j<3
 ·obtain ⟨bo,e3⟩:=WY j h0 h3
  have lp:p.length<1000:=by have:=hp.sp.length_le;omega
  have lq:q.length<1000:=by have:=hp.sq.length_le;omega
  cases bo
  ·refine ⟨p,q++[x],hp.right x hx,?_⟩
   walk_at "zz"
   rw [decide_eq_true h3]
   walk_at "zz"
   simp only [o4,vC]
   refine (Dl (j:=1) (ds:=q.map .str) (d:=.str x) rfl ?_ (by decide) rfl rfl (by rw [ao];exact lq)).trans rfl
   walk_at "zz"
   rw [e3]
   rfl
  ·refine ⟨p++[x],q,hp.left x hx,?_⟩
   walk_at "zz"
   rw [decide_eq_true h3]
   walk_at "zz"
   simp only [o4,vC]
   refine (Dl (j:=0) (ds:=p.map .str) (d:=.str x) rfl ?_ (by decide) rfl rfl (by rw [ao];exact lp)).trans rfl
   walk_at "zz"
   rw [e3]
   rfl
 ·refine ⟨p,q,hp.skip x,?_⟩
  walk_at "zz"
  rw [decide_eq_false h3]
  walk_at "zz"
theorem OX    (hp:o9 pre r t) (hx:x∉pre) (hl:pre.length<900) (h0:0<=j) :
  ∃ r' t',o9 (pre++[x]) r' t'/\eY (fR (g2 (rB 7) (kI 4) AH)) (oK 4 (g2 (ft (J.ag (kI 2) (J.ag (kI 2) (J.ag (kI 3) (J.ag (kI 3) J.aL)))) .list) (rB 7) bp) (rS 6)) (fun ρ=>.ok (.nx ρ)) [a,b,c,d,o4 p q r t,e,.shr (.str x),.shr (.int j),f]=.ok (.nx [a,b,c,d,o4 p q r' t',e,.shr (.str x),.shr (.int j),f]):=by
 by_cases h3:j<4
 ·obtain ⟨bo,e3⟩:=WZ j h0 h3
  have lp:r.length<1000:=by have:=hp.sp.length_le;omega
  have lq:t.length<1000:=by have:=hp.sq.length_le;omega
  cases bo
  ·refine ⟨r,t++[x],hp.right x hx,?_⟩
   walk_at "zz"
   rw [decide_eq_true h3]
   walk_at "zz"
   simp only [o4,vC]
   refine (Dl (j:=3) (ds:=t.map .str) (d:=.str x) rfl ?_ (by decide) rfl rfl (by rw [ao];exact lq)).trans rfl
   walk_at "zz"
   rw [e3]
   rfl
  ·refine ⟨r++[x],t,hp.left x hx,?_⟩
   walk_at "zz"
   rw [decide_eq_true h3]
   walk_at "zz"
   simp only [o4,vC]
   refine (Dl (j:=2) (ds:=r.map .str) (d:=.str x) rfl ?_ (by decide) rfl rfl (by rw [ao];exact lp)).trans rfl
   walk_at "zz"
   rw [e3]
   rfl
 ·refine ⟨r,t,hp.skip x,?_⟩
  walk_at "zz"
  rw [decide_eq_false h3]
  walk_at "zz"
theorem W_ (i:Nat) (ρ:aB):Rh i ρ=.ok (.nx ((clear2 ρ).set i (.ow2 [[],[],[],[]]))):=id rfl
theorem o9.sub (up:fs.Pairwise fun a b=>qk a b=true) (h:o9 fs p q):tM fs p/\tM fs q:=⟨⟨up.sublist h.sp,fun x hx=>h.sp.subset hx⟩,⟨up.sublist h.sq,fun x hx=>h.sq.subset hx⟩⟩
theorem OY (p:List Str) (ρ:aB):(cb (J.ag (rB 0) J.aL) (iy io)) (.shr (.list (p.map .str))::ρ)=.ok (aD p):=by
 walk_at "zz"
 rw [gM]
theorem X0 (p q r t:List Str):g_ (iw 1 [Sl.no] kT (cb (J.ag (rB 0) J.aL) (iy io))) [.list (p.map .str),.list (q.map .str),.list (r.map .str),.list (t.map .str)]=.ok [aD p,aD q,aD r,aD t] :=
 dQ _ (fun ss:List Str=>gC (ss.map .str)) (fun ss=>aD ss) [p,q,r,t] fun ss hs=>fL rfl (OY ss _)
theorem Lp (ns:List Int) (k:Int) (hk:0<=k) (fs:List Str) (hf:∀ x∈fs,De x=true) (up:fs.Pairwise fun a b=>qk a b=true) (nd:fs.Nodup) (hl:fs.length<=6) (nm:Str) (hn:De nm=true) :
  ∃ e,iW [.list (ns.map .int),.int k,aD fs,.str nm]=.ok (du e)/\tN fs e/\e.name=nm:=by
 have p0:=gy ns k 5 (by decide)
 have p1:=i7 ns k 5 (by decide)
 have go:∀ ρ:aB,ρ=[.shr (.list (ns.map .int)),.shr (.int k),.shr (aD fs),.shr (.str nm),.no,.no,.no,.no,.no]->(!decide (fs=[]) && decide (fv ns 97 2=0))=false->∃ e,iV ρ=.ok (.rt (du e))/\tN fs e/\e.name=nm:=by
  rintro ρ rfl hc
  obtain ⟨ρ',h1,p,q,r,t,h2,h3,h4⟩:∃ ρ',(qx (Hf (J.ag (rS 2) J.aL)) (o6 2 (da (c8 5) (da (c8 6) pz))) (aY (gY 7 (eR 3 bB (J.ag (rS 0) (J.ag (g2 (g2 (rB 1) (kI 10) dZ) (rB 5) dZ) (J.ag (kI 8) J.aL))))) (aY (eY (fR (g2 (rB 7) (kI 3) AH)) (oK 4 (g2 (ft (J.ag (kI 0) (J.ag (kI 0) (J.ag (kI 1) J.aL))) .list) (rB 7) bp) (rS 6)) (fun ρ=>.ok (.nx ρ))) (aY (gY 7 (eR 3 bB (J.ag (rS 0) (J.ag (g2 (g2 (rB 1) (kI 20) dZ) (rB 5) dZ) (J.ag (kI 8) J.aL))))) (eY (fR (g2 (rB 7) (kI 4) AH)) (oK 4 (g2 (ft (J.ag (kI 2) (J.ag (kI 2) (J.ag (kI 3) (J.ag (kI 3) J.aL)))) .list) (rB 7) bp) (rS 6)) (fun ρ=>.ok (.nx ρ))))))) [.shr (.list (ns.map .int)),.shr (.int k),.shr (aD fs),.shr (.str nm),o4 [] [] [] [],.no,.no,.no,.no]=.ok (.nx ρ')/\∃ p q r t,o9 fs p q/\o9 fs r t/\∃ z5 z6 z7,ρ'=[.shr (.list (ns.map .int)),.shr (.int k),.shr (aD fs),.shr (.str nm),o4 p q r t,z5,z6,z7,.no]:=by
   rw [tG (ds:=(nI 0 fs).map cI)]
   ·have H:=rg cI (fun (a:Unit) (_:Nat×Str)=>a) (fun c6 _ ρ=>∃ pre,pre++c6.map (·.2)=fs/\∃ p q r t,o9 pre p q/\o9 pre r t/\∃ z5 z6 z7,ρ=[.shr (.list (ns.map .int)),.shr (.int k),.shr (aD fs),.shr (.str nm),o4 p q r t,z5,z6,z7,.no]) (kt:=o6 2 (da (c8 5) (da (c8 6) pz))) (gb:=(aY (gY 7 (eR 3 bB (J.ag (rS 0) (J.ag (g2 (g2 (rB 1) (kI 10) dZ) (rB 5) dZ) (J.ag (kI 8) J.aL))))) (aY (eY (fR (g2 (rB 7) (kI 3) AH)) (oK 4 (g2 (ft (J.ag (kI 0) (J.ag (kI 0) (J.ag (kI 1) J.aL))) .list) (rB 7) bp) (rS 6)) (fun ρ=>.ok (.nx ρ))) (aY (gY 7 (eR 3 bB (J.ag (rS 0) (J.ag (g2 (g2 (rB 1) (kI 20) dZ) (rB 5) dZ) (J.ag (kI 8) J.aL))))) (eY (fR (g2 (rB 7) (kI 4) AH)) (oK 4 (g2 (ft (J.ag (kI 2) (J.ag (kI 2) (J.ag (kI 3) (J.ag (kI 3) J.aL)))) .list) (rB 7) bp) (rS 6)) (fun ρ=>.ok (.nx ρ)))))))
    obtain ⟨ρ',h1,pre,h2,p,q,r,t,h3,h4,h5⟩:=H (by
     rintro ⟨i,x⟩ c6 _ ρ ⟨pre,h2,p,q,r,t,h3,h4,z5,z6,z7,rfl⟩
     have hx:x∉pre:=by
      rw [<- h2,av] at nd
      have:=(List.nodup_append.mp nd).2.2
      intro hx
      exact this x hx x am rfl
     have hpl:pre.length<900:=by
      have:=congrArg lL h2
      rw [aM] at this
      omega
     obtain ⟨p',q',k1,k2⟩:=OW (a:=.shr (.list (ns.map .int))) (b:=.shr (.int k)) (c:=.shr (aD fs)) (d:=.shr (.str nm)) (e:=.shr (.int (i:Nat))) (f:=.no) (r:=r) (t:=t) (j:=fv ns (k + 10 + i) 8) h3 hx hpl (gy _ _ _ (by decide))
     obtain ⟨r',t',k3,k4⟩:=OX (a:=.shr (.list (ns.map .int))) (b:=.shr (.int k)) (c:=.shr (aD fs)) (d:=.shr (.str nm)) (e:=.shr (.int (i:Nat))) (f:=.no) (p:=p') (q:=q') (j:=fv ns (k + 20 + i) 8) h4 hx hpl (gy _ _ _ (by decide))
     refine ⟨[.shr (.list (ns.map .int)),.shr (.int k),.shr (aD fs),.shr (.str nm),o4 p q r t,.shr (.int (i:Nat)),.shr (.str x),z7,.no],[.shr (.list (ns.map .int)),.shr (.int k),.shr (aD fs),.shr (.str nm),o4 p' q' r' t',.shr (.int (i:Nat)),.shr (.str x),.shr (.int (fv ns (k + 20 + i) 8)),.no],rfl,?_,pre++[x],?_,p',q',r',t',k1,k3,_,_,_,rfl⟩
     ·rw [EH,NN]
      walk_at "yy"
      rw [f_ ns _ 8 (by omega) (by decide)]
      walk_at "yy"
      rw [k2]
      walk_at "yy"
      rw [f_ ns _ 8 (by omega) (by decide)]
      walk_at "yy"
      rw [k4]
     ·rw [<- h2];simp) (nI 0 fs) () [.shr (.list (ns.map .int)),.shr (.int k),.shr (aD fs),.shr (.str nm),o4 [] [] [] [],.no,.no,.no,.no] ⟨[],by rw [sC];rfl,[],[],[],[],⟨eI _,eI _,fun _ h=>nomatch h⟩,⟨eI _,eI _,fun _ h=>nomatch h⟩,_,_,_,rfl⟩
    refine ⟨ρ',h1,p,q,r,t,?_,?_,h5⟩
    ·simp only [d_,cO] at h2
     rw [<- h2];exact h3
    ·simp only [d_,cO] at h2
     rw [<- h2];exact h4
   ·walk_at "zz"
    rw [yu]
  obtain ⟨s1,s2⟩:=h2.sub up
  obtain ⟨s3,s4⟩:=h3.sub up
  obtain ⟨z5,z6,z7,rfl⟩:=h4
  refine ⟨⟨nm,p,q,r,t,fv ns k 5⟩,?_,⟨hn,s1,s2,s3,s4,h2.d,h3.d,p0,by show fv ns k 5<=9;omega⟩,rfl⟩
  unfold iV
  have hand:CS (fR (g2 (rB 2) (ft J.aL .tuple) (nZ true))) (fR (g2 (eR 3 bB (J.ag (rS 0) (J.ag (kI 97) (J.ag (kI 2) J.aL)))) (kI 0) (nZ false))) [.shr (.list (ns.map .int)),.shr (.int k),.shr (aD fs),.shr (.str nm),.no,.no,.no,.no,.no]=.ok false:=by
   walk_at "zz"
   rw [JR fs hf]
   walk_at "zz"
   by_cases h:fs=[]
   ·simp only [h,decide_true,jx,cond_false]
   ·simp only [h,decide_false,j5,cond_true,uV] at hc ⊢
    rw [f_ ns 97 2 (by decide) (by decide)]
    walk_at "zz"
    rw [kz]
    walk_at "zz"
    rw [hc]
  rw [EH,Wo,hand]
  simp only [zj,NL,W_,clear2,av,d_,vY,vX,zj,vk,EH]
  rw [show Sl.ow2 [[],[],[],[]]=o4 [] [] [] [] from rfl,h1]
  walk_at "zz"
  rw [X0]
  walk_at "zz"
  rw [Tg]
  walk_at "zz"
  rw [Th]
  walk_at "zz"
  rw [Ti]
  walk_at "zz"
  rw [Tj]
  walk_at "zz"
  rw [f_ ns k 5 hk (by decide)]
  walk_at "zz"
  rfl
 by_cases hc:(!decide (fs=[]) && decide (fv ns 97 2=0))=true
 ·have h0:0<fs.length:=by
   rcases fs with _ | ⟨x,r⟩
   ·simp at hc
   ·simp
  obtain ⟨e,h1,h2⟩:=RH ns k hk fs hf h0 nm hn
  refine ⟨e,?_,h2⟩
  unfold iW
  refine cr ?_
  unfold iV bP
  walk_at "zz"
  rw [JR fs hf]
  walk_at "zz"
  simp only [aR] at hc
  rw [hc.1]
  walk_at "zz"
  rw [f_ ns 97 2 (by decide) (by decide)]
  walk_at "zz"
  rw [kz]
  walk_at "zz"
  rw [hc.2]
  walk_at "zz"
  rw [h1]
  walk_at "zz"
 ·obtain ⟨e,h1,h2⟩:=go _ rfl (Bool.eq_false_iff.mpr hc)
  exact ⟨e,by unfold iW;exact cr h1,h2⟩
theorem OZ (ds:List D) (t:Nat) (h:t<=ds.length):AI ds (some (t:Int)) none=ds.drop t:=by
 unfold AI
 rw [HT.IC,HT.E1,mB h,kh (by rw [y9];exact ar _)]
theorem UY (ds:List D) (t:Nat) (h:t<=ds.length):AI ds none (some (t:Int))=ds.take t:=by
 unfold AI
 rw [HT.IC,HT.E1,mB h,List.drop_zero,Nat.sub_zero]
theorem X1 (ds:List D) (t:Nat) (h:t<=ds.length):IS (.list ds) (some (t:Int)) none=.ok (.list (ds.drop t)):=by
 rw [<- OZ ds t h];rfl
theorem X2 (ds:List D) (t:Nat) (h:t<=ds.length):IS (.list ds) none (some (t:Int))=.ok (.list (ds.take t)):=by
 rw [<- UY ds t h];rfl
theorem UZ (nd:(l.map (·.1)).Nodup) (hp:p∈l):bp (.dict (m5 l)) (.str p.1)=.ok p.2:=by
 have e:∀ kvs x,bp (.dict kvs) (.str x)=if ic kvs=true then (match lP kvs (.str x) with
   | some d=>.ok d
   | none=>.no) else .no:=fun _ _=>rfl
 rw [e,if_pos (zB l)]
 have:lP (m5 l) (.str p.1)=some p.2:=by
  unfold lP m5
  clear e
  induction l with
  | nil=>cases hp
  | cons q r ih =>
   rw [av] at nd
   obtain ⟨n1,n2⟩:=List.nodup_cons.mp nd
   rw [av,bS,vB]
   rcases List.mem_cons.mp hp with h | h
   ·subst h;simp
   ·have:q.1≠p.1:=fun z=>n1 (z ▸ bx h)
    rw [decide_eq_false this]
    exact ih n2 h
 rw [this]
structure el (fs:List Str) (es:List gU):Prop where
 rise:OT fs 6
 len:es.length<=6
 nd:(es.map (·.name)).Nodup
 ok:∀ e∈es,tN fs e
def dU (fs:List Str) (es:List gU):D:=.tuple [aD fs,.tuple (es.map du)]
theorem X3 (fs:List Str):∀ (l:List (Str×D)),(∀ p∈l,∃ e,p.2=du e/\tN fs e/\e.name=p.1)->∃ es:List gU,l.map (·.2)=es.map du/\es.map (·.name)=l.map (·.1)/\∀ e∈es,tN fs e
 | [],_=>⟨[],rfl,rfl,fun _ h=>nomatch h⟩
 | p::r,h=>by
  obtain ⟨e,h1,h2,h3⟩:=h p am
  obtain ⟨es,k1,k2,k3⟩:=X3 fs r fun q hq=>h q (ah _ hq)
  refine ⟨e::es,by rw [av,av,h1,k1],by rw [av,av,h3,k2],fun x hx=>?_⟩
  rcases List.mem_cons.mp hx with z | z
  ·rw [z];exact h2
  ·exact k3 x z
theorem Lq {α:Type} (l:List α) (t:Nat):(l.drop t++l.take t).Perm l:=by
 refine List.perm_append_comm.trans ?_
 rw [fX]
theorem lr {l:List Str} (h:l.Pairwise fun a b=>qk a b=true):l.Nodup:=h.imp fun hab z=>by
 rw [z,u5] at hab
 cases hab
theorem RI (ns:List Int) (k:Int) (hk:0<=k) (m n:Int) (hm0:0<=m) (hm:m<=6) (hn0:0<=n) (hn:n<=6):∃ fs es,mH [.list (ns.map .int),.int k,.int m,.int n]=.ok (dU fs es)/\el fs es/\fs.length<=m.toNat/\es.length<=n.toNat:=by
 have hr:=Ht ns k m hm0
 generalize hfs:Di ns k m=fs at hr
 have hrl:=hr.len
 have hr:OT fs 6:=⟨hr.ok,hr.up,by have:=hr.len;omega⟩
 have nd:=lr hr.up
 have m0:=gy ns (k + 60) (n + 1) (by omega)
 have m1:=i7 ns (k + 60) (n + 1) (by omega)
 suffices H:∃ es,mH [.list (ns.map .int),.int k,.int m,.int n]=.ok (dU fs es)/\el fs es/\es.length<=n.toNat from H.elim fun es h=>⟨fs,es,h.1,h.2.1,hrl,h.2.2⟩
 unfold mH
 suffices H:∃ es,mG (bP 10 [.list (ns.map .int),.int k,.int m,.int n])=.ok (.rt (dU fs es))/\el fs es/\es.length<=n.toNat from H.elim fun es h=>⟨es,cr h.1,h.2⟩
 have H:=rg (fun (i:Nat)=>cD i) (fun (a:Unit) (_:Nat)=>a) (fun c6 _ ρ=>∃ l,l.length + c6.length<=n.toNat/\(l.map (·.1)).Nodup/\(∀ p∈l,∃ e,p.2=du e/\tN fs e/\e.name=p.1)/\∃ z6 z7,ρ=[.shr (.list (ns.map .int)),.shr (.int k),.shr (.int m),.shr (.int n),.shr (aD fs),.own (.dict (m5 l)),z6,z7,.no,.no]) (kt:=c8 6) (gb:=aY (gY 7 (eR 2 kw (J.ag (rS 0) (J.ag (g2 (g2 (rB 1) (kI 70) dZ) (g2 (kI 40) (rB 6) xR) dZ) J.aL)))) (D3 5 (rS 7) (eR 4 iW (J.ag (rS 0) (J.ag (g2 (g2 (rB 1) (kI 80) dZ) (g2 (kI 40) (rB 6) xR) dZ) (J.ag (rS 4) (J.ag (rS 7) J.aL)))))))
 obtain ⟨ρ',h1,l,h2,h3,h4,z6,z7,h5⟩:=H (by
  rintro i c6 _ ρ ⟨l,h2,h3,h4,z6,z7,rfl⟩
  simp only [aW] at h2
  have hw:=Fc ns (k + 70 + 40 * (i:Int))
  obtain ⟨e,e1,e2,e3⟩:=Lp ns (k + 80 + 40 * (i:Int)) (by omega) fs hr.ok hr.up nd hr.len (lm ns (k + 70 + 40 * (i:Int))) hw
  have pl:=Fd l (lm ns (k + 70 + 40 * (i:Int))) (du e)
  refine ⟨[.shr (.list (ns.map .int)),.shr (.int k),.shr (.int m),.shr (.int n),.shr (aD fs),.own (.dict (m5 l)),.shr (.int i),z7,.no,.no],[.shr (.list (ns.map .int)),.shr (.int k),.shr (.int m),.shr (.int n),.shr (aD fs),.own (.dict (m5 (vA l (lm ns (k + 70 + 40 * (i:Int))) (du e)))),.shr (.int i),.shr (.str (lm ns (k + 70 + 40 * (i:Int)))),.no,.no],rfl,?_,vA l (lm ns (k + 70 + 40 * (i:Int))) (du e),by omega,?_,?_,_,_,rfl⟩
  ·walk_at "zz"
   rw [sB (by decide) (by decide)]
   walk_at "zz"
   rw [JP ns _ (by omega)]
   walk_at "zz"
   refine (Te (l:=l) (x:=lm ns (k + 70 + 40 * (i:Int))) (d:=du e) rfl ?_ rfl (by omega)).trans rfl
   walk_at "zz"
   rw [sB (by decide) (by decide)]
   walk_at "zz"
   exact e1
  ·rw [BR];exact Lm h3
  ·exact OS (Q:=fun x d=>∃ e,d=du e/\tN fs e/\e.name=x) h4 ⟨e,rfl,e2,e3⟩) (bH (fv ns (k + 60) (n + 1)).toNat) () [.shr (.list (ns.map .int)),.shr (.int k),.shr (.int m),.shr (.int n),.shr (aD fs),.own (.dict (m5 [])),.no,.no,.no,.no] ⟨[],by rw [eX];simp only [bT];omega,fO,fun _ h=>(nomatch h),_,_,rfl⟩
 simp only [bT,mY] at h2
 have t0:=gy ns (k + 61) ((l.length:Int) + 1) (by omega)
 have t1:=i7 ns (k + 61) ((l.length:Int) + 1) (by omega)
 obtain ⟨t,ht⟩:∃ t:Nat,fv ns (k + 61) ((l.length:Int) + 1)=t:=⟨_,(eg t0).symm⟩
 have tl:t<=l.length:=by omega
 have pm:=Lq l t
 obtain ⟨es,k1,k2,k3⟩:=X3 fs (l.drop t++l.take t) fun p hp=>h4 p (pm.mem_iff.mp hp)
 have kl:es.length=l.length:=by
  have:=congrArg lL k1
  rw [ao,ao,pm.length_eq] at this
  exact this.symm
 refine ⟨es,?_,⟨hr,by omega,?_,k3⟩,by omega⟩
 ·unfold mG bP
  walk_at "yy"
  rw [OV ns k m hk hm0 (by omega),hfs]
  walk_at "yy"
  rw [tG (ds:=(bH (fv ns (k + 60) (n + 1)).toNat).map fun (i:Nat)=>cD i)]
  ·rw [show Ge []=Ge (m5 []) from rfl,h1,h5]
   walk_at "yy"
   rw [Fe]
   walk_at "yy"
   rw [f_ ns _ _ (by omega) (by omega),ht]
   walk_at "yy"
   clear H h1
   rw [X1 _ t (by simpa using tl)]
   walk_at "yy"
   rw [X2 _ t (by simpa using tl)]
   walk_at "yy"
   have e1:(List.drop t (nq aU (nq (fun x=>x.fst) l))++List.take t (nq aU (nq (fun x=>x.fst) l)))=(l.drop t++l.take t).map fun p=>aU p.1:=by
    rw [b9,List.map_drop,List.map_take,cj];rfl
   rw [e1,if_pos (by rw [<- aM,e1,ao,pm.length_eq];omega)]
   have pl:=pm.length_eq
   have px:∀ p∈l.drop t++l.take t,p∈l:=fun p hp=>pm.mem_iff.mp hp
   clear e1 pm k2
   generalize l.drop t++l.take t=L at pl px k1 ⊢
   walk_at "yy"
   rw [if_pos (by omega)]
   rw [dQ _ (fun p:Str×D=>aU p.1) (fun p=>p.2) L fun p hp=>fL rfl (by
    walk_at "yy"
    exact UZ h3 (px p hp))]
   walk_at "yy"
   rw [gM]
   walk_at "yy"
   rw [k1]
   rfl
  ·walk_at "yy"
   rw [f_ ns (k + 60) (n + 1) (by omega) (by omega)]
   walk_at "yy"
   have:=Dd (fv ns (k + 60) (n + 1)).toNat (by omega)
   rw [eg m0] at this
   exact this
 ·rw [k2]
  exact ((pm.map _).nodup_iff).mpr h3
theorem BS {α:Type} (b:α->Bool):∀ xs:List α,nr (xs.map fun x=>c9 (b x))=some (xs.map b)
 | []=>rfl
 | x::r=>by
  show (nr (r.map fun x=>c9 (b x))).map (b x::·)=_
  rw [BS b r]
  rfl
theorem iX {α:Type} (k:List Bool->Bool) (b:α->Bool) (xs:List α):gX k (.list (xs.map fun x=>c9 (b x)))=.ok (.bool (k (xs.map b))):=by
 have e:∀ ds,gX k (.list ds)=match nr ds with
  | some bs=>.ok (.bool (k bs))
  | none=>.no:=fun _=>rfl
 rw [e,BS]
theorem O_     (h1:gt (.shr d::.shr d'::ρ)=.ok true) (h2:ge (.shr d::.shr d'::ρ)=.ok y):iw 2 (s::s'::ρ) gt ge (.tuple [d,d'])=.ok (some y):=by
 have e:iw 2 (s::s'::ρ) gt ge (.tuple [d,d'])=L5 ((gt (.shr d::.shr d'::ρ)).bind fun b=>if b then (ge (.shr d::.shr d'::ρ)).bind fun y=>.ok (some y) else .ok none):=id rfl
 rw [e,h1,bind_ok,if_pos rfl,h2];rfl
theorem P0 (x:Str):qT (.str x)=true:=id rfl
theorem P1 (i:Int):qT (.int i)=true:=id rfl
theorem yv {α:Type} (c:α->D) (h:∀ x,qT (c x)=true):∀ xs:List α,noDs (xs.map c)=true
 | []=>rfl
 | x::r=>by
  show (qT (c x) && noDs (r.map c))=true
  rw [h x,yv c h r];rfl
theorem P2 (xs:List D):qT (.tuple xs)=noDs xs:=id rfl
theorem nJ (xs:List Str):qT (aD xs)=true:=by
 rw [P2]
 exact yv _ (fun _=>rfl) xs
theorem JU (e:gU):qT (du e)=true:=by
 have:qT (du e)=(true && (qT (aD e.needs) && (qT (aD e.bars) && (qT (aD e.makes) && (qT (aD e.ends) && (true && true)))))):=rfl
 rw [this,nJ,nJ,nJ,nJ];rfl
theorem Tl (es:List gU):qT (.tuple (es.map du))=true:=by
 rw [P2]
 exact yv _ JU es
theorem RJ (fs:List Str) (es:List gU):qT (dU fs es)=true:=by
 have:qT (dU fs es)=(qT (aD fs) && (qT (.tuple (es.map du)) && true)):=rfl
 rw [this,nJ,Tl];rfl
theorem P3 (x:Str):CW "str" (.str x)=true:=id rfl
theorem zG (x:List D):CW "tuple" (.tuple x)=true:=id rfl
theorem U_ (x:Int):CW "int" (.int x)=true:=id rfl
theorem V1 (x:Int):CW "bool" (.int x)=false:=id rfl
theorem RK:∀ c:_root_.Fin 123,97<=c.val->(!qk ⟨#[c.val]⟩ "a")=true/\(!qk "z" ⟨#[c.val]⟩)=true:=by decide +kernel
theorem BU (h:De x=true):oR [.str x]=.ok (.bool true):=by
 have hw:=h
 unfold De at h
 simp only [aR,decide_eq_true_eq,cu] at h
 obtain ⟨⟨h1,h2⟩,h3⟩:=h
 have hl:x.length=x.cps.size:=rfl
 unfold oR
 refine cr ?_
 unfold sd bP
 walk_at "zz"
 rw [P0,P3]
 walk_at "zz"
 rw [if_pos (by omega)]
 walk_at "zz"
 rw [decide_eq_true (by omega)]
 walk_at "zz"
 rw [decide_eq_true (by omega)]
 walk_at "zz"
 unfold o0
 walk_at "zz"
 rw [if_pos (by rw [aq];omega)]
 rw [dQ _ (fun c:Nat=>aU ⟨#[c]⟩) (fun _=>c9 true) x.cps.toList fun c hc=>fL rfl (by
  obtain ⟨a1,a2⟩:=h3 c hc
  obtain ⟨b1,b2⟩:=RK ⟨c,by omega⟩ a1
  walk_at "zz"
  simp only at b1 b2
  rw [b1]
  walk_at "zz"
  rw [b2])]
 walk_at "zz"
 rw [iX _ (fun _=>true)]
 walk_at "zz"
 simp
theorem Fh:∀ (xs ys:List Str),xS (xs.map .str) (ys.map .str)=(xs.zip ys).map fun p=>fh [.str p.1,.str p.2]
 | [],_=>rfl
 | _::_,[]=>rfl
 | x::r,y::r'=>by
  show fh [.str x,.str y]::xS (r.map .str) (r'.map .str)=_
  rw [Fh r r']
  rfl
theorem P4:∀ {l:List Str},(l.Pairwise fun a b=>qk a b=true)->∀ p∈l.zip (l.drop 1),qk p.1 p.2=true
 | [],_,p,hp=>by cases hp
 | [_],_,p,hp=>by cases hp
 | a::b::r,h,p,hp=>by
  obtain ⟨h1,h2⟩:=List.pairwise_cons.mp h
  rcases List.mem_cons.mp hp with z | z
  ·rw [z];exact h1 b am
  ·exact P4 h2 p z
theorem RL (xs:List Str):IS (aD xs) (some 1) none=.ok (aD (xs.drop 1)):=by
 have e:IS (aD xs) (some 1) none=.ok (.tuple (AI (xs.map .str) (some 1) none)):=rfl
 rw [e]
 cases xs with
 | nil=>rfl
 | cons x r =>
  rw [show (1:Int)=((1:Nat):Int) from rfl,OZ _ 1 (by simp)]
  rfl
theorem xt (hw:∀ x∈xs,De x=true) (up:xs.Pairwise fun a b=>qk a b=true) (hl:xs.length<=6):fH [aD xs]=.ok (.bool true):=by
 unfold fH
 refine cr ?_
 unfold i5 bP
 walk_at "zz"
 rw [nJ,zG]
 walk_at "zz"
 rw [if_pos (by omega)]
 rw [dQ _ (fun x:Str=>aU x) (fun _=>c9 true) xs fun x hx=>fL rfl (by
  walk_at "zz"
  rw [BU (hw x hx)])]
 walk_at "zz"
 rw [iX _ (fun _=>true)]
 walk_at "zz"
 rw [show ((xs.map fun _=>true).all id)=true by simp]
 walk_at "zz"
 rw [RL]
 walk_at "zz"
 rw [Fh]
 walk_at "zz"
 rw [if_pos (by simp;omega)]
 rw [dQ _ (fun p:Str×Str=>fh [.str p.1,.str p.2]) (fun _=>c9 true) (xs.zip (xs.drop 1)) fun p hp=>O_ rfl (by
  walk_at "zz"
  rw [P4 up p hp])]
 walk_at "zz"
 rw [iX _ (fun _=>true)]
 walk_at "zz"
 simp
theorem ju (hw:∀ x∈fs,De x=true) (h:tM fs xs) (hl:xs.length<=6):fk [aD fs,aD xs]=.ok (.bool true):=by
 unfold fk
 refine cr ?_
 unfold nz bP
 walk_at "zz"
 rw [xt (fun x hx=>hw x (h.mem x hx)) h.up hl]
 walk_at "zz"
 rw [if_pos (by omega)]
 rw [dQ _ (fun x:Str=>aU x) (fun _=>c9 true) xs fun x hx=>fL rfl (by
  walk_at "zz"
  rw [rh,decide_eq_true (h.mem x hx)]
  rfl)]
 walk_at "zz"
 rw [iX _ (fun _=>true)]
 walk_at "zz"
 simp
theorem wJ (h:∀ x∈xs,x∉ys) (hl:xs.length<=6):eJ [aD xs,aD ys]=.ok (.bool true):=by
 unfold eJ
 refine cr ?_
 unfold jX bP
 walk_at "zz"
 rw [if_pos (by omega)]
 rw [dQ _ (fun x:Str=>aU x) (fun _=>c9 false) xs fun x hx=>fL rfl (by
  walk_at "zz"
  rw [rh,decide_eq_false (h x hx)]
  rfl)]
 walk_at "zz"
 rw [iX _ (fun _=>false)]
 walk_at "zz"
 simp
theorem Hv (h0:l<=i) (h1:i<=m):pG [.int i,.int l,.int m]=.ok (.bool true):=by
 unfold pG
 refine cr ?_
 unfold pF bP
 walk_at "zz"
 rw [P1,U_]
 walk_at "zz"
 rw [P1,V1]
 walk_at "zz"
 rw [decide_eq_true h0]
 walk_at "zz"
 rw [decide_eq_true h1]
theorem Dm:∀ (xs fs:List Str),xs.Nodup->(∀ x∈xs,x∈fs)->xs.length<=fs.length
 | [],_,_,_=>cC _
 | x::r,fs,nd,h=>by
  obtain ⟨n1,n2⟩:=List.nodup_cons.mp nd
  have hx:=h x am
  have:=Dm r (fs.erase x) n2 fun y hy=>(Iz fun (z:y=x)=>n1 (z ▸ hy)).mpr (h y (ah _ hy))
  rw [DQ hx] at this
  have:0<fs.length:=Gh hx
  rw [aW]
  omega
theorem eh (h:tM fs xs) (hl:fs.length<=6):xs.length<=6:=by
 exact cy (Dm xs fs (lr h.up) h.mem) hl
theorem Yw (a b c d e f g:D):Og (o6 6 (da (c8 2) (da (c8 3) (da (c8 4) (da (c8 5) (da (c8 6) (da (c8 7) pz))))))) [Sl.shr a,Sl.shr (.tuple [b,c,d,e,f,g]),.no,.no,.no,.no,.no,.no] (.tuple [b,c,d,e,f,g])=.ok (.nx [Sl.shr a,Sl.shr (.tuple [b,c,d,e,f,g]),.shr b,.shr c,.shr d,.shr e,.shr f,.shr g]):=id rfl
theorem Fi (hr:OT fs 6) (g:tN fs e):nB [aD fs,du e]=.ok (.bool true):=by
 have l1:=eh g.needs hr.len
 have l2:=eh g.bars hr.len
 have l3:=eh g.makes hr.len
 have l4:=eh g.ends hr.len
 unfold nB
 refine cr ?_
 unfold nA bP
 walk_at "zz"
 rw [JU]
 unfold du
 walk_at "zz"
 rw [zG]
 walk_at "zz"
 rw [kz]
 walk_at "zz"
 rw [show decide (((6:Nat):Int)=6)=true from rfl]
 walk_at "zz"
 rw [Yw]
 ·walk_at "zz"
  rw [BU g.name]
  walk_at "zz"
  rw [Hv g.p0 g.p9]
  walk_at "zz"
  have pk:=dQ (iw 1 [Sl.no,Sl.shr (aD fs)] kT (eR 2 fk (J.ag (rS 1) (J.ag (rS 0) J.aL)))) (fun x:List Str=>aD x) (fun _=>c9 true) [e.needs,e.bars,e.makes,e.ends] fun x hx=>fL rfl (by
   walk_at "zz"
   simp only [a_,bv,or_false] at hx
   rcases hx with z | z | z | z<;>rw [z]
   ·rw [ju hr.ok g.needs l1]
   ·rw [ju hr.ok g.bars l2]
   ·rw [ju hr.ok g.makes l3]
   ·rw [ju hr.ok g.ends l4])
  simp only [av,d_] at pk
  rw [pk]
  walk_at "zz"
  rw [show gX (fun bs=>bs.all id) (.list [.bool true,.bool true,.bool true,.bool true])=.ok (.bool true) from rfl]
  walk_at "zz"
  rw [wJ g.nb l1]
  walk_at "zz"
  rw [wJ g.me l3]
  walk_at "zz"
theorem P5 (l:List Str) (nd:l.Nodup):(dn [] l).length=l.length:=by
 have h1:=Dm (dn [] l) l (iK l [] fO) fun x hx=>((iS l [] x).mp hx).elim (fun h=>nomatch h) id
 have h2:=Dm l (dn [] l) nd fun x hx=>(iS l [] x).mpr (.inr hx)
 omega
theorem Lr (es:List gU) (hl:es.length<=6) (nd:(es.map (·.name)).Nodup) (s:Sl) (ρ:aB) (h:(s::ρ)[2]?=some (.shr (.tuple (es.map du)))):vj (wC 1 [] (lO (rB 2)) kT (g2 (rB 0) (kI 0) bp)) (s::ρ)=.ok (.int (es.length:Nat)):=by
 have hr:Gj (s::ρ) 2=.ok (.tuple (es.map du)):=by unfold Gj;rw [h]
 unfold vj wC
 rw [UB,UL,hr]
 walk_at "zz"
 rw [if_pos (by omega)]
 rw [dQ _ du (fun e=>aU e.name) es fun e he=>fL rfl (by
  walk_at "zz"
  rfl)]
 walk_at "zz"
 have:(es.map fun e=>aU e.name)=(es.map (·.name)).map .str:=by rw [cj];rfl
 rw [this,strsOf_map]
 simp only [zj,P5 _ nd,ao]
theorem Yx (b c:D):Og (o6 2 (da (c8 1) (da (c8 2) pz))) [Sl.shr (.tuple [b,c]),.no,.no] (.tuple [b,c])=.ok (.nx [Sl.shr (.tuple [b,c]),.shr b,.shr c]):=id rfl
theorem Ls  (g:el fs es):sg [dU fs es]=.ok (.bool true):=by
 have l1:=g.rise.len
 have l2:=g.len
 unfold sg
 refine cr ?_
 unfold sf bP
 walk_at "zz"
 rw [RJ]
 unfold dU
 walk_at "zz"
 rw [zG]
 walk_at "zz"
 rw [kz]
 walk_at "zz"
 rw [show decide (((2:Nat):Int)=2)=true from rfl]
 walk_at "zz"
 rw [Yx]
 walk_at "zz"
 rw [xt g.rise.ok g.rise.up l1]
 walk_at "zz"
 rw [decide_eq_false (by omega)]
 walk_at "zz"
 rw [Tl,zG]
 walk_at "zz"
 rw [decide_eq_false (by omega)]
 walk_at "zz"
 rw [if_pos (by omega)]
 rw [dQ _ du (fun _=>c9 true) es fun e he=>fL rfl (by
  walk_at "zz"
  rw [Fi g.rise (g.ok e he)])]
 walk_at "zz"
 rw [iX _ (fun _=>true)]
 walk_at "zz"
 rw [show ((es.map fun _=>true).all id)=true by simp]
 walk_at "zz"
 rw [Lr es l2 g.nd _ _ rfl]
 walk_at "zz"
 rw [kz,decide_eq_true rfl]
 rfl
theorem Hw  (g:el fs es):su [dU fs es]=.ok (dU fs es):=by
 unfold su
 refine cr ?_
 unfold sr bP
 walk_at "zz"
 rw [Ls g]
 walk_at "zz"
theorem zH {α:Type} (c:α->D):∀ xs:List α,(∀ x∈xs,(c x).canLay0=true)->cF (xs.map c)=true
 | [],_=>rfl
 | x::r,h=>by
  have h1:=h x am
  have h2:=zH c r fun y hy=>h y (ah _ hy)
  simp only [av,cF,h1,h2,oZ]
theorem Fj     (hi:ρ[i]?=some (Sl.own (.list ds))) (hg:g ρ=.ok d) (hl:ds.length<1000):r9 i g ρ=.ok (.nx (ρ.set i (.own (.list (ds++[d]))))):=by
 unfold r9
 simp only [hi,hg,bind_ok,if_pos hl]
theorem P6      (h1:gt (.shr d::.shr d'::ρ)=.ok b) (h2:b=true->ge (.shr d::.shr d'::ρ)=.ok y):iw 2 (s::s'::ρ) gt ge (.tuple [d,d'])=.ok (if b then some y else none):=by
 have e:iw 2 (s::s'::ρ) gt ge (.tuple [d,d'])=L5 ((gt (.shr d::.shr d'::ρ)).bind fun b=>if b then (ge (.shr d::.shr d'::ρ)).bind fun y=>.ok (some y) else .ok none):=id rfl
 rw [e,h1,bind_ok]
 cases b with
 | true=>rw [if_pos rfl,h2 rfl];rfl
 | false=>rfl
theorem BV:∀ (xs:List Str) (n:Nat),(nI n xs).length=xs.length
 | [],_=>rfl
 | x::r,n=>by
  show (nI (n + 1) r).length + 1=r.length + 1
  rw [BV r]
theorem RM (ns:List Int) (k:Int) (hk:0<=k) (fs:List Str) (hl:fs.length<=6) (m:Int):∃ ss:List Str,pJ [.list (ns.map .int),.int k,aD fs,.int m]=.ok (aD ss)/\ss.Sublist fs:=by
 refine ⟨((nI 0 fs).filter fun q=>decide (fv ns (k + (q.1:Int)) 12<m)).map (·.2),?_,?_⟩
 ·unfold pJ
  refine cr ?_
  unfold pI bP
  walk_at "zz"
  rw [yu]
  walk_at "zz"
  rw [if_pos (by rw [BV];omega)]
  rw [gx _ cI (fun q=>aU q.2) (fun q=>decide (fv ns (k + (q.1:Int)) 12<m)) (nI 0 fs) fun q hq=>P6 (by
   walk_at "zz"
   rw [f_ ns _ 12 (by omega) (by decide)]
   walk_at "zz") fun _=>rfl]
  walk_at "zz"
  rw [gM]
  walk_at "zz"
  unfold aD
  rw [cj]
  rfl
 ·have:=(uO (l:=nI 0 fs) (p:=fun q=>decide (fv ns (k + (q.1:Int)) 12<m))).map (·.2)
  rw [sC] at this
  exact this
theorem Hx (up:fs.Pairwise fun a b=>qk a b=true) (h:xs.Sublist fs):tM fs xs:=⟨up.sublist h,fun x hx=>h.subset hx⟩
def Tn (P:aB->Prop) (r:R Fl):Prop:=∃ ρ',r=.ok (.nx ρ')/\P ρ'
theorem Fk {α:Type}{kt:D->aB->R aB}{gb:aB->R Fl} (c:α->D) (p:α->Bool) (out:α->D) (P:aB->Prop):∀ (xs:List α) (ρ:aB),(∀ x∈xs,∀ ρ,P ρ->∃ ρ1,kt (c x) ρ=.ok ρ1/\(p x=true->gb ρ1=.ok (.rt (out x)))/\(p x=false->Tn P (gb ρ1)))->P ρ ->
  (∀ x,xs.find? p=some x->js kt gb (xs.map c) ρ=.ok (.rt (out x)))/\(xs.find? p=none->Tn P (js kt gb (xs.map c) ρ))
 | [],ρ,_,q=>⟨fun x h=>(nomatch h),fun _=>⟨ρ,rfl,q⟩⟩
 | x::r,ρ,h,q=>by
  obtain ⟨ρ1,h1,h2,h3⟩:=h x am ρ q
  rw [av,bS]
  unfold js
  rw [h1]
  cases hp:p x with
  | true =>
   refine ⟨fun y hy=>?_,fun hn=>nomatch hn⟩
   cases hy
   simp only [h2 hp]
  | false =>
   obtain ⟨ρ2,h4,h5⟩:=h3 hp
   simp only [h4]
   exact Fk c p out P r ρ2 (fun y hy=>h y (ah _ hy)) h5
structure xu (fs m b:List Str):Prop where
 must:tM fs m
 bars:tM fs b
 mb:∀ x∈m,x∉b
abbrev kA (m b:List Str):D:=.tuple [aD m,aD b]
theorem JV (p:List Str) (x:Str):p.map aU++[aU x]=(p++[x]).map .str:=by simp
theorem RN (ns:List Int) (k:Int) (hk:0<=k) (fs:List Str) (up:fs.Pairwise fun a b=>qk a b=true) (hl:fs.length<=6):∃ m b,ue [.list (ns.map .int),.int k,aD fs]=.ok (kA m b)/\xu fs m b:=by
 have nd:=lr up
 suffices H:∃ p q,mI (bP 8 [.list (ns.map .int),.int k,aD fs])=.ok (.rt (kA p q))/\o9 fs p q by
  obtain ⟨p,q,h1,h2⟩:=H
  exact ⟨p,q,cr h1,Hx up h2.sp,Hx up h2.sq,h2.d⟩
 unfold mI bP
 walk_at "yy"
 rw [tG (ds:=(nI 0 fs).map cI)]
 ·have H:=rg cI (fun (a:Unit) (_:Nat×Str)=>a) (fun c6 _ ρ=>∃ pre,pre++c6.map (·.2)=fs/\∃ p q,o9 pre p q/\∃ z5 z6 z7,ρ=[.shr (.list (ns.map .int)),.shr (.int k),.shr (aD fs),.own (.list (p.map .str)),.own (.list (q.map .str)),z5,z6,z7]) (kt:=o6 2 (da (c8 5) (da (c8 6) pz))) (gb:=aY (gY 7 (eR 3 bB (J.ag (rS 0) (J.ag (g2 (rB 1) (rB 5) dZ) (J.ag (kI 8) J.aL))))) (eY (fR (g2 (rB 7) (kI 2) AH)) (r9 3 (rS 6)) (eY (fR (g2 (rB 7) (kI 2) (nZ false))) (r9 4 (rS 6)) (fun ρ=>.ok (.nx ρ)))))
  obtain ⟨ρ',h1,pre,h2,p,q,h3,z5,z6,z7,h4⟩:=H (by
   rintro ⟨i,x⟩ c6 _ ρ ⟨pre,h2,p,q,h3,z5,z6,z7,rfl⟩
   have hx:x∉pre:=by
    rw [<- h2,av] at nd
    have:=(List.nodup_append.mp nd).2.2
    intro hx
    exact this x hx x am rfl
   have hpl:pre.length<900:=by
    have:=congrArg lL h2
    rw [aM] at this
    omega
   have lp:=h3.sp.length_le
   have lq:=h3.sq.length_le
   refine ⟨[.shr (.list (ns.map .int)),.shr (.int k),.shr (aD fs),.own (.list (p.map .str)),.own (.list (q.map .str)),.shr (.int (i:Nat)),.shr (.str x),z7],?_⟩
   by_cases c1:fv ns (k + (i:Nat)) 8<2
   ·refine ⟨[.shr (.list (ns.map .int)),.shr (.int k),.shr (aD fs),.own (.list ((p++[x]).map .str)),.own (.list (q.map .str)),.shr (.int (i:Nat)),.shr (.str x),.shr (.int (fv ns (k + (i:Nat)) 8))],rfl,?_,pre++[x],by rw [<- h2];simp,_,_,h3.left x hx,_,_,_,rfl⟩
    walk_at "zz"
    rw [f_ ns _ 8 (by omega) (by decide)]
    walk_at "zz"
    rw [decide_eq_true c1]
    walk_at "zz"
    rw [<- JV]
    exact Fj (ds:=p.map .str) rfl rfl (by rw [ao];omega)
   ·by_cases c2:fv ns (k + (i:Nat)) 8=2
    ·refine ⟨[.shr (.list (ns.map .int)),.shr (.int k),.shr (aD fs),.own (.list (p.map .str)),.own (.list ((q++[x]).map .str)),.shr (.int (i:Nat)),.shr (.str x),.shr (.int (fv ns (k + (i:Nat)) 8))],rfl,?_,pre++[x],by rw [<- h2];simp,_,_,h3.right x hx,_,_,_,rfl⟩
     walk_at "zz"
     rw [f_ ns _ 8 (by omega) (by decide)]
     walk_at "zz"
     rw [decide_eq_false c1]
     walk_at "zz"
     rw [kz]
     walk_at "zz"
     rw [decide_eq_true c2]
     walk_at "zz"
     rw [<- JV]
     exact Fj (ds:=q.map .str) rfl rfl (by rw [ao];omega)
    ·refine ⟨[.shr (.list (ns.map .int)),.shr (.int k),.shr (aD fs),.own (.list (p.map .str)),.own (.list (q.map .str)),.shr (.int (i:Nat)),.shr (.str x),.shr (.int (fv ns (k + (i:Nat)) 8))],rfl,?_,pre++[x],by rw [<- h2];simp,_,_,h3.skip x,_,_,_,rfl⟩
     walk_at "zz"
     rw [f_ ns _ 8 (by omega) (by decide)]
     walk_at "zz"
     rw [decide_eq_false c1]
     walk_at "zz"
     rw [kz]
     walk_at "zz"
     rw [decide_eq_false c2]
     walk_at "zz") (nI 0 fs) () [.shr (.list (ns.map .int)),.shr (.int k),.shr (aD fs),.own (.list []),.own (.list []),.no,.no,.no] ⟨[],by rw [sC];rfl,[],[],⟨eI _,eI _,fun _ h=>nomatch h⟩,_,_,_,rfl⟩
  refine ⟨p,q,?_,?_⟩
  ·rw [h1,h4]
   walk_at "zz"
   rw [gM]
   walk_at "zz"
   rw [gM]
   walk_at "zz"
  ·simp only [d_,cO] at h2
   rw [<- h2];exact h3
 ·walk_at "zz"
  rw [yu]
theorem V2 (j:Int) (h0:0<=j) (h1:j<2):∃ m:Int,bp (.list [.int 2,.int 4]) (.int j)=.ok (.int m):=by
 have:j=0\/j=1:=by omega
 rcases this with h | h<;>subst h
 ·exact ⟨2,rfl⟩
 ·exact ⟨4,rfl⟩
theorem P7 (fs:List Str) (es:List gU):bp (dU fs es) (.int 0)=.ok (aD fs):=id rfl
theorem V3 (fs:List Str) (es:List gU):bp (dU fs es) (.int 1)=.ok (.tuple (es.map du)):=id rfl
theorem RO (ns:List Int) (m n:Int) (hm0:0<=m) (hm:m<=6) (hn0:0<=n) (hn:n<=6):∃ fs es ss wm wb,pO [.list (ns.map .int),.int m,.int n]=.ok (.tuple [dU fs es,aD ss,kA wm wb])/\el fs es/\tM fs ss/\xu fs wm wb/\fs.length<=m.toNat/\es.length<=n.toNat:=by
 obtain ⟨fs,es,hb,gb,fl⟩:=RI ns 100 (by decide) m n hm0 hm hn0 hn
 obtain ⟨pt,hp⟩:=V2 (fv ns 97 2) (gy _ _ _ (by decide)) (i7 _ _ _ (by decide))
 obtain ⟨ss,hs,gs⟩:=RM ns 20 (by decide) fs gb.rise.len pt
 obtain ⟨wm,wb,hw,gw⟩:=RN ns 30 (by decide) fs gb.rise.up gb.rise.len
 refine ⟨fs,es,ss,wm,wb,?_,gb,Hx gb.rise.up gs,gw,fl⟩
 unfold pO
 refine cr ?_
 unfold pM bP
 walk_at "zz"
 rw [hb]
 walk_at "zz"
 rw [P7]
 walk_at "zz"
 rw [f_ ns 97 2 (by decide) (by decide)]
 walk_at "zz"
 rw [hp]
 walk_at "zz"
 rw [hs]
 walk_at "zz"
 rw [P7]
 walk_at "zz"
 rw [hw]
 walk_at "zz"
theorem P8 (hl:xs.length<=60):eJ [aD xs,aD ys]=.ok (.bool (!xs.any fun x=>decide (x∈ys))):=by
 unfold eJ
 refine cr ?_
 unfold jX bP
 walk_at "zz"
 rw [if_pos (by omega)]
 rw [dQ _ (fun x:Str=>aU x) (fun x=>c9 (decide (x∈ys))) xs fun x hx=>fL rfl (by
  walk_at "zz"
  rw [rh]
  rfl)]
 walk_at "zz"
 rw [iX _ (fun x=>decide (x∈ys))]
 walk_at "zz"
 rw [mW]
 rfl
theorem X4 (neg:Bool) (e:gU):Bw neg (du e) .none=.ok (.bool neg):=by cases neg<;>rfl
theorem X5 (neg:Bool) (xs:List Str):Bw neg (aD xs) .none=.ok (.bool neg):=by cases neg<;>rfl
theorem JX (neg:Bool):Bw neg .none .none=.ok (.bool (!neg)):=by cases neg<;>rfl
theorem V4 (e:gU):bp (du e) (.int 0)=.ok (.str e.name):=id rfl
theorem Yy (e:gU):bp (du e) (.int 3)=.ok (aD e.makes):=id rfl
theorem Yz (e:gU):bp (du e) (.int 4)=.ok (aD e.ends):=id rfl
theorem X6 (e:gU):IS (du e) (some 1) (some 3)=.ok (kA e.needs e.bars):=id rfl
theorem rO   (h:xs[j]?=some v):bp (.list xs) (.int (j:Nat))=.ok v:=by
 have e:bp (.list xs) (.int (j:Nat))=Ew (.list xs) (.int (j:Nat)):=rfl
 rw [e]
 unfold Ew
 simp only [rN h]
theorem YA (a x y z:D) (r:aB):Og (o6 3 (da (c8 1) (da (c8 2) (da (c8 3) pz)))) (Sl.shr a::.no::.no::.no::r) (.tuple [x,y,z])=.ok (.nx (.shr a::.shr x::.shr y::.shr z::r)):=id rfl
def bE (st a b:List Str):Bool:=(a.all fun x=>decide (x∈st)) && !b.any fun x=>decide (x∈st)
theorem YB (m b:List Str):bp (kA m b) (.int 0)=.ok (aD m):=id rfl
theorem YC (m b:List Str):bp (kA m b) (.int 1)=.ok (aD b):=id rfl
theorem Do (ha:a.length<=60) (hb:b.length<=60):gL [aD st,kA a b]=.ok (.bool (bE st a b)):=by
 unfold gL
 refine cr ?_
 unfold pP bP
 walk_at "zz"
 rw [YB]
 walk_at "zz"
 rw [if_pos (by omega)]
 rw [dQ _ (fun x:Str=>aU x) (fun x=>c9 (decide (x∈st))) a fun x hx=>fL rfl (by
  walk_at "zz"
  rw [rh]
  rfl)]
 walk_at "zz"
 rw [iX _ (fun x=>decide (x∈st))]
 walk_at "zz"
 rw [YC]
 walk_at "zz"
 rw [if_pos (by omega)]
 rw [dQ _ (fun x:Str=>aU x) (fun x=>c9 (decide (x∈st))) b fun x hx=>fL rfl (by
  walk_at "zz"
  rw [rh]
  rfl)]
 walk_at "zz"
 rw [iX _ (fun x=>decide (x∈st))]
 walk_at "zz"
 unfold bE
 rw [mV,mW]
 have e:(id∘fun x=>decide (x∈st))=fun x=>decide (x∈st):=rfl
 rw [e]
 cases (a.all fun x=>decide (x∈st))<;>rfl
theorem Dp    (h:g (bP n ds)=.ok (.nx ρ)):eS n g ds=.ok .none:=by unfold eS;rw [h]
theorem X7 (a x y:D):Og (o6 2 (da (c8 2) (da (c8 3) pz))) [Sl.shr a,.shr (.tuple [x,y]),.no,.no] (.tuple [x,y])=.ok (.nx [.shr a,.shr (.tuple [x,y]),.shr x,.shr y]):=id rfl
theorem uf (ha:a.length<=60) (hb:b.length<=60):mj [aD st,kA a b]=.ok (.bool (bE st a b)):=by
 unfold mj
 refine cr ?_
 unfold sk bP kA
 walk_at "zz"
 rw [X7]
 walk_at "zz"
 rw [if_pos (by omega)]
 rw [dQ _ (fun x:Str=>aU x) (fun x=>c9 (decide (x∈st))) a fun x hx=>fL rfl (by
  walk_at "zz"
  rw [rh]
  rfl)]
 walk_at "zz"
 rw [iX _ (fun x=>decide (x∈st))]
 walk_at "zz"
 rw [P8 (by omega)]
 unfold bE
 rw [mV]
 have e:(id∘fun x=>decide (x∈st))=fun x=>decide (x∈st):=rfl
 rw [e]
 cases (a.all fun x=>decide (x∈st))<;>rfl
theorem Lu  (g:el fs es) (h:tM fs ss):kS [dU fs es,aD ss]=.ok .none:=by
 unfold kS
 refine Dp (ρ:=[.shr (dU fs es),.shr (aD ss)]) ?_
 unfold kR bP
 walk_at "zz"
 rw [P7]
 walk_at "zz"
 rw [ju g.rise.ok h (eh h g.rise.len)]
 walk_at "zz"
theorem Fm  (g:el fs es) (h:tM fs ss):ji [dU fs es,aD ss]=.ok .none:=by
 unfold ji
 refine Dp (ρ:=[.shr (dU fs es),.shr (aD ss)]) ?_
 unfold kU bP
 walk_at "zz"
 rw [Hw g]
 walk_at "zz"
 rw [Lu g h]
 walk_at "zz"
theorem P9    (n:qT (.tuple [x,y])=true) (hx:fk [aD fs,x]=.ok (.bool p)) (hy:p=true->fk [aD fs,y]=.ok (.bool q)) (hs:p=true->q=true->eJ [x,y]=.ok (.bool r)):sj [dU fs es,.tuple [x,y]]=.ok (.bool (p && (q && r))):=by
 unfold sj
 refine cr ?_
 unfold si bP
 walk_at "zz"
 rw [n,zG]
 walk_at "zz"
 rw [kz]
 walk_at "zz"
 rw [show decide (((2:Nat):Int)=2)=true from rfl]
 walk_at "zz"
 rw [X7]
 walk_at "zz"
 rw [P7]
 walk_at "zz"
 rw [hx]
 cases p with
 | false=>rfl
 | true =>
  walk_at "zz"
  rw [P7]
  walk_at "zz"
  rw [hy rfl]
  cases q with
  | false=>rfl
  | true =>
   walk_at "zz"
   rw [hs rfl rfl]
   cases r<;>rfl
theorem Pa  (g:el fs es) (h:xu fs m b):lU [dU fs es,kA m b]=.ok .none:=by
 have n:qT (kA m b)=true:=by
  have:qT (kA m b)=(qT (aD m) && (qT (aD b) && true)):=rfl
  rw [this,nJ,nJ];rfl
 have l1:=eh h.must g.rise.len
 have l2:=eh h.bars g.rise.len
 unfold lU
 refine Dp (ρ:=[.shr (dU fs es),.shr (kA m b)]) ?_
 unfold lT bP
 walk_at "zz"
 rw [P9 n (ju g.rise.ok h.must l1) (fun _=>ju g.rise.ok h.bars l2) (fun _ _=>wJ h.mb l1)]
 walk_at "zz"
 rfl
theorem Hy  (g:el fs es) (h:tM fs ss) (w:xu fs m b):ll [dU fs es,aD ss,kA m b]=.ok .none:=by
 unfold ll
 refine Dp (ρ:=[.shr (dU fs es),.shr (aD ss),.shr (kA m b)]) ?_
 unfold nD bP
 walk_at "zz"
 rw [Fm g h]
 walk_at "zz"
 rw [Pa g w]
 walk_at "zz"
theorem Pb (xs:List D):kQ (.tuple xs)=.ok (.list xs):=id rfl
def vD (es:List gU) (nm:Str):Option gU:=es.find? fun e=>decide (e.name=nm)
def X8:Option gU->D
 | none=>.none
 | some e=>du e
theorem BW  (g:el fs es) (hn:De nm=true):ig [dU fs es,.str nm]=.ok (X8 (vD es nm)):=by
 unfold ig
 refine cr ?_
 unfold jm bP
 walk_at "zz"
 rw [P0,P3]
 walk_at "zz"
 rw [tG (ds:=es.map du)]
 ·obtain ⟨h1,h2⟩:=Fk du (fun e=>decide (e.name=nm)) du (fun ρ=>∃ z,ρ=[Sl.shr (dU fs es),.shr (.str nm),z]) (kt:=c8 2) (gb:=eY (fR (g2 (g2 (rB 2) (kI 0) bp) (rB 1) (nZ false))) (db (rS 2)) (fun ρ=>.ok (.nx ρ))) es [Sl.shr (dU fs es),.shr (.str nm),.no] (by
   rintro e he ρ ⟨z,rfl⟩
   refine ⟨[.shr (dU fs es),.shr (.str nm),.shr (du e)],rfl,fun hp=>?_,fun hp=>⟨[.shr (dU fs es),.shr (.str nm),.shr (du e)],?_,_,rfl⟩⟩
   ·walk_at "zz"
    rw [V4]
    walk_at "zz"
    rw [Dk false (g.ok e he).name hn]
    walk_at "zz"
    rw [hp]
    walk_at "zz"
   ·walk_at "zz"
    rw [V4]
    walk_at "zz"
    rw [Dk false (g.ok e he).name hn]
    walk_at "zz"
    rw [hp]
    walk_at "zz") ⟨_,rfl⟩
  cases hf:es.find? (fun e=>decide (e.name=nm)) with
  | some e =>
   rw [h1 e hf]
   walk_at "zz"
   unfold vD
   rw [hf]
   rfl
  | none =>
   obtain ⟨ρ',e1,z,rfl⟩:=h2 hf
   rw [e1]
   walk_at "zz"
   unfold vD
   rw [hf]
   rfl
 ·walk_at "zz"
  rw [V3]
  walk_at "zz"
theorem ug:∀ {es:List gU},(es.map (·.name)).Nodup->∀ {e:gU},e∈es->vD es e.name=some e
 | x::r,nd,e,he=>by
  obtain ⟨n1,n2⟩:=List.nodup_cons.mp nd
  unfold vD
  rw [bS]
  rcases List.mem_cons.mp he with h | h
  ·subst h;simp
  ·have:x.name≠e.name:=fun z=>n1 (by show x.name∈_;rw [z];exact bx h)
   rw [decide_eq_false this]
   exact ug n2 h
structure JY (e:gU):Prop where
 needs:e.needs.length<=6
 bars:e.bars.length<=6
 makes:e.makes.length<=6
 ends:e.ends.length<=6
theorem vE  (g:el fs es) (he:e∈es):JY e :=
 ⟨eh (g.ok e he).needs g.rise.len,eh (g.ok e he).bars g.rise.len,eh (g.ok e he).makes g.rise.len,eh (g.ok e he).ends g.rise.len⟩
theorem YD (e:gU):bp (du e) (.int 1)=.ok (aD e.needs):=id rfl
theorem YE (e:gU):bp (du e) (.int 2)=.ok (aD e.bars):=id rfl
def JZ (e:gU) (st:List Str):Option (List Str):=if bE st e.needs e.bars then some (srt ((st.filter fun x=>!decide (x∈e.ends))++e.makes)) else none
def RP:Option (List Str)->D
 | none=>.none
 | some s=>aD s
theorem RQ (he:JY e) (hs:st.length<=30):mJ [du e,aD st]=.ok (RP (JZ e st)):=by
 have:=he.needs
 have:=he.bars
 have:=he.makes
 unfold mJ
 refine cr ?_
 unfold pQ bP
 walk_at "zz"
 rw [X6]
 walk_at "zz"
 rw [Do (by omega) (by omega)]
 walk_at "zz"
 unfold JZ
 cases hg:bE st e.needs e.bars with
 | false =>
  walk_at "zz"
  rfl
 | true =>
  walk_at "zz"
  rw [if_pos (by omega)]
  rw [gx _ (fun x:Str=>aU x) (fun x=>aU x) (fun x=>!decide (x∈e.ends)) st fun x hx=>pC (by
   walk_at "zz"
   rw [Yz]
   walk_at "zz"
   rw [rh]
   rfl) fun _=>rfl]
  have hf:(st.filter fun x=>!decide (x∈e.ends)).length<=st.length:=l5 _ _
  walk_at "zz"
  rw [wI,JQ]
  walk_at "zz"
  rw [Yy]
  walk_at "zz"
  rw [Pb]
  walk_at "zz"
  rw [if_pos (by omega)]
  walk_at "zz"
  rw [<- b9,zE _ (by rw [aM];omega)]
  walk_at "zz"
  rw [zF _ (by have:=gn ((st.filter fun x=>!decide (x∈e.ends))++e.makes) [];simp only [bT,aM] at this;omega)]
  walk_at "zz"
  rw [gM]
  rfl
theorem Pc:∀ {a b:List Str},(a.Pairwise fun x y=>qk x y=true)->(b.Pairwise fun x y=>qk x y=true)->(∀ x,x∈a↔x∈b)->a=b:=by
 intro a b ha hb h
 have na:=lr ha
 have nb:=lr hb
 have p:a.Perm b:=(nl na nb).mpr h
 exact p.eq_of_pairwise (fun x y _ _ h1 h2=>by
  have:=rR h1 h2
  rw [u5] at this
  cases this) ha hb
def ba (e:gU) (st:List Str):List Str:=srt ((st.filter fun x=>!decide (x∈e.ends))++e.makes)
theorem Hz   : x∈ba e st↔(x∈st/\x∉e.ends)\/x∈e.makes:=by
 unfold ba
 rw [nH]
 simp [Qs]
theorem Lv (e:gU) (st:List Str):JZ e st=if bE st e.needs e.bars then some (ba e st) else none:=rfl
theorem Lw (s:List Str):RP (some s)=aD s:=rfl
theorem Lx:RP none=.none:=rfl
theorem X9 (ga gb:aB->R (List Str)) (s:Sl) (ρ:aB) (h1:ga (s::ρ)=.ok xs) (h2:gb (s::ρ)=.ok ys) (hl:xs.length + ys.length<=15):Ou ga gb (s::ρ)=.ok (dn xs ys):=by
 unfold Ou J.UD
 rw [h1,bind_ok,h2,bind_ok,if_pos hl]
theorem BX (ss:List Str) (h:ss.length<60):ua (aD ss)=.ok (dn [] ss):=by
 have e:∀ ds,ua (.tuple ds)=match eV ds with
  | some ss=>if ss.length<60 then .ok (dn [] ss) else .no
  | none=>.no:=fun _=>rfl
 rw [e,strsOf_map]
 simp only [if_pos h]
theorem V5 (xs ys:List Str):jP (dn (dn [] xs) (dn [] ys))=srt (xs++ys):=by
 refine Pc (wy (qS _) ((i4 _).nodup_iff.mpr (iK _ _ (iK _ [] fO)))) (Hu _) fun x=>?_
 rw [(i4 _).mem_iff,iS,iS,iS,nH,e_]
 simp
theorem Ly (h:xs.length + ys.length<=12):vt [aD xs,aD ys]=.ok (aD (srt (xs++ys))):=by
 have l1:=gn xs []
 have l2:=gn ys []
 simp only [bT] at l1 l2
 have l3:=gn (dn [] ys) (dn [] xs)
 unfold vt
 refine cr ?_
 unfold vq bP
 walk_at "zz"
 rw [wI,X9 _ _ _ _ (BX xs (by omega)) (BX ys (by omega)) (by omega)]
 walk_at "zz"
 rw [zF _ (by omega),V5]
 walk_at "zz"
 rw [gM]
 walk_at "zz"
theorem HA (h:xs.length<=60):s9 [aD xs,aD ys]=.ok (aD (xs.filter fun x=>!decide (x∈ys))):=by
 unfold s9
 refine cr ?_
 unfold r_ bP
 walk_at "zz"
 rw [if_pos (by omega)]
 rw [gx _ (fun x:Str=>aU x) (fun x=>aU x) (fun x=>!decide (x∈ys)) xs fun x hx=>pC (by
  walk_at "zz"
  rw [rh]
  rfl) fun _=>rfl]
 walk_at "zz"
 rw [gM]
 walk_at "zz"
theorem Xa     (h:gs (s::ρ)=.ok [d,e]):Ov i j gs (s::ρ)=.ok (.nx (((s::ρ).set i (.shr d)).set j (.shr e))):=by
 unfold Ov
 rw [h]
 rfl
theorem BY (he:JY e) (hs:st.length<=6):eM [du e,aD st]=.ok (aD (ba e st)):=by
 have:=he.makes
 have hf:(st.filter fun x=>!decide (x∈e.ends)).length<=st.length:=l5 _ _
 unfold eM
 refine cr ?_
 unfold jY bP
 walk_at "zz"
 rw [Xa (d:=aD e.makes) (e:=aD e.ends) rfl]
 walk_at "zz"
 rw [HA (by omega)]
 walk_at "zz"
 rw [Ly (by omega)]
 rfl
theorem wK (he:JY e):hX [du e,aD st]=.ok (.bool (bE st e.needs e.bars)):=by
 have:=he.needs
 have:=he.bars
 unfold hX
 refine cr ?_
 unfold nC bP
 walk_at "zz"
 rw [YD]
 walk_at "zz"
 rw [YE]
 walk_at "zz"
 rw [uf (by omega) (by omega)]
 walk_at "zz"
def n6:List gU->List Str->Option (List Str)
 | [],st=>some st
 | e::r,st=>if bE st e.needs e.bars then n6 r (ba e st) else none
def kC:List gU->List Str->List (List Str)
 | [],st=>[st]
 | e::r,st=>if bE st e.needs e.bars then st::kC r (ba e st) else [st]
def yw (st m b:List Str) (rs:List gU):Bool:=match n6 rs st with
 | some s=>bE s m b
 | none=>false
theorem uh  (hf:fs.Pairwise fun a b=>qk a b=true) (g:tN fs e) (h:tM fs st):tM fs (ba e st):=by
 refine ⟨Hu _,fun x hx=>?_⟩
 rcases Hz.mp hx with z | z
 ·exact h.mem x z.1
 ·exact g.makes.mem x z
theorem Lz:∀ (rs:List gU) (st:List Str),(kC rs st).length<=rs.length + 1
 | [],_=>ar _
 | e::r,st=>by
  unfold kC
  split
  ·have:=Lz r (ba e st)
   simp only [aW]
   omega
  ·simp
theorem BZ:∀ (rs:List gU) (st:List Str),decide (((rs.length:Nat):Int)<((kC rs st).length:Nat))=(n6 rs st).isSome
 | [],_=>rfl
 | e::r,st=>by
  unfold kC n6
  cases bE st e.needs e.bars with
  | true =>
   rw [if_pos rfl,if_pos rfl,<- BZ r]
   simp only [aW]
   congr 1
   simp only [eq_iff_iff]
   omega
  | false =>
   rw [if_neg bq,if_neg bq]
   simp only [aW,bT]
   exact decide_eq_false (by omega)
theorem zI:∀ (rs:List gU) (st s:List Str),n6 rs st=some s->∃ pre,kC rs st=pre++[s]
 | [],st,s,h=>by cases h;exact ⟨[],rfl⟩
 | e::r,st,s,h=>by
  unfold n6 at h
  unfold kC
  cases hg:bE st e.needs e.bars with
  | true =>
   rw [hg,if_pos rfl] at h
   rw [if_pos rfl]
   obtain ⟨pre,hp⟩:=zI r _ _ h
   exact ⟨st::pre,by rw [hp];rfl⟩
  | false=>rw [hg] at h;cases h
theorem J_ (xs:List D) (x:D):bp (.list (xs++[x])) (.int (-1))=.ok x:=by
 have e:bp (.list (xs++[x])) (.int (-1))=Ew (.list (xs++[x])) (.int (-1)):=rfl
 rw [e]
 unfold Ew
 have:DR (xs++[x]) (-1)=some x:=by
  unfold DR S8
  rw [if_neg (by decide),if_pos (by simp only [aM,aW,bT];omega)]
  have hj:(-1 + ((xs++[x]).length:Int)).toNat=xs.length:=by simp only [aM,aW,bT];omega
  simp only [oY,hj]
  rw [bh (ar _)]
  simp
 simp only [this]
def V6 (fs:List Str):List (List Str):=fs.foldl (fun acc f=>acc++acc.map (·++[f])) [[]]
theorem Pd     (h:ρ[i]?=some (Sl.shr d)):tE i kt gb ρ=qx (lO fun ρ=>Gi ρ i) kt gb ρ:=by
 unfold tE
 rw [h]
theorem Dq:∀ (fs:List Str) (acc:List (List Str)) (t u:List Str),t∈acc->u.Sublist fs->t++u∈fs.foldl (fun acc f=>acc++acc.map (·++[f])) acc
 | [],acc,t,u,ht,hu=>by
  cases hu
  rw [cO]
  exact ht
 | f::r,acc,t,u,ht,hu=>by
  rw [cP]
  cases hu with
  | cons _ h=>exact Dq r _ t u (bj _ ht) h
  | cons_cons _ h =>
   rename_i u'
   have:=Dq r (acc++acc.map (·++[f])) (t++[f]) u' (aH _ (bx ht)) h
   rwa [eW] at this
theorem Pe (hf:fs.Pairwise fun a b=>qk a b=true) (h:tM fs xs):xs.Sublist fs:=by
 have e:xs=fs.filter fun x=>decide (x∈xs):=Pc h.up (hf.sublist uO) fun x=>by
  rw [Qs,decide_eq_true_eq]
  exact ⟨fun z=>⟨h.mem x z,z⟩,fun z=>z.2⟩
 rw [e]
 exact uO
theorem Pf (hf:fs.Pairwise fun a b=>qk a b=true) (h:tM fs xs):xs∈V6 fs:=Dq fs [[]] [] xs (List.mem_singleton.mpr rfl) (Pe hf h)
structure Xb (es rs:List gU):Prop where
 mem:∀ e∈rs,e∈es
 len:rs.length<=64
abbrev ui (rs:List gU):D:=.list (rs.map fun e=>aU e.name)
theorem Pg (rs:List gU):noDs (rs.map fun e=>aU e.name)=true:=yv _ (fun _=>rfl) rs
theorem Ph  (g:el fs es) (h:Xb es rs):vw [dU fs es,ui rs]=.ok (.bool true):=by
 have hl:=h.len
 unfold vw
 refine cr ?_
 unfold vv bP
 walk_at "zz"
 rw [show qT (ui rs)=true from Pg rs,show CW "list" (ui rs)=true from rfl]
 walk_at "zz"
 rw [decide_eq_false (by omega)]
 walk_at "zz"
 rw [if_pos (by omega)]
 rw [dQ _ (fun e:gU=>aU e.name) (fun _=>c9 true) rs fun e he=>fL rfl (by
  walk_at "zz"
  rw [BW g (g.ok e (h.mem e he)).name,ug g.nd (h.mem e he)]
  simp only [X8]
  walk_at "zz"
  rw [X4])]
 walk_at "zz"
 rw [iX _ (fun _=>true)]
 walk_at "zz"
 simp
theorem HB  (g:el fs es) (h:Xb es rs):lY [dU fs es,ui rs]=.ok (.list (rs.map du)):=by
 have hl:=h.len
 unfold lY
 refine cr ?_
 unfold lX bP
 walk_at "zz"
 rw [Ph g h]
 walk_at "zz"
 rw [if_pos (by omega)]
 rw [dQ _ (fun e:gU=>aU e.name) du rs fun e he=>fL rfl (by
  walk_at "zz"
  rw [BW g (g.ok e (h.mem e he)).name,ug g.nd (h.mem e he)]
  rfl)]
 walk_at "zz"
theorem yx:Uv (.int 1)=.ok (.int (-1)):=rfl
theorem K0 (g:aB->R D) (s:Sl) (ρ:aB):xU g (s::ρ)=(g (s::ρ)).bind Uv:=id rfl
theorem yy     (h1:kt d ρ=.ok ρ1) (h2:gb ρ1=.ok (.nx ρ2)):js kt gb (d::r) ρ=js kt gb r ρ2:=by
 rw [js,h1]
 simp only [h2]
theorem RS     (h1:kt d ρ=.ok ρ1) (h2:gb ρ1=.ok (.rt x)):js kt gb (d::r) ρ=.ok (.rt x):=by
 rw [js,h1]
 simp only [h2]
theorem xv  (g:el fs es) (A B:D):∀ (rs:List gU) (pre:List (List Str)) (st:List Str) (z:Sl),(∀ e∈rs,e∈es)->tM fs st->pre.length + rs.length<=100 ->
  (∃ z',js (c8 3) (aY (eY (kg (fR (eR 2 hX (J.ag (rS 3) (J.ag (g2 (rB 2) (xU (kI 1)) bp) J.aL))))) (db (rS 2)) (fun ρ=>.ok (.nx ρ))) (r9 2 (eR 2 eM (J.ag (rS 3) (J.ag (g2 (rB 2) (xU (kI 1)) bp) J.aL))))) (rs.map du) [.shr A,.shr B,.own (.list ((pre++[st]).map aD)),z]=.ok (.nx [.shr A,.shr B,.own (.list ((pre++kC rs st).map aD)),z'])) \/
  js (c8 3) (aY (eY (kg (fR (eR 2 hX (J.ag (rS 3) (J.ag (g2 (rB 2) (xU (kI 1)) bp) J.aL))))) (db (rS 2)) (fun ρ=>.ok (.nx ρ))) (r9 2 (eR 2 eM (J.ag (rS 3) (J.ag (g2 (rB 2) (xU (kI 1)) bp) J.aL))))) (rs.map du) [.shr A,.shr B,.own (.list ((pre++[st]).map aD)),z]=.ok (.rt (.list ((pre++kC rs st).map aD)))
 | [],pre,st,z,_,_,_=>.inl ⟨z,rfl⟩
 | e::r,pre,st,z,hm,hs,hl=>by
  have he:=hm e am
  have sh:=vE g he
  simp only [aW] at hl
  have hix:bp (.list ((pre++[st]).map aD)) (.int (-1))=.ok (aD st):=by
   rw [b9]
   exact J_ _ _
  unfold kC
  cases hg:bE st e.needs e.bars with
  | true =>
   rw [if_pos rfl]
   have e2:pre++st::kC r (ba e st)=(pre++[st])++kC r (ba e st):=by simp
   rw [e2,av]
   have hb:=xv g A B r (pre++[st]) (ba e st) (.shr (du e)) (fun x hx=>hm x (ah _ hx)) (uh g.rise.up (g.ok e he) hs) (by rw [aM];simp only [aW,bT];omega)
   have hbody:(aY (eY (kg (fR (eR 2 hX (J.ag (rS 3) (J.ag (g2 (rB 2) (xU (kI 1)) bp) J.aL))))) (db (rS 2)) (fun ρ=>.ok (.nx ρ))) (r9 2 (eR 2 eM (J.ag (rS 3) (J.ag (g2 (rB 2) (xU (kI 1)) bp) J.aL))))) [.shr A,.shr B,.own (.list ((pre++[st]).map aD)),.shr (du e)]=.ok (.nx [.shr A,.shr B,.own (.list ((pre++[st]++[ba e st]).map aD)),.shr (du e)]):=by
    walk_at "zz"
    rw [K0]
    walk_at "zz"
    rw [yx]
    walk_at "zz"
    rw [hix]
    walk_at "zz"
    rw [wK sh,hg]
    walk_at "zz"
    rw [b9 (l₁:=pre++[st])]
    refine Fj (ds:=(pre++[st]).map aD) (d:=aD (ba e st)) rfl ?_ (by rw [ao,aM];simp only [aW,bT];omega)
    walk_at "zz"
    rw [K0]
    walk_at "zz"
    rw [yx]
    walk_at "zz"
    rw [hix]
    walk_at "zz"
    rw [BY sh (eh hs g.rise.len)]
   rw [yy (ρ1:=[.shr A,.shr B,.own (.list ((pre++[st]).map aD)),.shr (du e)]) rfl hbody]
   exact hb
  | false =>
   rw [if_neg bq,av]
   refine .inr (RS (ρ1:=[.shr A,.shr B,.own (.list ((pre++[st]).map aD)),.shr (du e)]) rfl ?_)
   walk_at "zz"
   rw [K0]
   walk_at "zz"
   rw [yx]
   walk_at "zz"
   rw [hix]
   walk_at "zz"
   rw [wK sh,hg]
   walk_at "zz"
theorem HC  (g:el fs es) (h:Xb es rs) (hs:tM fs st):iU [.list (rs.map du),aD st]=.ok (.list ((kC rs st).map aD)):=by
 have hl:=h.len
 unfold iU
 refine cr ?_
 unfold iT bP
 walk_at "zz"
 rw [Pd (d:=.list (rs.map du)) rfl,tG (ds:=rs.map du)]
 ·rcases xv g (.list (rs.map du)) (aD st) rs [] st .no h.mem hs (by simp only [bT];omega) with ⟨z,e⟩ | e
  ·rw [gJ,gJ] at e
   simp only [av,d_] at e
   rw [e]
   walk_at "zz"
  ·rw [gJ,gJ] at e
   simp only [av,d_] at e
   rw [e]
   walk_at "zz"
 ·walk_at "zz"
theorem LA  (g:el fs es) (h:Xb es rs) (hs:tM fs st) (hw:xu fs m b):vz [dU fs es,aD st,kA m b,ui rs]=.ok (.bool (yw st m b rs)):=by
 have l1:=eh hw.must g.rise.len
 have l2:=eh hw.bars g.rise.len
 unfold vz
 refine cr ?_
 unfold vy bP
 walk_at "zz"
 rw [Hy g hs hw]
 walk_at "zz"
 rw [HB g h]
 walk_at "zz"
 rw [HC g h hs]
 walk_at "zz"
 rw [BZ]
 unfold yw
 cases hr:n6 rs st with
 | none =>
  rw [Option.isSome_none]
  walk_at "zz"
 | some s =>
  obtain ⟨pre,hp⟩:=zI rs st s hr
  rw [uJ,hp,b9]
  walk_at "zz"
  rw [K0]
  walk_at "zz"
  rw [yx]
  walk_at "zz"
  rw [J_]
  walk_at "zz"
  rw [uf (by omega) (by omega)]
  walk_at "zz"
def cY (l:List (List Str×D)):List (D×D):=l.map fun p=>(aD p.1,p.2)
abbrev lu (l:List (List Str×D)):List (List Str):=l.map (·.1)
theorem HD (x:List Str):aD x=tD (x.map iM):=by
 unfold aD tD
 rw [cj]
 rfl
theorem mK (x:List Str):qr (aD x)=some (x.map iM):=by rw [HD,OA]
theorem RT {a b:List Str} (h:a.map (iM:Str->fQ)=b.map iM):a=b:=by
 induction a generalizing b with
 | nil=>cases b with | nil=>rfl | cons _ _=>cases h
 | cons x r ih =>
  cases b with
  | nil=>cases h
  | cons y t =>
   simp only [av,wn] at h
   rw [ih h.2,Sum.inr.inj h.1]
theorem Pi (x y:List Str):bn (aD x) (aD y)=decide (x=y):=by
 rw [HD,HD,D8]
 by_cases h:x=y
 ·rw [h];simp
 ·rw [decide_eq_false h,decide_eq_false fun z=>h (RT z)]
theorem Fo (l:List (List Str×D)):Jn (cY l)=cY l:=by cases l<;>rfl
theorem pR (h:l≠[]):jU (cY l)=true:=by
 have h2:((cY l).all fun kv=>(qr kv.1).isSome)=true:=by
  unfold cY
  rw [mV,cu]
  intro p _
  show (qr (aD p.1)).isSome=true
  rw [mK]
  rfl
 unfold jU
 rw [h2]
 cases l with
 | nil=>exact (h rfl).elim
 | cons _ _=>rfl
theorem wL (x:List Str):∀ l:List (List Str×D),lP (cY l) (aD x)=(l.find? fun p=>decide (p.1=x)).map (·.2)
 | []=>rfl
 | p::r=>by
  have ih:=wL x r
  unfold lP cY at ih ⊢
  rw [av,bS,bS,Pi]
  by_cases h:p.1=x
  ·rw [decide_eq_true h];rfl
  ·rw [decide_eq_false h];exact ih
theorem Pj (nd:(lu l).Nodup) (hp:p∈l):(l.find? fun q=>decide (q.1=p.1))=some p:=by
 induction l with
 | nil=>cases hp
 | cons q r ih =>
  obtain ⟨n1,n2⟩:=List.nodup_cons.mp nd
  rw [bS]
  rcases List.mem_cons.mp hp with h | h
  ·subst h;simp
  ·have:q.1≠p.1:=fun z=>n1 (by show q.1∈_;rw [z];exact bx h)
   rw [decide_eq_false this]
   exact ih n2 h
theorem LB {α:Type}{l:List α}{x:α} (h:x∈l):l≠[]:=fun z=>by rw [z] at h;cases h
theorem Pk  (hu:Jn ds=cY l) (nd:(lu l).Nodup) (hp:p∈l):Af (.dict ds) (aD p.1)=.ok p.2:=by
 unfold Af
 simp only [mK,hu]
 rw [if_pos (pR (LB hp)),wL,Pj nd hp]
 rfl
theorem K1 (nd:(lu l).Nodup) (hp:p∈l):Af (.dict (cY l)) (aD p.1)=.ok p.2:=Pk (Fo l) nd hp
theorem HE (nd:(lu l).Nodup) (hp:p∈l):Af (.dict ((.none,.none)::cY l)) (aD p.1)=.ok p.2:=Pk rfl nd hp
theorem B_ (x:List Str):∀ l:List (List Str×D),((l.find? fun p=>decide (p.1=x)).map (·.2)).isSome=decide (x∈lu l)
 | []=>by simp
 | p::r=>by
  rw [bS]
  by_cases h:p.1=x
  ·rw [decide_eq_true h]
   simp [h]
  ·rw [decide_eq_false h]
   simp only
   rw [B_ x r]
   simp [cV h]
theorem K2 (h:l≠[]) (x:List Str):Rq true (aD x) (.dict (cY l))=.ok (.bool (!decide (x∈lu l))):=by
 unfold Rq
 simp only [mK,Fo]
 rw [if_pos (pR h),wL,B_]
 rfl
theorem Fp (l:List (List Str×D)):D9 (.dict ((.none,.none)::cY l))=.ok ((lu l).map aD):=by
 show R.ok ((cY l).map (·.1))=_
 unfold cY lu
 rw [cj,cj]
 rfl
theorem RU  (h:x∉lu l) (d:D):xT (cY l) (aD x) d=cY (l++[(x,d)]):=by
 have e:((cY l).any fun kv=>bn kv.1 (aD x))=false:=by
  unfold cY
  rw [mW,Mj]
  intro p hp
  show ¬bn (aD p.1) (aD x)=true
  rw [Pi,decide_eq_true_eq]
  exact fun z=>h (by rw [<- z];exact bx hp)
 unfold xT
 rw [e,if_neg bq]
 unfold cY
 rw [b9]
 rfl
theorem Pl      (hi:ρ[i]?=some (Sl.own (.dict (cY l)))) (hg:g ρ=.ok d) (hk:gk ρ=.ok (aD x)) (hn:l≠[]) (hl:l.length<1000) (hx:x∉lu l):tH i gk g ρ=.ok (.nx (ρ.set i (.own (.dict (cY (l++[(x,d)])))))):=by
 have hl':(cY l).length<1000:=by unfold cY;rw [ao];exact hl
 have e:tH i gk g ρ=(g ρ).bind fun d=>(gk ρ).bind fun k=>match qr k with
  | some _=>if (cY l).length<1000/\jU (cY l)=true then .ok (.nx (ρ.set i (.own (.dict (xT (cY l) k d))))) else .no
  | none=>.no:=by
  unfold tH
  simp only [hi]
  try rfl
 rw [e,hg,zj,hk,zj]
 simp only [mK,if_pos (uM hl' (pR hn)),RU hx]
theorem Xc    (hn:l≠[]) (h:ρ[i]?=some (Sl.own (.dict (cY l)))):UK i g ρ=g (ρ.set i (.own (.dict ((.none,.none)::cY l)))):=by
 unfold UK
 congr 1
 unfold li
 rw [h]
 cases l with
 | nil=>exact (hn rfl).elim
 | cons p r=>rfl
theorem Xd     (h1:gk (s::ρ)=.ok (aD x)) (h2:gv (s::ρ)=.ok d):T9 gk gv (s::ρ)=.ok (.dict (cY [(x,d)])):=by
 unfold T9
 rw [h1,bind_ok,h2,bind_ok]
 simp only [mK]
 rfl
theorem Pm    (h:g (s::ρ)=.ok (.list ds)):AL g (s::ρ)=.ok (!ds.isEmpty):=by
 unfold AL
 rw [h,bind_ok]
theorem To (g:aB->R D) (s:Sl) (ρ:aB):OB g (s::ρ)=(g (s::ρ)).bind D9:=id rfl
theorem Fq {α:Type} [DecidableEq α] : ∀ {l m:List α},l.Nodup->(∀ x∈l,x∈m)->l.length<=m.length
 | [],_,_,_=>cC _
 | x::r,m,nd,h=>by
  obtain ⟨n1,n2⟩:=List.nodup_cons.mp nd
  have hx:=h x am
  have:=Fq (l:=r) (m:=m.erase x) n2 fun y hy=>(Iz fun z=>n1 (by rw [<- z];exact hy)).mpr (h y (ah _ hy))
  rw [DQ hx] at this
  have:=Gh hx
  simp only [aW]
  omega
theorem Ft:∀ (fs:List Str) (acc:List (List Str)),(fs.foldl (fun acc f=>acc++acc.map (·++[f])) acc).length=acc.length * 2 ^ fs.length
 | [],acc=>by simp
 | f::r,acc=>by
  rw [cP,Ft r,aM,ao,aW,Nat.pow_succ,<- Nat.two_mul,Gz 2,Nat.mul_assoc,Gz 2]
theorem RV (h:fs.length<=6):(V6 fs).length<=64:=by
 unfold V6
 rw [Ft]
 have:2 ^ fs.length<=2 ^ 6:=Nat.pow_le_pow_right (by decide) h
 simp only [aW,bT]
 omega
theorem Fu (hf:OT fs 6) (nd:(lu l).Nodup) (h:∀ x∈lu l,tM fs x):l.length<=64:=by
 have:=Fq nd fun x hx=>Pf hf.up (h x hx)
 rw [ao] at this
 exact cy this (RV hf.len)
def V7 (es:List gU) (st x:List Str):Prop:=∃ rs:List gU,(∀ e∈rs,e∈es)/\n6 rs st=some x
theorem vF (e:gU):∀ (rs:List gU) (st x:List Str),n6 rs st=some x->bE x e.needs e.bars=true->n6 (rs++[e]) st=some (ba e x)
 | [],st,x,h,g=>by cases h;show (if bE st e.needs e.bars then n6 [] (ba e st) else none)=_;rw [g];rfl
 | a::r,st,x,h,g=>by
  show (if bE st a.needs a.bars then n6 (r++[e]) (ba a st) else none)=_
  have h':(if bE st a.needs a.bars then n6 r (ba a st) else none)=some x:=h
  split at h'
  ·rename_i hg
   rw [if_pos hg]
   exact vF e r _ _ h' g
  ·cases h'
theorem uj {es:List gU}{M:List Str->Prop} (hc:∀ x,M x->∀ e∈es,bE x e.needs e.bars=true->M (ba e x)):∀ (rs:List gU) (st x:List Str),M st->(∀ e∈rs,e∈es)->n6 rs st=some x->M x
 | [],st,x,hm,_,h=>by cases h;exact hm
 | a::r,st,x,hm,he,h=>by
  have h':(if bE st a.needs a.bars then n6 r (ba a st) else none)=some x:=h
  split at h'
  ·rename_i hg
   exact uj hc r _ _ (hc st hm a (he a am) hg) (fun e h=>he e (ah _ h)) h'
  ·cases h'
theorem Pn  (g:el fs es) (hs:tM fs st):jZ [dU fs es,aD st]=.ok (.list ((es.filter fun e=>bE st e.needs e.bars).map fun e=>fh [du e,aD (ba e st)])):=by
 have ls:=eh hs g.rise.len
 have lg:=g.len
 unfold jZ
 refine cr ?_
 unfold lV bP
 walk_at "zz"
 rw [V3]
 walk_at "zz"
 rw [if_pos (by omega)]
 rw [gx _ du (fun e=>fh [du e,aD (ba e st)]) (fun e=>bE st e.needs e.bars) es fun e he=>pC (by
  walk_at "zz"
  rw [wK (vE g he)]
  walk_at "zz") fun _=>(by
  walk_at "zz"
  rw [BY (vE g he) ls]
  walk_at "zz")]
 walk_at "zz"
abbrev LZ:=List (List Str×List gU)
def gS (l:LZ):List (List Str×D):=l.map fun p=>(p.1,ui p.2)
structure n8 (fs st:List Str) (es:List gU) (l:LZ):Prop where
 nd:(l.map (·.1)).Nodup
 beg:(st,[])∈l
 sub:∀ p∈l,tM fs p.1
 row:∀ p∈l,(∀ e∈p.2,e∈es)/\n6 p.2 st=some p.1/\p.2.length<l.length
theorem iY (l:LZ):lu (gS l)=l.map (·.1):=by
 unfold lu gS
 rw [cj]
 rfl
theorem n8.ne   (h:n8 fs st es l):gS l≠[]:=by
 intro z
 have:=List.map_eq_nil_iff.mp z
 have h1:=h.beg
 rw [this] at h1
 cases h1
theorem n8.few   (g:el fs es) (h:n8 fs st es l):l.length<=64:=by
 have:=Fu g.rise (l:=gS l) (by rw [iY];exact h.nd) fun x hx=>by
  rw [iY] at hx
  obtain ⟨p,hp,rfl⟩:=List.mem_map.mp hx
  exact h.sub p hp
 unfold gS at this
 rw [ao] at this
 exact this
def ip (at0:List Str) (row:List gU) (b:LZ×List (List Str)) (e:gU):LZ×List (List Str) :=
 if ba e at0∈b.1.map (·.1) then b else (b.1++[(ba e at0,row++[e])],b.2++[ba e at0])
theorem V8     (g:el fs es) (h:n8 fs st es b.1) (hr:(at0,row)∈b.1) (he:e∈es) (hg:bE at0 e.needs e.bars=true):n8 fs st es (ip at0 row b e).1:=by
 unfold ip
 split
 ·exact h
 ·rename_i hn
  obtain ⟨r1,r2,r3⟩:=h.row _ hr
  refine ⟨?_,bj _ h.beg,fun p hp=>?_,fun p hp=>?_⟩
  ·rw [b9]
   exact yg h.nd hn
  ·rcases List.mem_append.mp hp with z | z
   ·exact h.sub p z
   ·rw [List.mem_singleton.mp z]
    exact uh g.rise.up (g.ok e he) (h.sub _ hr)
  ·rw [aM,dJ]
   rcases List.mem_append.mp hp with z | z
   ·obtain ⟨k1,k2,k3⟩:=h.row p z
    exact ⟨k1,k2,by omega⟩
   ·rw [List.mem_singleton.mp z]
    refine ⟨fun x hx=>?_,vF e _ _ _ r2 hg,?_⟩
    ·rcases List.mem_append.mp hx with y | y
     ·exact r1 x y
     ·rw [List.mem_singleton.mp y];exact he
    ·show (row++[e]).length<b.1.length + 1
     rw [aM,dJ]
     have:row.length<b.1.length:=r3
     omega
theorem Fv (at0:List Str) (row:List gU) (b:LZ×List (List Str)) (e:gU):(∀ p∈b.1,p∈(ip at0 row b e).1)/\ba e at0∈(ip at0 row b e).1.map (·.1)/\(∀ x∈(ip at0 row b e).1.map (·.1),x∈b.1.map (·.1)\/x∈(ip at0 row b e).2)/\(∀ x∈b.2,x∈(ip at0 row b e).2)/\(∀ x∈(ip at0 row b e).2,x∈b.2\/x∈(ip at0 row b e).1.map (·.1))/\b.1.length + (ip at0 row b e).2.length=(ip at0 row b e).1.length + b.2.length:=by
 unfold ip
 split
 ·rename_i h
  exact ⟨fun _ h=>h,h,fun _ h=>.inl h,fun _ h=>h,fun _ h=>.inl h,rfl⟩
 ·refine ⟨fun p hp=>bj _ hp,?_,fun x hx=>?_,fun x hx=>bj _ hx,fun x hx=>?_,?_⟩
  ·rw [b9];exact aH _ am
  ·rw [b9] at hx
   rcases List.mem_append.mp hx with z | z
   ·exact .inl z
   ·exact .inr (aH _ z)
  ·rcases List.mem_append.mp hx with z | z
   ·exact .inl z
   ·rw [b9];exact .inr (aH _ z)
  ·simp only [aM,dJ]
   omega
def Xy:aB->R Fl:=(eY (fR (g2 (rB 7) (rB 2) (Rq true))) (aY (tH 2 (rS 7) (g2 (g2 (rB 2) (rB 5) Af) (ft (J.ag (g2 (rB 6) (kI 0) bp) J.aL) .list) dZ)) (r9 4 (rS 7))) (fun ρ=>.ok (.nx ρ)))
def LC:aB->R Fl:=qx (lO (eR 2 jZ (J.ag (rS 0) (J.ag (rS 5) J.aL)))) (o6 2 (da (c8 6) (da (c8 7) pz))) Xy
def Xe:aB->R Fl:=aY (gZ 4 (ft J.aL .list)) (aY (tE 3 (c8 5) LC) (SD 4 (gY 3 (rS 4))))
theorem Po:lW=aY (gZ 2 (T9 (rS 1) (ft J.aL .list))) (aY (gZ 3 (ft (J.ag (rS 1) J.aL) .list)) (aY (j8 (AL (rB 3)) Xe 100000) (UK 2 (db (rS 2))))):=rfl
theorem zJ  (h:p∈l):(p.1,ui p.2)∈gS l:=bx (f:=fun p:List Str×List gU=>(p.1,ui p.2)) h
theorem V9   (h:n8 fs st es l)  (hr:(at0,row)∈l):Af (.dict (cY (gS l))) (aD at0)=.ok (ui row):=by
 have:=K1 (l:=gS l) (by rw [iY];exact h.nd) (zJ hr)
 exact this
theorem Pp (l:LZ) (x:List Str) (r:List gU):gS (l++[(x,r)])=gS l++[(x,ui r)]:=by
 unfold gS
 rw [b9]
 rfl
theorem RW   (g:el fs es) (B S:D) (o3 z6 z7:Sl)  (h:n8 fs st es b.1) (hr:(at0,row)∈b.1) (hl:b.2.length<=b.1.length) :
  Xy [.shr B,.shr S,.own (.dict (cY (gS b.1))),o3,.own (.list (b.2.map aD)),.shr (aD at0),.shr (du e),.shr (aD (ba e at0))]=.ok (.nx [.shr B,.shr S,.own (.dict (cY (gS (ip at0 row b e).1))),o3,.own (.list ((ip at0 row b e).2.map aD)),.shr (aD at0),.shr (du e),.shr (aD (ba e at0))]):=by
 have few:=h.few g
 have rl:=(h.row _ hr).2.2
 have k64:row.length<b.1.length:=rl
 unfold Xy
 walk_at "zz"
 rw [K2 h.ne,iY]
 unfold ip
 by_cases hm:ba e at0∈b.1.map (·.1)
 ·rw [if_pos hm,decide_eq_true hm]
  walk_at "zz"
 ·rw [if_neg hm,decide_eq_false hm]
  walk_at "zz"
  rw [Pl (l:=gS b.1) (x:=ba e at0) (d:=ui (row++[e])) rfl ?_ rfl h.ne (by unfold gS;rw [ao];omega) (by rw [iY];exact hm)]
  ·walk_at "zz"
   rw [Fj (ds:=b.2.map aD) (d:=aD (ba e at0)) rfl rfl (by rw [ao];omega),Pp,b9]
   rfl
  ·walk_at "zz"
   rw [V9 h hr]
   walk_at "zz"
   rw [V4]
   walk_at "zz"
   rw [if_pos (by omega)]
   simp only [ui,b9]
   rfl
theorem Fw {fs st at0:List Str}{es:List gU}{row:List gU}:∀ (xs:List gU) (b:LZ×List (List Str)),(∀ p∈b.1,p∈(xs.foldl (ip at0 row) b).1)/\(∀ e∈xs,ba e at0∈(xs.foldl (ip at0 row) b).1.map (·.1))/\(∀ x∈(xs.foldl (ip at0 row) b).1.map (·.1),x∈b.1.map (·.1)\/x∈(xs.foldl (ip at0 row) b).2)/\(∀ x∈b.2,x∈(xs.foldl (ip at0 row) b).2)/\(∀ x∈(xs.foldl (ip at0 row) b).2,x∈b.2\/x∈(xs.foldl (ip at0 row) b).1.map (·.1))/\b.1.length + (xs.foldl (ip at0 row) b).2.length=(xs.foldl (ip at0 row) b).1.length + b.2.length
 | [],b=>⟨fun _ h=>h,fun _ h=>(nomatch h),fun _ h=>.inl h,fun _ h=>h,fun _ h=>.inl h,rfl⟩
 | e::r,b=>by
  obtain ⟨a1,a2,a3,a4,a5,a6⟩:=Fv at0 row b e
  obtain ⟨b1,b2,b3,b4,b5,b6⟩:=Fw (fs:=fs) (st:=st) (es:=es) r (ip at0 row b e)
  rw [cP]
  have km:∀ x∈(ip at0 row b e).1.map (·.1),x∈(r.foldl (ip at0 row) (ip at0 row b e)).1.map (·.1):=fun x hx=>by
   obtain ⟨p,hp,rfl⟩:=List.mem_map.mp hx
   exact bx (b1 p hp)
  refine ⟨fun p hp=>b1 p (a1 p hp),fun x hx=>?_,fun x hx=>?_,fun x hx=>b4 x (a4 x hx),fun x hx=>?_,by omega⟩
  ·rcases List.mem_cons.mp hx with z | z
   ·rw [z];exact km _ a2
   ·exact b2 x z
  ·rcases b3 x hx with z | z
   ·rcases a3 x z with y | y
    ·exact .inl y
    ·exact .inr (b4 x y)
   ·exact .inr z
  ·rcases b5 x hx with z | z
   ·rcases a5 x z with y | y
    ·exact .inl y
    ·exact .inr (km x y)
   ·exact .inr z
theorem Va   (g:el fs es) (B S:D) (o3 z6 z7:Sl) (h:n8 fs st es b.1) (hr:(at0,row)∈b.1) (hl:b.2.length<=b.1.length) (xs:List gU) (hx:∀ e∈xs,e∈es/\bE at0 e.needs e.bars=true) :
  n8 fs st es (xs.foldl (ip at0 row) b).1/\∃ y6 y7,js (o6 2 (da (c8 6) (da (c8 7) pz))) Xy (xs.map fun e=>fh [du e,aD (ba e at0)]) [.shr B,.shr S,.own (.dict (cY (gS b.1))),o3,.own (.list (b.2.map aD)),.shr (aD at0),z6,z7]=.ok (.nx [.shr B,.shr S,.own (.dict (cY (gS (xs.foldl (ip at0 row) b).1))),o3,.own (.list ((xs.foldl (ip at0 row) b).2.map aD)),.shr (aD at0),y6,y7]):=by
 induction xs generalizing b z6 z7 with
 | nil=>exact ⟨h,z6,z7,rfl⟩
 | cons e r ih =>
  obtain ⟨he,hg⟩:=hx e am
  obtain ⟨a1,a2,a3,a4,a5,a6⟩:=Fv at0 row b e
  have h':=V8 g h hr he hg
  obtain ⟨q1,y6,y7,q2⟩:=ih (.shr (du e)) (.shr (aD (ba e at0))) h' (a1 _ hr) (by omega) fun x z=>hx x (ah _ z)
  refine ⟨q1,y6,y7,?_⟩
  rw [av,yy (ρ1:=[.shr B,.shr S,.own (.dict (cY (gS b.1))),o3,.own (.list (b.2.map aD)),.shr (aD at0),.shr (du e),.shr (aD (ba e at0))]) rfl (RW g B S o3 z6 z7 h hr hl)]
  exact q2
def pS (l:LZ) (x:List Str):List gU:=((l.find? fun p=>decide (p.1=x)).map (·.2)).getD []
theorem vG  (h:x∈l.map (·.1)):(x,pS l x)∈l:=by
 unfold pS
 induction l with
 | nil=>cases h
 | cons p r ih =>
  rw [bS]
  by_cases hp:p.1=x
  ·rw [decide_eq_true hp]
   subst hp
   exact am
  ·rw [decide_eq_false hp]
   rcases List.mem_cons.mp h with z | z
   ·exact (hp z.symm).elim
   ·exact ah _ (ih z)
def mL (es:List gU) (b:LZ×List (List Str)) (x:List Str):LZ×List (List Str):=(es.filter fun e=>bE x e.needs e.bars).foldl (ip x (pS b.1 x)) b
theorem Pq  (g:el fs es) (S:D) (o3 z6 z7:Sl) (h:n8 fs st es b.1) (hr:at0∈b.1.map (·.1)) (hl:b.2.length<=b.1.length) :
  n8 fs st es (mL es b at0).1/\∃ y6 y7,LC [.shr (dU fs es),.shr S,.own (.dict (cY (gS b.1))),o3,.own (.list (b.2.map aD)),.shr (aD at0),z6,z7]=.ok (.nx [.shr (dU fs es),.shr S,.own (.dict (cY (gS (mL es b at0).1))),o3,.own (.list ((mL es b at0).2.map aD)),.shr (aD at0),y6,y7]):=by
 have hm:=vG hr
 obtain ⟨q1,y6,y7,q2⟩:=Va g (dU fs es) S o3 z6 z7 h hm hl (es.filter fun e=>bE at0 e.needs e.bars) fun e he=>List.mem_filter.mp he
 refine ⟨q1,y6,y7,?_⟩
 unfold LC
 rw [tG (ds:=(es.filter fun e=>bE at0 e.needs e.bars).map fun e=>fh [du e,aD (ba e at0)])]
 ·exact q2
 ·walk_at "zz"
  rw [Pn g (h.sub _ hm)]
  walk_at "zz"
theorem K3 (es:List gU) (b:LZ×List (List Str)) (x:List Str):(∀ p∈b.1,p∈(mL es b x).1)/\(∀ e∈es,bE x e.needs e.bars=true->ba e x∈(mL es b x).1.map (·.1))/\(∀ y∈(mL es b x).1.map (·.1),y∈b.1.map (·.1)\/y∈(mL es b x).2)/\(∀ y∈b.2,y∈(mL es b x).2)/\(∀ y∈(mL es b x).2,y∈b.2\/y∈(mL es b x).1.map (·.1))/\b.1.length + (mL es b x).2.length=(mL es b x).1.length + b.2.length:=by
 obtain ⟨b1,b2,b3,b4,b5,b6⟩:=Fw (fs:=[]) (st:=[]) (es:=es) (at0:=x) (row:=pS b.1 x) (es.filter fun e=>bE x e.needs e.bars) b
 exact ⟨b1,fun e he hg=>b2 e (List.mem_filter.mpr ⟨he,hg⟩),b3,b4,b5,b6⟩
theorem wM (es:List gU):∀ (ring:List (List Str)) (b:LZ×List (List Str)),(∀ p∈b.1,p∈(ring.foldl (mL es) b).1)/\(∀ x∈ring,∀ e∈es,bE x e.needs e.bars=true->ba e x∈(ring.foldl (mL es) b).1.map (·.1))/\(∀ y∈(ring.foldl (mL es) b).1.map (·.1),y∈b.1.map (·.1)\/y∈(ring.foldl (mL es) b).2)/\(∀ y∈b.2,y∈(ring.foldl (mL es) b).2)/\(∀ y∈(ring.foldl (mL es) b).2,y∈b.2\/y∈(ring.foldl (mL es) b).1.map (·.1))/\b.1.length + (ring.foldl (mL es) b).2.length=(ring.foldl (mL es) b).1.length + b.2.length
 | [],b=>⟨fun _ h=>h,fun _ h=>(nomatch h),fun _ h=>.inl h,fun _ h=>h,fun _ h=>.inl h,rfl⟩
 | x::r,b=>by
  obtain ⟨a1,a2,a3,a4,a5,a6⟩:=K3 es b x
  obtain ⟨b1,b2,b3,b4,b5,b6⟩:=wM es r (mL es b x)
  rw [cP]
  have km:∀ y∈(mL es b x).1.map (·.1),y∈(r.foldl (mL es) (mL es b x)).1.map (·.1):=fun y hy=>by
   obtain ⟨p,hp,rfl⟩:=List.mem_map.mp hy
   exact bx (b1 p hp)
  refine ⟨fun p hp=>b1 p (a1 p hp),fun y hy e he hg=>?_,fun y hy=>?_,fun y hy=>b4 y (a4 y hy),fun y hy=>?_,by omega⟩
  ·rcases List.mem_cons.mp hy with z | z
   ·subst z;exact km _ (a2 e he hg)
   ·exact b2 y z e he hg
  ·rcases b3 y hy with z | z
   ·rcases a3 y z with w | w
    ·exact .inl w
    ·exact .inr (b4 y w)
   ·exact .inr z
  ·rcases b5 y hy with z | z
   ·rcases a5 y z with w | w
    ·exact .inl w
    ·exact .inr (km y w)
   ·exact .inr z
theorem Pr  (g:el fs es) (S:D) (o3 z5 z6 z7:Sl) (h:n8 fs st es b.1) (hl:b.2.length<=b.1.length) (ring:List (List Str)) (hx:∀ x∈ring,x∈b.1.map (·.1)) :
  n8 fs st es (ring.foldl (mL es) b).1/\∃ y5 y6 y7,js (c8 5) LC (ring.map aD) [.shr (dU fs es),.shr S,.own (.dict (cY (gS b.1))),o3,.own (.list (b.2.map aD)),z5,z6,z7]=.ok (.nx [.shr (dU fs es),.shr S,.own (.dict (cY (gS (ring.foldl (mL es) b).1))),o3,.own (.list ((ring.foldl (mL es) b).2.map aD)),y5,y6,y7]):=by
 induction ring generalizing b z5 z6 z7 with
 | nil=>exact ⟨h,z5,z6,z7,rfl⟩
 | cons x r ih =>
  obtain ⟨a1,a2,a3,a4,a5,a6⟩:=K3 es b x
  obtain ⟨h',y6,y7,q⟩:=Pq g S o3 z6 z7 h (hx x am) hl
  obtain ⟨q1,w5,w6,w7,q2⟩:=ih (.shr (aD x)) y6 y7 h' (by omega) fun y hy=>by
   obtain ⟨p,hp,e⟩:=List.mem_map.mp (hx y (ah _ hy))
   rw [<- e]
   exact bx (a1 p hp)
  refine ⟨q1,w5,w6,w7,?_⟩
  rw [av,yy (ρ1:=[.shr (dU fs es),.shr S,.own (.dict (cY (gS b.1))),o3,.own (.list (b.2.map aD)),.shr (aD x),z6,z7]) rfl q]
  exact q2
theorem RX  (g:el fs es) (S:D) (o3 z4 z5 z6 z7:Sl) (h:n8 fs st es l) (ring:List (List Str)) (hx:∀ x∈ring,x∈l.map (·.1)) (ho:o3=.own (.list (ring.map aD))\/o3=.shr (.list (ring.map aD))) :
  n8 fs st es (ring.foldl (mL es) (l,[])).1/\∃ y4 y5 y6 y7,Xe [.shr (dU fs es),.shr S,.own (.dict (cY (gS l))),o3,z4,z5,z6,z7]=.ok (.nx [.shr (dU fs es),.shr S,.own (.dict (cY (gS (ring.foldl (mL es) (l,[])).1))),.shr (.list ((ring.foldl (mL es) (l,[])).2.map aD)),y4,y5,y6,y7]):=by
 have L:=fun o=>Pr g S o z5 z6 z7 (b:=(l,[])) h (cC _) ring hx
 unfold Xe
 walk_at "zz"
 rcases ho with ho | ho
 ·subst ho
  obtain ⟨q1,y5,y6,y7,q2⟩:=L (.lck (.list (ring.map aD)))
  refine ⟨q1,.shr (.list ((ring.foldl (mL es) (l,[])).2.map aD)),y5,y6,y7,?_⟩
  have e:tE 3 (c8 5) LC [.shr (dU fs es),.shr S,.own (.dict (cY (gS l))),.own (.list (ring.map aD)),.own (.list []),z5,z6,z7]=.ok (.nx [.shr (dU fs es),.shr S,.own (.dict (cY (gS (ring.foldl (mL es) (l,[])).1))),.own (.list (ring.map aD)),.own (.list ((ring.foldl (mL es) (l,[])).2.map aD)),y5,y6,y7]):=by
   show Z1 3 _ (js (c8 5) LC (ring.map aD) [.shr (dU fs es),.shr S,.own (.dict (cY (gS l))),.lck (.list (ring.map aD)),.own (.list []),z5,z6,z7])=_
   have q2':=q2
   rw [d_] at q2'
   rw [q2']
   rfl
  rw [e]
  walk_at "zz"
  simp only [SD]
  rw [D5 rfl]
  walk_at "zz"
 ·subst ho
  obtain ⟨q1,y5,y6,y7,q2⟩:=L (.shr (.list (ring.map aD)))
  refine ⟨q1,.shr (.list ((ring.foldl (mL es) (l,[])).2.map aD)),y5,y6,y7,?_⟩
  rw [Pd (d:=.list (ring.map aD)) rfl,tG (ds:=ring.map aD)]
  ·have q2':=q2
   rw [d_] at q2'
   rw [q2']
   walk_at "zz"
   simp only [SD]
   rw [D5 rfl]
   walk_at "zz"
  ·walk_at "zz"
structure Ps (fs st:List Str) (es:List gU) (l:LZ):Prop where
 ok:n8 fs st es l
 all:∀ x∈l.map (·.1),∀ e∈es,bE x e.needs e.bars=true->ba e x∈l.map (·.1)
theorem Fx  (g:el fs es) (S:D) (P:LZ->List (List Str)->Prop) (hP:∀ l ring,n8 fs st es l->(∀ x∈ring,x∈l.map (·.1))->n8 fs st es (ring.foldl (mL es) (l,[])).1->P l ring->P (ring.foldl (mL es) (l,[])).1 (ring.foldl (mL es) (l,[])).2):∀ (k fuel:Nat) (o3 z4 z5 z6 z7:Sl) (l:LZ) (ring:List (List Str)),n8 fs st es l->(∀ x∈ring,x∈l.map (·.1))->(∀ x∈l.map (·.1),x∉ring->∀ e∈es,bE x e.needs e.bars=true->ba e x∈l.map (·.1)) ->
  (o3=.own (.list (ring.map aD))\/o3=.shr (.list (ring.map aD)))->P l ring->65 - l.length + (if ring=[] then 0 else 1)<=k->k<fuel ->
  ∃ l' y3 y4 y5 y6 y7,(Ps fs st es l'/\P l' [])/\j8 (AL (rB 3)) Xe fuel [.shr (dU fs es),.shr S,.own (.dict (cY (gS l))),o3,z4,z5,z6,z7]=.ok (.nx [.shr (dU fs es),.shr S,.own (.dict (cY (gS l'))),y3,y4,y5,y6,y7])
 | _,0,_,_,_,_,_,_,_,_,_,_,_,_,_,hf=>absurd hf (mz _)
 | k,fuel + 1,o3,z4,z5,z6,z7,l,ring,h,hx,hc,ho,hp,hk,hf=>by
  have ht:AL (rB 3) [.shr (dU fs es),.shr S,.own (.dict (cY (gS l))),o3,z4,z5,z6,z7]=.ok (!(ring.map aD).isEmpty):=Pm (by rcases ho with z | z<;>subst z<;>rfl)
  rw [j8,ht]
  cases ring with
  | nil=>exact ⟨l,o3,z4,z5,z6,z7,⟨⟨h,fun x hx=>hc x hx (fun z=>nomatch z)⟩,hp⟩,rfl⟩
  | cons x r =>
   obtain ⟨h',y4,y5,y6,y7,q⟩:=RX g S o3 z4 z5 z6 z7 h (x::r) hx ho
   obtain ⟨a1,a2,a3,a4,a5,a6⟩:=wM es (x::r) (l,[])
   have few:=h'.few g
   have few0:=h.few g
   simp only [bT,mY] at a6
   rw [if_neg (by simp)] at hk
   have hk':65 - ((x::r).foldl (mL es) (l,[])).1.length + (if ((x::r).foldl (mL es) (l,[])).2=[] then 0 else 1)<=k - 1:=by
    by_cases hz:((x::r).foldl (mL es) (l,[])).2=[]
    ·rw [if_pos hz]
     rw [hz] at a6
     simp only [bT,mY] at a6
     omega
    ·rw [if_neg hz]
     have:=List.length_pos_iff.mpr hz
     omega
   obtain ⟨l',w3,w4,w5,w6,w7,e1,e2⟩:=Fx g S P hP (k - 1) fuel (.shr (.list (((x::r).foldl (mL es) (l,[])).2.map aD))) y4 y5 y6 y7 _ _ h' (fun y hy=>by
    rcases a5 y hy with z | z
    ·cases z
    ·exact z) (fun y hy hn e he hg=>by
    rcases a3 y hy with z | z
    ·by_cases hm:y∈x::r
     ·exact a2 y hm e he hg
     ·obtain ⟨p,hp,e'⟩:=List.mem_map.mp (hc y z hm e he hg)
      rw [<- e']
      exact bx (a1 p hp)
    ·exact (hn z).elim) (.inr rfl) (hP l (x::r) h hx h' hp) hk' (by omega)
   refine ⟨l',w3,w4,w5,w6,w7,e1,?_⟩
   simp only [av,MB,j5]
   rw [q]
   exact e2
structure Xf (es:List gU) (l:LZ):Prop where
 cls:∀ p∈l,∀ e∈es,bE p.1 e.needs e.bars=true->∃ q∈l,q.1=ba e p.1/\q.2.length<=p.2.length + 1
 up:l.Pairwise fun p q=>p.2.length<=q.2.length
structure Vb (es:List gU) (l:LZ) (ring:List (List Str)) (d:Nat):Prop where
 top:∀ p∈l,p.2.length<=d
 rin:∀ p∈l,p.1∈ring->p.2.length=d
 cls:∀ p∈l,p.1∉ring->∀ e∈es,bE p.1 e.needs e.bars=true->∃ q∈l,q.1=ba e p.1/\q.2.length<=p.2.length + 1
 up:l.Pairwise fun p q=>p.2.length<=q.2.length
theorem zK (at0:List Str) (row:List gU):∀ (xs:List gU) (b:LZ×List (List Str)),∃ t:LZ,xs.foldl (ip at0 row) b=(b.1++t,b.2++t.map (·.1))/\∀ p∈t,p.2.length=row.length + 1
 | [],b=>⟨[],by simp,fun _ h=>(nomatch h)⟩
 | e::r,b=>by
  rw [cP]
  by_cases hm:ba e at0∈b.1.map (·.1)
  ·have:ip at0 row b e=b:=by unfold ip;rw [if_pos hm]
   rw [this]
   exact zK at0 row r b
  ·have:ip at0 row b e=(b.1++[(ba e at0,row++[e])],b.2++[ba e at0]):=by unfold ip;rw [if_neg hm]
   rw [this]
   obtain ⟨t,h1,h2⟩:=zK at0 row r (b.1++[(ba e at0,row++[e])],b.2++[ba e at0])
   refine ⟨(ba e at0,row++[e])::t,by rw [h1];simp,fun p hp=>?_⟩
   rcases List.mem_cons.mp hp with z | z
   ·subst z;simp
   ·exact h2 p z
theorem Pt  (h:x∈l.map (·.1)):pS (l++t) x=pS l x:=by
 unfold pS
 rw [List.find?_append]
 cases hf:l.find? fun p=>decide (p.1=x) with
 | some p=>rfl
 | none =>
  obtain ⟨p,hp,e⟩:=List.mem_map.mp h
  have:=List.find?_eq_none.mp hf p hp
  simp [e] at this
theorem Fy (es:List gU) (d:Nat):∀ (ring:List (List Str)) (b:LZ×List (List Str)),(∀ x∈ring,x∈b.1.map (·.1))->(∀ x∈ring,(pS b.1 x).length=d)->∃ t:LZ,ring.foldl (mL es) b=(b.1++t,b.2++t.map (·.1))/\∀ p∈t,p.2.length=d + 1
 | [],b,_,_=>⟨[],by simp,fun _ h=>(nomatch h)⟩
 | x::r,b,hx,hd=>by
  rw [cP]
  obtain ⟨t,h1,h2⟩:=zK x (pS b.1 x) (es.filter fun e=>bE x e.needs e.bars) b
  have e1:mL es b x=(b.1++t,b.2++t.map (·.1)):=h1
  rw [e1]
  obtain ⟨t2,h3,h4⟩:=Fy es d r (b.1++t,b.2++t.map (·.1)) (fun y hy=>by rw [b9];exact bj _ (hx y (ah _ hy))) (fun y hy=>by rw [Pt (hx y (ah _ hy))];exact hd y (ah _ hy))
  refine ⟨t++t2,by rw [h3];simp,fun p hp=>?_⟩
  rcases List.mem_append.mp hp with z | z
  ·rw [h2 p z,hd x am]
  ·exact h4 p z
theorem LD    (hx:∀ x∈ring,x∈l.map (·.1)) (h':n8 fs st es (ring.foldl (mL es) (l,[])).1) (hp:∃ d,Vb es l ring d):∃ d,Vb es (ring.foldl (mL es) (l,[])).1 (ring.foldl (mL es) (l,[])).2 d:=by
 obtain ⟨d,D⟩:=hp
 obtain ⟨a1,a2,a3,a4,a5,a6⟩:=wM es ring (l,[])
 obtain ⟨t,e,ht⟩:=Fy es d ring (l,[]) hx fun x hr=>D.rin _ (vG (hx x hr)) hr
 have nd:=h'.nd
 rw [e] at nd a2 ⊢
 rw [b9] at nd
 simp only [gJ] at *
 have top:∀ p∈l++t,p.2.length<=d + 1:=fun p hp=>by
  rcases List.mem_append.mp hp with z | z
  ·exact xK (D.top p z)
  ·exact Nat.le_of_eq (ht p z)
 refine ⟨d + 1,top,fun p hp hr=>?_,fun p hp hr e he hg=>?_,?_⟩
 ·rcases List.mem_append.mp hp with z | z
  ·exact ((List.nodup_append.mp nd).2.2 p.1 (bx z) p.1 hr rfl).elim
  ·exact ht p z
 ·rcases List.mem_append.mp hp with z | z
  ·by_cases hm:p.1∈ring
   ·obtain ⟨q,hq,eq⟩:=List.mem_map.mp (a2 p.1 hm e he hg)
    exact ⟨q,hq,eq,by rw [D.rin p z hm];exact top q hq⟩
   ·obtain ⟨q,hq,eq,hl⟩:=D.cls p z hm e he hg
    exact ⟨q,bj _ hq,eq,hl⟩
  ·exact (hr (bx z)).elim
 ·refine List.pairwise_append.mpr ⟨D.up,?_,fun p hp q hq=>by rw [ht q hq];exact xK (D.top p hp)⟩
  exact xm fun p hp q hq=>by rw [ht p hp,ht q hq];exact ar _
theorem Fz  (g:el fs es) (hs:tM fs st):∃ l,(Ps fs st es l/\Xf es l)/\j_ [dU fs es,aD st]=.ok (.dict ((.none,.none)::cY (gS l))):=by
 have h0:n8 fs st es [(st,[])]:=⟨by simp,List.mem_singleton.mpr rfl,fun p hp=>by rw [List.mem_singleton.mp hp];exact hs,fun p hp=>by rw [List.mem_singleton.mp hp];exact ⟨fun _ h=>(nomatch h),rfl,by simp⟩⟩
 obtain ⟨l,y3,y4,y5,y6,y7,⟨e1,d,n1⟩,e2⟩:=Fx g (aD st) (fun l ring=>∃ d,Vb es l ring d) (fun l ring _ hx h' hp=>LD hx h' hp) 65 100000 (.own (.list ([st].map aD))) .no .no .no .no [(st,[])] [st] h0 (fun x hx=>hx) (fun x hx hn=>(hn hx).elim) (.inl rfl) ⟨0,fun p hp=>by rw [List.mem_singleton.mp hp];exact ar _,fun p hp _=>by rw [List.mem_singleton.mp hp];rfl,fun p hp hn=>by rw [List.mem_singleton.mp hp] at hn;exact (hn am).elim,by simp⟩ (by simp) (by decide)
 refine ⟨l,⟨e1,fun p hp e he hg=>n1.cls p hp (fun z=>nomatch z) e he hg,n1.up⟩,?_⟩
 unfold j_
 refine cr ?_
 rw [Po]
 unfold bP
 walk_at "zz"
 rw [Xd (x:=st) (d:=.list []) rfl rfl]
 walk_at "zz"
 have e2':j8 (AL (rB 3)) Xe 100000 [.shr (dU fs es),.shr (aD st),.own (.dict (cY [(st,.list [])])),.own (.list [aD st]),.no,.no,.no,.no]=_:=e2
 rw [e2']
 walk_at "zz"
 rw [Xc e1.ok.ne rfl]
 walk_at "zz"
def Xz:aB->R Fl:=(aY (gY 6 (eR 2 mJ (J.ag (rS 5) (J.ag (g2 (rB 3) (rB 4) bp) J.aL)))) (eY (CS (fR (g2 (rB 6) kN (Bw true))) (fR (g2 (rB 6) (rB 2) (Rq true)))) (aY (tH 2 (rS 6) (g2 (g2 (rB 2) (g2 (rB 3) (rB 4) bp) Af) (kI 1) dZ)) (r9 3 (rS 6))) (fun ρ=>.ok (.nx ρ))))
def Xg:aB->R Fl:=aY (qx (lO (g2 (rB 0) (kI 1) bp)) (c8 5) Xz) (gY 4 (g2 (rB 4) (kI 1) dZ))
theorem Pu:lZ=aY (gZ 2 (T9 (rS 1) (kI 0))) (aY (gZ 3 (ft (J.ag (rS 1) J.aL) .list)) (aY (gY 4 (kI 0)) (aY (j8 (fR (g2 (rB 4) (cb (J.ag (rB 3) J.aL) (iy jg)) AH)) Xg 100000) (UK 2 (db (rS 2)))))):=rfl
abbrev NZ:=List (List Str×Int)
def m6 (l:NZ):List (List Str×D):=l.map fun p=>(p.1,.int p.2)
theorem kE (l:NZ):lu (m6 l)=l.map (·.1):=by
 unfold lu m6
 rw [cj]
 rfl
structure Mi (fs st:List Str) (es:List gU) (l:NZ):Prop where
 nd:(l.map (·.1)).Nodup
 beg:st∈l.map (·.1)
 sub:∀ x∈l.map (·.1),tM fs x
 rch:∀ x∈l.map (·.1),V7 es st x
theorem Mi.ne   (h:Mi fs st es l):m6 l≠[]:=by
 intro z
 have:=List.map_eq_nil_iff.mp z
 have h1:=h.beg
 rw [this] at h1
 cases h1
theorem Mi.few   (g:el fs es) (h:Mi fs st es l):l.length<=64:=by
 have:=Fu g.rise (l:=m6 l) (by rw [kE];exact h.nd) fun x hx=>by
  rw [kE] at hx
  exact h.sub x hx
 unfold m6 at this
 rw [ao] at this
 exact this
def mM (x:List Str) (n:Int) (l:NZ) (e:gU):NZ :=
 if bE x e.needs e.bars=true/\ba e x∉l.map (·.1) then l++[(ba e x,n + 1)] else l
theorem RY     (g:el fs es) (h:Mi fs st es l) (hx:x∈l.map (·.1)) (he:e∈es):Mi fs st es (mM x n l e)/\(∀ p∈l,p∈mM x n l e)/\(∃ t,mM x n l e=l++t)/\(bE x e.needs e.bars=true->ba e x∈(mM x n l e).map (·.1)):=by
 unfold mM
 by_cases hc:bE x e.needs e.bars=true/\ba e x∉l.map (·.1)
 ·rw [if_pos hc]
  obtain ⟨rs,r1,r2⟩:=h.rch x hx
  refine ⟨⟨?_,?_,fun y hy=>?_,fun y hy=>?_⟩,fun p hp=>bj _ hp,⟨_,rfl⟩,fun _=>?_⟩
  ·rw [b9];exact yg h.nd hc.2
  ·rw [b9];exact bj _ h.beg
  ·rw [b9] at hy
   rcases List.mem_append.mp hy with z | z
   ·exact h.sub y z
   ·rw [List.mem_singleton.mp z];exact uh g.rise.up (g.ok e he) (h.sub x hx)
  ·rw [b9] at hy
   rcases List.mem_append.mp hy with z | z
   ·exact h.rch y z
   ·rw [List.mem_singleton.mp z]
    refine ⟨rs++[e],fun a ha=>?_,vF e _ _ _ r2 hc.1⟩
    rcases List.mem_append.mp ha with w | w
    ·exact r1 a w
    ·rw [List.mem_singleton.mp w];exact he
  ·rw [b9];exact aH _ am
 ·rw [if_neg hc]
  exact ⟨h,fun _ h=>h,⟨[],(cO _).symm⟩,fun hg=>Classical.byContradiction fun z=>hc ⟨hg,z⟩⟩
theorem Vc {l:NZ}{j:Nat}{x:List Str} (h:(l.map (·.1))[j]?=some x):bp (.list ((l.map (·.1)).map aD)) (.int (j:Nat))=.ok (aD x):=rO (by rw [aT,h];rfl)
theorem Xh {fs st x:List Str}{es:List gU}{n:Int} (g:el fs es) (B S:D) (j:Nat) (z6:Sl) {l:NZ}{e:gU} (h:Mi fs st es l) (hj:(l.map (·.1))[j]?=some x) (hn:(x,n)∈l) (he:e∈es) :
  ∃ y6,Xz [.shr B,.shr S,.own (.dict (cY (m6 l))),.own (.list ((l.map (·.1)).map aD)),.shr (.int (j:Nat)),.shr (du e),z6]=.ok (.nx [.shr B,.shr S,.own (.dict (cY (m6 (mM x n l e)))),.own (.list (((mM x n l e).map (·.1)).map aD)),.shr (.int (j:Nat)),.shr (du e),y6]):=by
 have few:=h.few g
 have hx:x∈l.map (·.1):=dh hj
 have ls:=eh (h.sub x hx) g.rise.len
 have ixk:=Vc hj
 have ixn:Af (.dict (cY (m6 l))) (aD x)=.ok (.int n):=K1 (l:=m6 l) (by rw [kE];exact h.nd) (bx (f:=fun p:List Str×Int=>(p.1,cD p.2)) hn)
 refine ⟨.shr (RP (JZ e x)),?_⟩
 unfold Xz
 walk_at "zz"
 rw [ixk]
 walk_at "zz"
 rw [RQ (vE g he) (by omega)]
 walk_at "zz"
 rw [Lv]
 unfold mM
 by_cases hg:bE x e.needs e.bars=true
 ·rw [if_pos hg,Lw]
  rw [X5]
  walk_at "zz"
  rw [K2 h.ne,kE]
  by_cases hm:ba e x∈l.map (·.1)
  ·rw [decide_eq_true hm,if_neg (fun z=>z.2 hm)]
   walk_at "zz"
  ·rw [decide_eq_false hm,if_pos ⟨hg,hm⟩]
   walk_at "zz"
   rw [Pl (l:=m6 l) (x:=ba e x) (d:=.int (n + 1)) rfl ?_ rfl h.ne (by unfold m6;rw [ao];omega) (by rw [kE];exact hm)]
   ·walk_at "zz"
    rw [Fj (ds:=(l.map (·.1)).map aD) (d:=aD (ba e x)) rfl rfl (by rw [ao,ao];omega)]
    unfold m6
    simp only [b9]
    rfl
   ·walk_at "zz"
    rw [ixk]
    walk_at "zz"
    rw [ixn]
    walk_at "zz"
 ·rw [if_neg hg,Lx,if_neg (fun z=>hg z.1)]
  rw [JX]
  walk_at "zz"
theorem Vd   (g:el fs es) (B S:D) (j:Nat) (z5 z6:Sl) (h:Mi fs st es l) (hj:(l.map (·.1))[j]?=some x) (hn:(x,n)∈l) (xs:List gU) (hx:∀ e∈xs,e∈es) :
  Mi fs st es (xs.foldl (mM x n) l)/\(∃ t,xs.foldl (mM x n) l=l++t)/\(∀ e∈xs,bE x e.needs e.bars=true->ba e x∈(xs.foldl (mM x n) l).map (·.1))/\∃ y5 y6,js (c8 5) Xz (xs.map du) [.shr B,.shr S,.own (.dict (cY (m6 l))),.own (.list ((l.map (·.1)).map aD)),.shr (.int (j:Nat)),z5,z6]=.ok (.nx [.shr B,.shr S,.own (.dict (cY (m6 (xs.foldl (mM x n) l)))),.own (.list (((xs.foldl (mM x n) l).map (·.1)).map aD)),.shr (.int (j:Nat)),y5,y6]):=by
 induction xs generalizing l z5 z6 with
 | nil=>exact ⟨h,⟨[],(cO _).symm⟩,fun _ h=>(nomatch h),z5,z6,rfl⟩
 | cons e r ih =>
  have he:=hx e am
  have hxm:x∈l.map (·.1):=dh hj
  obtain ⟨a1,a2,⟨t,a3⟩,a4⟩:=RY (n:=n) g h hxm he
  obtain ⟨y6,q⟩:=Xh g B S j z6 h hj hn he
  have hj':((mM x n l e).map (·.1))[j]?=some x:=by
   rw [a3,b9,bf (List.getElem?_eq_some_iff.mp hj).1]
   exact hj
  obtain ⟨b1,⟨t2,b2⟩,b3,w5,w6,b4⟩:=ih (.shr (du e)) y6 a1 hj' (a2 _ hn) fun a ha=>hx a (ah _ ha)
  rw [cP]
  refine ⟨b1,⟨t++t2,by rw [b2,a3,eW]⟩,fun a ha hg=>?_,w5,w6,?_⟩
  ·rcases List.mem_cons.mp ha with z | z
   ·subst z
    have:=a4 hg
    rw [b2,b9]
    exact bj _ this
   ·exact b3 a z hg
  ·rw [av,yy (ρ1:=[.shr B,.shr S,.own (.dict (cY (m6 l))),.own (.list ((l.map (·.1)).map aD)),.shr (.int (j:Nat)),.shr (du e),z6]) rfl q]
   exact b4
structure Vm (st:List Str) (es:List gU) (l:NZ) (j:Nat):Prop where
 beg:(st,0)∈l
 rch:∀ p∈l,∃ rs:List gU,(∀ e∈rs,e∈es)/\n6 rs st=some p.1/\(rs.length:Int)=p.2
 up:l.Pairwise fun p q=>p.2<=q.2
 mx:∀ p,l[j]?=some p->∀ q∈l,q.2<=p.2 + 1
 cls:∀ i p,i<j->l[i]?=some p->∀ e∈es,bE p.1 e.needs e.bars=true->∃ q∈l,q.1=ba e p.1/\q.2<=p.2 + 1
theorem wN (x:List Str) (n:Int):∀ (xs:List gU) (l:NZ),∃ t:NZ,xs.foldl (mM x n) l=l++t/\∀ p∈t,p.2=n + 1/\∃ e∈xs,bE x e.needs e.bars=true/\p.1=ba e x
 | [],l=>⟨[],by simp,fun _ h=>(nomatch h)⟩
 | e::r,l=>by
  rw [cP]
  by_cases hc:bE x e.needs e.bars=true/\ba e x∉l.map (·.1)
  ·have:mM x n l e=l++[(ba e x,n + 1)]:=by unfold mM;rw [if_pos hc]
   rw [this]
   obtain ⟨t,h1,h2⟩:=wN x n r (l++[(ba e x,n + 1)])
   refine ⟨(ba e x,n + 1)::t,by rw [h1];simp,fun p hp=>?_⟩
   rcases List.mem_cons.mp hp with z | z
   ·subst z;exact ⟨rfl,e,am,hc.1,rfl⟩
   ·obtain ⟨k1,a,k2,k3⟩:=h2 p z
    exact ⟨k1,a,ah _ k2,k3⟩
  ·have:mM x n l e=l:=by unfold mM;rw [if_neg hc]
   rw [this]
   obtain ⟨t,h1,h2⟩:=wN x n r l
   refine ⟨t,h1,fun p hp=>?_⟩
   obtain ⟨k1,a,k2,k3⟩:=h2 p hp
   exact ⟨k1,a,ah _ k2,k3⟩
theorem Pw     (D:Vm st es l j) (hj:l[j]?=some p) (hx:x=p.1) (hb:∀ e∈es,bE x e.needs e.bars=true->ba e x∈(es.foldl (mM x p.2) l).map (·.1)):Vm st es (es.foldl (mM x p.2) l) (j + 1):=by
 subst hx
 obtain ⟨t,e,ht⟩:=wN p.1 p.2 es l
 rw [e] at hb ⊢
 have hpm:p∈l:=dh hj
 have top:∀ q∈l++t,q.2<=p.2 + 1:=fun q hq=>by
  rcases List.mem_append.mp hq with z | z
  ·exact D.mx p hj q z
  ·exact Int.le_of_eq (ht q z).1
 have up:(l++t).Pairwise fun p q=>p.2<=q.2:=by
  refine List.pairwise_append.mpr ⟨D.up,?_,fun q hq r hr=>by rw [(ht r hr).1];exact D.mx p hj q hq⟩
  exact xm fun q hq r hr=>by rw [(ht q hq).1,(ht r hr).1];exact Int.le_refl _
 have hjl:j<l.length:=(List.getElem?_eq_some_iff.mp hj).1
 have hj':(l++t)[j]?=some p:=by rw [bf hjl];exact hj
 refine ⟨bj _ D.beg,fun q hq=>?_,up,fun q hq r hr=>?_,fun i q hi hq a ha hg=>?_⟩
 ·rcases List.mem_append.mp hq with z | z
  ·exact D.rch q z
  ·obtain ⟨k1,a,k2,k3,k4⟩:=ht q z
   obtain ⟨rs,r1,r2,r3⟩:=D.rch p hpm
   refine ⟨rs++[a],fun b hb=>?_,by rw [k4];exact vF a _ _ _ r2 k3,by rw [k1,aM,dJ,<- r3];rfl⟩
   rcases List.mem_append.mp hb with w | w
   ·exact r1 b w
   ·rw [List.mem_singleton.mp w];exact k2
 ·have h1:=top r hr
  obtain ⟨q1,q2⟩:=List.getElem?_eq_some_iff.mp hq
  obtain ⟨p1,p2⟩:=List.getElem?_eq_some_iff.mp hj'
  have:=List.pairwise_iff_getElem.mp up j (j + 1) p1 q1 (dS j)
  rw [q2,p2] at this
  omega
 ·by_cases hij:i=j
  ·subst hij
   rw [hj'] at hq
   cases hq
   obtain ⟨q,hq,eq⟩:=List.mem_map.mp (hb a ha hg)
   exact ⟨q,hq,eq,top q hq⟩
  ·have hi':i<j:=by omega
   rw [bf (by omega)] at hq
   obtain ⟨r,r1,r2,r3⟩:=D.cls i q hi' hq a ha hg
   exact ⟨r,bj _ r1,r2,r3⟩
theorem FA  (g:el fs es) (S:D):∀ (k fuel j:Nat) (z5 z6:Sl) (l:NZ),Mi fs st es l->Vm st es l j->j<=l.length->(∀ i x,i<j->(l.map (·.1))[i]?=some x->∀ e∈es,bE x e.needs e.bars=true->ba e x∈l.map (·.1))->65 - j<=k->k<fuel ->
  ∃ (l':NZ) (y3 y4 y5 y6:Sl),(Mi fs st es l'/\Vm st es l' l'.length)/\(∀ x∈l'.map (·.1),∀ e∈es,bE x e.needs e.bars=true->ba e x∈l'.map (·.1))/\j8 (fR (g2 (rB 4) (cb (J.ag (rB 3) J.aL) (iy jg)) AH)) Xg fuel [.shr (dU fs es),.shr S,.own (.dict (cY (m6 l))),.own (.list ((l.map (·.1)).map aD)),.shr (.int (j:Nat)),z5,z6]=.ok (.nx [.shr (dU fs es),.shr S,.own (.dict (cY (m6 l'))),y3,y4,y5,y6])
 | _,0,_,_,_,_,_,_,_,_,_,hf=>absurd hf (mz _)
 | k,fuel + 1,j,z5,z6,l,h,hv,hj,hc,hk,hf=>by
  have few:=h.few g
  have ht:fR (g2 (rB 4) (cb (J.ag (rB 3) J.aL) (iy jg)) AH) [.shr (dU fs es),.shr S,.own (.dict (cY (m6 l))),.own (.list ((l.map (·.1)).map aD)),.shr (.int (j:Nat)),z5,z6]=.ok (decide (j<l.length)):=by
   walk_at "zz"
   simp only [Int.ofNat_lt]
  rw [j8,ht]
  by_cases hl:j<l.length
  ·rw [decide_eq_true hl]
   simp only
   have hlm:j<(l.map (·.1)).length:=by rw [ao];exact hl
   have hx:(l.map (·.1))[j]?=some (l.map (·.1))[j]:=aV hlm
   have hn:((l.map (·.1))[j],l[j].2)∈l:=by
    have:((l.map (·.1))[j],l[j].2)=l[j]:=by rw [lw]
    rw [this]
    exact ja hl
   obtain ⟨b1,⟨t,b2⟩,b3,y5,y6,b4⟩:=Vd g (dU fs es) S j z5 z6 h hx hn es fun _ h=>h
   have hb:Xg [.shr (dU fs es),.shr S,.own (.dict (cY (m6 l))),.own (.list ((l.map (·.1)).map aD)),.shr (.int (j:Nat)),z5,z6]=.ok (.nx [.shr (dU fs es),.shr S,.own (.dict (cY (m6 (es.foldl (mM (l.map (·.1))[j] l[j].2) l)))),.own (.list (((es.foldl (mM (l.map (·.1))[j] l[j].2) l).map (·.1)).map aD)),.shr (.int ((j + 1:Nat):Int)),y5,y6]):=by
    unfold Xg
    walk_at "zz"
    rw [tG (ds:=es.map du)]
    ·rw [b4]
     walk_at "zz"
     rfl
    ·walk_at "zz"
     rw [V3]
     walk_at "zz"
   rw [hb]
   obtain ⟨l',w3,w4,w5,w6,e1,e2,e3⟩:=FA g S (k - 1) fuel (j + 1) y5 y6 _ b1 (Pw hv (aV hl) (lw (f:=fun p:List Str×Int=>p.1) (h:=hlm)) b3) (by rw [b2,aM];omega) (fun i x hi hix e he hg=>by
    rw [b2,b9] at hix
    have hi':i<(l.map (·.1)).length:=by rw [ao];omega
    rw [bf hi'] at hix
    by_cases hij:i=j
    ·subst hij
     rw [hx] at hix
     cases hix
     exact b3 e he hg
    ·have:=hc i x (by omega) hix e he hg
     rw [b2,b9]
     exact bj _ this) (by omega) (by omega)
   exact ⟨l',w3,w4,w5,w6,e1,e2,e3⟩
  ·rw [decide_eq_false hl]
   simp only
   refine ⟨l,_,_,z5,z6,⟨h,(show j=l.length by omega) ▸ hv⟩,fun x hx=>?_,rfl⟩
   obtain ⟨i,hi,e⟩:=jk hx
   rw [ao] at hi
   exact hc i x (by omega) (by rw [aV (by rw [ao];exact hi),e])
theorem LF  (g:el fs es) (hs:tM fs st):∃ l:NZ,(l.map (·.1)).Nodup/\l.length<=64/\(∀ x,x∈l.map (·.1)↔V7 es st x)/\Vm st es l l.length/\l_ [dU fs es,aD st]=.ok (.dict ((.none,.none)::cY (m6 l))):=by
 have h0:Mi fs st es [(st,0)]:=⟨by simp,List.mem_singleton.mpr rfl,fun p hp=>by rw [List.mem_singleton.mp hp];exact hs,fun p hp=>by rw [List.mem_singleton.mp hp];exact ⟨[],fun _ h=>(nomatch h),rfl⟩⟩
 obtain ⟨l,y3,y4,y5,y6,⟨e1,p1⟩,e2,e3⟩:=FA g (aD st) 65 100000 0 .no .no [(st,0)] h0 ⟨List.mem_singleton.mpr rfl,fun p hp=>by rw [List.mem_singleton.mp hp];exact ⟨[],fun _ h=>(nomatch h),rfl,rfl⟩,by simp,fun p hp q hq=>by cases hp;rw [List.mem_singleton.mp hq];show (0:Int)<=0 + 1;decide,fun i p hi=>absurd hi (mz _)⟩ (cC _) (fun i x hi=>absurd hi (mz _)) (by simp) (by decide)
 refine ⟨l,e1.nd,e1.few g,fun x=>⟨e1.rch x,?_⟩,p1,?_⟩
 ·rintro ⟨rs,r1,r2⟩
  exact uj (M:=fun x=>x∈l.map (·.1)) e2 rs st x e1.beg r1 r2
 ·unfold l_
  refine cr ?_
  rw [Pu]
  unfold bP
  walk_at "zz"
  rw [Xd (x:=st) (d:=.int 0) rfl rfl]
  walk_at "zz"
  have e3':j8 (fR (g2 (rB 4) (cb (J.ag (rB 3) J.aL) (iy jg)) AH)) Xg 100000 [.shr (dU fs es),.shr (aD st),.own (.dict (cY [(st,.int 0)])),.own (.list [aD st]),.shr (.int 0),.no,.no]=_:=e3
  unfold AH at e3'
  rw [e3']
  walk_at "zz"
  rw [Xc e1.ne rfl]
  walk_at "zz"
def Z8 (es:List gU) (st m b:List Str):Prop:=∃ x,V7 es st x/\bE x m b=true
noncomputable def AN (es:List gU) (st m b:List Str):Bool:=@decide (Z8 es st m b) (nU _)
theorem zL  : AN es st m b=true↔Z8 es st m b:=by
 unfold AN
 exact @decide_eq_true_iff _ (nU _)
theorem Ps.keys   (h:Ps fs st es l) (x:List Str):x∈l.map (·.1)↔V7 es st x:=by
 constructor
 ·intro hx
  obtain ⟨p,hp,rfl⟩:=List.mem_map.mp hx
  obtain ⟨r1,r2,_⟩:=h.ok.row p hp
  exact ⟨p.2,r1,r2⟩
 ·rintro ⟨rs,r1,r2⟩
  exact uj (M:=fun x=>x∈l.map (·.1)) h.all rs st x (bx (f:=(·.1)) h.ok.beg) r1 r2
theorem Dr {fs st m b:List Str}{es:List gU}{ks:List (List Str)} (h:∀ x,x∈ks↔V7 es st x):(ks.any fun x=>bE x m b)=AN es st m b:=by
 rw [jI,zL,lv]
 constructor
 ·rintro ⟨x,h1,h2⟩;exact ⟨x,(h x).mp h1,h2⟩
 ·rintro ⟨x,h1,h2⟩;exact ⟨x,(h x).mpr h1,h2⟩
def xW (es:List gU) (st m b:List Str) (k:Int):Prop:=(∃ rs x,(∀ e∈rs,e∈es)/\n6 rs st=some x/\bE x m b=true/\(rs.length:Int)=k)/\∀ rs x,(∀ e∈rs,e∈es)->n6 rs st=some x->bE x m b=true->k<=(rs.length:Int)
theorem xW.uniq   (h:xW es st m b k) (h':xW es st m b j):k=j:=by
 obtain ⟨⟨rs,x,r1,r2,r3,r4⟩,h2⟩:=h
 obtain ⟨⟨rs',x',r1',r2',r3',r4'⟩,h2'⟩:=h'
 have:=h2 rs' x' r1' r2' r3'
 have:=h2' rs x r1 r2 r3
 omega
noncomputable def K4 (es:List gU) (st m b:List Str):Option Int:=@dite _ (∃ k,xW es st m b k) (nU _) (fun h=>some (Classical.choose h)) fun _=>none
theorem FC   (h:xW es st m b k):K4 es st m b=some k:=by
 unfold K4
 rw [dif_pos ⟨k,h⟩]
 exact congrArg some (xW.uniq (Classical.choose_spec (⟨k,h⟩:∃ k,xW es st m b k)) h)
theorem FD  (h:AN es st m b=false):K4 es st m b=none:=by
 unfold K4
 rw [dif_neg]
 rintro ⟨k,⟨rs,x,r1,r2,r3,_⟩,_⟩
 have:AN es st m b=true:=zL.mpr ⟨x,⟨rs,r1,r2⟩,r3⟩
 rw [h] at this
 cases this
theorem zM {β:Type} (len:β->Int) {l:List (List Str×β)}{es:List gU} (hc:∀ p∈l,∀ e∈es,bE p.1 e.needs e.bars=true->∃ q∈l,q.1=ba e p.1/\len q.2<=len p.2 + 1):∀ (rs:List gU) (p:List Str×β) (x:List Str),p∈l->(∀ e∈rs,e∈es)->n6 rs p.1=some x->∃ q∈l,q.1=x/\len q.2<=len p.2 + rs.length
 | [],p,x,hp,_,h=>by
  cases h
  exact ⟨p,hp,rfl,by simp⟩
 | a::r,p,x,hp,he,h=>by
  have h':(if bE p.1 a.needs a.bars then n6 r (ba a p.1) else none)=some x:=h
  split at h'
  ·rename_i hg
   obtain ⟨q,q1,q2,q3⟩:=hc p hp a (he a am) hg
   rw [<- q2] at h'
   obtain ⟨s,s1,s2,s3⟩:=zM len hc r q x q1 (fun e h=>he e (ah _ h)) h'
   refine ⟨s,s1,s2,?_⟩
   rw [aW]
   omega
  ·cases h'
theorem FE    : ∀ {l:LZ},(l.Pairwise fun p q=>p.2.length<=q.2.length)->(l.map (·.1)).filter g=x0::r0->q∈l->g q.1=true->(pS l x0).length<=q.2.length
 | [],_,_,hq,_=>nomatch hq
 | p::t,up,hF,hq,hg=>by
  obtain ⟨u1,u2⟩:=List.pairwise_cons.mp up
  rw [av] at hF
  unfold pS
  rw [bS]
  by_cases hp:g p.1=true
  ·rw [DW hp] at hF
   rw [decide_eq_true (rK hF).1]
   rcases List.mem_cons.mp hq with z | z
   ·subst z;exact ar _
   ·exact u1 q z
  ·rw [List.filter_cons_of_neg hp] at hF
   have hx:g x0=true:=by
    have:x0∈(t.map (·.1)).filter g:=by rw [hF];exact am
    exact (List.mem_filter.mp this).2
   rw [decide_eq_false fun z=>hp (by rw [z];exact hx)]
   rcases List.mem_cons.mp hq with z | z
   ·subst z;exact (hp hg).elim
   ·exact FE u2 hF z hg
theorem HF   (g:el fs es) (hw:xu fs m b) (hb:Ps fs st es l) (hn:Xf es l) :
  (AN es st m b=false/\ml [.dict ((.none,.none)::cY (gS l)),kA m b]=.ok (.list []))\/∃ p∈l,∃ r:List (List Str),bE p.1 m b=true/\xW es st m b (p.2.length:Nat)/\ml [.dict ((.none,.none)::cY (gS l)),kA m b]=.ok (.list ((p.1::r).map aD)):=by
 have l1:=eh hw.must g.rise.len
 have l2:=eh hw.bars g.rise.len
 have few:=hb.ok.few g
 have lf:=l5 (fun x=>bE x m b) (l.map (·.1))
 rw [ao] at lf
 have key:∀ {ds:List D},(∀ z,g_ (iw 1 [z,.shr (.dict ((.none,.none)::cY (gS l))),.shr (.list (((l.map (·.1)).filter fun x=>bE x m b).map aD))] (fR (g2 (cb (J.ag (g2 (rB 1) (rB 0) Af) J.aL) (iy jg)) (cb (J.ag (g2 (rB 1) (g2 (rB 2) (kI 0) bp) Af) J.aL) (iy jg)) (nZ false))) (rS 0)) (((l.map (·.1)).filter fun x=>bE x m b).map aD)=.ok ds)->ml [.dict ((.none,.none)::cY (gS l)),kA m b]=.ok (.list ds):=by
  intro ds hd
  unfold ml
  refine cr ?_
  unfold sw bP
  walk_at "zz"
  rw [To]
  walk_at "zz"
  rw [Fp,iY]
  walk_at "zz"
  rw [if_pos (by omega)]
  rw [gx _ (fun x:List Str=>aD x) (fun x=>aD x) (fun x=>bE x m b) (l.map (·.1)) fun x hx=>pC (by
   walk_at "zz"
   rw [uf (by omega) (by omega)]
   walk_at "zz") fun _=>rfl]
  walk_at "zz"
  rw [if_pos (by omega)]
  rw [show (nq (fun x=>aD x) ((l.map (·.1)).filter fun x=>bE x m b))=((l.map (·.1)).filter fun x=>bE x m b).map aD from rfl,hd]
  walk_at "zz"
 cases hF:(l.map (·.1)).filter (fun x=>bE x m b) with
 | nil =>
  left
  refine ⟨?_,key fun z=>?_⟩
  ·rw [<- Dr (fs:=fs) hb.keys]
   refine Bool.eq_false_iff.mpr fun hz=>?_
   obtain ⟨x,h1,h2⟩:=List.any_eq_true.mp hz
   have:x∈(l.map (·.1)).filter (fun x=>bE x m b):=List.mem_filter.mpr ⟨h1,h2⟩
   rw [hF] at this
   cases this
  ·rw [hF]
   rfl
 | cons x0 r0 =>
  right
  have hx0:x0∈(l.map (·.1)).filter (fun x=>bE x m b):=by rw [hF];exact am
  obtain ⟨k1,k2⟩:=List.mem_filter.mp hx0
  have km:=vG k1
  obtain ⟨r1,r2,r3⟩:=hb.ok.row _ km
  have ixr:∀ x∈l.map (·.1),Af (.dict ((.none,.none)::cY (gS l))) (aD x)=.ok (ui (pS l x)):=fun x hx=>by
   have:=HE (l:=gS l) (by rw [iY];exact hb.ok.nd) (zJ (vG hx))
   exact this
  have ix0:bp (.list ((x0::r0).map aD)) (.int 0)=.ok (aD x0):=rO (j:=0) rfl
  refine ⟨(x0,pS l x0),km,r0.filter fun x=>decide (((pS l x).length:Int)=(pS l x0).length),k2,⟨⟨pS l x0,x0,r1,r2,k2,rfl⟩,fun rs x h1 h2 h3=>?_⟩,key fun z=>?_⟩
  ·obtain ⟨q,q1,q2,q3⟩:=zM (fun r:List gU=>(r.length:Int)) (fun p hp e he hg=>by
    obtain ⟨q,a,b,c⟩:=hn.cls p hp e he hg
    exact ⟨q,a,b,by omega⟩) rs (st,[]) x hb.ok.beg h1 h2
   have:=FE (q:=q) hn.up hF q1 (by rw [q2];exact h3)
   simp only [bT] at q3
   show ((pS l x0).length:Int)<=_
   omega
  ·rw [hF]
   have hx':∀ x∈x0::r0,x∈l.map (·.1):=fun x hx=>(List.mem_filter.mp (by rw [hF];exact hx)).1
   rw [gx _ (fun x:List Str=>aD x) (fun x=>aD x) (fun x=>decide (((pS l x).length:Int)=(pS l x0).length)) (x0::r0) fun x hx=>pC (by
    walk_at "zz"
    rw [ixr x (hx' x hx)]
    walk_at "zz"
    rw [show (aD x0::nq (fun x=>aD x) r0)=(x0::r0).map aD from rfl,ix0]
    walk_at "zz"
    rw [ixr x0 k1]
    walk_at "zz"
    rw [kz]
    walk_at "zz") fun _=>rfl]
   rw [DW (by simp)]
theorem RZ {fs st m b:List Str}{es:List gU}{l:NZ} (P:Vm st es l l.length) (hk:∀ x,x∈l.map (·.1)↔V7 es st x):(((l.filter fun p=>bE p.1 m b).map (·.2))=[]/\AN es st m b=false)\/(((l.filter fun p=>bE p.1 m b).map (·.2))≠[]/\xW es st m b (Hl ((l.filter fun p=>bE p.1 m b).map (·.2)))):=by
 cases hF:(l.filter fun p=>bE p.1 m b).map (·.2) with
 | nil =>
  left
  refine ⟨rfl,?_⟩
  rw [<- Dr (fs:=fs) hk]
  refine Bool.eq_false_iff.mpr fun hz=>?_
  obtain ⟨x,h1,h2⟩:=List.any_eq_true.mp hz
  obtain ⟨p,hp,rfl⟩:=List.mem_map.mp h1
  have:p∈l.filter fun p=>bE p.1 m b:=List.mem_filter.mpr ⟨hp,h2⟩
  rw [List.map_eq_nil_iff.mp hF] at this
  cases this
 | cons n0 r0 =>
  right
  refine ⟨fun z=>(nomatch z),?_⟩
  obtain ⟨f1,f2⟩:=zt r0 n0
  have f1:Hl (n0::r0)∈n0::r0:=f1
  have f2:∀ a∈n0::r0,Hl (n0::r0)<=a:=f2
  rw [<- hF] at f1 f2 ⊢
  generalize Hl ((l.filter fun p=>bE p.1 m b).map (·.2))=k at f1 f2
  obtain ⟨p,hp,e⟩:=List.mem_map.mp f1
  obtain ⟨p1,p2⟩:=List.mem_filter.mp hp
  obtain ⟨rs,r1,r2,r3⟩:=P.rch p p1
  refine ⟨⟨rs,p.1,r1,r2,p2,r3.trans e⟩,fun rs x h1 h2 h3=>?_⟩
  obtain ⟨q,q1,q2,q3⟩:=zM (fun n:Int=>n) (fun p hp e he hg=>by
   obtain ⟨i,hi,hx⟩:=jk hp
   exact P.cls i p hi (by rw [aV hi,hx]) e he hg) rs (st,0) x P.beg h1 h2
  have:=f2 q.2 (bx (f:=(·.2)) (List.mem_filter.mpr ⟨q1,by rw [q2];exact h3⟩))
  omega
theorem R_ (neg:Bool) (ds:List D) (h:cF ds=true):nZ neg (.list ds) (.list [])=.ok (.bool (neg != decide (ds=[]))):=by
 unfold nZ
 have h1:(gC ds).canLay0=true:=by simp only [iN];exact h
 have h3:min (gC ds).depth (gC []).depth<=60:=cy (qu _ _) (by decide)
 have h4:bn (.list ds) (.list [])=decide (ds=[]):=by
  cases ds with
  | nil=>rfl
  | cons x r=>simp [bn,im]
 rw [h1,show (gC []).canLay0=true from rfl,decide_eq_true h3,h4]
 cases neg<;>cases decide (ds=[])<;>rfl
theorem K5 (ds:List D) (h:cF ds=true):nZ false (.list ds) (.list [])=.ok (.bool (decide (ds=[]))):=by rw [R_ false ds h,Bool.false_bne]
theorem FF  (g:el fs es) (hs:tM fs st) (hw:xu fs m b):(AN es st m b=false/\mn [dU fs es,aD st,kA m b]=.ok .none)\/∃ k:Int,xW es st m b k/\mn [dU fs es,aD st,kA m b]=.ok (.int k):=by
 have l1:=eh hw.must g.rise.len
 have l2:=eh hw.bars g.rise.len
 obtain ⟨l,nd,few,hk,P,e⟩:=LF g hs
 let ls:=(l.filter fun p=>bE p.1 m b).map (·.2)
 have hl:ls.length<=l.length:=by
  show ((l.filter fun p=>bE p.1 m b).map (·.2)).length<=_
  rw [ao]
  exact l5 _ _
 have hm:g_ (iw 1 [.no,.shr (kA m b),.shr (.dict ((.none,.none)::cY (m6 l)))] (fR (eR 2 gL (J.ag (rS 0) (J.ag (rS 1) J.aL)))) (g2 (rB 2) (rB 0) Af)) ((l.map (·.1)).map aD)=.ok (ls.map .int):=by
  rw [cj]
  have:=gx (iw 1 [.no,.shr (kA m b),.shr (.dict ((.none,.none)::cY (m6 l)))] (fR (eR 2 gL (J.ag (rS 0) (J.ag (rS 1) J.aL)))) (g2 (rB 2) (rB 0) Af)) (fun p:List Str×Int=>aD p.1) (fun p=>cD p.2) (fun p=>bE p.1 m b) l fun p hp=>pC (by
   walk_at "zz"
   rw [Do (by omega) (by omega)]
   walk_at "zz") fun _=>(by
   walk_at "zz"
   exact HE (l:=m6 l) (by rw [kE];exact nd) (bx (f:=fun p:List Str×Int=>(p.1,cD p.2)) hp))
  refine Eq.trans this ?_
  show _=R.ok (((l.filter fun p=>bE p.1 m b).map (·.2)).map cD)
  rw [cj]
  rfl
 have lay:cF (ls.map .int)=true:=zH _ ls fun _ _=>rfl
 have key:∀ {d:D},(bif decide (ls=[]) then R.ok (Fl.rt .none) else (Hm (.list (ls.map .int))).bind Yp)=.ok (.rt d)->mn [dU fs es,aD st,kA m b]=.ok d:=fun {d} h=>by
  unfold mn
  refine cr ?_
  unfold sA bP
  walk_at "zz"
  rw [e]
  walk_at "zz"
  rw [To]
  walk_at "zz"
  rw [Fp,kE]
  walk_at "zz"
  rw [if_pos (by omega),hm]
  walk_at "zz"
  rw [K5 _ lay]
  have e0:decide (ls.map cD=[])=decide (ls=[]):=by
   rw [jI]
   simp
  rw [e0]
  cases hz:decide (ls=[]) with
  | true =>
   rw [hz] at h
   walk_at "zz"
   exact h
  | false =>
   rw [hz] at h
   walk_at "zz"
   exact h
 rcases RZ (fs:=fs) (m:=m) (b:=b) P hk with ⟨h1,h2⟩ | ⟨h1,h2⟩
 ·exact .inl ⟨h2,key (by rw [decide_eq_true (show ls=[] from h1)];rfl)⟩
 ·refine .inr ⟨_,h2,key ?_⟩
  have h1:ls≠[]:=h1
  rw [decide_eq_false h1]
  have hp:0<ls.length:=List.length_pos_iff.mpr h1
  have hmin:Hm (.list (ls.map .int))=.ok (.int (Hl ls)):=by
   unfold Hm
   simp only [zr,if_pos hp]
  rw [hmin]
  rfl
theorem HG  (g:el fs es) (hs:tM fs st) (hw:xu fs m b):(AN es st m b=false/\i6 [dU fs es,aD st,kA m b]=.ok .none)\/∃ rs x,Xb es rs/\n6 rs st=some x/\bE x m b=true/\xW es st m b (rs.length:Nat)/\i6 [dU fs es,aD st,kA m b]=.ok (ui rs):=by
 obtain ⟨l,⟨hb,hn⟩,e⟩:=Fz g hs
 have few:=hb.ok.few g
 rcases HF g hw hb hn with ⟨h1,h2⟩ | ⟨p,hp,r,h1,h2,h3⟩
 ·refine .inl ⟨h1,?_⟩
  unfold i6
  refine cr ?_
  unfold mF bP
  walk_at "zz"
  rw [Hy g hs hw]
  walk_at "zz"
  rw [e]
  walk_at "zz"
  rw [h2]
  walk_at "zz"
  rw [Pm (ds:=[]) rfl]
  walk_at "zz"
  rfl
 ·obtain ⟨r1,r2,r3⟩:=hb.ok.row p hp
  have ixp:Af (.dict ((.none,.none)::cY (gS l))) (aD p.1)=.ok (ui p.2):=HE (l:=gS l) (by rw [iY];exact hb.ok.nd) (zJ hp)
  have ix1:bp (.list ((p.1::r).map aD)) (.int 0)=.ok (aD p.1):=rO (j:=0) rfl
  refine .inr ⟨p.2,p.1,⟨r1,by omega⟩,r2,h1,h2,?_⟩
  unfold i6
  refine cr ?_
  unfold mF bP
  walk_at "zz"
  rw [Hy g hs hw]
  walk_at "zz"
  rw [e]
  walk_at "zz"
  rw [h3]
  walk_at "zz"
  rw [Pm (ds:=(p.1::r).map aD) rfl]
  walk_at "zz"
  rw [MB]
  walk_at "zz"
  rw [show (aD p.1::nq aD r)=(p.1::r).map aD from rfl,ix1]
  walk_at "zz"
  rw [ixp]
  walk_at "zz"
theorem Ve {A B C:D} (h:i6 [A,B,C]=.ok .none):BQ [A,B,C]=.ok .none:=by
 unfold BQ
 refine cr ?_
 unfold Fb bP
 walk_at "zz"
 rw [h]
 walk_at "zz"
 rw [JX]
 walk_at "zz"
theorem Vf {A B C:D}{ds:List D} (h:i6 [A,B,C]=.ok (.list ds)):BQ [A,B,C]=.ok (.int (ds.length:Nat)):=by
 unfold BQ
 refine cr ?_
 unfold Fb bP
 walk_at "zz"
 rw [h]
 walk_at "zz"
 rw [show Bw false (gC ds) lA=.ok (.bool false) from rfl]
 walk_at "zz"
theorem HH  (g:el fs es) (hs:tM fs st):∃ ks:List (List Str),(∀ x,x∈ks↔V7 es st x)/\ks.length<=64/\sy [dU fs es,aD st]=.ok (.list (ks.map aD)):=by
 obtain ⟨l,⟨hb,_⟩,e⟩:=Fz g hs
 have few:=hb.ok.few g
 have nd:=hb.ok.nd
 have pm:=pE (l.map (·.1))
 refine ⟨oP (l.map (·.1)),fun x=>pm.mem_iff.trans (hb.keys x),by rw [pm.length_eq,ao];exact few,?_⟩
 have hk:((cY (gS l)).map (·.1))=(l.map (·.1)).map J.wH:=by
  have:=iY l
  unfold cY
  rw [cj]
  rw [<- this]
  unfold lu
  rw [cj]
  rfl
 have hs1:J.rZ (.dict ((.none,.none)::cY (gS l)))=.ok (.list ((oP (l.map (·.1))).map aD)):=by
  unfold J.rZ
  dsimp only
  rw [hk,J.zy]
  dsimp only
  unfold J.oQ
  rw [if_pos ⟨nd,by rw [ao];exact few⟩]
  rfl
 unfold sy
 refine cr ?_
 unfold sx bP
 walk_at "zz"
 rw [Fm g hs]
 walk_at "zz"
 rw [e]
 walk_at "zz"
 rw [hs1]
 walk_at "zz"
theorem law_true (ns:List Int):F_law [.list (ns.map .int)]=.ok (.bool true):=by
 obtain ⟨fs,es,ss,wm,wb,hc,gb,gs,gw,_⟩:=RO ns 6 6 (by decide) (by decide) (by decide) (by decide)
 have l1:=eh gw.must gb.rise.len
 have l2:=eh gw.bars gb.rise.len
 obtain ⟨ks,k1,k2,k3⟩:=HH gb gs
 have ka:=Dr (fs:=fs) (m:=wm) (b:=wb) k1
 have gd:∀ x:List Str,gL [aD x,kA wm wb]=.ok (.bool (bE x wm wb)):=fun x=>Do (by omega) (by omega)
 unfold F_law
 refine cr ?_
 unfold JF bP
 walk_at "zz"
 rw [hc]
 walk_at "zz"
 rw [YA]
 walk_at "zz"
 rcases HG gb gs gw with ⟨a1,a2⟩ | ⟨rs,x,a1,a2,a3,a4,a5⟩
 ·rcases FF gb gs gw with ⟨b1,b2⟩ | ⟨j,b1,b2⟩
  ·rw [b2]
   walk_at "zz"
   rw [a2]
   walk_at "zz"
   rw [Ve a2]
   walk_at "zz"
   rw [show nZ true lA lA=.ok (.bool false) from rfl]
   walk_at "zz"
   rw [show Bw false lA lA=.ok (.bool true) from rfl]
   walk_at "zz"
   rw [k3]
   walk_at "zz"
   rw [if_pos (by omega)]
   rw [dQ _ (fun x:List Str=>aD x) (fun x=>c9 (bE x wm wb)) ks fun x hx=>fL rfl (by
    walk_at "zz"
    rw [gd])]
   walk_at "zz"
   rw [iX _ (fun x=>bE x wm wb)]
   walk_at "zz"
   rw [mW,show (id∘fun x=>bE x wm wb)=fun x=>bE x wm wb from rfl,ka,a1]
   walk_at "zz"
   rw [show nZ true (c9 true) (c9 true)=.ok (.bool false) from rfl]
   walk_at "zz"
   rw [JX]
   walk_at "zz"
   rw [JX]
   walk_at "zz"
  ·exact (nomatch (FD a1).symm.trans (FC b1))
 ·rcases FF gb gs gw with ⟨b1,b2⟩ | ⟨j,b1,b2⟩
  ·exact (nomatch (FD b1).symm.trans (FC a4))
  ·have e:=xW.uniq b1 a4
   subst e
   have sv:AN es ss wm wb=true:=zL.2 ⟨x,⟨rs,a1.mem,a2⟩,a3⟩
   have se:yw ss wm wb rs=true:=by unfold yw;rw [a2];exact a3
   rw [b2]
   walk_at "zz"
   rw [a5]
   walk_at "zz"
   rw [Vf a5]
   walk_at "zz"
   rw [kz]
   walk_at "zz"
   rw [show Bw false (cD (rs.length:Nat)) lA=.ok (.bool false) from rfl]
   walk_at "zz"
   rw [k3]
   walk_at "zz"
   rw [if_pos (by omega)]
   rw [dQ _ (fun x:List Str=>aD x) (fun x=>c9 (bE x wm wb)) ks fun x hx=>fL rfl (by
    walk_at "zz"
    rw [gd])]
   walk_at "zz"
   rw [iX _ (fun x=>bE x wm wb)]
   walk_at "zz"
   rw [mW,show (id∘fun x=>bE x wm wb)=fun x=>bE x wm wb from rfl,ka,sv]
   walk_at "zz"
   rw [show nZ true (c9 false) (c9 false)=.ok (.bool false) from rfl]
   walk_at "zz"
   rw [show Bw false (cD (rs.length:Nat)) lA=.ok (.bool false) from rfl]
   walk_at "zz"
   rw [kz]
   walk_at "zz"
   rw [LA gb a1 gs gw,se]
   walk_at "zz"
   have lay:cF (rs.map fun e=>aU e.name)=true:=zH _ rs fun e he=>yt (gb.ok e (a1.mem e he)).name
   have last:decide ((rs.map fun e=>aU e.name)=[])=bE ss wm wb:=by
    rw [jI,decide_eq_true_iff,List.map_eq_nil_iff]
    constructor
    ·rintro rfl
     cases a2
     exact a3
    ·intro h
     have:=a4.2 [] ss (by simp) rfl h
     exact List.eq_nil_of_length_eq_zero (by simpa using this)
   rw [K5 _ lay,last]
   walk_at "zz"
   rw [gd]
   walk_at "zz"
   cases bE ss wm wb<;>rfl
end Z
end
namespace Z
open PySem L2 J
section
def top (i:Nat):c_:=PySem.Challenge.pw_errands_k08_whole_shortest.main.body.getD i (.Pass ⟨0,0,0,0⟩)
section
variable {e:En}
abbrev m7:c_:=top 11
abbrev vH:List Str:=["one","other"]
theorem AO:bD vH ["one","other"] (az m7):=dz (by decide +kernel)
abbrev m8 (e:En):=FN e "share_none" 1 2 eJ
theorem AQ (D:gD e.K e.mg "share_none" m7) (B:Bi e.mg):m8 e:=o7 (k:=0) (g:=jX) D AO b2 fun _ _ _ _ _ _ _ hr=>by unfold jX;exact (aJ (bC (G_ (bY (Hd rfl) rfl B.any oA (bz (JE.bor (JN.je (fg (N':=["fact","other"]) (ix:=[1]) 1 (by decide) rfl (cg (so:=az m7) (N:=vH) (by decide +kernel)) (fZ (aj 0)) (fun cl A0 s0 H0 ex pn=>⟨cW (i:=0) (by show (["fact","other"] : List Str).Nodup;decide +kernel) rfl (.inl rfl),gq,(jR (Ev) (aj 0) (aj 1))⟩)))) b_)))))
abbrev sD:c_:=top 12
abbrev C0:List Str:=["facts","others"]
theorem HI:bD C0 ["facts","others"] (az sD):=dz (by decide +kernel)
abbrev C1 (e:En):=FN e "without" 1 2 s9
theorem HJ (D:gD e.K e.mg "without" sD) (B:Bi e.mg):C1 e:=o7 (k:=0) (g:=r_) D HI b2 fun _ _ _ _ _ _ _ hr=>by unfold r_;exact (aJ (bC (fu (jh rfl) rfl B.tuple bt (bz (JE.bor (JN.je (fg (N':=["fact","others"]) (ix:=[1]) 1 (by decide) rfl (cg (so:=az sD) (N:=C0) (by decide +kernel)) (fZ (aj 0)) (fun cl A0 s0 H0 ex pn=>⟨cW (i:=0) (by show (["fact","others"] : List Str).Nodup;decide +kernel) rfl (.inl rfl),(lS (dE (yV) (aj 0) (aj 1))),(ai 0)⟩)))) b_))))
abbrev zN:c_:=top 13
abbrev Px:List Str:=["one","other"]
theorem LG:bD Px ["one","other"] (az zN):=dz (by decide +kernel)
abbrev FG (e:En):=FN e "joined" 1 2 vt
theorem LH (D:gD e.K e.mg "joined" zN) (B:Bi e.mg):FG e:=o7 (k:=0) (g:=vq) D LG b2 fun _ _ _ _ _ _ _ hr=>by unfold vq;exact (aJ (bC (fu (jh rfl) rfl B.tuple bt (bz (JE.bor (ub rfl (UE (D4 rfl (aj 0) rfl B.set) (D4 rfl (aj 1) rfl B.set)) rfl B.sorted)) b_))))
abbrev sF:c_:=top 14
abbrev C2:List Str:=["thing"]
theorem HK:bD C2 ["thing"] (az sF):=dz (by decide +kernel)
abbrev wO (e:En):=FN e "is_word" 1 1 oR
theorem HL (D:gD e.K e.mg "is_word" sF) (B:Bi e.mg) (mO:Cn e.mg "MOST_LETTERS" 6):wO e:=o7 (k:=0) (g:=sd) D HK b1 fun _ _ _ _ _ _ _ hr=>by unfold sd;exact (aA (eZ (JW.t (tq (fY (eU (n_ (aj 0) rfl B.isinstance rfl B.str yF (by decide)))) (nX (fY (NI (Bv) (Bv) (JE.bor aI) (JE.bor (bY gK rfl B.len bG (bz (aj 0) b_))) (JE.bor (qV rfl mO))))))) (aJ (bC mD)) cE) (aJ (bC (bY (pq rfl) rfl B.all cG (bz (JE.bor (JN.je (fg (N':=["sign"]) (ix:=[]) 1 (by decide) rfl (cg (so:=az sF) (N:=C2) (by decide +kernel)) (fZ (aj 0)) (fun cl A0 s0 H0 ex pn=>⟨cW (i:=0) (by show (["sign"] : List Str).Nodup;decide +kernel) rfl (.inl rfl),gq,(EF (Bv) (Bv) (JE.bor u6) (aj 0) (JE.bor u6))⟩)))) b_)))))
abbrev fJ:c_:=top 15
abbrev jv:List Str:=["thing"]
theorem sU:bD jv ["thing"] (az fJ):=dz (by decide +kernel)
abbrev jw (e:En):=FN e "are_rising_words" 2 1 fH
theorem sV (D:gD e.K e.mg "are_rising_words" fJ) (B:Bi e.mg) (mo:wO e):jw e:=o7 (k:=1) (g:=i5) D sU b1 fun _ _ _ _ _ _ _ hr=>by unfold i5;exact (aA (eZ (JW.t (tq (fY (eU (n_ (aj 0) rfl B.isinstance rfl B.tuple bt (by decide)))) (nX (fY (eU (bY (pq rfl) rfl B.all cG (bz (JE.bor (JN.je (fg (N':=["word"]) (ix:=[]) 1 (by decide) rfl (cg (so:=az fJ) (N:=jv) (by decide +kernel)) (fZ (aj 0)) (fun cl A0 s0 H0 ex pn=>⟨cW (i:=0) (by show (["word"] : List Str).Nodup;decide +kernel) rfl (.inl rfl),gq,(jc mo hr eB (ae (ai 0) aF))⟩)))) b_))))))) (aJ (bC mD)) cE) (aJ (bC (bY (pq rfl) rfl B.all cG (bz (JE.bor (JN.je (fg (N':=["low","high"]) (ix:=[]) 2 (by decide) rfl (cg (so:=az fJ) (N:=jv) (by decide +kernel)) (ND.i (Rc rfl B.zip (ae (ai 0) (ae (qY (aj 0) (rV aI) yk) aF)))) (fun cl A0 s0 H0 ex pn=>⟨GF rfl (qN (cW (i:=0) (by show (["low","high"] : List Str).Nodup;decide +kernel) rfl (.inl rfl)) (qN (cW (i:=1) (by show (["low","high"] : List Str).Nodup;decide +kernel) rfl (.inl rfl)) Cr)),gq,(jR (yU) (aj 0) (aj 1))⟩)))) b_)))))
abbrev nK:c_:=top 16
abbrev xw:List Str:=["book_facts","thing"]
theorem Ds:bD xw ["book_facts","thing"] (az nK):=dz (by decide +kernel)
abbrev nL (e:En):=FN e "are_facts" 3 2 fk
theorem Dt (D:gD e.K e.mg "are_facts" nK) (B:Bi e.mg) (eC:jw e):nL e:=o7 (k:=2) (g:=nz) D Ds b2 fun _ _ _ _ _ _ _ hr=>by unfold nz;exact (aJ (bC (pp (jc eC hr px (ae (ai 1) aF)) (u7 (bY (pq rfl) rfl B.all cG (bz (JE.bor (JN.je (fg (N':=["fact","book_facts"]) (ix:=[0]) 1 (by decide) rfl (cg (so:=az nK) (N:=xw) (by decide +kernel)) (fZ (aj 1)) (fun cl A0 s0 H0 ex pn=>⟨cW (i:=0) (by show (["fact","book_facts"] : List Str).Nodup;decide +kernel) rfl (.inl rfl),gq,(jR (Ev) (aj 0) (aj 1))⟩)))) b_))))))
abbrev uk:c_:=top 17
abbrev HM:List Str:=["thing","least","most"]
theorem FH:bD HM ["thing","least","most"] (az uk):=dz (by decide +kernel)
abbrev zO (e:En):=FN e "is_whole" 1 3 pG
theorem FI (D:gD e.K e.mg "is_whole" uk) (B:Bi e.mg):zO e:=o7 (k:=0) (g:=pF) D FH b3 fun _ _ _ _ _ _ _ hr=>by unfold pF;exact (aA (eZ (JW.t (tq (fY (eU (n_ (aj 0) rfl B.isinstance rfl B.int PyProof.Rows.boot_int (by decide)))) (nX (eU (n_ (aj 0) rfl B.isinstance rfl B.bool PyProof.Rows.boot_bool (by decide)))))) (aJ (bC mD)) cE) (aJ (bC (EF (Bv) (Bv) (aj 1) (aj 0) (aj 2)))))
abbrev nM:c_:=top 18
abbrev xx:List Str:=["book_facts","thing","name","needs","bars","makes","ends","price"]
theorem i8:bD xx ["book_facts","thing"] (az nM):=dz (by decide +kernel)
abbrev xy (e:En):=FN e "is_errand" 4 2 nB
theorem Du (D:gD e.K e.mg "is_errand" nM) (B:Bi e.mg) (mo:wO e) (ul:zO e) (fm:nL e) (eK:m8 e) (pT:Cn e.mg "MOST_PRICE" 9):xy e:=o7 (k:=3) (g:=nA) D i8 b2 fun _ _ _ _ _ _ _ hr=>by have hu64:=hr.units;unfold nA;exact (aA (eZ (JW.t (tq (fY (eU (n_ (aj 1) rfl B.isinstance rfl B.tuple bt (by decide)))) (nX (dE (yT hu64) (JE.bor (bY gK rfl B.len bG (bz (aj 1) b_))) (JE.bor aI))))) (aJ (bC mD)) cE) (aA (yW (ai 1) (q_ rfl (dG (de 2 i8.nd) (dG (de 3 i8.nd) (dG (de 4 i8.nd) (dG (de 5 i8.nd) (dG (de 6 i8.nd) (dG (de 7 i8.nd) ny)))))))) (aA (eZ (JW.t (tq (fY (eU (jc mo hr px (ae (ai 2) aF)))) (nX (fY (eU (jc ul hr px (ae (ai 7) (ae aI (ae (qV rfl pT) aF))))))))) (aJ (bC mD)) cE) (aA (eZ (fY (eU (bY (pq rfl) rfl B.all cG (bz (JE.bor (JN.je (fg (N':=["facts","book_facts"]) (ix:=[0]) 1 (by decide) rfl (cg (so:=az nM) (N:=xx) (by decide +kernel)) (fZ (JE.bor (nY (ae (ai 3) (ae (ai 4) (ae (ai 5) (ae (ai 6) aF))))))) (fun cl A0 s0 H0 ex pn=>⟨cW (i:=0) (by show (["facts","book_facts"] : List Str).Nodup;decide +kernel) rfl (.inl rfl),gq,(jc fm hr eB (ae (ai 1) (ae (ai 0) aF)))⟩)))) b_)))) (aJ (bC mD)) cE) (aJ (bC (pp (jc eK hr px (ae (ai 3) (ae (ai 4) aF))) (u7 (jc eK hr px (ae (ai 5) (ae (ai 6) aF)))))))))))
abbrev oS:c_:=top 19
abbrev wP:List Str:=["thing","facts","errands"]
theorem um:bD wP ["thing"] (az oS):=dz (by decide +kernel)
abbrev C3 (e:En):=FN e "is_book" 5 1 sg
theorem HN (D:gD e.K e.mg "is_book" oS) (B:Bi e.mg) (eC:jw e) (rj:xy e) (pU:Cn e.mg "MOST_FACTS" 6) (mP:Cn e.mg "MOST_ERRANDS" 6):C3 e:=o7 (k:=4) (g:=sf) D um b1 fun _ _ _ _ _ _ _ hr=>by have hu1:=iJ hr;have hu64:=hr.units;unfold sf;exact (aA (eZ (JW.t (tq (fY (eU (n_ (aj 0) rfl B.isinstance rfl B.tuple bt (by decide)))) (nX (dE (yT hu64) (JE.bor (bY gK rfl B.len bG (bz (aj 0) b_))) (JE.bor aI))))) (aJ (bC mD)) cE) (aA (yW (ai 0) (q_ rfl (dG (de 1 um.nd) (dG (de 2 um.nd) ny)))) (aA (eZ (JW.t (tq (fY (eU (jc eC hr px (ae (ai 1) aF)))) (nX (dE (IL) (JE.bor (bY gK rfl B.len bG (bz (aj 1) b_))) (JE.bor (qV rfl pU)))))) (aJ (bC mD)) cE) (aA (eZ (JW.t (tq (fY (eU (n_ (aj 2) rfl B.isinstance rfl B.tuple bt (by decide)))) (nX (dE (IL) (JE.bor (bY gK rfl B.len bG (bz (aj 2) b_))) (JE.bor (qV rfl mP)))))) (aJ (bC mD)) cE) (aA (eZ (fY (eU (bY (pq rfl) rfl B.all cG (bz (JE.bor (JN.je (fg (N':=["errand","facts"]) (ix:=[1]) 1 (by decide) rfl (cg (so:=az oS) (N:=wP) (by decide +kernel)) (fZ (aj 2)) (fun cl A0 s0 H0 ex pn=>⟨cW (i:=0) (by show (["errand","facts"] : List Str).Nodup;decide +kernel) rfl (.inl rfl),gq,(jc rj hr eB (ae (ai 1) (ae (ai 0) aF)))⟩)))) b_)))) (aJ (bC mD)) cE) (aJ (bC (jR (qp hu64) (JE.bor (L7 (NJ (N':=["errand"]) (ix:=[]) 1 (by decide) rfl (cg (so:=az oS) (N:=wP) (by decide +kernel)) (fZ (aj 2)) (fun cl A0 s0 H0 ex pn=>⟨cW (i:=0) (by show (["errand"] : List Str).Nodup;decide +kernel) rfl (.inl rfl),gq,(cp hu1 (aj 0) (JE.bor aI))⟩)) rfl B.len)) (JE.bor (bY gK rfl B.len bG (bz (aj 2) b_)))))))))))
abbrev wQ:c_:=top 20
abbrev LI:List Str:=["book","thing","must","bars"]
theorem uo:bD LI ["book","thing"] (az wQ):=dz (by decide +kernel)
abbrev C4 (e:En):=FN e "is_want" 4 2 sj
theorem HQ (D:gD e.K e.mg "is_want" wQ) (B:Bi e.mg) (fm:nL e) (eK:m8 e):C4 e:=o7 (k:=3) (g:=si) D uo b2 fun _ _ _ _ _ _ _ hr=>by have hu1:=iJ hr;have hu64:=hr.units;unfold si;exact (aA (eZ (JW.t (tq (fY (eU (n_ (aj 1) rfl B.isinstance rfl B.tuple bt (by decide)))) (nX (dE (yT hu64) (JE.bor (bY gK rfl B.len bG (bz (aj 1) b_))) (JE.bor aI))))) (aJ (bC mD)) cE) (aA (yW (ai 1) (q_ rfl (dG (de 2 uo.nd) (dG (de 3 uo.nd) ny)))) (aJ (bC (pp (jc fm hr px (ae (cp hu1 (aj 0) (JE.bor aI)) (ae (ai 2) aF))) (pp (jc fm hr px (ae (cp hu1 (aj 0) (JE.bor aI)) (ae (ai 3) aF))) (u7 (jc eK hr px (ae (ai 2) (ae (ai 3) aF))))))))))
abbrev og:c_:=top 21
abbrev AR:List Str:=["book","state"]
theorem zP:bD AR ["book","state"] (az og):=dz (by decide +kernel)
abbrev tO (e:En):=FN e "check_state" 4 2 kS
theorem zQ (D:gD e.K e.mg "check_state" og) (fm:nL e) (wR:ER e "NoState"):tO e:=o7 (k:=3) (g:=kR) D zP b2 fun _ _ _ _ _ _ _ hr=>by have hu1:=iJ hr;unfold kR;exact (aJ (eZ (fY (eU (jc fm hr px (ae (cp hu1 (aj 0) (JE.bor aI)) (ae (ai 1) aF))))) (aJ (zi wR rfl (ae u6 aF))) cE))
abbrev pV:c_:=top 22
abbrev Dv:List Str:=["book","want"]
theorem AS:bD Dv ["book","want"] (az pV):=dz (by decide +kernel)
abbrev vI (e:En):=FN e "check_want" 5 2 lU
theorem AT (D:gD e.K e.mg "check_want" pV) (wS:C4 e) (zR:ER e "NoWant"):vI e:=o7 (k:=4) (g:=lT) D AS b2 fun _ _ _ _ _ _ _ hr=>by unfold lT;exact (aJ (eZ (fY (eU (jc wS hr px (ae (ai 0) (ae (ai 1) aF))))) (aJ (zi zR rfl (ae u6 aF))) cE))
abbrev lJ:c_:=top 23
abbrev xX:List Str:=["book","name","errand"]
theorem oT:bD xX ["book","name"] (az lJ):=dz (by decide +kernel)
abbrev lK (e:En):=FN e "errand_called" 1 2 ig
theorem wT (D:gD e.K e.mg "errand_called" lJ) (B:Bi e.mg):lK e:=o7 (k:=0) (g:=jm) D oT b2 fun _ _ _ _ _ _ _ hr=>by have hu1:=iJ hr;have hu64:=hr.units;unfold jm;exact (aA (eZ (fY (eU (n_ (aj 1) rfl B.isinstance rfl B.str yF (by decide)))) (aJ (bC lI)) cE) (aA (pA rfl (ym (cp hu1 (aj 0) (JE.bor aI))) (de 2 oT.nd) (aJ (eZ (dE (qp hu64) (JE.bor (cp hu1 (aj 2) (JE.bor aI))) (aj 1)) (aJ (bC (ai 2))) cE))) (aJ (bC lI))))
abbrev sG:c_:=top 24
abbrev C5:List Str:=["state","want","must","bars"]
theorem uq:bD C5 ["state","want"] (az sG):=dz (by decide +kernel)
abbrev sH (e:En):=FN e "fulfils" 2 2 mj
theorem HR (D:gD e.K e.mg "fulfils" sG) (B:Bi e.mg) (eK:m8 e):sH e:=o7 (k:=1) (g:=sk) D uq b2 fun _ _ _ _ _ _ _ hr=>by unfold sk;exact (aA (yW (ai 1) (q_ rfl (dG (de 2 uq.nd) (dG (de 3 uq.nd) ny)))) (aJ (bC (pp (bY (pq rfl) rfl B.all cG (bz (JE.bor (JN.je (fg (N':=["fact","state"]) (ix:=[0]) 1 (by decide) rfl (cg (so:=az sG) (N:=C5) (by decide +kernel)) (fZ (aj 2)) (fun cl A0 s0 H0 ex pn=>⟨cW (i:=0) (by show (["fact","state"] : List Str).Nodup;decide +kernel) rfl (.inl rfl),gq,(jR (Ev) (aj 0) (aj 1))⟩)))) b_)) (u7 (jc eK hr px (ae (ai 3) (ae (ai 0) aF))))))))
abbrev rm:c_:=top 25
abbrev FJ:List Str:=["errand","state"]
theorem Dw:bD FJ ["errand","state"] (az rm):=dz (by decide +kernel)
abbrev rn (e:En):=FN e "is_doable" 3 2 hX
theorem Dx (D:gD e.K e.mg "is_doable" rm) (iZ:sH e):rn e:=o7 (k:=2) (g:=nC) D Dw b2 fun _ _ _ _ _ _ _ hr=>by have hu1:=iJ hr;unfold nC;exact (aJ (bC (jc iZ hr px (ae (ai 1) (ae (nY (ae (cp hu1 (aj 0) (JE.bor aI)) (ae (cp hu1 (aj 0) (JE.bor aI)) aF))) aF)))))
abbrev mQ:c_:=top 26
abbrev zS:List Str:=["errand","state","makes","ends"]
theorem qt:bD zS ["errand","state"] (az mQ):=dz (by decide +kernel)
abbrev mR (e:En):=FN e "state_behind" 2 2 eM
theorem xY (D:gD e.K e.mg "state_behind" mQ) (wU:C1 e) (zT:FG e):mR e:=o7 (k:=1) (g:=jY) D qt b2 fun _ _ _ _ _ _ _ hr=>by have hu1:=iJ hr;unfold jY;exact (aA (UF 2 3 rfl qt.nd (ae (cp hu1 (aj 0) (JE.bor aI)) (ae (cp hu1 (aj 0) (JE.bor aI)) aF))) (aJ (bC (jc zT hr px (ae (jc wU hr px (ae (ai 1) (ae (ai 3) aF))) (ae (ai 2) aF))))))
abbrev wV:c_:=top 27
abbrev LJ:List Str:=["book"]
theorem HS:bD LJ ["book"] (az wV):=dz (by decide +kernel)
abbrev C6 (e:En):=FN e "checked" 6 1 su
theorem HU (D:gD e.K e.mg "checked" wV) (wW:C3 e) (zU:ER e "NoBook"):C6 e:=o7 (k:=5) (g:=sr) D HS b1 fun _ _ _ _ _ _ _ hr=>by unfold sr;exact (aA (eZ (fY (eU (jc wW hr px (ae (ai 0) aF)))) (aJ (zi zU rfl (ae u6 aF))) cE) (aJ (bC (ai 0))))
abbrev oh:c_:=top 28
abbrev AU:List Str:=["book","state"]
theorem zV:bD AU ["book","state"] (az oh):=dz (by decide +kernel)
abbrev oj (e:En):=FN e "check_place" 7 2 ji
theorem zW (D:gD e.K e.mg "check_place" oh) (wX:C6 e) (om:tO e):oj e:=o7 (k:=6) (g:=kU) D zV b2 fun _ _ _ _ _ _ _ hr=>by unfold kU;exact (aA (pv (jc wX hr px (ae (ai 0) aF))) (aJ (pv (jc om hr px (ae (ai 0) (ae (ai 1) aF))))))
abbrev ro:c_:=top 29
abbrev FK:List Str:=["book","state","want"]
theorem Dy:bD FK ["book","state","want"] (az ro):=dz (by decide +kernel)
abbrev rq (e:En):=FN e "check_aim" 8 3 ll
theorem Dz (D:gD e.K e.mg "check_aim" ro) (ii:oj e) (pW:vI e):rq e:=o7 (k:=7) (g:=nD) D Dy b3 fun _ _ _ _ _ _ _ hr=>by unfold nD;exact (aA (pv (jc ii hr px (ae (ai 0) (ae (ai 1) aF)))) (aJ (pv (jc pW hr px (ae (ai 0) (ae (ai 2) aF))))))
abbrev m9:c_:=top 31
abbrev vJ:List Str:=["book","state"]
theorem AV:bD vJ ["book","state"] (az m9):=dz (by decide +kernel)
abbrev vK (e:En):=FN e "steps_from" 4 2 jZ
theorem AW (D:gD e.K e.mg "steps_from" m9) (jB:rn e) (hG:mR e):vK e:=o7 (k:=3) (g:=lV) D AV b2 fun _ _ _ _ _ _ _ hr=>by have hu1:=iJ hr;unfold lV;exact (aJ (bC (JN.je (fg (N':=["errand","state"]) (ix:=[1]) 1 (by decide) rfl (cg (so:=az m9) (N:=vJ) (by decide +kernel)) (fZ (JE.bor (cp hu1 (aj 0) (JE.bor aI)))) (fun cl A0 s0 H0 ex pn=>⟨cW (i:=0) (by show (["errand","state"] : List Str).Nodup;decide +kernel) rfl (.inl rfl),(lS (eU (jc jB hr eB (ae (ai 0) (ae (ai 1) aF))))),(nY (ae (ai 0) (ae (jc hG hr eB (ae (ai 0) (ae (ai 1) aF))) aF)))⟩)))))
abbrev pX:c_:=top 32
abbrev DA:List Str:=["book","state","rows","ring","next_ring","at","errand","behind"]
theorem fo:bD DA ["book","state"] (az pX):=dz (by decide +kernel)
abbrev pY (e:En):=FN e "first_rows" 5 2 j_
theorem AX (D:gD e.K e.mg "first_rows" pX) (pZ:vK e):pY e:=o7 (k:=4) (g:=lW) D fo b2 fun _ _ _ _ _ _ _ hr=>by have hu1:=iJ hr;unfold lW;exact (aA (jS 2 (EW hu1 (ai 1) (kr aF)) fo.nd) (aA (jS 3 (wB (ae (ai 1) aF)) fo.nd) (aA (ED 100000 (OD (aj 3)) (aA (jS 4 (wB aF) fo.nd) (aA (IX 3 rfl (de 5 fo.nd) (aJ (pA rfl (ym (jc pZ hr eB (ae (ai 0) (ae (ai 5) aF)))) (q_ rfl (dG (de 6 fo.nd) (dG (de 7 fo.nd) ny))) (aJ (eZ (dE (BK hu1) (aj 7) (aj 2)) (aA (EV 2 (c7 cS (JE.bor (wE hu1 (aj 2) (aj 5))) (JE.bor (kr (ae (cp hu1 (aj 6) (JE.bor aI)) aF)))) (ai 7) hu1) (aJ (oJ 4 (ai 7)))) cE))))) (aJ (Hj 4 (ef 3 (ai 4) fo.nd)))))) (aJ (OE 2 (bC (ai 2)))))))
abbrev oU:c_:=top 33
abbrev wY:List Str:=["rows","want","fitting"]
theorem zX:bD wY ["rows","want"] (az oU):=dz (by decide +kernel)
abbrev C7 (e:En):=FN e "nearest" 3 2 ml
theorem HV (D:gD e.K e.mg "nearest" oU) (B:Bi e.mg) (iZ:sH e):C7 e:=o7 (k:=2) (g:=sw) D zX b2 fun _ _ _ _ _ _ _ hr=>by have hu1:=iJ hr;have hu64:=hr.units;unfold sw;exact (aA (jS 2 (fg (N':=["at","want"]) (ix:=[1]) 1 (by decide) rfl (cg (so:=az oU) (N:=wY) (by decide +kernel)) (Jp (aj 0)) (fun cl A0 s0 H0 ex pn=>⟨cW (i:=0) (by show (["at","want"] : List Str).Nodup;decide +kernel) rfl (.inl rfl),(lS (eU (jc iZ hr eB (ae (ai 0) (ae (ai 1) aF))))),(ai 0)⟩)) zX.nd) (aJ (bC (JN.je (fg (N':=["at","rows","fitting"]) (ix:=[0,2]) 1 (by decide) rfl (cg (so:=az oU) (N:=wY) (by decide +kernel)) (fZ (aj 2)) (fun cl A0 s0 H0 ex pn=>⟨cW (i:=0) (by show (["at","rows","fitting"] : List Str).Nodup;decide +kernel) rfl (.inl rfl),(lS (dE (qp hu64) (JE.bor (bY gK rfl B.len bG (bz (JE.bor (wE hu1 (aj 1) (aj 0))) b_))) (JE.bor (bY gK rfl B.len bG (bz (JE.bor (wE hu1 (aj 1) (JE.bor (cp hu1 (aj 2) (JE.bor aI))))) b_))))),(ai 0)⟩))))))
abbrev wZ:c_:=top 34
abbrev LK:List Str:=["book","state"]
theorem HW:bD LK ["book","state"] (az wZ):=dz (by decide +kernel)
abbrev C8 (e:En):=FN e "reached" 8 2 sy
theorem HX (D:gD e.K e.mg "reached" wZ) (B:Bi e.mg) (ii:oj e) (i_:pY e):C8 e:=o7 (k:=7) (g:=sx) D HW b2 fun _ _ _ _ _ _ _ hr=>by have hu64:=hr.units;unfold sx;exact (aA (pv (jc ii hr px (ae (ai 0) (ae (ai 1) aF)))) (aJ (bC (bY (Hr rfl hu64) rfl B.sorted mh (bz (JE.bor (jc i_ hr px (ae (ai 0) (ae (ai 1) aF)))) b_)))))
abbrev ur:c_:=top 35
abbrev HY:List Str:=["book","state","want","rows","goals"]
theorem rz:bD HY ["book","state","want"] (az ur):=dz (by decide +kernel)
abbrev ut (e:En):=FN e "shortest" 9 3 i6
theorem FL (D:gD e.K e.mg "shortest" ur) (jC:rq e) (i_:pY e) (w_:C7 e):ut e:=o7 (k:=8) (g:=mF) D rz b3 fun _ _ _ _ _ _ _ hr=>by have hu1:=iJ hr;unfold mF;exact (aA (pv (jc jC hr px (ae (ai 0) (ae (ai 1) (ae (ai 2) aF))))) (aA (ef 3 (jc i_ hr px (ae (ai 0) (ae (ai 1) aF))) rz.nd) (aA (ef 4 (jc w_ hr px (ae (ai 3) (ae (ai 2) aF))) rz.nd) (aJ (bC (Su (OD (aj 4)) (wE hu1 (aj 3) (JE.bor (cp hu1 (aj 4) (JE.bor aI)))) lI))))))
abbrev Py:c_:=top 36
abbrev Xi:List Str:=["book","state","want","row"]
theorem Pz:bD Xi ["book","state","want"] (az Py):=dz (by decide +kernel)
abbrev Tp (e:En):=FN e "far" 10 3 BQ
theorem Vg (D:gD e.K e.mg "far" Py) (B:Bi e.mg) (kF:ut e):Tp e:=o7 (k:=9) (g:=Fb) D Pz b3 fun _ _ _ _ _ _ _ hr=>by unfold Fb;exact (aA (ef 3 (jc kF hr px (ae (ai 0) (ae (ai 1) (ae (ai 2) aF)))) Pz.nd) (aJ (bC (Su (dE (IN) (aj 3) (JE.bor lI)) lI (bY gK rfl B.len bG (bz (aj 3) b_))))))
abbrev vL:c_:=top 39
abbrev FM:List Str:=["book","thing"]
theorem LL:bD FM ["book","thing"] (az vL):=dz (by decide +kernel)
abbrev FO (e:En):=FN e "is_row" 2 2 vw
theorem LM (D:gD e.K e.mg "is_row" vL) (B:Bi e.mg) (g9:lK e) (oo:Cn e.mg "MOST_IN_ROW" 64):FO e:=o7 (k:=1) (g:=vv) D LL b2 fun _ _ _ _ _ _ _ hr=>by unfold vv;exact (aA (eZ (JW.t (tq (fY (eU (n_ (aj 1) rfl B.isinstance rfl B.list jl (by decide)))) (nX (dE (IL) (JE.bor (bY gK rfl B.len bG (bz (aj 1) b_))) (JE.bor (qV rfl oo)))))) (aJ (bC mD)) cE) (aJ (bC (bY (pq rfl) rfl B.all cG (bz (JE.bor (JN.je (fg (N':=["name","book"]) (ix:=[0]) 1 (by decide) rfl (cg (so:=az vL) (N:=FM) (by decide +kernel)) (fZ (aj 1)) (fun cl A0 s0 H0 ex pn=>⟨cW (i:=0) (by show (["name","book"] : List Str).Nodup;decide +kernel) rfl (.inl rfl),gq,(jR (Ep) (JE.bor (jc g9 hr eB (ae (ai 1) (ae (ai 0) aF)))) (JE.bor lI))⟩)))) b_)))))
abbrev md:c_:=top 40
abbrev vM:List Str:=["book","row"]
theorem AY:bD vM ["book","row"] (az md):=dz (by decide +kernel)
abbrev vN (e:En):=FN e "errands_of" 3 2 lY
theorem AZ (D:gD e.K e.mg "errands_of" md) (zY:FO e) (g9:lK e):vN e:=o7 (k:=2) (g:=lX) D AY b2 fun _ _ _ _ _ _ _ hr=>by unfold lX;exact (aA (eZ (fY (eU (jc zY hr px (ae (ai 0) (ae (ai 1) aF))))) (aJ Ow) cE) (aJ (bC (JN.je (fg (N':=["name","book"]) (ix:=[0]) 1 (by decide) rfl (cg (so:=az md) (N:=vM) (by decide +kernel)) (fZ (aj 1)) (fun cl A0 s0 H0 ex pn=>⟨cW (i:=0) (by show (["name","book"] : List Str).Nodup;decide +kernel) rfl (.inl rfl),gq,(jc g9 hr eB (ae (ai 1) (ae (ai 0) aF)))⟩))))))
abbrev kG:c_:=top 41
abbrev xa:List Str:=["errands","state","states","errand"]
theorem k7:bD xa ["errands","state"] (az kG):=dz (by decide +kernel)
abbrev oV (e:En):=FN e "states_through" 4 2 iU
theorem vO (D:gD e.K e.mg "states_through" kG) (jB:rn e) (hG:mR e):oV e:=o7 (k:=3) (g:=iT) D k7 b2 fun _ _ _ _ _ _ _ hr=>by have hu1:=iJ hr;unfold iT;exact (aA (jS 2 (wB (ae (ai 1) aF)) k7.nd) (aA (IX 0 rfl (de 3 k7.nd) (aA (eZ (fY (eU (jc jB hr eB (ae (ai 3) (ae (cp hu1 (aj 2) (JE.bor (Hh aI))) aF))))) (aJ (bC (ai 2))) cE) (aJ (oJ 2 (jc hG hr eB (ae (ai 3) (ae (cp hu1 (aj 2) (JE.bor (Hh aI))) aF))))))) (aJ (bC (ai 2)))))
abbrev zZ:c_:=top 42
abbrev PB:List Str:=["book","state","want","row","errands","states"]
theorem xb:bD PB ["book","state","want","row"] (az zZ):=dz (by decide +kernel)
abbrev FP (e:En):=FN e "serves" 9 4 vz
theorem LN (D:gD e.K e.mg "serves" zZ) (B:Bi e.mg) (jC:rq e) (p_:vN e) (kH:oV e) (iZ:sH e):FP e:=o7 (k:=8) (g:=vy) D xb b4 fun _ _ _ _ _ _ _ hr=>by have hu1:=iJ hr;unfold vy;exact (aA (pv (jc jC hr px (ae (ai 0) (ae (ai 1) (ae (ai 2) aF))))) (aA (ef 4 (jc p_ hr px (ae (ai 0) (ae (ai 3) aF))) xb.nd) (aA (ef 5 (jc kH hr px (ae (ai 4) (ae (ai 1) aF))) xb.nd) (aJ (bC (pp (jR (IL) (JE.bor (bY gK rfl B.len bG (bz (aj 5) b_))) (JE.bor (bY gK rfl B.len bG (bz (aj 4) b_)))) (u7 (jc iZ hr px (ae (cp hu1 (aj 5) (JE.bor (Hh aI))) (ae (ai 2) aF))))))))))
abbrev oq:c_:=top 44
abbrev A_:List Str:=["_law_script","_law_k"]
theorem z_:bD A_ ["_law_script","_law_k"] (az oq):=dz (by decide +kernel)
abbrev tP (e:En):=FN e "_law_cell_at" 1 2 kX
theorem A1 (D:gD e.K e.mg "_law_cell_at" oq) (B:Bi e.mg):tP e:=o7 (k:=0) (g:=kW) D z_ b2 fun _ _ _ _ _ _ _ hr=>by have hu1:=iJ hr;have hu64:=hr.units;unfold kW;exact (aA (eZ (dE (yU) (aj 1) (JE.bor (bY gK rfl B.len bG (bz (aj 0) b_)))) (aJ (bC (cp hu1 (aj 0) (aj 1)))) cE) (aA (eZ (dE (qp hu64) (aj 0) (JE.bor (kr aF))) (aJ (bC aI)) cE) (aJ (bC (c7 cS (JE.bor (c7 qX (JE.bor (cp hu1 (aj 0) (JE.bor (c7 CU (aj 1) (JE.bor (bY gK rfl B.len bG (bz (aj 0) b_))))))) (JE.bor aI))) (aj 1))))))
abbrev rA:c_:=top 45
abbrev FQ:List Str:=["_law_script","_law_k","_law_many","_law_drawn"]
theorem vP:bD FQ ["_law_script","_law_k","_law_many"] (az rA):=dz (by decide +kernel)
abbrev gz (e:En):=FN e "_law_mixed" 2 3 bB
theorem DB (D:gD e.K e.mg "_law_mixed" rA) (ou:tP e):gz e:=o7 (k:=1) (g:=nE) D vP b3 fun _ _ _ _ _ _ _ hr=>by unfold nE;exact (aA (ef 3 (c7 CU (JE.bor (c7 qX (JE.bor (c7 cS (JE.bor (c7 cS (JE.bor (jc ou hr px (ae (ai 0) (ae (ai 1) aF)))) (JE.bor (c7 qX (JE.bor aI) (aj 1))))) (JE.bor aI))) (JE.bor aI))) (JE.bor aI)) vP.nd) (aJ (bC (c7 CU (JE.bor (c7 CU (JE.bor (c7 cS (JE.bor (c7 cS (JE.bor (c7 qX (aj 3) (aj 3))) (JE.bor (c7 qX (JE.bor aI) (aj 3))))) (aj 1))) (JE.bor aI))) (aj 2)))))
abbrev uu:c_:=top 46
abbrev HZ:List Str:=["_law_script","_law_at","_law_made","_law_k"]
theorem nN:bD HZ ["_law_script","_law_at"] (az uu):=dz (by decide +kernel)
abbrev uv (e:En):=FN e "_law_word" 3 2 kw
theorem FR (D:gD e.K e.mg "_law_word" uu) (B:Bi e.mg) (bd:gz e):uv e:=o7 (k:=2) (g:=pH) D nN b2 fun _ _ _ _ _ _ _ hr=>by have hu1:=iJ hr;unfold pH;exact (aA (ef 2 u6 nN.nd) (aA (pA rfl (u9 rfl B.range (bz (JE.bor (cp hu1 (JE.bor (kr (ae aI (ae aI (ae aI (ae aI (ae aI (ae aI aF)))))))) (JE.bor (jc bd hr eB (ae (ai 0) (ae (ai 1) (ae aI aF))))))) b_)) (de 3 nN.nd) (aJ (ef 2 (c7 cS (aj 2) (JE.bor (cp hu1 (JE.bor u6) (JE.bor (jc bd hr eB (ae (ai 0) (ae (c7 cS (JE.bor (c7 cS (aj 1) (JE.bor aI))) (aj 3)) (ae aI aF)))))))) nN.nd))) (aJ (bC (ai 2)))))
abbrev rE:c_:=top 47
abbrev FS:List Str:=["_law_script","_law_at","_law_most","_law_found","_law_k"]
theorem q8:bD FS ["_law_script","_law_at","_law_most"] (az rE):=dz (by decide +kernel)
abbrev xz (e:En):=FN e "_law_facts" 4 3 nG
theorem DC (D:gD e.K e.mg "_law_facts" rE) (B:Bi e.mg) (kJ:uv e) (bd:gz e):xz e:=o7 (k:=3) (g:=nF) D q8 b3 fun _ _ _ _ _ _ _ hr=>by have hu1:=iJ hr;unfold nF;exact (aA (jS 3 IU q8.nd) (aA (pA rfl (u9 rfl B.range (bz (JE.bor (jc bd hr eB (ae (ai 0) (ae (ai 1) (ae (c7 cS (aj 2) (JE.bor aI)) aF))))) b_)) (de 4 q8.nd) (aJ (IY 3 mD (jc kJ hr eB (ae (ai 0) (ae (c7 cS (JE.bor (c7 cS (aj 1) (JE.bor aI))) (JE.bor (c7 qX (JE.bor aI) (aj 4)))) aF))) hu1))) (aJ (bC (fu (jh rfl) rfl B.tuple bt (bz (JE.bor (bY L3 rfl B.sorted mh (bz (JE.bor (fu (zd rfl) rfl B.list jl (bz (aj 3) b_))) b_))) b_))))))
abbrev q9:c_:=top 48
abbrev A2:List Str:=["_law_script","_law_at","_law_facts_here","_law_part"]
theorem FT:bD A2 ["_law_script","_law_at","_law_facts_here","_law_part"] (az q9):=dz (by decide +kernel)
abbrev A3 (e:En):=FN e "_law_some" 3 4 pJ
theorem FU (D:gD e.K e.mg "_law_some" q9) (B:Bi e.mg) (bd:gz e):A3 e:=o7 (k:=2) (g:=pI) D FT b4 fun _ _ _ _ _ _ _ hr=>by unfold pI;exact (aJ (bC (fu (jh rfl) rfl B.tuple bt (bz (JE.bor (JN.je (fg (N':=["_law_k","_law_fact","_law_script","_law_at","_law_part"]) (ix:=[0,1,3]) 2 (by decide) rfl (cg (so:=az q9) (N:=A2) (by decide +kernel)) (ND.i (yY rfl B.enumerate (ae (ai 2) aF))) (fun cl A0 s0 H0 ex pn=>⟨GF rfl (qN (cW (i:=0) (by show (["_law_k","_law_fact","_law_script","_law_at","_law_part"] : List Str).Nodup;decide +kernel) rfl (.inl rfl)) (qN (cW (i:=1) (by show (["_law_k","_law_fact","_law_script","_law_at","_law_part"] : List Str).Nodup;decide +kernel) rfl (.inl rfl)) Cr)),(lS (dE (yU) (JE.bor (jc bd hr eB (ae (ai 2) (ae (c7 cS (aj 3) (aj 0)) (ae aI aF))))) (aj 4))),(ai 1)⟩)))) b_))))
abbrev kK:c_:=top 49
abbrev qc:List Str:=["_law_script","_law_at","_law_facts_here","_law_name","_law_one","_law_two","_law_goal","_law_needs","_law_bars","_law_ends","_law_parts"]
theorem hZ:bD qc ["_law_script","_law_at","_law_facts_here","_law_name"] (az kK):=dz (by decide +kernel)
abbrev A4 (e:En):=FN e "_law_thin" 3 4 pL
theorem FV (D:gD e.K e.mg "_law_thin" kK) (B:Bi e.mg) (bd:gz e):A4 e:=o7 (k:=2) (g:=pK) D hZ b4 fun _ _ _ _ _ _ _ hr=>by have hu1:=iJ hr;have hu64:=hr.units;unfold pK;exact (aA (ef 4 (cp hu1 (aj 2) (JE.bor (jc bd hr px (ae (ai 0) (ae (c7 cS (aj 1) (JE.bor aI)) (ae (bY gK rfl B.len bG (bz (aj 2) b_)) aF)))))) hZ.nd) (aA (ef 5 (cp hu1 (aj 2) (JE.bor (jc bd hr px (ae (ai 0) (ae (c7 cS (aj 1) (JE.bor aI)) (ae (bY gK rfl B.len bG (bz (aj 2) b_)) aF)))))) hZ.nd) (aA (ef 6 (cp hu1 (aj 2) (JE.bor (jc bd hr px (ae (ai 0) (ae (c7 cS (aj 1) (JE.bor aI)) (ae (bY gK rfl B.len bG (bz (aj 2) b_)) aF)))))) hZ.nd) (aA (ef 7 (qY (JE.bor (kr (ae (ai 4) (ae (ai 5) aF)))) yk (rV (c7 cS (JE.bor aI) (JE.bor (c7 R5 (JE.bor (jc bd hr px (ae (ai 0) (ae (c7 cS (aj 1) (JE.bor aI)) (ae aI aF))))) (JE.bor aI)))))) hZ.nd) (aA (ku 8 (N':=["_law_fact","_law_needs","_law_script","_law_at"]) (ix:=[7,0,1]) 1 (by decide) hZ.nd rfl (cg (so:=az kK) (N:=qc) (by decide +kernel)) (fZ (JE.bor (kr (ae (ai 6) aF)))) (fun cl A0 s0 H0 ex pn=>⟨cW (i:=0) (by show (["_law_fact","_law_needs","_law_script","_law_at"] : List Str).Nodup;decide +kernel) rfl (.inl rfl),(lS (JW.t (CT (dE (yV) (aj 0) (aj 1)) (yj (dE (qp hu64) (JE.bor (jc bd hr eB (ae (ai 2) (ae (c7 cS (aj 3) (JE.bor aI)) (ae aI aF))))) (JE.bor aI)))))),(ai 0)⟩)) (aA (ku 9 (N':=["_law_fact","_law_goal","_law_script","_law_at"]) (ix:=[6,0,1]) 1 (by decide) hZ.nd rfl (cg (so:=az kK) (N:=qc) (by decide +kernel)) (fZ (JE.bor (kr (ae (ai 4) aF)))) (fun cl A0 s0 H0 ex pn=>⟨cW (i:=0) (by show (["_law_fact","_law_goal","_law_script","_law_at"] : List Str).Nodup;decide +kernel) rfl (.inl rfl),(lS (JW.t (CT (dE (yT hu64) (aj 0) (aj 1)) (yj (dE (qp hu64) (JE.bor (jc bd hr eB (ae (ai 2) (ae (c7 cS (aj 3) (JE.bor aI)) (ae aI aF))))) (JE.bor aI)))))),(ai 0)⟩)) (aA (Hj 8 (Hj 9 (ku 10 (N':=["_law_part"]) (ix:=[]) 1 (by decide) hZ.nd rfl (cg (so:=az kK) (N:=qc) (by decide +kernel)) (fZ (JE.bor (nY (ae (ai 7) (ae (ai 8) (ae (kr (ae (ai 6) aF)) (ae (ai 9) aF))))))) (fun cl A0 s0 H0 ex pn=>⟨cW (i:=0) (by show (["_law_part"] : List Str).Nodup;decide +kernel) rfl (.inl rfl),gq,(fu (jh rfl) rfl B.tuple bt (bz (JE.bor (ub rfl (D4 rfl (aj 0) rfl B.set) rfl B.sorted)) b_))⟩)))) (aJ (bC (nY (ae (ai 3) (ae (cp hu1 (aj 10) (JE.bor aI)) (ae (cp hu1 (aj 10) (JE.bor aI)) (ae (cp hu1 (aj 10) (JE.bor aI)) (ae (cp hu1 (aj 10) (JE.bor aI)) (ae (jc bd hr px (ae (ai 0) (ae (ai 1) (ae aI aF)))) aF))))))))))))))))
abbrev mf:c_:=top 50
abbrev vQ:List Str:=["_law_script","_law_at","_law_facts_here","_law_name","_law_parts","_law_k","_law_fact","_law_way","_law_some_here"]
theorem gN:bD vQ ["_law_script","_law_at","_law_facts_here","_law_name"] (az mf):=dz (by decide +kernel)
abbrev vR (e:En):=FN e "_law_errand" 4 4 iW
theorem B0 (D:gD e.K e.mg "_law_errand" mf) (B:Bi e.mg) (bd:gz e) (uw:A4 e):vR e:=o7 (k:=3) (g:=iV) D gN b4 fun _ _ _ _ _ _ _ hr=>by have hu1:=iJ hr;have hu64:=hr.units;unfold iV;exact (aA (eZ (JW.t (CT (dE (yT hu64) (aj 2) (JE.bor (nY aF))) (yj (dE (qp hu64) (JE.bor (jc bd hr px (ae (ai 0) (ae aI (ae aI aF))))) (JE.bor aI))))) (aJ (bC (jc uw hr px (ae (ai 0) (ae (ai 1) (ae (ai 2) (ae (ai 3) aF))))))) cE) (aA (Uw 4 gN.nd) (aA (pA rfl (yY rfl B.enumerate (ae (ai 2) aF)) (q_ rfl (dG (de 5 gN.nd) (dG (de 6 gN.nd) ny))) (aA (ef 7 (jc bd hr eB (ae (ai 0) (ae (c7 cS (JE.bor (c7 cS (aj 1) (JE.bor aI))) (aj 5)) (ae aI aF)))) gN.nd) (aA (eZ (dE (yU) (aj 7) (JE.bor aI)) (aJ (zh 4 (cp hu1 (JE.bor (kr (ae aI (ae aI (ae aI aF))))) (aj 7)) (ai 6))) cE) (aA (ef 7 (jc bd hr eB (ae (ai 0) (ae (c7 cS (JE.bor (c7 cS (aj 1) (JE.bor aI))) (aj 5)) (ae aI aF)))) gN.nd) (aJ (eZ (dE (yU) (aj 7) (JE.bor aI)) (aJ (zh 4 (cp hu1 (JE.bor (kr (ae aI (ae aI (ae aI (ae aI aF)))))) (aj 7)) (ai 6))) cE)))))) (aA (NK (ku 8 (N':=["_law_part"]) (ix:=[]) 1 (by decide) gN.nd rfl (cg (so:=az mf) (N:=vQ) (by decide +kernel)) (fZ (aj 4)) (fun cl A0 s0 H0 ex pn=>⟨cW (i:=0) (by show (["_law_part"] : List Str).Nodup;decide +kernel) rfl (.inl rfl),gq,(fu (jh rfl) rfl B.tuple bt (bz (aj 0) b_))⟩))) (aJ (bC (nY (ae (ai 3) (ae (cp hu1 (aj 8) (JE.bor aI)) (ae (cp hu1 (aj 8) (JE.bor aI)) (ae (cp hu1 (aj 8) (JE.bor aI)) (ae (cp hu1 (aj 8) (JE.bor aI)) (ae (jc bd hr px (ae (ai 0) (ae (ai 1) (ae aI aF)))) aF)))))))))))))
abbrev qd:c_:=top 51
abbrev A5:List Str:=["_law_script","_law_at","_law_most","_law_many","_law_facts_here","_law_made","_law_k","_law_name","_law_names","_law_turn"]
theorem iL:bD A5 ["_law_script","_law_at","_law_most","_law_many"] (az qd):=dz (by decide +kernel)
abbrev A6 (e:En):=FN e "_law_book" 5 4 mH
theorem FW (D:gD e.K e.mg "_law_book" qd) (B:Bi e.mg) (rF:xz e) (kJ:uv e) (qe:vR e) (bd:gz e):A6 e:=o7 (k:=4) (g:=mG) D iL b4 fun _ _ _ _ _ _ _ hr=>by have hu1:=iJ hr;unfold mG;exact (aA (ef 4 (jc rF hr px (ae (ai 0) (ae (ai 1) (ae (ai 2) aF)))) iL.nd) (aA (jS 5 IU iL.nd) (aA (pA rfl (u9 rfl B.range (bz (JE.bor (jc bd hr eB (ae (ai 0) (ae (c7 cS (aj 1) (JE.bor aI)) (ae (c7 cS (aj 3) (JE.bor aI)) aF))))) b_)) (de 6 iL.nd) (aA (ef 7 (jc kJ hr eB (ae (ai 0) (ae (c7 cS (JE.bor (c7 cS (aj 1) (JE.bor aI))) (JE.bor (c7 qX (JE.bor aI) (aj 6)))) aF))) iL.nd) (aJ (IY 5 (jc qe hr eB (ae (ai 0) (ae (c7 cS (JE.bor (c7 cS (aj 1) (JE.bor aI))) (JE.bor (c7 qX (JE.bor aI) (aj 6)))) (ae (ai 4) (ae (ai 7) aF))))) (ai 7) hu1)))) (aA (ef 8 (fu (zd rfl) rfl B.list jl (bz (aj 5) b_)) iL.nd) (aA (ef 9 (jc bd hr px (ae (ai 0) (ae (c7 cS (aj 1) (JE.bor aI)) (ae (c7 cS (JE.bor (bY gK rfl B.len bG (bz (aj 8) b_))) (JE.bor aI)) aF)))) iL.nd) (aJ (bC (nY (ae (ai 4) (ae (fu (jh rfl) rfl B.tuple bt (bz (JE.bor (JN.je (fg (N':=["_law_name","_law_made"]) (ix:=[5]) 1 (by decide) rfl (cg (so:=az qd) (N:=A5) (by decide +kernel)) (fZ (JE.bor (c7 cS (JE.bor (qY (aj 8) (rV (ai 9)) yk)) (JE.bor (qY (aj 8) yk (rV (ai 9))))))) (fun cl A0 s0 H0 ex pn=>⟨cW (i:=0) (by show (["_law_name","_law_made"] : List Str).Nodup;decide +kernel) rfl (.inl rfl),gq,(cp hu1 (aj 1) (aj 0))⟩)))) b_)) aF))))))))))
abbrev ux:c_:=top 52
abbrev H_:List Str:=["_law_script","_law_at","_law_facts_here","_law_must","_law_bars","_law_k","_law_fact","_law_way"]
theorem jD:bD H_ ["_law_script","_law_at","_law_facts_here"] (az ux):=dz (by decide +kernel)
abbrev A7 (e:En):=FN e "_law_want" 3 3 ue
theorem FX (D:gD e.K e.mg "_law_want" ux) (B:Bi e.mg) (bd:gz e):A7 e:=o7 (k:=2) (g:=mI) D jD b3 fun _ _ _ _ _ _ _ hr=>by have hu64:=hr.units;unfold mI;exact (aA (jS 3 (wB aF) jD.nd) (aA (jS 4 (wB aF) jD.nd) (aA (pA rfl (yY rfl B.enumerate (ae (ai 2) aF)) (q_ rfl (dG (de 5 jD.nd) (dG (de 6 jD.nd) ny))) (aA (ef 7 (jc bd hr eB (ae (ai 0) (ae (c7 cS (aj 1) (aj 5)) (ae aI aF)))) jD.nd) (aJ (eZ (dE (yU) (aj 7) (JE.bor aI)) (aJ (oJ 3 (ai 6))) (aJ (eZ (dE (qp hu64) (aj 7) (JE.bor aI)) (aJ (oJ 4 (ai 6))) cE)))))) (aJ (bC (nY (ae (fu (jh rfl) rfl B.tuple bt (bz (aj 3) b_)) (ae (fu (jh rfl) rfl B.tuple bt (bz (aj 4) b_)) aF))))))))
abbrev uy:c_:=top 53
abbrev Ic:List Str:=["_law_script","_law_most","_law_many","_law_book_here","_law_state"]
theorem rG:bD Ic ["_law_script","_law_most","_law_many"] (az uy):=dz (by decide +kernel)
abbrev A8 (e:En):=FN e "_law_case" 6 3 pO
theorem FY (D:gD e.K e.mg "_law_case" uy) (uz:A6 e) (bd:gz e) (uA:A3 e) (uB:A7 e):A8 e:=o7 (k:=5) (g:=pM) D rG b3 fun _ _ _ _ _ _ _ hr=>by have hu1:=iJ hr;unfold pM;exact (aA (ef 3 (jc uz hr px (ae (ai 0) (ae aI (ae (ai 1) (ae (ai 2) aF))))) rG.nd) (aA (ef 4 (jc uA hr px (ae (ai 0) (ae aI (ae (cp hu1 (aj 3) (JE.bor aI)) (ae (cp hu1 (JE.bor (kr (ae aI (ae aI aF)))) (JE.bor (jc bd hr px (ae (ai 0) (ae aI (ae aI aF)))))) aF))))) rG.nd) (aJ (bC (nY (ae (ai 3) (ae (ai 4) (ae (jc uB hr px (ae (ai 0) (ae aI (ae (cp hu1 (aj 3) (JE.bor aI)) aF)))) aF))))))))
abbrev mS:c_:=top 54
abbrev uC:List Str:=["_law_state","_law_want_here"]
theorem FZ:bD uC ["_law_state","_law_want_here"] (az mS):=dz (by decide +kernel)
abbrev qf (e:En):=FN e "_law_good" 1 2 gL
theorem F_ (D:gD e.K e.mg "_law_good" mS) (B:Bi e.mg):qf e:=o7 (k:=0) (g:=pP) D FZ b2 fun _ _ _ _ _ _ _ hr=>by have hu1:=iJ hr;unfold pP;exact (aJ (bC (pp (bY (pq rfl) rfl B.all cG (bz (JE.bor (JN.je (fg (N':=["_law_fact","_law_state"]) (ix:=[0]) 1 (by decide) rfl (cg (so:=az mS) (N:=uC) (by decide +kernel)) (fZ (JE.bor (cp hu1 (aj 1) (JE.bor aI)))) (fun cl A0 s0 H0 ex pn=>⟨cW (i:=0) (by show (["_law_fact","_law_state"] : List Str).Nodup;decide +kernel) rfl (.inl rfl),gq,(jR (Ev) (aj 0) (aj 1))⟩)))) b_)) (u7 (G_ (bY (Hd rfl) rfl B.any oA (bz (JE.bor (JN.je (fg (N':=["_law_fact","_law_state"]) (ix:=[0]) 1 (by decide) rfl (cg (so:=az mS) (N:=uC) (by decide +kernel)) (fZ (JE.bor (cp hu1 (aj 1) (JE.bor aI)))) (fun cl A0 s0 H0 ex pn=>⟨cW (i:=0) (by show (["_law_fact","_law_state"] : List Str).Nodup;decide +kernel) rfl (.inl rfl),gq,(jR (Ev) (aj 0) (aj 1))⟩)))) b_)))))))
abbrev qg:c_:=top 55
abbrev A9:List Str:=["_law_errand_here","_law_state","_law_left"]
theorem xA:bD A9 ["_law_errand_here","_law_state"] (az qg):=dz (by decide +kernel)
abbrev Aa (e:En):=FN e "_law_step" 2 2 mJ
theorem G0 (D:gD e.K e.mg "_law_step" qg) (B:Bi e.mg) (gO:qf e):Aa e:=o7 (k:=1) (g:=pQ) D xA b2 fun _ _ _ _ _ _ _ hr=>by have hu1:=iJ hr;unfold pQ;exact (aA (eZ (fY (eU (jc gO hr px (ae (ai 1) (ae (qY (aj 0) (rV aI) (rV aI)) aF))))) (aJ (bC lI)) cE) (aA (ku 2 (N':=["_law_fact","_law_errand_here"]) (ix:=[0]) 1 (by decide) xA.nd rfl (cg (so:=az qg) (N:=A9) (by decide +kernel)) (fZ (aj 1)) (fun cl A0 s0 H0 ex pn=>⟨cW (i:=0) (by show (["_law_fact","_law_errand_here"] : List Str).Nodup;decide +kernel) rfl (.inl rfl),(lS (dE (yV) (aj 0) (JE.bor (cp hu1 (aj 1) (JE.bor aI))))),(ai 0)⟩)) (aJ (bC (fu (jh rfl) rfl B.tuple bt (bz (JE.bor (ub rfl (D4 rfl (JE.bor (c7 cS (aj 2) (JE.bor (fu (zd rfl) rfl B.list jl (bz (JE.bor (cp hu1 (aj 0) (JE.bor aI))) b_))))) rfl B.set) rfl B.sorted)) b_))))))
abbrev qh:c_:=top 56
abbrev DD:List Str:=["_law_book_here","_law_state","_law_met","_law_row","_law_at","_law_errand_here","_law_other"]
theorem gP:bD DD ["_law_book_here","_law_state"] (az qh):=dz (by decide +kernel)
abbrev vS (e:En):=FN e "_law_levels" 3 2 l_
theorem B4 (D:gD e.K e.mg "_law_levels" qh) (B:Bi e.mg) (uD:Aa e):vS e:=o7 (k:=2) (g:=lZ) D gP b2 fun _ _ _ _ _ _ _ hr=>by have hu1:=iJ hr;unfold lZ;exact (aA (jS 2 (EW hu1 (ai 1) aI) gP.nd) (aA (jS 3 (wB (ae (ai 1) aF)) gP.nd) (aA (ef 4 aI gP.nd) (aA (ED 100000 (dE (yU) (aj 4) (JE.bor (bY gK rfl B.len bG (bz (aj 3) b_)))) (aA (pA rfl (ym (cp hu1 (aj 0) (JE.bor aI))) (de 5 gP.nd) (aA (ef 6 (jc uD hr eB (ae (ai 5) (ae (cp hu1 (aj 3) (aj 4)) aF))) gP.nd) (aJ (eZ (JW.t (CT (dE (Ep) (aj 6) (JE.bor lI)) (yj (dE (BK hu1) (aj 6) (aj 2))))) (aA (EV 2 (c7 cS (JE.bor (wE hu1 (aj 2) (JE.bor (cp hu1 (aj 3) (aj 4))))) (JE.bor aI)) (ai 6) hu1) (aJ (oJ 3 (ai 6)))) cE)))) (aJ (ef 4 (c7 cS (aj 4) (JE.bor aI)) gP.nd)))) (aJ (OE 2 (bC (ai 2))))))))
abbrev sI:c_:=top 57
abbrev C9:List Str:=["_law_book_here","_law_state","_law_want_here","_law_met","_law_some_here"]
theorem uE:bD C9 ["_law_book_here","_law_state","_law_want_here"] (az sI):=dz (by decide +kernel)
abbrev Ca (e:En):=FN e "_law_far" 4 3 mn
theorem Ie (D:gD e.K e.mg "_law_far" sI) (B:Bi e.mg) (qi:vS e) (gO:qf e):Ca e:=o7 (k:=3) (g:=sA) D uE b3 fun _ _ _ _ _ _ _ hr=>by have hu1:=iJ hr;have hu64:=hr.units;unfold sA;exact (aA (ef 3 (jc qi hr px (ae (ai 0) (ae (ai 1) aF))) uE.nd) (aA (ku 4 (N':=["_law_one","_law_want_here","_law_met"]) (ix:=[2,3]) 1 (by decide) uE.nd rfl (cg (so:=az sI) (N:=C9) (by decide +kernel)) (Jp (aj 3)) (fun cl A0 s0 H0 ex pn=>⟨cW (i:=0) (by show (["_law_one","_law_want_here","_law_met"] : List Str).Nodup;decide +kernel) rfl (.inl rfl),(lS (eU (jc gO hr eB (ae (ai 0) (ae (ai 1) aF))))),(wE hu1 (aj 2) (aj 0))⟩)) (aA (eZ (dE (qp hu64) (aj 4) (JE.bor (kr aF))) (aJ (bC lI)) cE) (aJ (bC (bY (UJ rfl) rfl B.min PyProof.Rows.boot_min (bz (aj 4) b_)))))))
abbrev vT:c_:=top 58
abbrev Tq:List Str:=["_law_script","_law_book_here","_law_state","_law_want_here","_law_due","_law_row"]
theorem xc:bD Tq ["_law_script"] (az vT):=dz (by decide +kernel)
theorem Vh {f:ak}{fd:eP} (F:KG e.K "law" "law" vT f fd) (B:Bi e.mg) (uF:A8 e) (xf:Ca e) (kF:ut e) (PD:Tp e) (xg:C8 e) (gO:qf e) (Ab:FP e):sQ e.P e.w e.K e.mg e.base (qm e.P e.w) 11 f fd ["_law_script"] (SA e.K e.cls 1 F_law):=by
 refine SC (k:=10) (g:=JF) F xc fun cdv A outer s H E hr=>?_
 have hu64:=hr.units
 unfold JF
 exact (aA (yW (jc uF hr px (ae (ai 0) (ae aI (ae aI aF)))) (q_ rfl (dG (de 1 xc.nd) (dG (de 2 xc.nd) (dG (de 3 xc.nd) ny))))) (aA (ef 4 (jc xf hr px (ae (ai 1) (ae (ai 2) (ae (ai 3) aF)))) xc.nd) (aA (ef 5 (jc kF hr px (ae (ai 1) (ae (ai 2) (ae (ai 3) aF)))) xc.nd) (aA (eZ (dE (yT hu64) (JE.bor (jc PD hr px (ae (ai 1) (ae (ai 2) (ae (ai 3) aF))))) (aj 4)) (aJ (bC mD)) cE) (aA (eZ (dE (yT hu64) (JE.bor (jR (IN) (aj 4) (JE.bor lI))) (JE.bor (G_ (bY (Hd rfl) rfl B.any oA (bz (JE.bor (JN.je (fg (N':=["_law_one","_law_want_here"]) (ix:=[3]) 1 (by decide) rfl (cg (so:=az vT) (N:=Tq) (by decide +kernel)) (fZ (JE.bor (jc xg hr px (ae (ai 1) (ae (ai 2) aF))))) (fun cl A0 s0 H0 ex pn=>⟨cW (i:=0) (by show (["_law_one","_law_want_here"] : List Str).Nodup;decide +kernel) rfl (.inl rfl),gq,(jc gO hr eB (ae (ai 0) (ae (ai 1) aF)))⟩)))) b_))))) (aJ (bC mD)) cE) (aA (eZ (dE (IN) (aj 4) (JE.bor lI)) (aJ (bC (jR (IN) (aj 5) (JE.bor lI)))) cE) (aJ (bC (pp (jR (qp hu64) (JE.bor (bY gK rfl B.len bG (bz (aj 5) b_))) (aj 4)) (pp (jc Ab hr px (ae (ai 1) (ae (ai 2) (ae (ai 3) (ae (ai 5) aF))))) (u7 (jR (qp hu64) (JE.bor (jR (qp hu64) (aj 5) (JE.bor (kr aF)))) (JE.bor (jc gO hr px (ae (ai 2) (ae (ai 3) aF))))))))))))))))
end
end
section
theorem all_mk {l:xE}{w:bc}{K:a8}{h:bF}{mg:Str->Option aa}{fa A:ak}{Cb:ak}{G1:ak}{G3:ak}{od an:Option ak}{sl:Array (Option aa)}{oc kV dc pm cv ct:aa} (X:K.In h) (G:h.Ns bQ mg) (hfa:mg "law"=some (.ref fa))
  (Zz:Zs K zn)
  (mO:Cn mg "MOST_LETTERS" 6)
  (pT:Cn mg "MOST_PRICE" 9)
  (pU:Cn mg "MOST_FACTS" 6)
  (mP:Cn mg "MOST_ERRANDS" 6)
  (oo:Cn mg "MOST_IN_ROW" 64)
  (LO:TopC K "NoState" Cb)
  (PF:TopC K "NoWant" G1)
  (PH:TopC K "NoBook" G3)
  (DE:gD K mg "share_none" m7)
  (LP:gD K mg "without" sD)
  (PJ:gD K mg "joined" zN)
  (LQ:gD K mg "is_word" sF)
  (uG:gD K mg "are_rising_words" fJ)
  (G4:gD K mg "are_facts" nK)
  (Ig:gD K mg "is_whole" uk)
  (G5:gD K mg "is_errand" nM)
  (LR:gD K mg "is_book" oS)
  (LS:gD K mg "is_want" wQ)
  (B5:gD K mg "check_state" og)
  (DF:gD K mg "check_want" pV)
  (xZ:gD K mg "errand_called" lJ)
  (LU:gD K mg "fulfils" sG)
  (G6:gD K mg "is_doable" rm)
  (Ac:gD K mg "state_behind" mQ)
  (LV:gD K mg "checked" wV)
  (B6:gD K mg "check_place" oh)
  (G7:gD K mg "check_aim" ro)
  (DG:gD K mg "steps_from" m9)
  (DH:gD K mg "first_rows" pX)
  (LW:gD K mg "nearest" oU)
  (LX:gD K mg "reached" wZ)
  (Ih:gD K mg "shortest" ur)
  (Xj:gD K mg "far" Py)
  (PK:gD K mg "is_row" vL)
  (DI:gD K mg "errands_of" md)
  (xh:gD K mg "states_through" kG)
  (PL:gD K mg "serves" zZ)
  (B7:gD K mg "_law_cell_at" oq)
  (G8:gD K mg "_law_mixed" rA)
  (Ii:gD K mg "_law_word" uu)
  (G9:gD K mg "_law_facts" rE)
  (Ij:gD K mg "_law_some" q9)
  (Ik:gD K mg "_law_thin" kK)
  (DJ:gD K mg "_law_errand" mf)
  (Il:gD K mg "_law_book" qd)
  (Im:gD K mg "_law_want" ux)
  (Io:gD K mg "_law_case" uy)
  (Ip:gD K mg "_law_good" mS)
  (Iq:gD K mg "_law_step" qg)
  (DK:gD K mg "_law_levels" qh)
  (LY:gD K mg "_law_far" sI)
  (l0:gj K bQ "law"=some (some (.ref A)))
  (l1:K.lookup A=some ⟨oc,od,.func (gf "law" "law" (kP vT) (iu vT) (az vT) .none kV dc pm an cv ct),sl⟩)
  (l2:mv K cv "law"=true)
  (l3:fA K (.ref A)=true)
  : ∃ fd:eP,(∀ (s:af) (v:aa),Ai s fd ⟨[v],[]⟩ [("_law_script",v)])/\∀ base:bF,K.In base->base.Ns bQ mg->sQ l.prog w K mg base (qm l.prog w) 11 fa fd ["_law_script"] (Wm K F_law):=by
 have q:=hfa.symm.trans (nQ X G l0)
 cases q
 refine ⟨gf "law" "law" (kP vT) (iu vT) (az vT) .none kV dc pm an cv ct,fun s v=>.of_eq rfl,fun base X G=>?_⟩
 let e:En:=⟨l.prog,w,K,mg,base,Wn [("NoState",Cb),("NoWant",G1),("NoBook",G3)]⟩
 have B:Bi e.mg:=WI X G Zz
 have wR:ER e "NoState":=LO.er X G rfl
 have zR:ER e "NoWant":=PF.er X G rfl
 have zU:ER e "NoBook":=PH.er X G rfl
 have eK:=AQ (e:=e) DE B
 have wU:=HJ (e:=e) LP B
 have zT:=LH (e:=e) PJ B
 have mo:=HL (e:=e) LQ B mO
 have eC:=sV (e:=e) uG B mo
 have fm:=Dt (e:=e) G4 B eC
 have ul:=FI (e:=e) Ig B
 have rj:=Du (e:=e) G5 B mo ul fm eK pT
 have wW:=HN (e:=e) LR B eC rj pU mP
 have wS:=HQ (e:=e) LS B fm eK
 have om:=zQ (e:=e) B5 fm wR
 have pW:=AT (e:=e) DF wS zR
 have g9:=wT (e:=e) xZ B
 have iZ:=HR (e:=e) LU B eK
 have jB:=Dx (e:=e) G6 iZ
 have hG:=xY (e:=e) Ac wU zT
 have wX:=HU (e:=e) LV wW zU
 have ii:=zW (e:=e) B6 wX om
 have jC:=Dz (e:=e) G7 ii pW
 have pZ:=AW (e:=e) DG jB hG
 have i_:=AX (e:=e) DH pZ
 have w_:=HV (e:=e) LW B iZ
 have xg:=HX (e:=e) LX B ii i_
 have kF:=FL (e:=e) Ih jC i_ w_
 have PD:=Vg (e:=e) Xj B kF
 have zY:=LM (e:=e) PK B g9 oo
 have p_:=AZ (e:=e) DI zY g9
 have kH:=vO (e:=e) xh jB hG
 have Ab:=LN (e:=e) PL B jC p_ kH iZ
 have ou:=A1 (e:=e) B7 B
 have bd:=DB (e:=e) G8 ou
 have kJ:=FR (e:=e) Ii B bd
 have rF:=DC (e:=e) G9 B kJ bd
 have uA:=FU (e:=e) Ij B bd
 have uw:=FV (e:=e) Ik B bd
 have qe:=B0 (e:=e) DJ B bd uw
 have uz:=FW (e:=e) Il B rF kJ qe bd
 have uB:=FX (e:=e) Im B bd
 have uF:=FY (e:=e) Io uz bd uA uB
 have gO:=F_ (e:=e) Ip B
 have uD:=G0 (e:=e) Iq B gO
 have qi:=B4 (e:=e) DK B uD
 have xf:=Ie (e:=e) LY B qi gO
 exact (Vh (e:=e) (MX l1 l2 l3) B uF xf kF PD xg gO Ab).imp Uy
end
end Z
section
open PySem PySem.W PyProof.Rows
def PySem.W.Fast.tw15820887235924614766:Nat:=0
def PySem.W.Fast.tw11693494103023367496:Nat:=0
def PySem.W.Fast.tw4131165374825014573:Nat:=0
def PySem.W.Fast.tw11781677353194779860:Nat:=0
def PySem.W.Fast.tw9571116798265506957:Nat:=0
def PySem.W.Fast.tw4585564749808371287:Nat:=0
def PySem.W.Fast.tw5175602752392003979:Nat:=0
def PySem.W.Fast.tw4666378849850352638:Nat:=0
def PySem.W.Fast.tw6693753087348424195:Nat:=0
def PySem.W.Fast.tw3871383900754285867:Nat:=0
def PySem.W.Fast.tw10407682468100162440:Nat:=0
def PySem.W.Fast.tw4487960751255199379:Nat:=0
def PySem.W.Fast.tw13874172736089683417:Nat:=0
def PySem.W.Fast.tw7229262775184546662:Nat:=0
def PySem.W.Fast.tw2122947900362989151:Nat:=0
def PySem.W.Fast.tw10866038483696595073:Nat:=0
def PySem.W.Fast.tw3987961006539444848:Nat:=0
def PySem.W.Fast.tw14213443004085708997:Nat:=0
def PySem.W.Fast.tw12585292268370568859:Nat:=0
def PySem.W.Fast.tw2884367006552336894:Nat:=0
def PySem.W.Fast.tw15801770103360899082:Nat:=0
def PySem.W.Fast.tw13789267186864143288:Nat:=0
def PySem.W.Fast.tw3357583874855932608:Nat:=0
def PySem.W.Fast.tw10982697967908835787:Nat:=0
def PySem.W.Fast.tw16470499420034612142:Nat:=0
def PySem.W.Fast.tw4250307711737901635:Nat:=0
def PySem.W.Fast.tw2212929282668369016:Nat:=0
def PySem.W.Fast.tw13430333200420602856:Nat:=0
def PySem.W.Fast.tw2198895319480622388:Nat:=0
def PySem.W.Fast.tw14172708515993415051:Nat:=0
def PySem.W.Fast.tw677562858514020452:Nat:=0
def PySem.W.Fast.tw6172514914366356570:Nat:=0
def PySem.W.Fast.tw1385742954736494850:Nat:=0
def PySem.W.Fast.tw2765977900423224378:Nat:=0
def PySem.W.Fast.tw15082596181733946799:Nat:=0
def PySem.W.Fast.tw15974387913338298504:Nat:=0
def PySem.W.Fast.tw9411673653821628661:Nat:=0
theorem PySem.Challenge.cw_errands_k08_whole_shortest_holds : PySem.Challenge.rw_errands_k08_whole_shortest.Holds := by
 w_on;o_law;k_head;(case hw=>w_witness2)
 k_fill
 refine J.walkF (l:=PySem.Challenge.rw_errands_k08_whole_shortest) (k:=11) (x:="_law_script") (F0:=Z.F_law) rfl rfl ⟨rfl,by decide,by decide⟩ (fun w h Y=>by first | exact PySem.W.kIn_of Y | exact PySem.W.km_in_of Y) ?F (fun ns _=>Z.law_true ns)
 case F =>
  intro w mg fa h KX G hmg
  refine' Z.all_mk KX G hmg ?_ ?_ ?_ ?_ ?_ ?_ ?_ ?_ ?_ ?_ ?_ ?_ ?_ ?_ ?_ ?_ ?_ ?_ ?_ ?_ ?_ ?_ ?_ ?_ ?_ ?_ ?_ ?_ ?_ ?_ ?_ ?_ ?_ ?_ ?_ ?_ ?_ ?_ ?_ ?_ ?_ ?_ ?_ ?_ ?_ ?_ ?_ ?_ ?_ ?_ ?_ ?_ ?_ ?_ ?_ ?_
  all_goals first
   | (refine' J.d_in KX G ?_ ?_ ?_ ?_<;>try k_is)
   | (refine' J.cn_in KX G ?_<;>try k_is)
   | k_is
   | (refine' J.TopC.mk ?_ ?_ ?_<;>try (first | k_is | k_exc))
   | (refine' J.topN ?_ ?_ ?_ ?_ ?_ ?_ ?_ ?_ ?_ ?_ ?_ ?_ ?_ ?_ ?_ ?_ ?_ ?_ ?_ ?_ ?_ ?_ ?_<;>try (first | k_is | rfl | exact fun _ _=>⟨_,rfl,rfl⟩ | decide +kernel))
   | ((refine' J.Wy.mk ?_ ?_ ?_ ?_ ?_ ?_ ?_ ?_ ?_ ?_)<;>try (first | k_is | decide | ((repeat' (first | exact .nil | refine' .cons ?_ ?_ ?_))<;>try (first | k_is | decide))))
   | ((repeat' (first | exact .nil | refine' .cons ?_ ?_))<;>try (first | (refine' J.cw_in ?_ ?_ ?_<;>try k_is) | k_is))
   | skip
end
